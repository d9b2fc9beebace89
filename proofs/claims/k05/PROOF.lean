import PyProof.Rows.All
import Wide.All
import OpenK.AllK
import Wide.FinOn
import PyProof.EqAt
import PyProof.EqKinds
import PyProof.TupleCall
import PyProof.P3In
import PyProof.NeData
import PyProof.ConsumeS
import PyProof.WalksMore
import PyProof.ReprRoads
import PyProof.ReprLen
import PyProof.Draws
import PyProof.EnumMake
import PyProof.EnumFor
import PyProof.CallFns
import PyProof.Rows.CallKwBuiltin
import Lean
import PySem.Challenge.RW_rootwebs_k05_whole_steps
set_option Elab.async false
set_option linter.all false
set_option maxHeartbeats 4000000
set_option maxRecDepth 100000
abbrev Iy:=@PySem.Value.isInt_shape
abbrev Iz:=@decide_eq_false
abbrev IA:=@beq_eq_false_iff_ne
abbrev IC:=@PySem.wpAny_eqBool_int
abbrev ID:=@if_pos
abbrev IE:=@if_neg
abbrev IF:=@Option.some.inj
abbrev IG:=@PySem.Heap.lt_size
abbrev IH:=@Nat.lt_of_lt_of_le
abbrev II:=@Nat.lt_irrefl
abbrev IJ:=@Nat.ne_of_lt
abbrev IK:=@List.mem_filter
abbrev IL:=@List.mem_range
abbrev IM:=@Nat.le_trans
abbrev IP:=@Nat.le_of_lt
abbrev IQ:=@List.filterMap_cons
abbrev IR:=@List.mem_cons_self
abbrev IS:=@List.mem_cons_of_mem
abbrev IT:=@List.mem_cons
abbrev IU:=@Ne.symm
abbrev IV:=@List.mem_append
abbrev IW:=@List.mem_append_left
abbrev IX:=@List.getElem?_eq_some_iff
abbrev IY:=@List.getElem_inj
abbrev IZ:=@List.getElem?_set_self
abbrev I0:=@List.getElem?_set_ne
abbrev Ja:=@PySem.wpAny_mono
abbrev Jb:=@PySem.wpAny_truthy_bool
abbrev Jc:=@Array.length_toList
abbrev Jd:=@congrArg
abbrev Je:=@PySem.wpAny_execs_nil
abbrev Jf:=@PySem.wpAny_bind
abbrev Jg:=@PySem.wpAny_holding
abbrev Jh:=@PySem.wpAny_standAt
abbrev Ji:=@PySem.wpAny_passesOwn
abbrev Jj:=@Bool.false_ne_true
abbrev Jk:=@Nat.ne_of_gt
abbrev Jl:=@PySem.wpAny_pure
abbrev Jm:=@PySem.wpAny_load
abbrev Jn:=@PySem.Heap.get?_push_of_some
abbrev Jo:=@PySem.Heap.get?_push_size
abbrev Jp:=@Nat.le_refl
abbrev Jq:=@PyProof.Rows.callWith_type1
abbrev Jr:=@List.mem_filterMap
abbrev Js:=@List.mem_append_right
abbrev Jt:=@PySem.sizeLine_eq
abbrev Ju:=@List.size_toArray
abbrev Jv:=@List.append_nil
abbrev Jw:=@PySem.codeAny_mono
abbrev Jx:=@PySem.wpAny_Call_Name_kw
abbrev Jy:=@List.nodup_cons
abbrev Jz:=@List.of_mem_zip
abbrev JA:=@Option.isSome_iff_exists
abbrev JB:=@List.length_take
abbrev JC:=@PySem.mem_of_lookup
abbrev JD:=@List.getElem?_append_right
abbrev JE:=@List.getElem?_append_left
abbrev JF:=@List.getElem?_map
abbrev JG:=@List.mem_of_getElem?
abbrev JH:=@List.length_append
abbrev JI:=@List.length_map
abbrev JJ:=@PySem.noFill_tuple_add
abbrev JK:=@PySem.F.slot_tuple_add
abbrev JL:=@PySem.F.entry_tuple_add
abbrev JM:=@PySem.F.args_tuple_add_2
abbrev JN:=@Int.toNat_natCast
abbrev JO:=@Nat.min_le_right
abbrev JP:=@if_false
abbrev JQ:=@if_true
abbrev JR:=@PyProof.Rows.slicePart_none
abbrev JS:=@PySem.wpAny_field
abbrev JT:=@List.filterMap_map
abbrev JU:=@List.length_drop
abbrev JV:=@PySem.wpAny_sequenceKey
abbrev JW:=@PySem.wpAny_callSpecial?_slot
abbrev JX:=@PyProof.Rows.slot_tuple_getitem
abbrev JY:=@PySem.wpAny_call_entry
abbrev JZ:=@PyProof.Rows.entry_tuple_getitem
abbrev J0:=@PyProof.Rows.args_tuple_getitem
abbrev J1:=@PySem.wpAny_typeOf
abbrev J2:=@Bool.and_eq_true
abbrev J3:=@PySem.wpAny_newObj_type
abbrev J4:=@List.map_nil
abbrev J5:=@List.map_cons
abbrev J6:=@PySem.Heap.IsSliceOf.new
abbrev J7:=@PySem.slot_list_getitem
abbrev J8:=@PySem.Heap.get?_update_self
abbrev J9:=@List.length_set
abbrev Ka:=@List.reverse_cons
abbrev Kb:=@List.replicate_succ
abbrev Kc:=@List.flatten_cons
abbrev Kd:=@Nat.le_succ
abbrev Ke:=@List.append_assoc
abbrev Kf:=@List.foldl_cons
abbrev Kg:=@PySem.call_meets
abbrev Kh:=@List.length_singleton
abbrev Ki:=@Array.getElem?_toList
abbrev Kj:=@List.nil_append
abbrev Kk:=@decide_eq_true
abbrev Kl:=@Nat.le_of_eq
abbrev Km:=@List.lookup_cons
abbrev Kn:=@beq_self_eq_true
abbrev Ko:=@Bool.false_eq_true
abbrev Kq:=@List.length_cons
abbrev Kr:=@Nat.lt_succ_self
abbrev Ks:=@Nat.lt_succ_of_lt
abbrev Kt:=@PySem.Heap.size_push
abbrev Ku:=@PySem.pushCells_keeps
abbrev Kv:=@PySem.codeAny_of_tree
abbrev Kw:=@PySem.wpAny_askSetting
abbrev Kx:=@PySem.wpAny_rule
abbrev Ky:=@Nat.zero_le
abbrev KA:=@List.mem_singleton
abbrev KB:=@PySem.F.slot_tuple_iterator_next
abbrev KC:=@PySem.F.entry_tuple_iterator_next
abbrev KD:=@PySem.F.args_tuple_iterator_next_1
abbrev KE:=@PySem.wpAny_seqItems
abbrev KF:=@PySem.Heap.SameBut.update
abbrev KG:=@PySem.wpAny_of_eq
abbrev KH:=@PySem.wpAny_pyIter_tuple
abbrev KJ:=@List.not_mem_nil
abbrev KL:=@or_false
abbrev KM:=@PySem.Heap.get?_push_ne
abbrev KN:=@List.range_succ_eq_map
abbrev KO:=@List.map_map
abbrev KQ:=@List.map_congr_left
abbrev KR:=@List.length_range
abbrev KS:=@List.length_nil
abbrev KU:=@List.cons.inj
abbrev KW:=@List.cons_append
abbrev KY:=@List.pairwise_iff_getElem
abbrev KZ:=@Array.getElem?_eq_some_iff
abbrev K0:=@List.take_of_length_le
abbrev K1:=@List.mem_map
abbrev K2:=@Classical.byContradiction
abbrev K3:=@List.nodup_range
abbrev K4:=@List.getElem?_of_mem
abbrev K5:=@List.mem_map_of_mem
abbrev K6:=@List.take_append_drop
abbrev K7:=@List.pairwise_cons
abbrev K8:=@List.map_append
abbrev K9:=@List.map_take
abbrev La:=@List.map_drop
abbrev Lb:=@Array.getD_eq_getD_getElem?
abbrev Lc:=@Option.getD_some
abbrev Ld:=@List.getElem?_drop
abbrev Le:=@List.mem_of_mem_take
abbrev Lf:=@Array.getElem?_eq_none_iff
abbrev Lg:=@List.nodup_nil
abbrev Lh:=@List.pairwise_lt_range
abbrev Li:=@List.perm_ext_iff_of_nodup
abbrev Lj:=@Array.getElem?_eq_getElem
abbrev Lk:=@List.all_eq_true
abbrev Ll:=@Int.toNat_of_nonneg
abbrev Lm:=@Bool.not_true
abbrev Ln:=@PySem.wpAny_forIn_list
abbrev Lo:=@PySem.wpAny_setState_of
abbrev Lp:=@Bool.and_self
abbrev Lq:=@Array.mem_toList_iff
abbrev Lr:=@List.nodup_append
abbrev Ls:=@PySem.wpAny_storeSet_of
abbrev Lu:=@PySem.putSet_of
abbrev Lx:=@Bool.not_false
abbrev Ly:=@List.foldl_append
abbrev Lz:=@PySem.codeAny_builtin
abbrev LA:=@PySem.Around.under_plainId
abbrev LB:=@PyProof.Rows.F.plain_set_update_loop
abbrev LC:=@PySem.isSubtype_type
abbrev LD:=@PySem.F.called_set
abbrev LF:=@PySem.Code.quiet_builtin
abbrev LG:=@PySem.wpAny_pyIter_list
abbrev LH:=@PySem.wpAny_runValue
abbrev LI:=@List.take_add_one
abbrev LJ:=@Nat.le_add_right
abbrev LK:=@List.take_length
abbrev LL:=@PySem.W.KasT.kasWp_bind
abbrev LM:=@decide_eq_decide
abbrev LN:=@List.getD_eq_getElem?_getD
abbrev LO:=@List.ext_getElem?
abbrev LP:=@List.getElem?_range
abbrev LQ:=@List.getElem?_eq_none
abbrev LR:=@List.pairwise_map
abbrev LS:=@PyProof.Rows.listUpdate_at
abbrev LU:=@PyProof.Rows.get?_update_seq
abbrev LV:=@PySem.wpAny_newList
abbrev LW:=@PyProof.Rows.size_push'
abbrev LX:=@PySem.Heap.size_update
abbrev LY:=@PySem.Heap.get?_update_ne
abbrev LZ:=@bne_self_eq_false
abbrev L0:=@List.getElem_mem
abbrev L1:=@List.getElem?_eq_getElem
abbrev L3:=@PySem.wpAny_setEntries_of
abbrev L5:=@PySem.wpAny_setField_rec
abbrev L6:=@PySem.Calls.call_function_entry
abbrev L7:=@PyProof.Rows.entry_list_sort
abbrev L8:=@List.getElem_of_mem
abbrev L9:=@of_eq_true
abbrev Ma:=@eq_self
abbrev Mb:=@List.drop_eq_getElem_cons
abbrev Mc:=@List.drop_length
abbrev Md:=@decide_eq_true_eq
abbrev Me:=@List.zip_cons_cons
abbrev Mf:=@List.eq_nil_of_length_eq_zero
abbrev Mg:=@List.all_map
abbrev Mh:=@Int.le_antisymm
abbrev Mi:=@List.length_pos_iff
abbrev Mj:=@Bool.or_eq_true
abbrev Ml:=@List.filter_cons
abbrev Mm:=@PySem.F.slot_list_iadd
abbrev Mn:=@PySem.PassesOwn.never
abbrev Mo:=@Int.emod_nonneg
abbrev Mp:=@Int.emod_lt_of_pos
abbrev Mq:=@List.set_cons_succ
abbrev Mr:=@List.set_cons_zero
abbrev Ms:=@List.filter_eq_self
abbrev Mt:=@List.mem_flatMap
abbrev Mu:=@List.filter_map
abbrev Mv:=@List.range_succ
abbrev Mw:=@List.flatMap_append
abbrev Mx:=@List.flatMap_cons
abbrev My:=@List.flatMap_nil
abbrev Mz:=@Bool.true_and
abbrev MC:=@Bool.eq_iff_iff
abbrev MD:=@of_decide_eq_true
abbrev MF:=@Int.min_eq_left
abbrev MH:=@Int.max_eq_right
abbrev MJ:=@Int.min_eq_right
abbrev MK:=@Int.max_eq_left
abbrev ML:=@Int.natCast_mul
abbrev MM:=@List.mem_reverse
namespace L2
open PySem PySem.Spec PyProof.Rows
abbrev rA:=Sum Int Str
def C9:rA->Value->Bool
 | .inl k,v=>Value.isInt k v
 | .inr x,v=>Value.isStrOf x v
def HF (w:World):rA->Int
 | .inl k=>hashInt k
 | .inr x=>hashStr w x
theorem cK:∀ {k:rA}{v:Value},C9 k v=true->(∃ i t,k=Sum.inl i/\v=Value.int i t)\/(∃ x t,k=Sum.inr x/\v=Value.str x t)
 | .inl i,v,h=>by
  obtain ⟨t,e⟩:=Iy (k:=i) (v:=v) h
  exact .inl ⟨i,t,rfl,e⟩
 | .inr x,v,h=>by
  obtain ⟨t,e⟩:=Value.isStrOf_shape (x:=x) (v:=v) h
  exact .inr ⟨x,t,rfl,e⟩
theorem Fb (a b:Int):decide ((Sum.inl a:rA)=Sum.inl b)=(a == b):=by
 by_cases e:a=b
 ·subst e;simp
 ·have h : ¬ (Sum.inl a : rA) = Sum.inl b := fun q => e (Sum.inl.inj q)
  rw [Iz h]
  exact (IA.mpr e).symm
theorem E7 (a b:Str):decide ((Sum.inr a:rA)=Sum.inr b)=decide (a=b):=by
 by_cases e:a=b
 ·subst e;simp
 ·have h : ¬ (Sum.inr a : rA) = Sum.inr b := fun q => e (Sum.inr.inj q)
  rw [Iz h,Iz e]
theorem E9 (a:Int) (b:Str):decide ((Sum.inl a:rA)=Sum.inr b)=false:=Iz (fun q=>nomatch q)
theorem E8 (a:Str) (b:Int):decide ((Sum.inr a:rA)=Sum.inl b)=false:=Iz (fun q=>nomatch q)
def rZ (prog:Program) (w:World):PySem.KeyKind prog w rA where
 is:=C9
 hash:=HF w
 inj:=fun v a b ha hb=>by
  rcases cK ha with ⟨i,t,rfl,rfl⟩ | ⟨x,t,rfl,rfl⟩
  ·rcases cK hb with ⟨j, u, rfl, e⟩ | ⟨y, u, rfl, e⟩
   ·injection e with e1 _;rw [e1]
   ·exact nomatch e
  ·rcases cK hb with ⟨j, u, rfl, e⟩ | ⟨y, u, rfl, e⟩
   ·exact nomatch e
   ·injection e with e1 _;rw [e1]
 byValue:=fun k v h=>by
  rcases cK h with ⟨i,t,rfl,rfl⟩ | ⟨x,t,rfl,rfl⟩ <;> rfl
 pyHash:=fun hv h=>by
  rcases cK hv with ⟨i,t,rfl,rfl⟩ | ⟨x,t,rfl,rfl⟩
  ·exact wpAny_pyHash_int h
  ·exact wpAny_pyHash_str h
 eqBool:=fun hu hv h=>by
  rcases cK hu with ⟨i,t,rfl,rfl⟩ | ⟨x,t,rfl,rfl⟩
  ·rcases cK hv with ⟨j, u, rfl, rfl⟩ | ⟨y, u, rfl, rfl⟩
   ·rw [Fb] at h;exact IC h
   ·rw [E9] at h;exact SeqAt.EqAt.int_str i t y u _ _ _ _ h
  ·rcases cK hv with ⟨j, u, rfl, rfl⟩ | ⟨y, u, rfl, rfl⟩
   ·rw [E8] at h;exact SeqAt.EqAt.str_int x t j u _ _ _ _ h
   ·rw [E7] at h;exact wpAny_eqBool_str h
 «strs»:=fun k x t v h=>by
  rcases cK h with ⟨i,u,rfl,e⟩ | ⟨y,u,rfl,e⟩
  ·exact nomatch e
  ·injection e with e1 _
   subst e1
   cases v <;> rfl
end L2
namespace L2
open PySem PySem.Spec PyProof.Rows
inductive V where
 | non | bl (b:Bool) | int (i:Int) | str (x:Str) | byt (b:Array UInt8) | flt (b:UInt64) | ref (a:Addr) | ty (n:String)
 deriving DecidableEq
def cn:V->Value->Prop
 | .non,u=>u=Value.none
 | .bl b,u=>u=Value.bool b
 | .int i,u=>∃ t,u=Value.int i t
 | .str x,u=>∃ t,u=Value.str x t
 | .byt b,u=>∃ t,u=Value.bytes b t
 | .flt b,u=>∃ t,u=Value.float b t
 | .ref a,u=>u=Value.ref a
 | .ty n,u=>u=Value.type n
abbrev ba:List V->List Value->Prop:=Paired cn
theorem ba.length {xs:List V}{us:List Value} (r:ba xs us):xs.length=us.length:=Paired.length r
theorem ba.get:∀ {xs:List V}{us:List Value}{i:Nat}{x:V},ba xs us->xs[i]?=some x->∃ u,us[i]?=some u/\cn x u
 | _,_,_,_,.nil,e=>by simp at e
 | _,_,0,_,.cons r _,e=>by simp at e;subst e;exact ⟨_,rfl,r⟩
 | _,_,i+1,x,.cons _ t,e=>by
  obtain ⟨u,h1,h2⟩:=ba.get (i:=i) (x:=x) t (by simpa using e)
  exact ⟨u,by simpa using h1,h2⟩
theorem ba.set {x:V}{u:Value} (r:cn x u):∀ {xs:List V}{us:List Value} (i:Nat),ba xs us->ba (xs.set i x) (us.set i u)
 | _,_,_,.nil=>.nil
 | _,_,0,.cons _ t=>.cons r t
 | _,_,i+1,.cons q t=>.cons q (ba.set r i t)
theorem ba.append:∀ {xs ys:List V}{us ws:List Value},ba xs us->ba ys ws->ba (xs++ys) (us++ws)
 | _,_,_,_,.nil,s=>s
 | _,_,_,_,.cons r t,s=>.cons r (ba.append t s)
theorem ba.take:∀ {xs:List V}{us:List Value} (n:Nat),ba xs us->ba (xs.take n) (us.take n)
 | _,_,0,_=>.nil
 | _,_,_+1,.nil=>.nil
 | _,_,n+1,.cons r t=>.cons r (ba.take n t)
theorem ba.drop:∀ {xs:List V}{us:List Value} (n:Nat),ba xs us->ba (xs.drop n) (us.drop n)
 | _,_,0,r=>r
 | _,_,_+1,.nil=>.nil
 | _,_,n+1,.cons _ t=>ba.drop n t
def Gd:Option V->Option Value->Prop
 | some v,some u=>cn v u
 | none,none=>True
 | _,_=>False
def KV {κ:Type}:List (κ × V)->List (κ × Value)->Prop:=Paired fun (p:κ × V) (q:κ × Value)=>p.1=q.1/\cn p.2 q.2
def kV:rA->V
 | .inl i=>.int i
 | .inr x=>.str x
inductive HO where
 | lst (xs:List V)
 | tup (xs:List V)
 | dK (kvs:List (rA × V)) | dT (kvs:List (List rA × V))
 | set (S:Int->Bool) (n:Nat)
 | ins (C dx:Addr) (fs:List (Str × V))
 | own (x:Addr)
 | xd (fs:List (Str × V))
 | met (f x:Addr)
 | rng (lo hi:Int)
 | frz (o:Obj) (u:HO)
 | tbl (ps:Array Value)
 | ext (φ:Heap->Prop)
abbrev Hp:=Addr->Option HO
def cq (H:Hp) (a:Addr) (o:HO):Hp:=fun b=>if b=a then some o else H b
theorem b9 {H:Hp}{a:Addr}{o:HO}:cq H a o a=some o:=by unfold cq;rw [ID rfl]
theorem bE {H:Hp}{a b:Addr}{o:HO} (h:b≠a):cq H a o b=H b:=by unfold cq;rw [IE h]
theorem qo {H:Hp}{a b:Addr}{o u:HO} (h:H a=some o) (h':H b=some u) (d:o≠u):a≠b:=by
 intro e;subst e;rw [h] at h';exact d (IF h')
theorem dU {H:Hp}{a b:Addr}{o:HO} (h:H a=some o) (h':H b=none):a≠b:=by
 intro e;subst e;rw [h] at h';cases h'
section
variable (P:Program) (w:World)
def fv (H:Hp) (h:Heap) (a:Addr):HO->Prop
 | .lst xs=>xs.length<=sizeLine/\∃ (its:List Value) (n:Nat),ba xs its/\h.get? a=some { cls:=.type "list",data:=.seq its.toArray n }
 | .tup xs=>xs.length<=sizeLine/\∃ its:List Value,ba xs its/\IsTup h a its.toArray
 | .dK kvs=>kvs.length<=sizeLine/\(a == sysModules)=false/\∃ vs,KV kvs vs/\h.DictOf (rZ P w) a vs
 | .dT kvs=>kvs.length<=sizeLine/\(a == sysModules)=false/\∃ xs:List (List rA × Addr × Value),
   Paired (fun (p:List rA × V) (q:List rA × Addr × Value)=>p.1=q.1/\H q.2.1=some (.tup (p.1.map kV))/\cn p.2 q.2.2) kvs xs /\
   ∃ o es ep,h.get? a=some o/\o.ExactDict/\o.data=.dict es ep/\es.toList=xs.map (entryOfKey (tupleKind (rZ P w)))/\(xs.map (·.1)).Nodup
 | .set S n=>h.SetOf (intKind P w) a S n
 | .ins C dx fs=>H dx=some (.own a)/\fs.length<=1000/\dx≠a/\h.get? a=some (W.instObj C dx) /\
   ∃ mA,h.Ns1 dx mA/\(∀ f,Gd (fs.lookup f) (mA f))/\PySem.Within mA (fs.map (·.1))
 | .own _=>∃ o,h.get? a=some o
 | .xd fs=>∃ mA,h.Ns1 a mA/\∀ f,Gd (fs.lookup f) (mA f)
 | .rng lo hi=>∃ t u v,h.get? a=some { cls:=.type "range",data:=.fields #[.int lo t,.int hi u,.int 1 v] }
 | .frz o u=>h.get? a=some o/\fv H h a u
 | .tbl ps=>h.get? a=some { cls:=.none,data:=.fields ps }
 | .met f x=>h.get? a=some (W.methodObj (.ref f) (.ref x))
 | .ext φ=>φ h/\(∃ o,h.get? a=some o)/\∀ h1 h2:Heap,φ h1->(∀ o,h1.get? a=some o->h2.get? a=some o)->φ h2
def nX (H:Hp) (h:Heap):Prop:=∀ a o,H a=some o->fv P w H h a o
end
section
variable {P:Program}{w:World}{H H':Hp}{h h':Heap}{a:Addr}{o:HO}
theorem fv.lt (x:fv P w H h a o):a<h.objs.size:=by
 cases o with
 | lst xs=>obtain ⟨_,_,_,_,e⟩:=x;exact IG e
 | tup xs=>obtain ⟨_,_,_,p⟩:=x;exact p.lt
 | dK kvs=>obtain ⟨_,_,_,_,o,_,_,e,_⟩:=x;exact IG e
 | dT kvs=>obtain ⟨_,_,_,_,o,_,_,e,_⟩:=x;exact IG e
 | set S n=>obtain ⟨o,_,_,_,e,_⟩:=x;exact IG e
 | ins C dx fs=>obtain ⟨_,_,_,e,_⟩:=x;exact IG e
 | own y=>obtain ⟨_,e⟩:=x;exact IG e
 | xd fs=>obtain ⟨_,⟨_,_,_,e,_⟩,_⟩:=x;exact IG e
 | rng lo hi=>obtain ⟨_,_,_,e⟩:=x;exact IG e
 | frz ob u=>obtain ⟨e,_⟩:=x;exact IG e
 | tbl ps=>exact IG (show h.get? a=some _ from x)
 | met f y=>exact IG (show h.get? a=some _ from x)
 | ext φ=>obtain ⟨_,⟨_,e⟩,_⟩:=x;exact IG e
theorem nB {α β:Type}{F G:α->β->Prop}:∀ {l₁:List α}{l₂:List β},Paired F l₁ l₂->(∀ a b,F a b->G a b)->Paired G l₁ l₂
 | _,_,.nil,_=>.nil
 | _,_,.cons r t,f=>.cons (f _ _ r) (nB t f)
theorem fv.stay (x:fv P w H h a o) (k:∀ b u,(b=a\/H b=some (.own a))->h.get? b=some u->h'.get? b=some u)
  (ho:∀ b,H b=some (.own a)->H' b=some (.own a)) (ht:∀ b xs,H b=some (.tup xs)->H' b=some (.tup xs)):fv P w H' h' a o:=by
 induction o with
 | lst xs=>obtain ⟨z,its,n,r,e⟩:=x;exact ⟨z,its,n,r,k _ _ (.inl rfl) e⟩
 | tup xs=>obtain ⟨z,its,r,ob,e,c⟩:=x;exact ⟨z,its,r,ob,k _ _ (.inl rfl) e,c⟩
 | dK kvs=>obtain ⟨z,y,vs,r,ob,es,ep,e,c⟩:=x;exact ⟨z,y,vs,r,ob,es,ep,k _ _ (.inl rfl) e,c⟩
 | dT kvs=>
  obtain ⟨z,y,xs,r,ob,es,ep,e,c⟩:=x
  exact ⟨z,y,xs,nB r fun p q z=>⟨z.1,ht _ _ z.2.1,z.2.2⟩,ob,es,ep,k _ _ (.inl rfl) e,c⟩
 | set S n=>obtain ⟨ob,es,ep,t,e,c⟩:=x;exact ⟨ob,es,ep,t,k _ _ (.inl rfl) e,c⟩
 | ins C dx fs=>
  obtain ⟨d,z,ne,e,mA,⟨od,es,ep,e2,c⟩,r⟩:=x
  exact ⟨ho _ d,z,ne,k _ _ (.inl rfl) e,mA,⟨od,es,ep,k _ _ (.inr d) e2,c⟩,r⟩
 | own y=>obtain ⟨ob,e⟩:=x;exact ⟨ob,k _ _ (.inl rfl) e⟩
 | xd fs=>obtain ⟨mA,⟨od,es,ep,e,c⟩,r⟩:=x;exact ⟨mA,⟨od,es,ep,k _ _ (.inl rfl) e,c⟩,r⟩
 | rng lo hi=>obtain ⟨t,u,v,e⟩:=x;exact ⟨t,u,v,k _ _ (.inl rfl) e⟩
 | frz ob u ih=>obtain ⟨e,q⟩:=x;exact ⟨k _ _ (.inl rfl) e,ih q⟩
 | tbl ps=>
  have e:h.get? a=some { cls:=.none,data:=.fields ps }:=x
  show h'.get? a=some { cls:=.none,data:=.fields ps }
  exact k a _ (.inl rfl) e
 | met f y=>
  have e:h.get? a=some (W.methodObj (.ref f) (.ref y)):=x
  show h'.get? a=some (W.methodObj (.ref f) (.ref y))
  exact k a _ (.inl rfl) e
 | ext φ=>obtain ⟨p,⟨o,e⟩,st⟩:=x;exact ⟨st _ _ p fun o q=>k _ _ (.inl rfl) q,⟨o,k _ _ (.inl rfl) e⟩,st⟩
theorem nX.lt (x:nX P w H h) (e:H a=some o):a<h.objs.size:=(x a o e).lt
theorem nX.fresh (x:nX P w H h) (e:h.objs.size<=a):H a=none:=by
 cases q:H a with
 | none=>rfl
 | some u=>exact absurd (IH (x.lt q) e) (II _)
theorem nX.kept (x:nX P w H h) (k:∀ b u,h.get? b=some u->h'.get? b=some u):nX P w H h':=fun a o e=>
 (x a o e).stay (fun b u _ q=>k b u q) (fun _ q=>q) fun _ _ q=>q
theorem nX.laid (x:nX P w H h) (k:∀ b u,h.get? b=some u->h'.get? b=some u) (hp:h.objs.size<=a) (new:fv P w (cq H a o) h' a o):nX P w (cq H a o) h':=fun b u e=>by
 have hn:=x.fresh hp
 by_cases hb:b=a
 ·subst hb;rw [b9] at e;cases e;exact new
 ·rw [bE hb] at e
  exact (x b u e).stay (fun c v _ q=>k c v q) (fun c q=>by rw [bE (dU q hn)];exact q) fun c xs q=>by rw [bE (dU q hn)];exact q
end
def Rd (H:Hp) (a:Addr) (u:HO):Prop:=H a=some u\/∃ o,H a=some (.frz o u)
theorem Rd.ok {P:Program}{w:World}{H:Hp}{h:Heap}{a:Addr}{u:HO} (r:Rd H a u) (x:nX P w H h):fv P w H h a u:=by
 rcases r with r | ⟨o,r⟩
 ·exact x a u r
 ·obtain ⟨_, q⟩ := x a _ r
  exact q
def Hg:Option HO->Prop
 | some (.lst _)=>True
 | some (.dK _)=>True
 | some (.dT _)=>True
 | some (.set _ _)=>True
 | some (.ins _ _ _)=>True
 | some (.ext _)=>True
 | _=>False
section
variable {P:Program}{w:World}{H:Hp}{h h':Heap}{x e:Addr}{o':HO}
theorem nX.write (ok:nX P w H h) (mu:Hg (H x)) (he:e=x\/H e=some (.own x)) (k:∀ b u,b≠e->h.get? b=some u->h'.get? b=some u) (heo:∃ u,h'.get? e=some u)
  (new:fv P w (cq H x o') h' x o'):nX P w (cq H x o') h':=fun b u q=>by
 have nown:∀ c y,H c=some (.own y)->c≠x:=fun c y r z=>by subst z;rw [r] at mu;exact mu
 have ntup:∀ c xs,H c=some (.tup xs)->c≠x:=fun c xs r z=>by subst z;rw [r] at mu;exact mu
 by_cases hb:b=x
 ·subst hb;rw [b9] at q;cases q;exact new
 ·rw [bE hb] at q
  by_cases hbe:b=e
  ·have q':H b=some (.own x):=by
    rcases he with z | z
    ·exact absurd (hbe.trans z) hb
    ·rw [hbe];exact z
   rw [q] at q';cases q'
   obtain ⟨v,hv⟩:=heo
   exact ⟨v,by rw [hbe];exact hv⟩
  ·refine (ok b u q).stay (fun c v hc r => k c v ?_ r) (fun c r => by rw [bE (nown c b r)]; exact r) fun c xs r => by rw [bE (ntup c xs r)]; exact r
   rcases hc with rfl | hc
   ·exact hbe
   ·rintro rfl
    rcases he with z | z
    ·exact nown c b hc z
    ·rw [hc] at z;cases z;exact hb rfl
end
structure Un (fs ex:List Addr) (H H':Hp) (h h':Heap):Prop where
 keep:∀ b o,h.get? b=some o->H b=none->b ∉ fs->b ∉ ex->h'.get? b=some o
 slot:∀ b o,h.get? b=some o->H b=none->b∈fs->b ∉ ex->∃ sl,h'.get? b=some { o with slots:=sl }
 free:∀ b o,h.get? b=some o->H b=none->b ∉ ex->H' b=none
 there:∀ b o,h.get? b=some o->b ∉ ex->∃ o',h'.get? b=some o'
 tups:∀ b xs,H b=some (.tup xs)->H' b=some (.tup xs)
 frzs:∀ b o u,H b=some (.frz o u)->H' b=some (.frz o u)
 tbls:∀ b ps,H b=some (.tbl ps)->∃ more,H' b=some (.tbl (ps++more))
section
variable {fs fs' ex ex':List Addr}{H H1 H2:Hp}{h h1 h2 h':Heap}{a x e:Addr}{o:HO}
theorem Un.any (u:Un fs ex H H1 h h1) {b:Addr}{ob:Obj} (q:h.get? b=some ob) (n:H b=none) (hx:b ∉ ex):∃ sl,h1.get? b=some { ob with slots:=sl }:=by
 by_cases hb:b∈fs
 ·exact u.slot b ob q n hb hx
 ·exact ⟨ob.slots,u.keep b ob q n hb hx⟩
theorem Un.kept (k:∀ b u,h.get? b=some u->h'.get? b=some u):Un fs ex H H h h':=
 ⟨fun b ob q _ _ _=>k b ob q,fun b ob q _ _ _=>⟨ob.slots,k b ob q⟩,fun _ _ _ n _=>n,fun b ob q _=>⟨ob,k b ob q⟩,fun _ _ q=>q,fun _ _ _ q=>q,fun _ ps q=>⟨#[],by rw [q];simp⟩⟩
theorem Un.refl:Un fs ex H H h h:=Un.kept fun _ _ q=>q
theorem Un.laid (k:∀ b u,h.get? b=some u->h'.get? b=some u) (hp:h.objs.size<=a) (hn:H a=none):Un fs ex H (cq H a o) h h' where
 keep:=fun b u q _ _ _=>k b u q
 slot:=fun b u q _ _ _=>⟨u.slots,k b u q⟩
 free:=fun b u q n _=>by rw [bE (IJ (IH (IG q) hp))];exact n
 there:=fun b u q _=>⟨u,k b u q⟩
 tups:=fun b xs q=>by rw [bE (dU q hn)];exact q
 frzs:=fun b u xs q=>by rw [bE (dU q hn)];exact q
 tbls:=fun b ps q=>⟨#[],by rw [bE (dU q hn),q];simp⟩
theorem Un.write (mu:Hg (H x)) (he:e=x\/H e=some (.own x)) (k:∀ b u,b≠e->h.get? b=some u->h'.get? b=some u) (heo:∃ u,h'.get? e=some u):Un fs ex H (cq H x o) h h':=by
 have hx:∀ b,H b=none->b≠x:=fun b n z=>by subst z;rw [n] at mu;exact mu
 have hb:∀ b,H b=none->b≠e:=fun b n z=>by
  subst z
  rcases he with r | r
  ·exact hx b n r
  ·rw [n] at r;cases r
 have hm:∀ b u,H b=some u->¬ Hg (some u)->b≠x:=fun b u q nm z=>by subst z;rw [q] at mu;exact nm mu
 refine ⟨fun b u q n _ _=>k b u (hb b n) q,fun b u q n _ _=>⟨u.slots,k b u (hb b n) q⟩,fun b u q n _=>by rw [bE (hx b n)];exact n,fun b u q _=>?_,
  fun b xs q=>by rw [bE (hm b _ q fun z=>z)];exact q,fun b u xs q=>by rw [bE (hm b _ q fun z=>z)];exact q,fun b ps q=>⟨#[],by rw [bE (hm b _ q fun z=>z),q];simp⟩⟩
 by_cases hbe:b=e
 ·subst hbe;exact heo
 ·exact ⟨u,k b u hbe q⟩
end
def G7 (h:Heap) (H:Hp):List Addr:=(List.range h.objs.size).filter fun a=>(H a).isSome
def rC (h:Heap) (H:Hp):Heap:=W.hideAll h (G7 h H)
theorem xQ (h:Heap) (H:Hp):(rC h H).objs.size=h.objs.size:=W.hideAll_size _ _
theorem Ak {h:Heap}{H:Hp}{b:Addr}{o:Obj} (e:h.get? b=some o) (n:H b=none):(rC h H).get? b=some o:=
 W.hideAll_get _ e fun hm=>by
  have q:(H b).isSome=true:=(IK.mp hm).2
  rw [n] at q;simp at q
theorem Ca {h:Heap}{H:Hp}{b:Addr}{o:Obj} (e:(rC h H).get? b=some o):h.get? b=some o/\H b=none:=by
 have e':h.get? b=some o:=W.of_hideAll (G7 h H) e
 refine ⟨e',?_⟩
 cases q:H b with
 | none=>rfl
 | some x=>
  have hm:b∈G7 h H:=IK.mpr ⟨IL.mpr (IG e'),by simp [q]⟩
  have z:(rC h H).get? b=none:=W.hideAll_none (G7 h H) hm
  rw [z] at e;cases e
end L2
namespace L2
open PySem PySem.Spec PyProof.Rows
structure Mod (K:W.Frag) (mg:Str->Option Value) (base:Heap):Prop where
 kin:K.In base
 glob:base.Ns mainGlobals mg
 blt:∃ mb,base.Ns builtinsNs mb/\∀ x:Str,x ≠ "__name__" -> mb x=bootBuiltins x
 nolimit:base.NoLimit
structure Cx where
 prog:Program
 w:World
 K:W.Frag
 mg:Str->Option Value
 base:Heap
 A:Around
 N:List Str
 s₀:Shared
 H₀:Hp
 env:Env
 outer:List Env
 stack:List Env
 ex:List Addr
 fn:Str->Bool
 calm:Bool
 pn:List (Addr × Obj)
 xe:Value->Shared->Prop
def ym (l:List Env):List Addr:=l.filterMap (·.frame)
abbrev Cx.fs (X:Cx):List Addr:=ym X.outer
def Hd (sc:Scope) (x:Str):Prop:=sc.names.lookup x=some .local\/sc.names.lookup x=some .cell\/sc.names.lookup x=some .free
def yn (sc:Scope) (x:Str):Prop:=sc.names.lookup x=some .local\/sc.names.lookup x=some .cell
def HR (env:Env) (h:Heap) (m:Str->Option Value) (x:Str) (u:Value):Prop:=
 (env.kindOf x=some .local/\m x=some u)\/((env.kindOf x=some .cell\/env.kindOf x=some .free)/\∃ c,env.cells.lookup x=some c/\h.IsCell c (some u))
structure Cx.Ok (X:Cx):Prop where
 mod:Mod X.K X.mg X.base
 kind:X.env.scope.kind=.function
 glob:X.env.globals=mainGlobals
 blt:X.env.builtins=builtinsNs
 above:X.s₀.heap.objs.size<=X.env.locals
 inj:∀ x y c,X.env.cells.lookup x=some c->X.env.cells.lookup y=some c->x=y
 has:∀ x,(X.env.kindOf x=some .cell\/X.env.kindOf x=some .free)->∃ c,X.env.cells.lookup x=some c
 cab:∀ x c,X.fn x=true->X.env.cells.lookup x=some c->X.s₀.heap.objs.size<=c
 hd:X.calm=true->X.A.handled=none
 frames:X.A.frames=some X.stack
 stk:X.stack=X.outer\/(X.stack=X.env::X.outer/\X.env.frame=some X.env.locals)
 exf:∀ b∈X.ex,b≠X.env.locals/\∀ x c,X.env.cells.lookup x=some c->c≠b
 bs:∀ b o,X.base.get? b=some o->X.s₀.heap.get? b=some o/\X.H₀ b=none
 bsz:X.base.objs.size<=X.s₀.heap.objs.size
 noex:∀ b o,X.base.get? b=some o->b ∉ X.ex
 exfs:∀ b∈X.ex,b ∉ X.fs
 funs:X.s₀.heap.FunFrames X.base X.outer
 frf:∀ b∈X.fs,X.H₀ b=none
structure aR (X:Cx) (pins:List (Addr × Obj)) (σ:List (Option V)) (H:Hp) (s:Shared):Prop where
 ok:X.Ok
 os:s.os=X.s₀.os
 bare:AllBare s.gens
 base:Un X.fs X.ex X.H₀ H X.s₀.heap s.heap
 loc:∃ m,s.heap.Ns X.env.locals m/\∀ (i:Nat) (x:Str) (v:V),X.N[i]?=some x->σ[i]?=some (some v)->Hd X.env.scope x->∃ u,cn v u/\HR X.env s.heap m x u
 cell:∀ x c,X.env.cells.lookup x=some c->∃ v,s.heap.IsCell c v
 free:H X.env.locals=none
 freeC:∀ x c,X.env.cells.lookup x=some c->H c=none
 pin:∀ p∈X.pn++pins,s.heap.get? p.1=some p.2/\H p.1=none/\p.1≠X.env.locals/\p.1 ∉ X.fs/\∀ v,p.2.data≠.cell v
 hok:nX X.prog X.w H s.heap
 len:σ.length=X.N.length
section
variable {X:Cx}{pins:List (Addr × Obj)}{σ:List (Option V)}{H H':Hp}{s:Shared}{h':Heap}
theorem Cx.Ok.nofr (ok:X.Ok) {b:Addr}{o:Obj} (e:X.base.get? b=some o):b ∉ X.fs:=fun hb=>by
 have:=(ok.funs.mem hb).1
 rw [e] at this;cases this
theorem aR.bs (I:aR X pins σ H s):∀ b o,X.base.get? b=some o->s.heap.get? b=some o/\H b=none:=fun b o e=>
 ⟨I.base.keep b o (I.ok.bs b o e).1 (I.ok.bs b o e).2 (I.ok.nofr e) (I.ok.noex b o e),I.base.free b o (I.ok.bs b o e).1 (I.ok.bs b o e).2 (I.ok.noex b o e)⟩
theorem aR.bk (I:aR X pins σ H s):∀ b o,X.base.get? b=some o->s.heap.get? b=some o:=fun b o e=>(I.bs b o e).1
theorem aR.mod (I:aR X pins σ H s):Mod X.K X.mg X.base:=I.ok.mod
theorem aR.kIn (I:aR X pins σ H s):X.K.In s.heap:=I.ok.mod.kin.keeps I.bk
theorem aR.lt (I:aR X pins σ H s):X.env.locals<s.heap.objs.size:=let ⟨_,hn,_⟩:=I.loc;hn.lt
theorem aR.sz (I:aR X pins σ H s):X.s₀.heap.objs.size<=s.heap.objs.size:=IM I.ok.above (IP I.lt)
theorem aR.nofs (I:aR X pins σ H s) {a:Addr} (h:s.heap.objs.size<=a):a ∉ X.fs:=fun hb=>by
 obtain ⟨_,o,ho,_⟩:=I.ok.funs.mem hb
 exact absurd (IH (IG ho) (IM I.sz h)) (II _)
theorem aR.cne (I:aR X pins σ H s):∀ x c,X.env.cells.lookup x=some c->c≠X.env.locals:=fun x c e z=>by
 obtain ⟨v,o,ho,hd⟩:=I.cell x c e
 obtain ⟨m,⟨o',es,ep,ho',hd',_⟩,_⟩:=I.loc
 rw [z,ho'] at ho;cases ho;rw [hd'] at hd;cases hd
theorem aR.funs (I:aR X pins σ H s):s.heap.FunFrames X.base X.outer:=by
 have all:∀ (l:List Env),(∀ b∈ym l,b∈X.fs)->X.s₀.heap.FunFrames X.base l->s.heap.FunFrames X.base l:=by
  intro l
  induction l with
  | nil=>intro _ _;trivial
  | cons env r ih=>
   intro hs hl
   obtain ⟨hk,⟨L,o,hf,hn,ho,hd⟩,hr⟩:=hl
   have hL:L∈X.fs:=hs L (by unfold ym;rw [IQ,hf];exact IR)
   obtain ⟨sl,e⟩:=I.base.slot L o ho (I.ok.frf L hL) hL fun z=>I.ok.exfs L z hL
   exact ⟨hk,⟨L,_,hf,hn,e,hd⟩,ih (fun b hb=>hs b (by unfold ym;rw [IQ,hf];exact IS _ hb)) hr⟩
 exact all X.outer (fun _ hb=>hb) I.ok.funs
theorem aR.stack (I:aR X pins σ H s):s.heap.FunFrames X.base X.stack:=by
 rcases I.ok.stk with e | ⟨e,hf⟩
 ·rw [e];exact I.funs
 ·rw [e]
  obtain ⟨m,hn,_⟩:=I.loc
  refine .cons (by rw [I.ok.kind];decide) hf hn ?_ I.funs
  exact Heap.get?_none_of_le (IM I.ok.bsz I.ok.above)
theorem aR.stkSub (I:aR X pins σ H s):∀ b∈ym X.stack,b∈X.env.locals::X.fs:=fun b hb=>by
 rcases I.ok.stk with e | ⟨e,hf⟩
 ·rw [e] at hb;exact IS _ hb
 ·rw [e] at hb
  unfold ym at hb
  rw [IQ,hf] at hb
  exact hb
theorem aR.stkFree (I:aR X pins σ H s):∀ b∈ym X.stack,H b=none:=fun b hb=>by
 rcases IT.mp (I.stkSub b hb) with e | hb
 ·rw [e];exact I.free
 ·obtain ⟨_, o, ho, _⟩ := I.ok.funs.mem hb
  exact I.base.free b o ho (I.ok.frf b hb) fun z=>I.ok.exfs b z hb
theorem aR.step {g':Array GenState}{t':Nat}{d':Drawn}{ch:List Addr} (I:aR X pins σ H s)
  (hch:∀ b∈ch,(b∈X.ex\/X.s₀.heap.objs.size<=b)/\b≠X.env.locals/\(∀ x c,X.env.cells.lookup x=some c->c≠b)/\∀ p∈X.pn++pins,p.1≠b)
  (keep:∀ b o,b≠X.env.locals->b ∉ X.fs->b ∉ ch->s.heap.get? b=some o->H b=none->h'.get? b=some o)
  (slot:∀ b o,b≠X.env.locals->b∈X.fs->b ∉ ch->s.heap.get? b=some o->H b=none->∃ sl,h'.get? b=some { o with slots:=sl }) (free:∀ b o,b ∉ ch->s.heap.get? b=some o->H b=none->H' b=none)
  (there:∀ b o,b ∉ ch->s.heap.get? b=some o->∃ o',h'.get? b=some o')
  (tups:∀ b xs,H b=some (.tup xs)->H' b=some (.tup xs)) (frzs:∀ b o u,H b=some (.frz o u)->H' b=some (.frz o u)) (tbls:∀ b ps,H b=some (.tbl ps)->∃ more,H' b=some (.tbl (ps++more)))
  (ns:∀ m,s.heap.Ns X.env.locals m->h'.Ns X.env.locals m) (hok:nX X.prog X.w H' h') (hg:AllBare g') :
  aR X pins σ H' { s with heap:=h',gens:=g',drawn:=d',toks:=t' }:=by
 have neL:∀ b o,X.s₀.heap.get? b=some o->b≠X.env.locals:=fun b o e=>IJ (IH (IG e) I.ok.above)
 have neC:∀ b o,X.s₀.heap.get? b=some o->b ∉ X.ex->b ∉ ch:=fun b o e hx hb=>by
  rcases (hch b hb).1 with z | z
  ·exact hx z
  ·exact absurd (IH (IG e) z) (II _)
 have cellK:∀ x c,X.env.cells.lookup x=some c->∀ v,s.heap.IsCell c v->h'.IsCell c v:=fun x c e v ⟨o,ho,hd⟩=>by
  have nch:c ∉ ch:=fun z=>(hch c z).2.2.1 x c e rfl
  by_cases hc:c∈X.fs
  ·obtain ⟨sl, q⟩ := slot c o (I.cne x c e) hc nch ho (I.freeC x c e)
   exact ⟨_,q,hd⟩
  ·exact ⟨o,keep c o (I.cne x c e) hc nch ho (I.freeC x c e),hd⟩
 refine ⟨I.ok,I.os,hg,⟨fun b o e n hb hx=>?_,fun b o e n hb hx=>?_,fun b o e n hx=>?_,fun b o e hx=>?_,fun b xs e=>tups b xs (I.base.tups b xs e),fun b o xs e=>frzs b o xs (I.base.frzs b o xs e),fun b ps e=>?_⟩,?_,fun x c e=>?_,?_,fun x c e=>?_,fun p hp=>?_,hok,I.len⟩
 ·exact keep b o (neL b o e) hb (neC b o e hx) (I.base.keep b o e n hb hx) (I.base.free b o e n hx)
 ·obtain ⟨sl, e1⟩ := I.base.slot b o e n hb hx
  obtain ⟨sl',e2⟩:=slot b _ (neL b o e) hb (neC b o e hx) e1 (I.base.free b o e n hx)
  exact ⟨sl',e2⟩
 ·obtain ⟨o', e1⟩ := I.base.there b o e hx
  exact free b o' (neC b o e hx) e1 (I.base.free b o e n hx)
 ·obtain ⟨o', e1⟩ := I.base.there b o e hx
  exact there b o' (neC b o e hx) e1
 ·obtain ⟨m1, e1⟩ := I.base.tbls b ps e
  obtain ⟨m2,e2⟩:=tbls b _ e1
  exact ⟨m1++m2,by rw [e2,Array.append_assoc]⟩
 ·obtain ⟨m, hn, hl⟩ := I.loc
  refine ⟨m,ns m hn,fun i x v e1 e2 e3=>?_⟩
  obtain ⟨u,r,l⟩:=hl i x v e1 e2 e3
  refine ⟨u,r,?_⟩
  rcases l with l | ⟨k,c,e,z⟩
  ·exact .inl l
  ·exact .inr ⟨k,c,e,cellK x c e _ z⟩
 ·obtain ⟨v, z⟩ := I.cell x c e
  exact ⟨v,cellK x c e v z⟩
 ·obtain ⟨m, ⟨o, _, _, ho, _⟩, _⟩ := I.loc
  exact free _ o (fun z=>(hch _ z).2.1 rfl) ho I.free
 ·obtain ⟨v, o, ho, hd⟩ := I.cell x c e
  exact free c o (fun z=>(hch c z).2.2.1 x c e rfl) ho (I.freeC x c e)
 ·obtain ⟨e, n, ne, nf, d⟩ := I.pin p hp
  have nch:p.1 ∉ ch:=fun z=>(hch p.1 z).2.2.2 p hp rfl
  exact ⟨keep p.1 p.2 ne nf nch e n,free p.1 p.2 nch e n,ne,nf,d⟩
theorem aR.un {t':Nat} (I:aR X pins σ H s) (u:Un X.fs [] H H' s.heap h') (hok:nX X.prog X.w H' h'):aR X pins σ H' { s with heap:=h',toks:=t' }:=by
 obtain ⟨m,⟨o,es,ep,ho,r⟩,_⟩:=id I.loc
 obtain ⟨sl,hL⟩:=u.any ho I.free (by simp)
 exact I.step (g':=s.gens) (d':=s.drawn) (ch:=[]) (fun _ z=>nomatch z) (fun b o _ hb _ e n=>u.keep b o e n hb (by simp)) (fun b o _ hb _ e n=>u.slot b o e n hb (by simp)) (fun b o _ e n=>u.free b o e n (by simp)) (fun b o _ e=>u.there b o e (by simp)) u.tups u.frzs u.tbls (fun m' hm=>by
  obtain ⟨o',es',ep',ho',r'⟩:=hm
  rw [ho] at ho';cases ho'
  exact ⟨_,es',ep',hL,r'⟩) hok I.bare
theorem aR.call {g':Array GenState}{t':Nat}{d':Drawn}{ch:List Addr} (I:aR X pins σ H s) (u:Un (ym X.stack) ch H H' s.heap h') (hok:nX X.prog X.w H' h') (hg:AllBare g')
  (hch:∀ b∈ch,(b∈X.ex\/X.s₀.heap.objs.size<=b)/\b≠X.env.locals/\(∀ x c,X.env.cells.lookup x=some c->c≠b)/\∀ p∈X.pn++pins,p.1≠b) :
  aR X pins σ H' { s with heap:=h',gens:=g',drawn:=d',toks:=t' }:=by
 obtain ⟨m,⟨o,es,ep,ho,r⟩,_⟩:=id I.loc
 obtain ⟨sl,hL⟩:=u.any ho I.free fun z=>(hch _ z).2.1 rfl
 exact I.step (ch:=ch) hch (fun b o hL hb hc e n=>u.keep b o e n (fun z=>(IT.mp (I.stkSub b z)).elim hL hb) hc) (fun b o _ _ hc e n=>u.any e n hc) (fun b o hc e n=>u.free b o e n hc) (fun b o hc e=>u.there b o e hc) u.tups u.frzs u.tbls (fun m' hm=>by
  obtain ⟨o',es',ep',ho',r'⟩:=hm
  rw [ho] at ho';cases ho'
  exact ⟨_,es',ep',hL,r'⟩) hok hg
theorem aR.turned {t':Nat}{it:Addr} (I:aR X pins σ H s) (k:∀ b o,b≠it->s.heap.get? b=some o->h'.get? b=some o) (hn:H it=none) (hL:it≠X.env.locals)
  (h1:it∈X.ex\/X.s₀.heap.objs.size<=it) (h2:∀ x c,X.env.cells.lookup x=some c->c≠it) (h3:∀ p∈X.pn++pins,p.1≠it):aR X pins σ H { s with heap:=h',toks:=t' }:=by
 have nit:∀ b u,H b=some u->b≠it:=fun b u e z=>by rw [z,hn] at e;cases e
 refine I.step (g':=s.gens) (d':=s.drawn) (ch:=[it]) (fun b hb=>?_) (fun b o _ _ hc e _=>k b o (fun z=>hc (by simp [z])) e) (fun b o _ _ hc e _=>⟨o.slots,k b o (fun z=>hc (by simp [z])) e⟩) (fun _ _ _ _ n=>n)
  (fun b o hc e=>⟨o,k b o (fun z=>hc (by simp [z])) e⟩) (fun _ _ e=>e) (fun _ _ _ e=>e) (fun b ps e=>⟨#[],by rw [e];simp⟩) (fun m hm=>?_) (fun b u e=>?_) I.bare
 ·have e : b = it := by simpa using hb
  subst e
  exact ⟨h1,hL,h2,h3⟩
 ·obtain ⟨o, es, ep, ho, r⟩ := hm
  exact ⟨o,es,ep,k _ o (IU hL) ho,r⟩
 ·refine (I.hok b u e).stay (fun c v hc q => k c v ?_ q) (fun _ q => q) fun _ _ q => q
  rcases hc with z | z
  ·rw [z];exact nit b u e
  ·exact nit c _ z
theorem aR.tok (I:aR X pins σ H s) (t:Nat):aR X pins σ H { s with toks:=t }:=I.un (h':=s.heap) (t':=t) Un.refl I.hok
theorem aR.kept {t':Nat} (I:aR X pins σ H s) (k:∀ b u,s.heap.get? b=some u->h'.get? b=some u):aR X pins σ H { s with heap:=h',toks:=t' }:=I.un (Un.kept k) (I.hok.kept k)
theorem aR.laid {a:Addr}{o:HO}{t':Nat} (I:aR X pins σ H s) (k:∀ b u,s.heap.get? b=some u->h'.get? b=some u) (hp:s.heap.objs.size<=a) (new:fv X.prog X.w (cq H a o) h' a o) :
  aR X pins σ (cq H a o) { s with heap:=h',toks:=t' }:=I.un (Un.laid k hp (I.hok.fresh hp)) (I.hok.laid k hp new)
theorem aR.write {x e:Addr}{o:HO}{t':Nat} (I:aR X pins σ H s) (mu:Hg (H x)) (he:e=x\/H e=some (.own x)) (k:∀ b u,b≠e->s.heap.get? b=some u->h'.get? b=some u) (heo:∃ u,h'.get? e=some u)
  (new:fv X.prog X.w (cq H x o) h' x o):aR X pins σ (cq H x o) { s with heap:=h',toks:=t' }:=I.un (Un.write mu he k heo) (I.hok.write mu he k heo new)
theorem aR.pins_of {pins':List (Addr × Obj)} (I:aR X pins σ H s) (h:∀ p∈pins',s.heap.get? p.1=some p.2/\H p.1=none/\p.1≠X.env.locals/\p.1 ∉ X.fs/\∀ v,p.2.data≠.cell v):aR X pins' σ H s:=
 ⟨I.ok,I.os,I.bare,I.base,I.loc,I.cell,I.free,I.freeC,fun p hp=>(IV.mp hp).elim (fun z=>I.pin p (IW _ z)) (h p),I.hok,I.len⟩
theorem tS {N:List Str} (hN:N.Nodup) {i j:Nat}{x:Str} (a:N[i]?=some x) (b:N[j]?=some x):i=j:=by
 obtain ⟨h1,e1⟩:=IX.mp a
 obtain ⟨h2,e2⟩:=IX.mp b
 exact (IY hN).mp (e1.trans e2.symm)
theorem qw {M:Model}{A:Around}{E:Value->Shared->Prop}{i:Nat}{x:Str}{v:V}{u:Value}{Q:Unit->Shared->Prop} (I:aR X pins σ H s) (hN:X.N.Nodup) (hi:X.N[i]?=some x) (hx:yn X.env.scope x) (r:cn v u)
  (h:∀ s',aR X pins (σ.set i (some v)) H s'->(∃ a,Heap.SameBut a s.heap s'.heap/\(a=X.env.locals\/X.env.cells.lookup x=some a))->Q () s') (hf:X.fn x=true\/X.env.scope.names.lookup x=some .local:=by first | exact .inl rfl | exact .inr rfl | assumption):wpAny M A (storeName X.env x u) Q E s:=by
 obtain ⟨m,hn,hl⟩:=id I.loc
 have hcls:(X.env.scope.kind == .class || (X.env.scope.kind == .module && X.env.locals != X.env.globals))=false:=by rw [I.ok.kind];rfl
 have hiσ:i<σ.length:=by rw [I.len];exact (IX.mp hi).1
 have cne:=I.cne
 have tracked:∀ {a:Addr}{h':Heap},(∃ o,s.heap.get? a=some o/\H a=none)->Heap.SameBut a s.heap h'->nX X.prog X.w H h':=fun {a h'} ha hs b ob e=>by
  obtain ⟨_,_,hfree⟩:=ha
  refine (I.hok b ob e).stay (fun c w' hc q=>(hs.2 c ?_).trans q) (fun _ q=>q) fun _ _ q=>q
  rintro rfl
  rcases hc with rfl | hc
  ·rw [hfree] at e;cases e
  ·rw [hfree] at hc;cases hc
 rcases hx with hk | hk
 ·refine wpAny_storeName_local hk hn (fun h' hn' hs => ?_) hcls
  obtain ⟨oL,_,_,hoL,_⟩:=id hn
  refine h _ ⟨I.ok,I.os,I.bare,⟨fun b o e n hb hx=>?_,fun b o e n hb hx=>?_,I.base.free,fun b o e hx=>?_,I.base.tups,I.base.frzs,I.base.tbls⟩,⟨_,hn',fun j y v' e1 e2 e3=>?_⟩,fun y c e=>?_,I.free,I.freeC,fun p hp=>?_,tracked ⟨oL,hoL,I.free⟩ hs,by simpa using I.len⟩ ⟨_,hs,.inl rfl⟩
  ·exact (hs.2 b (IJ (IH (IG e) I.ok.above))).trans (I.base.keep b o e n hb hx)
  ·obtain ⟨sl, e1⟩ := I.base.slot b o e n hb hx
   exact ⟨sl,(hs.2 b (IJ (IH (IG e) I.ok.above))).trans e1⟩
  ·obtain ⟨o', e1⟩ := I.base.there b o e hx
   exact ⟨o',(hs.2 b (IJ (IH (IG e) I.ok.above))).trans e1⟩
  ·by_cases hj : j = i
   ·subst hj
    rw [hi] at e1;cases e1
    rw [IZ hiσ] at e2
    cases e2
    exact ⟨u,r,.inl ⟨hk,by simp⟩⟩
   ·rw [I0 (IU hj)] at e2
    obtain ⟨u',r',q⟩:=hl j y v' e1 e2 e3
    refine ⟨u',r',?_⟩
    rcases q with ⟨k,e⟩ | ⟨k,c,e,z⟩
    ·refine .inl ⟨k, ?_⟩
     have:y≠x:=fun e=>hj (tS hN e1 (e ▸ hi))
     simp [this,e]
    ·exact .inr ⟨k,c,e,z.sameBut hs (cne y c e)⟩
  ·obtain ⟨w', z⟩ := I.cell y c e
   exact ⟨w',z.sameBut hs (cne y c e)⟩
  ·obtain ⟨e, n, ne, nf, d⟩ := I.pin p hp
   exact ⟨(hs.2 p.1 ne).trans e,n,ne,nf,d⟩
 ·have hfn:X.fn x=true:=by
   rcases hf with z | z
   ·exact z
   ·rw [z] at hk;cases hk
  obtain ⟨c,hc⟩:=I.ok.has x (.inl hk)
  obtain ⟨w',z⟩:=I.cell x c hc
  refine wpAny_storeName_cell I.ok.kind hk hc z (fun h' hc' hs=>?_)
  obtain ⟨oc,hoc,hocd⟩:=id z
  refine h { s with heap:=h' } ⟨I.ok,I.os,I.bare,⟨fun b o e n hb hx=>?_,fun b o e n hb hx=>?_,I.base.free,fun b o e hx=>?_,I.base.tups,I.base.frzs,I.base.tbls⟩,⟨m,hn.sameBut hs (IU (cne x c hc)),fun j y v' e1 e2 e3=>?_⟩,fun y c' e=>?_,I.free,I.freeC,fun p hp=>?_,tracked ⟨oc,hoc,I.freeC x c hc⟩ hs,by simpa using I.len⟩ ⟨c,hs,.inr hc⟩
  ·exact (hs.2 b (IJ (IH (IG e) (I.ok.cab x c hfn hc)))).trans (I.base.keep b o e n hb hx)
  ·obtain ⟨sl, e1⟩ := I.base.slot b o e n hb hx
   exact ⟨sl,(hs.2 b (IJ (IH (IG e) (I.ok.cab x c hfn hc)))).trans e1⟩
  ·obtain ⟨o', e1⟩ := I.base.there b o e hx
   exact ⟨o',(hs.2 b (IJ (IH (IG e) (I.ok.cab x c hfn hc)))).trans e1⟩
  ·by_cases hj : j = i
   ·subst hj
    rw [hi] at e1;cases e1
    rw [IZ hiσ] at e2
    cases e2
    exact ⟨u,r,.inr ⟨.inl hk,c,hc,hc'⟩⟩
   ·rw [I0 (IU hj)] at e2
    obtain ⟨u',r',q⟩:=hl j y v' e1 e2 e3
    refine ⟨u',r',?_⟩
    rcases q with q | ⟨k,c',e,z'⟩
    ·exact .inl q
    ·refine .inr ⟨k, c', e, z'.sameBut hs ?_⟩
     rintro rfl
     exact hj (tS hN e1 (I.ok.inj _ _ _ e hc ▸ hi))
  ·by_cases hcc : c' = c
   ·subst hcc;exact ⟨_,hc'⟩
   ·obtain ⟨w2, z2⟩ := I.cell y c' e
    exact ⟨w2,z2.sameBut hs hcc⟩
  ·obtain ⟨e, n, ne, nf, d⟩ := I.pin p hp
   refine ⟨(hs.2 p.1 ?_).trans e,n,ne,nf,d⟩
   intro q
   rw [q,hoc] at e
   have q':oc=p.2:=IF e
   exact d w' (by rw [<- q'];exact hocd)
theorem oA {M:Model}{A:Around}{E:Value->Shared->Prop}{i:Nat}{x:Str}{v:V}{u:Value}{Q:Unit->Shared->Prop} (I:aR X pins σ H s) (hN:X.N.Nodup) (hi:X.N[i]?=some x) (hx:yn X.env.scope x) (r:cn v u)
  (h:∀ s',aR X pins (σ.set i (some v)) H s'->Q () s') (hf:X.fn x=true\/X.env.scope.names.lookup x=some .local:=by first | exact .inl rfl | exact .inr rfl | assumption):wpAny M A (storeName X.env x u) Q E s:=
 qw I hN hi hx r (fun s' I' _=>h s' I') hf
theorem aR.call' {s':Shared}{ch:List Addr} (I:aR X pins σ H s) (ho:s'.os=s.os) (u:Un (ym X.stack) ch H H' s.heap s'.heap) (hok:nX X.prog X.w H' s'.heap) (hg:AllBare s'.gens)
  (hch:∀ b∈ch,(b∈X.ex\/X.s₀.heap.objs.size<=b)/\b≠X.env.locals/\(∀ x c,X.env.cells.lookup x=some c->c≠b)/\∀ p∈X.pn++pins,p.1≠b):aR X pins σ H' s':=by
 obtain ⟨h',g',d',t',o'⟩:=s'
 have e:o'=s.os:=ho
 subst e
 exact I.call (g':=g') (t':=t') (d':=d') u hok hg hch
end
abbrev XK:=Value->Option Addr->Hp->Prop
abbrev St:=List (Option V)
abbrev VK:=V->Hp->Prop
abbrev TE:=St->Hp->VK->Prop
abbrev TT:=St->Hp->(Bool->Hp->Prop)->Prop
abbrev TA:=St->Hp->(List V->Hp->Prop)->Prop
structure n8 where
 nx:St->Hp->Prop
 rt:VK
 bk:St->Hp->Prop:=fun _ _=>False
 ct:St->Hp->Prop:=fun _ _=>False
abbrev TS:=n8->St->Hp->Prop
def EP (X:Cx) (pins:List (Addr × Obj)) (σ:St) (Q:VK) (u:Value) (s':Shared):Prop:=∃ v H',aR X pins σ H' s'/\cn v u/\Q v H'
def TP (X:Cx) (pins:List (Addr × Obj)) (σ:St) (Q:Bool->Hp->Prop) (b:Bool) (s':Shared):Prop:=∃ H',aR X pins σ H' s'/\Q b H'
def AP (X:Cx) (pins:List (Addr × Obj)) (σ:St) (Q:List V->Hp->Prop) (us:List Value) (s':Shared):Prop:=∃ vs H',aR X pins σ H' s'/\ba vs us/\Q vs H'
def SP (X:Cx) (pins:List (Addr × Obj)) (D:n8) (f:Flow) (s':Shared):Prop:=
 match f with
 | .next=>∃ σ' H',aR X pins σ' H' s'/\D.nx σ' H'
 | .brk=>∃ σ' H',aR X pins σ' H' s'/\D.bk σ' H'
 | .cont=>∃ σ' H',aR X pins σ' H' s'/\D.ct σ' H'
 | .ret u=>∃ v σ' H',aR X pins σ' H' s'/\cn v u/\D.rt v H'
def PE (X:Cx) (e:Expr) (t:TE):Prop:=
 ∀ (pins:List (Addr × Obj)) (s:Shared) (σ:St) (H:Hp) (Q:VK),aR X pins σ H s->t σ H Q->wpAny (model X.prog X.w) X.A (eval e X.env) (EP X pins σ Q) X.xe s
def PT (X:Cx) (e:Expr) (t:TT):Prop:=
 ∀ (pins:List (Addr × Obj)) (s:Shared) (σ:St) (H:Hp) (Q:Bool->Hp->Prop),aR X pins σ H s->t σ H Q->wpAny (model X.prog X.w) X.A (isTrue e X.env (eval e X.env)) (TP X pins σ Q) X.xe s
def PW (X:Cx) (e:Expr) (t:TT):Prop:=
 ∀ (whole:Sem Value) (pins:List (Addr × Obj)) (s:Shared) (σ:St) (H:Hp) (Q:Bool->Hp->Prop),aR X pins σ H s->t σ H Q->wpAny (model X.prog X.w) X.A (isTrue e X.env whole) (TP X pins σ Q) X.xe s
theorem PW.pt {X:Cx}{e:Expr}{t:TT} (h:PW X e t):PT X e t:=h _
def PA (X:Cx) (es:List Expr) (t:TA):Prop:=
 ∀ (pos:Pos) (pins:List (Addr × Obj)) (s:Shared) (σ:St) (H:Hp) (Q:List V->Hp->Prop),aR X pins σ H s->t σ H Q->wpAny (model X.prog X.w) X.A (spliced (backTo pos (starEach es X.env))) (AP X pins σ Q) X.xe s
def PS (X:Cx) (st:Stmt) (t:TS):Prop:=
 ∀ (pins:List (Addr × Obj)) (s:Shared) (σ:St) (H:Hp) (D:n8),aR X pins σ H s->t D σ H->wpAny (model X.prog X.w) X.A (exec st X.env) (SP X pins D) X.xe s
def jZ (X:Cx) (st:List Stmt) (t:TS):Prop:=
 ∀ (pins:List (Addr × Obj)) (s:Shared) (σ:St) (H:Hp) (D:n8),aR X pins σ H s->t D σ H->wpAny (model X.prog X.w) X.A (execs st X.env) (SP X pins D) X.xe s
theorem d3 {α:Type}{t:Sem α}{Q Q':α->Shared->Prop}{M:Model}{A:Around}{E:Value->Shared->Prop}{s:Shared} (h:wpAny M A t Q E s) (hQ:∀ a s,Q a s->Q' a s):wpAny M A t Q' E s:=Ja h hQ fun _ _ x=>x
end L2
namespace L2
open PySem PySem.Spec PyProof.Rows
section
variable {X:Cx}
def FL (i:Nat):TE:=fun σ H Q=>∃ v,σ[i]?=some (some v)/\Q v H
def tC (v:V):TE:=fun _ H Q=>Q v H
theorem Ex {i:Nat}{x:Str}{pos:Pos} (hN:X.N[i]?=some x) (hv:Hd X.env.scope x) (hd:(x == ("__debug__" : Str))=false:=by decide) (hcd:(x == ("__classdict__" : Str))=false:=by decide):PE X (.Name x pos) (FL i):=by
 intro pins s σ H Q I h
 obtain ⟨v,e,h⟩:=h
 obtain ⟨m,hn,hl⟩:=I.loc
 obtain ⟨u,r,l⟩:=hl i x v hN e hv
 have fin:EP X pins σ Q u s:=⟨v,H,I,r,h⟩
 rcases l with ⟨hk,hm⟩ | ⟨hk,c,hc,hcell⟩
 ·exact wpAny_Name (wpAny_loadName_local I.ok.kind hk hn hm fin) hd
 ·rcases hk with hk | hk
  ·exact wpAny_Name (wpAny_loadName_cell I.ok.kind hk hc hcell fin) hd
  ·exact wpAny_Name (wpAny_loadName_free I.ok.kind hk hc hcell fin hcd) hd
theorem ED {i j pos}:PE X (.Constant (.int i) j pos) (tC (.int i)):=fun _ _ _ H _ I h=>wpAny_Constant_int ⟨.int i,H,I.tok _,⟨_,rfl⟩,h⟩
theorem GQ {b j pos}:PE X (.Constant (.bool b) j pos) (tC (.bl b)):=fun _ _ _ H _ I h=>Constant_bool ⟨.bl b,H,I,rfl,h⟩
theorem EB {j pos}:PE X (.Constant .none j pos) (tC .non):=fun _ _ _ H _ I h=>Constant_none ⟨.non,H,I,rfl,h⟩
def Gl (X:Cx) (x:Str):Prop:=X.env.kindOf x=some .globalImplicit
theorem wy {E:Value->Shared->Prop}{pins:List (Addr × Obj)}{s:Shared}{σ:St}{H:Hp}{x:Str}{u:Value}{pos:Pos}{Q:Value->Shared->Prop} (I:aR X pins σ H s) (hg:Gl X x) (hm:X.mg x=some u) (h:Q u s)
  (hd:(x == ("__debug__" : Str))=false:=by decide):wpAny (model X.prog X.w) X.A (eval (.Name x pos) X.env) Q E s:=
 Calls.Name_function_global I.ok.kind hg (Calls.loadGlobal_global (by rw [I.ok.glob];exact I.mod.glob.keeps I.bk) hm h) hd
theorem lD {E:Value->Shared->Prop}{pins:List (Addr × Obj)}{s:Shared}{σ:St}{H:Hp}{x:Str}{u:Value}{pos:Pos}{Q:Value->Shared->Prop} (I:aR X pins σ H s) (hg:Gl X x) (hm:X.mg x=none) (hv:bootBuiltins x=some u) (h:Q u s)
  (hn:x ≠ "__name__" := by decide) (hd:(x == ("__debug__" : Str))=false:=by decide):wpAny (model X.prog X.w) X.A (eval (.Name x pos) X.env) Q E s:=by
 obtain ⟨mb,h1,h2⟩:=I.mod.blt
 exact Calls.Name_function_global I.ok.kind hg (Calls.loadGlobal_builtin (by rw [I.ok.glob];exact I.mod.glob.keeps I.bk) hm (by rw [I.ok.blt];exact h1.keeps I.bk) ((h2 x hn).trans hv) h) hd
theorem BU {x:Str}{v:V}{u:Value}{pos:Pos} (hg:Gl X x) (hm:X.mg x=some u) (r:cn v u) (hd:(x == ("__debug__" : Str))=false:=by decide):PE X (.Name x pos) (tC v):=
 fun _ _ _ H _ I h=>wy I hg hm ⟨v,H,I,r,h⟩ hd
theorem BY {x:Str}{v:V}{u:Value}{pos:Pos} (hg:Gl X x) (hm:X.mg x=none) (hv:bootBuiltins x=some u) (r:cn v u) (hn:x ≠ "__name__" := by decide) (hd:(x == ("__debug__" : Str))=false:=by decide):PE X (.Name x pos) (tC v):=
 fun _ _ _ H _ I h=>lD I hg hm hv ⟨v,H,I,r,h⟩ hn hd
variable {a b:Expr}{ta tb:TE}{pos:Pos}
variable {tA tB':TT}{rest:List Expr}
def HC (t u:TT):TT:=fun σ H Q=>t σ H fun c H1=>if c=true then u σ H1 Q else Q false H1
def Ik (t u:TT):TT:=fun σ H Q=>t σ H fun c H1=>if c=true then Q true H1 else u σ H1 Q
def Hv (t:TT):TT:=fun σ H Q=>t σ H fun c H1=>Q (!c) H1
theorem BF (ha:PT X a tA):PW X (.BoolOp .And [a] pos) tA:=by
 intro wh pins s σ H Q I h
 refine isTrue_and (d3 (ha pins s σ H Q I h) fun c s1 e=>?_)
 cases c with
 | true=>exact isTrue_and_nil e
 | false=>exact e
theorem Ek (ha:PT X a tA):PW X (.BoolOp .Or [a] pos) tA:=by
 intro wh pins s σ H Q I h
 refine isTrue_or (d3 (ha pins s σ H Q I h) fun c s1 e=>?_)
 cases c with
 | false=>exact isTrue_or_nil e
 | true=>exact e
theorem El (ha:PT X a tA) (hb:PW X (.BoolOp .And (b::rest) pos) tB'):PW X (.BoolOp .And (a::b::rest) pos) (HC tA tB'):=by
 intro wh pins s σ H Q I h
 refine isTrue_and (d3 (ha pins s σ H _ I h) fun c s1 ⟨H1,I1,q1⟩=>?_)
 cases c with
 | true=>exact hb wh pins s1 σ H1 Q I1 q1
 | false=>exact ⟨H1,I1,q1⟩
theorem GK (ha:PT X a tA) (hb:PW X (.BoolOp .Or (b::rest) pos) tB'):PW X (.BoolOp .Or (a::b::rest) pos) (Ik tA tB'):=by
 intro wh pins s σ H Q I h
 refine isTrue_or (d3 (ha pins s σ H _ I h) fun c s1 ⟨H1,I1,q1⟩=>?_)
 cases c with
 | true=>exact ⟨H1,I1,q1⟩
 | false=>exact hb wh pins s1 σ H1 Q I1 q1
theorem Em (ha:PT X a tA):PT X (.UnaryOp .Not a pos) (Hv tA):=by
 intro pins s σ H Q I h
 exact isTrue_not (ha pins s σ H (fun c H1=>Q (!c) H1) I h)
def Gw (ta tb:TE):TE:=fun σ H Q=>ta σ H fun x H1=>∃ c,x=.bl c/\if c=true then tb σ H1 Q else Q (.bl false) H1
def Gq (ta:TE):TE:=fun σ H Q=>ta σ H fun x H1=>∃ c,x=.bl c/\Q (.bl (!c)) H1
theorem Ez {op}{t:TE} (h:PE X a t):PE X (.BoolOp op [a] pos) t:=fun pins s σ H Q I hw=>BoolOp_one (h pins s σ H Q I hw)
theorem EE (ha:PE X a ta) (hb:PE X (.BoolOp .And (b::rest) pos) tb):PE X (.BoolOp .And (a::b::rest) pos) (Gw ta tb):=by
 intro pins s σ H Q I h
 refine BoolOp_and (d3 (ha pins s σ H _ I h) fun v s1 ⟨x,H1,I1,r1,q1⟩=>?_)
 obtain ⟨c,rfl,q1⟩:=q1
 cases r1
 refine Jb ?_
 cases c with
 | true=>exact hb pins s1 σ H1 Q I1 q1
 | false=>exact ⟨.bl false,H1,I1,rfl,q1⟩
theorem EA (ha:PE X a ta):PE X (.UnaryOp .Not a pos) (Gq ta):=by
 intro pins s σ H Q I h
 refine UnaryOp_ (d3 (ha pins s σ H _ I h) fun v s1 ⟨x,H1,I1,r1,q1⟩=>?_)
 obtain ⟨c,rfl,q1⟩:=q1
 cases r1
 exact not_of (Jb ⟨.bl (!c),H1,I1,rfl,q1⟩)
end
end L2
namespace L2
open PySem PySem.Spec PyProof.Rows
def f7 (K:W.Frag) (H:Hp) (a:Addr) (xs:List V):Prop:=
 Rd H a (.lst xs) \/
  ∃ (o:Obj) (its:Array Value) (n:Nat),K.lookup a=some o/\o.cls=.type "list" /\ o.dict=none/\o.data=.seq its n/\its.size<=sizeLine/\ba xs its.toList
def fB (K:W.Frag) (H:Hp) (a:Addr) (xs:List V):Prop:=
 Rd H a (.tup xs) \/
  ∃ (o:Obj) (its:Array Value) (n:Nat),K.lookup a=some o/\o.cls=.type "tuple" /\ o.data=.seq its n/\its.size<=sizeLine/\ba xs its.toList
def HP:Value->Option V
 | .none=>some .non
 | .bool b=>some (.bl b)
 | .int i _=>some (.int i)
 | .str x _=>some (.str x)
 | .bytes b _=>some (.byt b)
 | .float b _=>some (.flt b)
 | .ref a=>some (.ref a)
 | .type n=>some (.ty n)
 | _=>none
theorem cn.abs {x:V}{u:Value} (r:cn x u):HP u=some x:=by
 cases x with
 | non=>cases r;rfl
 | bl _=>cases r;rfl
 | int _=>obtain ⟨t,rfl⟩:=r;rfl
 | str _=>obtain ⟨t,rfl⟩:=r;rfl
 | byt _=>obtain ⟨t,rfl⟩:=r;rfl
 | flt _=>obtain ⟨t,rfl⟩:=r;rfl
 | ref _=>cases r;rfl
 | ty _=>cases r;rfl
theorem cn.inj {x y:V}{u:Value} (r:cn x u) (q:cn y u):x=y:=IF (r.abs.symm.trans q.abs)
theorem ba.inj:∀ {xs ys:List V}{us:List Value},ba xs us->ba ys us->xs=ys
 | _,_,_,.nil,.nil=>rfl
 | _,_,_,.cons r t,.cons r' t'=>by rw [r.inj r',ba.inj t t']
section
variable {X:Cx}{pins:List (Addr × Obj)}{σ:St}{H:Hp}{s:Shared}{a:Addr}{xs ys:List V}
theorem f7.of {K:W.Frag} (h:H a=some (.lst xs)):f7 K H a xs:=.inl (.inl h)
theorem fB.of {K:W.Frag} (h:H a=some (.tup xs)):fB K H a xs:=.inl (.inl h)
theorem aR.list (I:aR X pins σ H s) (h:f7 X.K H a xs):∃ its:List Value,ba xs its/\PlainL s.heap a its.toArray/\xs.length<=sizeLine:=by
 rcases h with h | ⟨o,its,n,hk,hc,hd,hs,hz,r⟩
 ·obtain ⟨z, its, n, r, e⟩ := h.ok I.hok
  exact ⟨its,r,⟨_,n,e,rfl,rfl,rfl⟩,z⟩
 ·refine ⟨its.toList, r, ⟨o, n, I.kIn a o hk, hc, hd, by simpa using hs⟩, ?_⟩
  have e:=r.length
  simp only [Jc] at e
  omega
theorem aR.tuple (I:aR X pins σ H s) (h:fB X.K H a xs):∃ its:List Value,ba xs its/\IsTup s.heap a its.toArray/\xs.length<=sizeLine:=by
 rcases h with h | ⟨o,its,n,hk,hc,hs,hz,r⟩
 ·obtain ⟨z, its, r, p⟩ := h.ok I.hok
  exact ⟨its,r,p,z⟩
 ·refine ⟨its.toList, r, ⟨o, I.kIn a o hk, hc, n, by simpa using hs⟩, ?_⟩
  have e:=r.length
  simp only [Jc] at e
  omega
theorem aR.list_inj (I:aR X pins σ H s) (h:f7 X.K H a xs) (h':f7 X.K H a ys):xs=ys:=by
 obtain ⟨its,r,⟨o,n,e,_,_,d⟩,_⟩:=I.list h
 obtain ⟨its',r',⟨o',n',e',_,_,d'⟩,_⟩:=I.list h'
 rw [e] at e';cases e'
 rw [d] at d'
 injection d' with d1 _
 have:its=its':=by simpa using Jd Array.toList d1
 subst this
 exact r.inj r'
theorem aR.tuple_inj (I:aR X pins σ H s) (h:fB X.K H a xs) (h':fB X.K H a ys):xs=ys:=by
 obtain ⟨its,r,⟨o,e,_,n,d⟩,_⟩:=I.tuple h
 obtain ⟨its',r',⟨o',e',_,n',d'⟩,_⟩:=I.tuple h'
 rw [e] at e';cases e'
 rw [d] at d'
 injection d' with d1 _
 have:its=its':=by simpa using Jd Array.toList d1
 subst this
 exact r.inj r'
end
abbrev Cx.wish (X:Cx) (E:Value->Shared->Prop):Cx:={ X with xe:=E }
abbrev Cx.nox (X:Cx):Cx:=X.wish fun _ _=>False
theorem Cx.Ok.wish {X:Cx} (ok:X.Ok) (E:Value->Shared->Prop):(X.wish E).Ok:=
 ⟨ok.mod,ok.kind,ok.glob,ok.blt,ok.above,ok.inj,ok.has,ok.cab,ok.hd,ok.frames,ok.stk,ok.exf,ok.bs,ok.bsz,ok.noex,ok.exfs,ok.funs,ok.frf⟩
theorem Cx.Ok.unwish {X:Cx}{E:Value->Shared->Prop} (ok:(X.wish E).Ok):X.Ok:=
 ⟨ok.mod,ok.kind,ok.glob,ok.blt,ok.above,ok.inj,ok.has,ok.cab,ok.hd,ok.frames,ok.stk,ok.exf,ok.bs,ok.bsz,ok.noex,ok.exfs,ok.funs,ok.frf⟩
section
variable {X:Cx}{pins:List (Addr × Obj)}{σ:St}{H:Hp}{s:Shared}{E:Value->Shared->Prop}
theorem aR.wish (I:aR X pins σ H s) (E:Value->Shared->Prop):aR (X.wish E) pins σ H s:=⟨I.ok.wish E,I.os,I.bare,I.base,I.loc,I.cell,I.free,I.freeC,I.pin,I.hok,I.len⟩
theorem aR.unwish (I:aR (X.wish E) pins σ H s):aR X pins σ H s:=⟨I.ok.unwish,I.os,I.bare,I.base,I.loc,I.cell,I.free,I.freeC,I.pin,I.hok,I.len⟩
theorem SP.unwish {D:n8}{f:Flow}{s':Shared} (h:SP (X.wish E) pins D f s'):SP X pins D f s':=by
 cases f with
 | next=>obtain ⟨σ',H',I,q⟩:=h;exact ⟨σ',H',I.unwish,q⟩
 | brk=>obtain ⟨σ',H',I,q⟩:=h;exact ⟨σ',H',I.unwish,q⟩
 | cont=>obtain ⟨σ',H',I,q⟩:=h;exact ⟨σ',H',I.unwish,q⟩
 | ret u=>obtain ⟨v,σ',H',I,r,q⟩:=h;exact ⟨v,σ',H',I.unwish,r,q⟩
theorem jZ.nox {st:List Stmt}{t:TS} (h:jZ X.nox st t):jZ X st t:=fun pins s σ H D I hw=>
 Ja (h pins s σ H D (I.wish _) hw) (fun _ _ q=>q.unwish) fun _ _ z=>False.elim z
end
section
variable {X:Cx}{st:Stmt}{rest:List Stmt}{t u:TS}{e:Expr}{te:TE}{pos:Pos}
def Gr:TS:=fun D σ H=>D.nx σ H
def Ht (t u:TS):TS:=fun D σ H=>t { D with nx:=u D } σ H
theorem BK:jZ X [] Gr:=fun _ _ σ H _ I h=>Je ⟨σ,H,I,h⟩
theorem zO (h1:PS X st t) (h2:jZ X rest u):jZ X (st::rest) (Ht t u):=by
 intro pins s σ H D I h
 refine wpAny_execs_cons (d3 (h1 pins s σ H { D with nx:=u D } I h) fun f s1 q=>?_)
 cases f with
 | next=>
  obtain ⟨σ',H',I',q⟩:=q
  exact h2 pins s1 σ' H' D I' q
 | ret v=>exact q
 | brk=>exact q
 | cont=>exact q
theorem BJ (h1:PS X st t):jZ X [st] t:=by
 intro pins s σ H D I h
 refine wpAny_execs_cons (d3 (h1 pins s σ H D I h) fun f s1 q=>?_)
 cases f with
 | next=>exact Je q
 | ret v=>exact q
 | brk=>exact q
 | cont=>exact q
theorem aR.quiet {pins:List (Addr × Obj)}{σ:St}{H:Hp}{s:Shared} (I:aR X pins σ H s):interactive X.env=false:=by simp [interactive,I.ok.kind]
def Gs (te:TE):TS:=fun D σ H=>te σ H fun _ H1=>D.nx σ H1
theorem BM (he:PE X e te) (hs:swapsWith e none pos.line X.env=pure false:=by rfl):PS X (.Expr e pos) (Gs te):=by
 intro pins s σ H D I h
 exact wpAny_Expr_any (d3 (he pins s σ H _ I h) fun v s1 ⟨x,H1,I1,r1,q1⟩=>⟨σ,H1,I1,q1⟩) I.quiet hs
def Hu (te:TE):TS:=fun D σ H=>te σ H D.rt
theorem Eo (he:PE X e te):PS X (.Return (some e) pos) (Hu te):=by
 intro pins s σ H D I h
 exact wpAny_Return_some (d3 (he pins s σ H _ I h) fun v s1 ⟨x,H1,I1,r1,q1⟩=>⟨x,σ,H1,I1,r1,q1⟩)
def Hy (c:TT) (t u:TS):TS:=fun D σ H=>c σ H fun b H1=>if b=true then t D σ H1 else u D σ H1
theorem GL {c:Expr}{a b:List Stmt}{tc:TT} (hc:PT X c tc) (ha:jZ X a t) (hb:jZ X b u):PS X (.If c a b pos) (Hy tc t u):=by
 intro pins s σ H D I h
 refine wpAny_If (d3 (hc pins s σ H _ I h) fun d s1 ⟨H1,I1,q1⟩=>?_)
 cases d with
 | true=>exact ha pins s1 σ H1 D I1 q1
 | false=>exact hb pins s1 σ H1 D I1 q1
def DI:TS:=fun _ _ _=>False
theorem zR:PS X st DI:=fun _ _ _ _ _ _ h=>h.elim
end
abbrev TG:=V->St->Hp->(St->Hp->Prop)->Prop
abbrev AF:=List V->St->Hp->(St->Hp->Prop)->Prop
def PG (X:Cx) (target:Expr) (t:TG):Prop:=
 ∀ (pins:List (Addr × Obj)) (s:Shared) (σ:St) (H:Hp) (v:V) (u:Value) (Q:St->Hp->Prop),aR X pins σ H s->cn v u->t v σ H Q ->
  wpAny (model X.prog X.w) X.A (assign target X.env u) (fun _ s'=>∃ σ' H',aR X pins σ' H' s'/\Q σ' H') X.xe s
def uM (X:Cx) (ts:List Expr) (t:AF):Prop:=
 ∀ (pins:List (Addr × Obj)) (s:Shared) (σ:St) (H:Hp) (vs:List V) (us:List Value) (Q:St->Hp->Prop),aR X pins σ H s->ba vs us->t vs σ H Q ->
  wpAny (model X.prog X.w) X.A (assignInOrder ((assignEach ts X.env).map (·.2)) us) (fun _ s'=>∃ σ' H',aR X pins σ' H' s'/\Q σ' H') X.xe s
abbrev Dx:=V->V->V->Hp->(Hp->Prop)->Prop
def Ge (X:Cx) (t:Dx):Prop:=
 ∀ (pins:List (Addr × Obj)) (s:Shared) (σ:St) (H:Hp) (o i v:V) (ov iv u:Value) (Q:Hp->Prop),aR X pins σ H s->cn o ov->cn i iv->cn v u->t o i v H Q ->
  wpAny (model X.prog X.w) X.A (setItem ov iv u) (fun _ s'=>∃ H',aR X pins σ H' s'/\Q H') X.xe s
abbrev FI:=V->V->Hp->VK->Prop
def Hf (X:Cx) (op:Operator) (t:FI):Prop:=
 ∀ (pins:List (Addr × Obj)) (s:Shared) (σ:St) (H:Hp) (x y:V) (v u:Value) (Q:VK),aR X pins σ H s->cn x v->cn y u->t x y H Q ->
  wpAny (model X.prog X.w) X.A (inplaceOp op v u) (EP X pins σ Q) X.xe s
section
variable {X:Cx}{pos:Pos}
def sY (i:Nat):TG:=fun v σ H Q=>Q (σ.set i (some v)) H
theorem BR {i:Nat}{x:Str} (hN:X.N.Nodup) (hi:X.N[i]?=some x) (hx:yn X.env.scope x) (hf:X.fn x=true\/X.env.scope.names.lookup x=some .local:=by first | exact .inl rfl | exact .inr rfl | assumption):PG X (.Name x pos) (sY i):=by
 intro pins s σ H v u Q I r h
 exact wpAny_assign_Name (oA I hN hi hx r (fun s' I'=>⟨_,H,I',h⟩) hf)
def HK:AF:=fun vs σ H Q=>vs=[]/\Q σ H
def GZ (t:TG) (u:AF):AF:=fun vs σ H Q=>∃ v r,vs=v::r/\t v σ H fun σ' H'=>u r σ' H' Q
theorem BQ:uM X [] HK:=by
 intro pins s σ H vs us Q I r h
 obtain ⟨e,h⟩:=h
 subst e
 cases r
 exact assignInOrder_nil ⟨σ,H,I,h⟩
theorem zT {e:Expr}{es:List Expr}{t:TG}{u:AF} (h1:PG X e t) (h2:uM X es u)
  (hs:(assignEach (e::es) X.env).map (·.2)=assign e X.env::(assignEach es X.env).map (·.2):=by rfl):uM X (e::es) (GZ t u):=by
 intro pins s σ H vs us Q I r h
 obtain ⟨v,vr,e1,h⟩:=h
 subst e1
 cases r with
 | cons r rr=>
  rw [hs]
  refine assignInOrder_cons (d3 (h1 pins s σ H _ _ _ I r h) fun _ s1 ⟨σ1,H1,I1,q1⟩=>?_)
  exact h2 pins s1 σ1 H1 _ _ Q I1 rr q1
def HI (K:W.Frag) (n:Nat) (t:AF):TG:=fun v σ H Q=>∃ a xs,v=.ref a/\fB K H a xs/\xs.length=n/\t xs σ H Q
theorem Eu {es:List Expr}{k:Nat}{t:AF}{n:Nat} (hc:X.calm=true) (h:uM X es t)
  (hn:(assignEach es X.env).length=n:=by rfl) (hst:(assignEach es X.env).findIdx? (·.1)=none:=by rfl):PG X (.Tuple es k pos) (HI X.K n t):=by
 intro pins s σ H v u Q I r hw
 obtain ⟨a,xs,e1,hq,hl,hw⟩:=hw
 subst e1
 cases r
 obtain ⟨its,rv,ht,hz⟩:=I.tuple hq
 refine assign_Tuple_tuple (I.ok.hd hc) ht (by simp [hn,<- hl,rv.length]) hst fun h' hx=>?_
 have I1:aR X pins σ H { s with heap:=h' }:=I.kept (t':=s.toks) fun b o e=>hx b o (IJ (IG e)) e
 exact h pins _ σ H xs _ Q I1 (by simpa using rv) hw
def HJ (to ti:TE) (t:Dx):TG:=fun v σ H Q=>to σ H fun o H1=>ti σ H1 fun i H2=>t o i v H2 fun H3=>Q σ H3
theorem Ew {o i:Expr}{to ti:TE}{t:Dx} (ho:PE X o to) (hi:PE X i ti) (hs:Ge X t)
  (ha : ∀ v, assign (.Subscript o i pos) X.env v = (do
   let ov <- holding [v] (eval o X.env)
   let iv <- holding [v,ov] (eval i X.env)
   standAt pos
   holding [v,ov,iv] (setItem ov iv v)
   release [v,ov,iv] []):=by intro _;rfl):PG X (.Subscript o i pos) (HJ to ti t):=by
 intro pins s σ H v u Q I r h
 rw [ha]
 refine Jf (Jg (d3 (ho pins s σ H _ I h) fun ov s1 ⟨x,H1,I1,r1,q1⟩=>?_))
 refine Jf (Jg (d3 (hi pins s1 σ H1 _ I1 q1) fun iv s2 ⟨y,H2,I2,r2,q2⟩=>?_))
 refine Jf (Jh (Jf (Jg (d3 (hs pins s2 σ H2 x y v ov iv u _ I2 r1 r2 r q2) fun _ s3 ⟨H3,I3,q3⟩=>?_))))
 exact wpAny_release ⟨σ,H3,I3,q3⟩
def yt (te:TE) (g:TG):TS:=fun D σ H=>te σ H fun x H1=>g x σ H1 D.nx
theorem Es {tg e:Expr}{te:TE}{g:TG} (he:PE X e te) (hg:PG X tg g) (hs:swapsWithSole [tg] e pos.line X.env=pure false:=by rfl) (hw:swappedStores [tg] e X.env=pure none:=by rfl)
  (h1:(assignEach [tg] X.env).map (·.2)=[assign tg X.env]:=by rfl):PS X (.Assign [tg] e pos) (yt te g):=by
 intro pins s σ H D I h
 refine wpAny_Assign_stores (d3 (he pins s σ H _ I h) fun v s1 ⟨x,H1,I1,r1,q1⟩=>?_) hs hw
 rw [h1]
 exact d3 (hg pins s1 σ H1 x v _ I1 r1 q1) fun _ s2 q=>q
theorem En {i:Nat}{x:Str}{e:Expr}{te:TE}{pos':Pos} (hN:X.N.Nodup) (hi:X.N[i]?=some x) (hx:yn X.env.scope x) (he:PE X e te) (hs:swapsWith e (some (.Name x pos')) pos.line X.env=pure false:=by rfl) (hf:X.fn x=true\/X.env.scope.names.lookup x=some .local:=by first | exact .inl rfl | exact .inr rfl | assumption) :
  PS X (.Assign [.Name x pos'] e pos) (yt te (sY i)):=by
 intro pins s σ H D I h
 refine wpAny_Assign_Name (d3 (he pins s σ H _ I h) fun v s1 ⟨y,H1,I1,r1,q1⟩=>?_) hs
 exact oA I1 hN hi hx r1 (fun s2 I2=>⟨_,H1,I2,q1⟩) hf
def HB (i:Nat) (te:TE) (ti:FI):TS:=fun D σ H=>∃ x,σ[i]?=some (some x)/\te σ H fun y H1=>ti x y H1 fun z H2=>D.nx (σ.set i (some z)) H2
theorem Er {i:Nat}{x:Str}{e:Expr}{te:TE}{op:Operator}{ti:FI}{pos':Pos} (hN:X.N.Nodup) (hi:X.N[i]?=some x) (hx:yn X.env.scope x) (he:PE X e te) (ho:Hf X op ti) (hf:X.fn x=true\/X.env.scope.names.lookup x=some .local:=by first | exact .inl rfl | exact .inr rfl | assumption) :
  PS X (.AugAssign (.Name x pos') op e pos) (HB i te ti):=by
 intro pins s σ H D I h
 obtain ⟨v,e1,h⟩:=h
 obtain ⟨m,hn,hl⟩:=I.loc
 have vis:Hd X.env.scope x:=by rcases hx with k | k;exact .inl k;exact .inr (.inl k)
 obtain ⟨u,r,l⟩:=hl i x v hi e1 vis
 refine wpAny_AugAssign_Name ?_
 have go:wpAny (model X.prog X.w) X.A (eval e X.env) (fun w s₂=>wpAny (model X.prog X.w) X.A (inplaceOp op u w) (fun r s₃=>wpAny (model X.prog X.w) X.A (storeName X.env x r) (fun _=>SP X pins D .next) X.xe s₃) X.xe s₂) X.xe s:=by
  refine d3 (he pins s σ H _ I h) fun w s1 ⟨y,H1,I1,r1,q1⟩=>?_
  refine d3 (ho pins s1 σ H1 v y u w _ I1 r r1 q1) fun z s2 ⟨zv,H2,I2,r2,q2⟩=>?_
  exact oA I2 hN hi hx r2 (fun s3 I3=>⟨_,H2,I3,q2⟩) hf
 rcases l with ⟨hk,hm⟩ | ⟨hk,c,hc,hcell⟩
 ·exact wpAny_loadName_local I.ok.kind hk hn hm go
 ·rcases hk with hk | hk
  ·exact wpAny_loadName_cell I.ok.kind hk hc hcell go
  ·rcases hx with k | k
   ·have : X.env.scope.names.lookup x = some .free := hk
    rw [k] at this;cases this
   ·have : X.env.scope.names.lookup x = some .free := hk
    rw [k] at this;cases this
def Io (f:Int->Int->Int):FI:=fun x y H Q=>∃ i j,x=.int i/\y=.int j/\Q (.int (f i j)) H
theorem Fh:Hf X .Add (Io fun i j=>i+j):=by
 intro pins s σ H x y v u Q I r1 r2 h
 obtain ⟨i,j,e1,e2,q⟩:=h
 subst e1;subst e2
 obtain ⟨t,rfl⟩:=r1
 obtain ⟨t',rfl⟩:=r2
 exact iadd_int ⟨.int _,H,I.tok _,⟨_,rfl⟩,q⟩
end
section
variable {X:Cx}{pos:Pos}
def DH (c:TT) (tb:TS):TS:=fun D σ H=>∃ W:Nat->St->Hp->Prop,(∃ m,W m σ H)/\∀ m σ H,W m σ H ->
 c σ H fun b H1=>if b=true then ∃ N:St->Hp->Prop,(∀ σ' H',N σ' H'->∃ m',m'<m/\W m' σ' H')/\tb { D with nx:=N,ct:=N,bk:=D.nx } σ H1 else D.nx σ H1
theorem zP {c:Expr}{body:List Stmt}{tc:TT}{tb:TS} (hp:PassesOwn (model X.prog X.w) X.A X.env X.xe) (hc:PT X c tc) (hb:jZ X body tb):PS X (.While c body [] pos) (DH tc tb):=by
 intro pins s σ H D I h
 obtain ⟨W,⟨m0,w0⟩,turn⟩:=h
 refine wpAny_While (codeAny_whileLoop (fun n s'=>∃ σ' H',aR X pins σ' H' s'/\W n σ' H') ?_ m0 ⟨σ,H,I,w0⟩)
 rintro n s1 ⟨σ1,H1,I1,w1⟩
 refine Ji hp (d3 (hc pins s1 σ1 H1 _ I1 (turn n σ1 H1 w1)) fun b s2 ⟨H2,I2,q2⟩=>?_)
 cases b with
 | true=>
  obtain ⟨N,hN,q2⟩:=q2
  rw [ID rfl]
  refine Ji hp (d3 (hb pins s2 σ1 H2 _ I2 q2) fun f s3 q3=>?_)
  cases f with
  | next=>
   obtain ⟨σ3,H3,I3,n3⟩:=q3
   obtain ⟨m',hm,w3⟩:=hN σ3 H3 n3
   exact ⟨m',hm,σ3,H3,I3,w3⟩
  | cont=>
   obtain ⟨σ3,H3,I3,n3⟩:=q3
   obtain ⟨m',hm,w3⟩:=hN σ3 H3 n3
   exact ⟨m',hm,σ3,H3,I3,w3⟩
  | brk=>exact q3
  | ret v=>exact q3
 | false=>
  rw [IE Jj]
  exact Je ⟨σ1,H2,I2,q2⟩
end
structure It where
 go:Nat->Hp->Prop
 yld:Nat->Hp->V->Hp->Prop
 stop:Nat->Hp->Prop
def lR (X:Cx) (pins:List (Addr × Obj)) (H:Hp) (b:Addr):Prop:=
 H b=none/\b≠X.env.locals/\b ∉ X.fs/\(b∈X.ex\/X.s₀.heap.objs.size<=b)/\(∀ x c,X.env.cells.lookup x=some c->c≠b)/\∀ p∈X.pn++pins,p.1≠b
theorem aR.fpOk {X:Cx}{pins:List (Addr × Obj)}{σ:St}{H H':Hp}{s:Shared}{b:Addr} (I:aR X pins σ H s) (hb:s.heap.objs.size<=b) (hn:H' b=none):lR X pins H' b:=by
 refine ⟨hn,Jk (IH I.lt hb),I.nofs hb,.inr (IM I.sz hb),fun x c e z=>?_,fun p hp z=>?_⟩
 ·obtain ⟨v, q⟩ := I.cell x c e
  exact absurd (IH q.lt (by rw [z];exact hb)) (II _)
 ·exact absurd (IH (IG (I.pin p hp).1) (by rw [z];exact hb)) (II _)
structure wY (P:Program) (w:World) (K:W.Frag) (tg:Expr) (J:It) (fp:List Addr) (it:Addr) (tn:Nat->Heap->Prop):Prop where
 mem:it∈fp
 obj:∀ i h,tn i h->∀ b∈fp,∃ o,h.get? b=some o/\∀ v,o.data≠.cell v
 keep:∀ i h h',tn i h->(∀ b∈fp,∀ o,h.get? b=some o->h'.get? b=some o)->tn i h'
 item:∀ (X:Cx),X.prog=P->X.w=w->X.K=K->X.calm=true->∀ (i:Nat) (pins:List (Addr × Obj)) (s:Shared) (σ:St) (H:Hp) (E:Value->Shared->Prop),aR X pins σ H s->(∀ b∈fp,lR X pins H b)->tn i s.heap->J.go i H ->
  wpAny (model P w) X.A (pyNext (.ref it)) (fun r s1=>∃ u,r=some u /\
   wpAny (model P w) X.A (letOwnedTupleGo tg (.ref it) u) (fun _ s2=>∃ x H',aR X pins σ H' s2/\cn x u/\J.yld i H x H'/\tn (i+1) s2.heap/\∀ b∈fp,H' b=none) E s1) E s
 done:∀ (X:Cx),X.prog=P->X.w=w->X.K=K->X.calm=true->∀ (i:Nat) (pins:List (Addr × Obj)) (s:Shared) (σ:St) (H:Hp) (E:Value->Shared->Prop),aR X pins σ H s->(∀ b∈fp,lR X pins H b)->tn i s.heap->J.stop i H ->
  wpAny (model P w) X.A (pyNext (.ref it)) (fun r s1=>r=none/\aR X pins σ H s1) E s
 self:∀ (A:Around) (i:Nat) (s:Shared) (Q:Value->Shared->Prop) (E:Value->Shared->Prop),tn i s.heap->Q (.ref it) s->wpAny (model P w) A (pyIter (.ref it)) Q E s
abbrev TI:=St->Hp->(It->Hp->Prop)->Prop
def Hl (X:Cx) (pins:List (Addr × Obj)) (σ:St) (tg:Expr) (R:It->Hp->Prop) (itv:Value) (s2:Shared):Prop:=
 ∃ (it:Addr) (fp:List Addr) (tn:Nat->Heap->Prop) (J:It) (H':Hp),itv=.ref it/\aR X pins σ H' s2/\wY X.prog X.w X.K tg J fp it tn/\tn 0 s2.heap/\(∀ b∈fp,lR X pins H' b)/\R J H'
def PI (X:Cx) (tg iter:Expr) (wi:TI):Prop:=
 ∀ (pins:List (Addr × Obj)) (s:Shared) (σ:St) (H:Hp) (R:It->Hp->Prop),aR X pins σ H s->wi σ H R ->
  wpAny (model X.prog X.w) X.A (eval iter X.env) (fun v s1=>wpAny (model X.prog X.w) X.A (pyIter v) (Hl X pins σ tg R) X.xe s1) X.xe s
theorem yK {M:Model}{A:Around}{E:Value->Shared->Prop}{s:Shared}{tg:Expr}{it:Addr}{u:Value}{o:Obj}{n:String}{vs:Array Value}{Q:Unit->Shared->Prop} (ho:s.heap.get? it=some o) (hc:o.cls=.type n) (hd:o.data=.fields vs)
  (hn:["enumerate", "zip", "dict_itemiterator", "dict_reverseitemiterator", "odict_iterator", "itertools.zip_longest", "itertools.pairwise"].contains n=false) (hQ:Q () s):wpAny M A (letOwnedTupleGo tg (.ref it) u) Q E s:=by
 unfold letOwnedTupleGo
 cases tg <;> first
  | exact Jl hQ
  | (cases u <;> first
    | exact Jl hQ
    | (refine Jf (Jm ho ?_)
       rw [hc,hd]
       show wpAny M A (if (["enumerate", "zip", "dict_itemiterator", "dict_reverseitemiterator", "odict_iterator", "itertools.zip_longest", "itertools.pairwise"].contains n && vs[0]? == some (rawInt _))=true then _ else _) Q E s
       rw [IE (by intro h;rw [hn,Bool.false_and] at h;cases h)]
       exact Jl hQ))
def Hh (K:W.Frag) (a:Addr):It:=
 ⟨fun i H=>∃ xs x,f7 K H a xs/\xs[i]?=some x,fun i H x H'=>H'=H/\∀ xs,f7 K H a xs->xs[i]?=some x,fun i H=>∃ xs,f7 K H a xs/\xs.length<=i⟩
def Hn (K:W.Frag) (a:Addr):It:=
 ⟨fun i H=>∃ xs x,fB K H a xs/\xs[i]?=some x,fun i H x H'=>H'=H/\∀ xs,fB K H a xs->xs[i]?=some x,fun i H=>∃ xs,fB K H a xs/\xs.length<=i⟩
def FC (lo:Int) (n:Nat):It:=⟨fun i _=>i<n,fun i H x H'=>H'=H/\x=.int (lo+i),fun i _=>n<=i⟩
theorem w6 {P:Program}{w:World}{K:W.Frag}{tg:Expr} (a it:Addr):wY P w K tg (Hh K a) [it] it (fun i h=>h.IsListIter it a i) where
 mem:=by simp
 obj:=fun i h st b hb=>by
  have e:b=it:=by simpa using hb
  subst e
  obtain ⟨o,e,c,d⟩:=st
  exact ⟨o,e,fun v z=>by rw [d] at z;cases z⟩
 keep:=fun i h h' st k=>st.at fun o e=>k it (by simp) o e
 item:=by
  intro X hP hw hK hc i pins s σ H E I hf st hg
  subst hP hw hK
  obtain ⟨xs,x,hq,hx⟩:=hg
  obtain ⟨its,rv,p,hz⟩:=I.list hq
  obtain ⟨u,hu,ru⟩:=rv.get hx
  obtain ⟨f0,f1,f2,f3,f4,f5⟩:=hf it (by simp)
  refine wpAny_pyNext_list_item st p.isList (x:=u) (by simpa using hu) fun h' st' sb=>?_
  have I1:aR X pins σ H { s with heap:=h' }:=I.turned (t':=s.toks) (fun b o hb e=>(sb.2 b hb).trans e) f0 f1 f3 f4 f5
  obtain ⟨o,e,c,d⟩:=id st'
  exact ⟨u,rfl,yK (s:={ s with heap:=h' }) e c d (by decide) ⟨x,H,I1,ru,⟨rfl,fun ys hy=>by rw [I.list_inj hy hq];exact hx⟩,st',fun b hb=>(hf b hb).1⟩⟩
 done:=by
  intro X hP hw hK hc i pins s σ H E I hf st hg
  subst hP hw hK
  obtain ⟨xs,hq,hx⟩:=hg
  obtain ⟨its,rv,p,hz⟩:=I.list hq
  obtain ⟨f0,f1,f2,f3,f4,f5⟩:=hf it (by simp)
  have hl:=rv.length
  exact wpAny_pyNext_list_end (I.ok.hd hc) st p.isList (by simp;omega) fun h' eb=>⟨rfl,I.turned (t':=s.toks) (fun b o hb e=>eb b o hb e) f0 f1 f3 f4 f5⟩
 self:=fun _ _ _ _ _ st h=>wpAny_pyIter_listiter st h
theorem va {P:Program}{w:World}{K:W.Frag}{tg:Expr} (a it:Addr):wY P w K tg (Hn K a) [it] it (fun i h=>h.IsTupleIter it a i) where
 mem:=by simp
 obj:=fun i h st b hb=>by
  have e:b=it:=by simpa using hb
  subst e
  obtain ⟨o,e,c,d⟩:=st
  exact ⟨o,e,fun v z=>by rw [d] at z;cases z⟩
 keep:=fun i h h' st k=>st.at fun o e=>k it (by simp) o e
 item:=by
  intro X hP hw hK hc i pins s σ H E I hf st hg
  subst hP hw hK
  obtain ⟨xs,x,hq,hx⟩:=hg
  obtain ⟨its,rv,p,hz⟩:=I.tuple hq
  obtain ⟨u,hu,ru⟩:=rv.get hx
  obtain ⟨f0,f1,f2,f3,f4,f5⟩:=hf it (by simp)
  refine wpAny_pyNext_tuple_item st (show s.heap.IsTuple a its.toArray from p) (x:=u) (by simpa using hu) fun h' st' sb=>?_
  have I1:aR X pins σ H { s with heap:=h' }:=I.turned (t':=s.toks) (fun b o hb e=>(sb.2 b hb).trans e) f0 f1 f3 f4 f5
  obtain ⟨o,e,c,d⟩:=id st'
  exact ⟨u,rfl,yK (s:={ s with heap:=h' }) e c d (by decide) ⟨x,H,I1,ru,⟨rfl,fun ys hy=>by rw [I.tuple_inj hy hq];exact hx⟩,st',fun b hb=>(hf b hb).1⟩⟩
 done:=by
  intro X hP hw hK hc i pins s σ H E I hf st hg
  subst hP hw hK
  obtain ⟨xs,hq,hx⟩:=hg
  obtain ⟨its,rv,p,hz⟩:=I.tuple hq
  obtain ⟨f0,f1,f2,f3,f4,f5⟩:=hf it (by simp)
  have hl:=rv.length
  exact wpAny_pyNext_tuple_end (I.ok.hd hc) st (show s.heap.IsTuple a its.toArray from p) (by simp;omega) fun h' eb=>⟨rfl,I.turned (t':=s.toks) (fun b o hb e=>eb b o hb e) f0 f1 f3 f4 f5⟩
 self:=fun _ _ _ _ _ st h=>wpAny_pyIter_tupleiter st h
theorem vb {P:Program}{w:World}{K:W.Frag}{tg:Expr} (it:Addr) (lo:Int) (n:Nat):wY P w K tg (FC lo n) [it] it (fun i h=>IsRangeIter h it (lo+(i:Nat) * 1) ((n:Int) - (i:Nat)) 1) where
 mem:=by simp
 obj:=fun i h st b hb=>by
  have e:b=it:=by simpa using hb
  subst e
  exact ⟨_,st,fun v z=>by
   have z':Data.fields _=Data.cell v:=z
   cases z'⟩
 keep:=fun i h h' st k=>k it (by simp) _ st
 item:=by
  intro X hP hw hK hc i pins s σ H E I hf st hg
  subst hP hw hK
  obtain ⟨f0,f1,f2,f3,f4,f5⟩:=hf it (by simp)
  have W:=Walks.range (prog:=X.prog) (w:=X.w) (I.ok.hd hc) it lo 1 n
  refine W.item i s _ _ hg st fun v h' tk hv st' kk=>?_
  obtain ⟨t,rfl⟩:=hv
  have I1:aR X pins σ H { s with heap:=h',toks:=tk }:=I.turned (fun b o hb e=>kk b o (by simpa using hb) e) f0 f1 f3 f4 f5
  refine ⟨_,rfl,yK (s:={ s with heap:=h',toks:=tk }) (n:="range_iterator") st' rfl rfl (by decide) ⟨.int (lo+i),H,I1,⟨t,?_⟩,⟨rfl,rfl⟩,st',fun b hb=>(hf b hb).1⟩⟩
  rw [Int.mul_one]
 done:=by
  intro X hP hw hK hc i pins s σ H E I hf st hg
  subst hP hw hK
  obtain ⟨f0,f1,f2,f3,f4,f5⟩:=hf it (by simp)
  exact wpAny_pyNext_range_end (I.ok.hd hc) st (by have:n<=i:=hg;omega) fun h' eb=>⟨rfl,I.turned (t':=s.toks) (fun b o hb e=>eb b o hb e) f0 f1 f3 f4 f5⟩
 self:=fun _ _ _ _ _ st h=>wpAny_pyIter_rangeiter st h
end L2
namespace L2
open PySem PySem.Spec PyProof.Rows
section
variable {X:Cx}{tg:Expr}
theorem tK {pins:List (Addr × Obj)}{σ:St}{H:Hp}{s:Shared}{R:It->Hp->Prop}{E:Value->Shared->Prop}{lo hi:Int}{t u v:Tok}{tk:Nat} (I:aR X pins σ H s) (h1:-(2 ^ 62)<=lo) (h2:lo<2 ^ 62) (h3:-(2 ^ 62)<=hi) (h4:hi<2 ^ 62)
  (q:R (FC lo (hi - lo).toNat) H):wpAny (model X.prog X.w) X.A (pyIter (.ref s.heap.objs.size)) (Hl X pins σ tg R) E { s with heap:=s.heap.push { cls:=.type "range",data:=.fields #[.int lo t,.int hi u,.int 1 v] },toks:=tk }:=by
 refine wpAny_pyIter_range (IsRange.new ..) (small_one h1 h2 h3 h4) ?_
 have I1:aR X pins σ H { s with heap:=s.heap.push { cls:=.type "range",data:=.fields #[.int lo t,.int hi u,.int 1 v] },toks:=tk }:=I.kept fun b o e=>Jn _ e
 refine ⟨(s.heap.push { cls:=.type "range",data:=.fields #[.int lo t,.int hi u,.int 1 v] }).objs.size,[(s.heap.push { cls:=.type "range",data:=.fields #[.int lo t,.int hi u,.int 1 v] }).objs.size],_,_,H,rfl,
  I1.kept (t':=tk) fun b o e=>Jn _ e,vb _ lo (hi - lo).toNat,?_,fun b hb=>?_,q⟩
 ·have e1 : lo + ((0 : Nat) : Int) * 1 = lo := by simp
  have e2:(((hi - lo).toNat:Nat):Int) - ((0:Nat):Int)=Builtin.Range.rangeSize lo hi 1:=by rw [rangeSize_one];split <;> omega
  show IsRangeIter _ _ (lo+((0:Nat):Int) * 1) ((((hi - lo).toNat:Nat):Int) - ((0:Nat):Int)) 1
  rw [e1,e2]
  exact Jo _ rfl
 ·have e : b = (s.heap.push { cls := .type "range", data := .fields #[.int lo t, .int hi u, .int 1 v] }).objs.size := by simpa using hb
  subst e
  exact I1.fpOk (Jp _) (I1.hok.fresh (Jp _))
def GY (ta:TA):TI:=fun σ H R=>ta σ H fun vs H1=>∃ j:Int,vs=[.int j]/\-(2 ^ 62)<=j/\j<2 ^ 62/\R (FC 0 j.toNat) H1
def GX (ta:TA):TI:=fun σ H R=>ta σ H fun vs H1=>∃ i j:Int,vs=[.int i,.int j]/\(-(2 ^ 62)<=i/\i<2 ^ 62/\-(2 ^ 62)<=j/\j<2 ^ 62)/\R (FC i (j - i).toNat) H1
theorem xy {a:Expr}{ta:TA}{p pos:Pos} (hg:Gl X "range") (hm:X.mg "range" = none) (ha:PA X [a] ta) (hs:starEach [a] X.env=[(false,eval a X.env)]:=by rfl):PI X tg (.Call (.Name "range" p) [a] [] pos) (GY ta):=by
 intro pins s σ H R I h
 refine Call_ (lD I hg hm boot_range (Jq (d3 (ha pos pins s σ H _ I h) fun us s1 ⟨vs,H1,I1,r1,q1⟩=>?_) hs rfl))
 obtain ⟨j,e,q1,q2,q⟩:=q1
 subst e
 cases r1 with
 | cons r rr=>
  cases rr
  obtain ⟨t,rfl⟩:=r
  exact call_range_1 (tK I1 (by omega) (by omega) q1 q2 (by simpa using q))
theorem xv {a b:Expr}{ta:TA}{p pos:Pos} (hg:Gl X "range") (hm:X.mg "range" = none) (ha:PA X [a,b] ta) (hs:starEach [a,b] X.env=[(false,eval a X.env),(false,eval b X.env)]:=by rfl) (hs2:starEach [b] X.env=[(false,eval b X.env)]:=by rfl) :
  PI X tg (.Call (.Name "range" p) [a,b] [] pos) (GX ta):=by
 intro pins s σ H R I h
 refine Call_ (lD I hg hm boot_range (Jq (d3 (ha pos pins s σ H _ I h) fun us s1 ⟨vs,H1,I1,r1,q1⟩=>?_) (by rw [hs,hs2]) (by rw [hs2];rfl)))
 obtain ⟨i,j,e,⟨q1,q2,q3,q4⟩,q⟩:=q1
 subst e
 cases r1 with
 | cons r rr=>
  cases rr with
  | cons r' rr=>
   cases rr
   obtain ⟨t,rfl⟩:=r
   obtain ⟨t',rfl⟩:=r'
   exact call_range_2 (tK I1 q1 q2 q3 q4 q)
def HA (wi:TI) (g:TG) (tb:TS):TS:=fun D σ H=>wi σ H fun J H1=>∃ W:Nat->Nat->St->Hp->Prop,(∃ m,W 0 m σ H1)/\∀ i m σ H,W i m σ H ->
 (J.stop i H/\D.nx σ H)\/(J.go i H/\∃ N:St->Hp->Prop,(∀ σ' H',N σ' H'->∃ m',m'<m/\W (i+1) m' σ' H')/\∀ x H',J.yld i H x H'->g x σ H' fun σ2 H2=>tb { D with nx:=N,ct:=N,bk:=D.nx } σ2 H2)
def oj (fp:List Addr) (h:Heap):List (Addr × Obj):=fp.filterMap fun b=>(h.get? b).map fun o=>(b,o)
theorem jD {fp:List Addr}{h:Heap}{b:Addr}{o:Obj} (hb:b∈fp) (e:h.get? b=some o):(b,o)∈oj fp h:=Jr.mpr ⟨b,hb,by rw [e];rfl⟩
theorem xI {fp:List Addr}{h:Heap}{p:Addr × Obj} (hp:p∈oj fp h):p.1∈fp/\h.get? p.1=some p.2:=by
 obtain ⟨b,hb,e⟩:=Jr.mp hp
 cases q:h.get? b with
 | none=>rw [q] at e;cases e
 | some o=>
  rw [q] at e
  have e':(b,o)=p:=IF e
  subst e'
  exact ⟨hb,q⟩
theorem aR.pinned {pins:List (Addr × Obj)}{σ:St}{H:Hp}{s:Shared}{fp:List Addr} (I:aR X pins σ H s) (hf:∀ b∈fp,lR X pins H b) (ho:∀ b∈fp,∃ o,s.heap.get? b=some o/\∀ v,o.data≠.cell v):aR X (pins++oj fp s.heap) σ H s:=
 I.pins_of fun p hp=>(IV.mp hp).elim (fun z=>I.pin p (Js _ z)) fun z=>by
  obtain ⟨hb,e⟩:=xI z
  obtain ⟨f0,f1,f2,_⟩:=hf p.1 hb
  obtain ⟨o,e',d⟩:=ho p.1 hb
  rw [e] at e';cases e'
  exact ⟨e,f0,f1,f2,d⟩
theorem aR.unpinned {pins pl:List (Addr × Obj)}{σ:St}{H:Hp}{s:Shared} (I:aR X (pins++pl) σ H s):aR X pins σ H s:=I.pins_of fun p hp=>I.pin p (Js _ (IW _ hp))
theorem Ep {iter:Expr}{body:List Stmt}{wi:TI}{g:TG}{tb:TS}{pos:Pos} (hp:PassesOwn (model X.prog X.w) X.A X.env X.xe) (hc:X.calm=true) (hi:PI X tg iter wi) (hg:PG X tg g) (hb:jZ X body tb)
  (hs:∀ x,foldedSetIterable iter X.env x=pure x:=by intro _;rfl):PS X (.For tg iter body [] pos) (HA wi g tb):=by
 intro pins s σ H D I h
 refine wpAny_For (d3 (hi pins s σ H _ I h) fun v s1 h1=>d3 h1 fun itv s2 h2=>?_) hs
 obtain ⟨it,fp,tn,J,H2,e,I2,T,st2,f2,W,⟨m0,w0⟩,turn⟩:=h2
 subst e
 have stat:∀ {H':Hp},(∀ b∈fp,H' b=none)->∀ b∈fp,lR X pins H' b:=fun hn b hb=>⟨hn b hb,(f2 b hb).2⟩
 refine codeAny_forLoop_any (fun n s'=>∃ i σ' H',aR X pins σ' H' s'/\tn i s'.heap/\(∀ b∈fp,H' b=none)/\W i n σ' H') ?_ m0 ⟨0,σ,H2,I2,st2,fun b hb=>(f2 b hb).1,w0⟩
 rintro n s3 ⟨i,σ3,H3,I3,st3,fr3,w3⟩
 rcases turn i n σ3 H3 w3 with ⟨stop,qn⟩ | ⟨go,N,hN,step⟩
 ·refine Ji hp (d3 (T.done X rfl rfl rfl hc i pins s3 σ3 H3 X.xe I3 (stat fr3) st3 stop) fun r s4 ⟨hr, I4⟩ => ?_)
  subst hr
  exact Je ⟨σ3,H3,I4,qn⟩
 ·refine Ji hp (d3 (T.item X rfl rfl rfl hc i pins s3 σ3 H3 X.xe I3 (stat fr3) st3 go) fun r s4 ⟨u, hr, h4⟩ => ?_)
  subst hr
  refine Ji hp (d3 h4 fun _ s5 ⟨x,H5,I5,r5,y5,st5,fr5⟩=>?_)
  have I5':=I5.pinned (stat fr5) (T.obj _ _ st5)
  refine Ji hp (d3 (hg _ s5 σ3 H5 x u _ I5' r5 (step x H5 y5)) fun _ s6 ⟨σ6,H6,I6,q6⟩=>?_)
  refine Ji hp (d3 (hb _ s6 σ6 H6 _ I6 q6) fun f s7 q7=>?_)
  have again:∀ {σ7:St}{H7:Hp},aR X (pins++oj fp s5.heap) σ7 H7 s7->N σ7 H7->∃ m,m<n/\∃ i σ' H',aR X pins σ' H' s7/\tn i s7.heap/\(∀ b∈fp,H' b=none)/\W i m σ' H':=fun {σ7 H7} I7 n7=>by
   obtain ⟨m',hm,w7⟩:=hN σ7 H7 n7
   refine ⟨m',hm,i+1,σ7,H7,I7.unpinned,T.keep _ _ _ st5 fun b hb o e=>(I7.pin (b,o) (Js _ (Js _ (jD hb e)))).1,fun b hb=>?_,w7⟩
   obtain ⟨o,e,d⟩:=T.obj _ _ st5 b hb
   exact (I7.pin (b,o) (Js _ (Js _ (jD hb e)))).2.1
  cases f with
  | next=>obtain ⟨σ7,H7,I7,n7⟩:=q7;exact again I7 n7
  | cont=>obtain ⟨σ7,H7,I7,n7⟩:=q7;exact again I7 n7
  | brk=>obtain ⟨σ7,H7,I7,q7⟩:=q7;exact ⟨σ7,H7,I7.unpinned,q7⟩
  | ret v=>obtain ⟨x7,σ7,H7,I7,r7,q7⟩:=q7;exact ⟨x7,σ7,H7,I7.unpinned,r7,q7⟩
end
end L2
namespace L2
open PySem PySem.Spec PyProof.Rows
abbrev R2:=V->V->Hp->VK->Prop
def jQ (X:Cx) (f:Value->Value->Sem Value) (r:R2):Prop:=
 ∀ (pins:List (Addr × Obj)) (s:Shared) (σ:St) (H:Hp) (x y:V) (v u:Value) (Q:VK),aR X pins σ H s->cn x v->cn y u->r x y H Q ->
  wpAny (model X.prog X.w) X.A (f v u) (EP X pins σ Q) X.xe s
def He (X:Cx) (f:Value->Sem Value) (r:V->Hp->VK->Prop):Prop:=
 ∀ (pins:List (Addr × Obj)) (s:Shared) (σ:St) (H:Hp) (x:V) (v:Value) (Q:VK),aR X pins σ H s->cn x v->r x H Q ->
  wpAny (model X.prog X.w) X.A (f v) (EP X pins σ Q) X.xe s
def dj (X:Cx) (f:Value) (r:List V->Hp->VK->Prop):Prop:=
 ∀ (pins:List (Addr × Obj)) (s:Shared) (σ:St) (H:Hp) (xs:List V) (us:List Value) (Q:VK),aR X pins σ H s->ba xs us->r xs H Q ->
  wpAny (model X.prog X.w) X.A (call f us) (EP X pins σ Q) X.xe s
def HQ (X:Cx) (r:V->Hp->(Bool->Hp->Prop)->Prop):Prop:=
 ∀ (pins:List (Addr × Obj)) (s:Shared) (σ:St) (H:Hp) (x:V) (v:Value) (Q:Bool->Hp->Prop),aR X pins σ H s->cn x v->r x H Q ->
  wpAny (model X.prog X.w) X.A (truthy v) (TP X pins σ Q) X.xe s
def G8 (r:R2) (ta tb:TE):TE:=fun σ H Q=>ta σ H fun x H1=>tb σ H1 fun y H2=>r x y H2 Q
def Ii (r:V->Hp->VK->Prop) (ta:TE):TE:=fun σ H Q=>ta σ H fun x H1=>r x H1 Q
def rI (C:Int->Int->Prop) (g:Int->Int->V):R2:=fun x y H Q=>∃ i j,x=.int i/\y=.int j/\C i j/\Q (g i j) H
def FF (g:Int->Int->V):R2:=fun x y H Q=>∃ i j,x=.int i/\y=.int j/\Q (g i j) H
def rU (g:Int->V):V->Hp->VK->Prop:=fun x H Q=>∃ i,x=.int i/\Q (g i) H
section
variable {X:Cx}{a b c:Expr}{ta tb tc:TE}{pos:Pos}
theorem Dv (ha:PE X a ta) (hb:PE X b tb) {pins:List (Addr × Obj)}{s:Shared}{σ:St}{H:Hp}{R:V->V->Hp->Prop} (I:aR X pins σ H s)
  (h:ta σ H fun x H1=>tb σ H1 fun y H2=>R x y H2) {Q:Value->Shared->Prop}{f:Value->Value->Sem Value}
  (hf:∀ v u s2 x y H2,aR X pins σ H2 s2->cn x v->cn y u->R x y H2->wpAny (model X.prog X.w) X.A (f v u) Q X.xe s2) :
  wpAny (model X.prog X.w) X.A (eval a X.env) (fun v s₁=>wpAny (model X.prog X.w) X.A (eval b X.env) (fun u s₂=>wpAny (model X.prog X.w) X.A (f v u) Q X.xe s₂) X.xe s₁) X.xe s:=by
 refine d3 (ha pins s σ H _ I h) fun v s1 ⟨x,H1,I1,r1,q1⟩=>?_
 refine d3 (hb pins s1 σ H1 _ I1 q1) fun u s2 ⟨y,H2,I2,r2,q2⟩=>?_
 exact hf v u s2 x y H2 I2 r1 r2 q2
theorem GN {op:Operator}{r:R2} (ho:jQ X (binaryOp op) r) (ha:PE X a ta) (hb:PE X b tb):PE X (.BinOp a op b pos) (G8 r ta tb):=by
 intro pins s σ H Q I h
 exact wpAny_BinOp (Dv ha hb I h fun v u s2 x y H2 I2 rx ry q=>ho pins s2 σ H2 x y v u Q I2 rx ry q)
theorem GM {op:UnaryOp}{r:V->Hp->VK->Prop} (ho:He X (unaryOp op) r) (ha:PE X a ta):PE X (.UnaryOp op a pos) (Ii r ta):=by
 intro pins s σ H Q I h
 exact UnaryOp_ (d3 (ha pins s σ H _ I h) fun v s1 ⟨x,H1,I1,r1,q1⟩=>ho pins s1 σ H1 x v Q I1 r1 q1)
theorem G9 {f:Value->Value->Sem Value}{C:Int->Int->Prop}{g:Int->Int->Int}
  (rule:∀ (i j:Int) (t u:Tok) (s:Shared) (Q:Value->Shared->Prop) (E:Value->Shared->Prop),C i j->Q (.int (g i j) s.toks) { s with toks:=s.toks+1 }->wpAny (model X.prog X.w) X.A (f (.int i t) (.int j u)) Q E s) :
  jQ X f (rI C fun i j=>.int (g i j)):=by
 intro pins s σ H x y v u Q I rx ry h
 obtain ⟨i,j,rfl,rfl,hc,q⟩:=h
 obtain ⟨t,rfl⟩:=rx
 obtain ⟨t',rfl⟩:=ry
 exact rule i j t t' s _ _ hc ⟨.int (g i j),H,I.tok _,⟨_,rfl⟩,q⟩
theorem F4 {f:Value->Value->Sem Value}{g:Int->Int->Int}
  (rule:∀ (i j:Int) (t u:Tok) (s:Shared) (Q:Value->Shared->Prop) (E:Value->Shared->Prop),Q (.int (g i j) s.toks) { s with toks:=s.toks+1 }->wpAny (model X.prog X.w) X.A (f (.int i t) (.int j u)) Q E s) :
  jQ X f (FF fun i j=>.int (g i j)):=by
 intro pins s σ H x y v u Q I rx ry h
 obtain ⟨i,j,rfl,rfl,q⟩:=h
 obtain ⟨t,rfl⟩:=rx
 obtain ⟨t',rfl⟩:=ry
 exact rule i j t t' s _ _ ⟨.int (g i j),H,I.tok _,⟨_,rfl⟩,q⟩
def AY (i j:Int):Prop:=0<j/\j<1073741824
def Dz (i j:Int):Prop:=0<=j/\j<=1000000/\i.natAbs<2 ^ 64
def sS (i j:Int):Prop:=(-(2 ^ 64)<i/\i<2 ^ 64)\/(-(2 ^ 64)<j/\j<2 ^ 64)
theorem sS.ok {i j:Int} (h:sS i j):IntMulOk i j:=by
 rcases h with ⟨h1,h2⟩ | ⟨h1,h2⟩
 ·exact .of_left (intBits_le_64 h1 h2)
 ·exact .of_right (intBits_le_64 h1 h2)
theorem ES:jQ X (binaryOp .Add) (FF fun i j=>.int (i+j)):=F4 fun _ _ _ _ _ _ _ q=>add_int q
theorem EG:jQ X (binaryOp .Sub) (FF fun i j=>.int (i - j)):=F4 fun _ _ _ _ _ _ _ q=>sub_int q
theorem EK:jQ X (binaryOp .Mult) (rI sS fun i j=>.int (i * j)):=G9 fun _ _ _ _ _ _ _ hc q=>mul_int q hc.ok
theorem B3:jQ X (binaryOp .FloorDiv) (rI AY fun i j=>.int (i / j)):=G9 fun i j _ _ _ _ _ hc q=>by
 have h1:(0:Int)<j:=hc.1
 have h2:j<1073741824:=hc.2
 exact floordiv_int (by omega) (by rw [Int.fdiv_eq_ediv_of_nonneg i (by omega)];exact q) (.inl (PyProof.noPylong_small (by omega)))
theorem EL:jQ X (binaryOp .Mod) (rI (fun _ j=>0<j) fun i j=>.int (i % j)):=G9 fun i j _ _ _ _ _ hc q=>by
 have h1:(0:Int)<j:=hc
 exact mod_int' (by omega) (by rw [Int.fmod_eq_emod_of_nonneg i (by omega)];exact q)
theorem EI:jQ X (binaryOp .Pow) (rI Dz fun i j=>.int (i ^ j.toNat)):=G9 fun _ _ _ _ _ _ _ hc q=>pow_int_small hc.1 hc.2.1 hc.2.2 q
theorem Ih {f:Value->Sem Value}{g:Int->Int}
  (rule:∀ (i:Int) (t:Tok) (s:Shared) (Q:Value->Shared->Prop) (E:Value->Shared->Prop),Q (.int (g i) s.toks) { s with toks:=s.toks+1 }->wpAny (model X.prog X.w) X.A (f (.int i t)) Q E s) :
  He X f (rU fun i=>.int (g i)):=by
 intro pins s σ H x v Q I rx h
 obtain ⟨i,rfl,q⟩:=h
 obtain ⟨t,rfl⟩:=rx
 exact rule i t s _ _ ⟨.int (g i),H,I.tok _,⟨_,rfl⟩,q⟩
theorem DD:He X (unaryOp .USub) (rU fun i=>.int (-i)):=Ih fun _ _ _ _ _ q=>neg_int q
end
section
variable {X:Cx}{a b c:Expr}{ta tb tc:TE}{pos:Pos}
theorem zd {pins:List (Addr × Obj)}{σ:St}{H:Hp}{s:Shared}{Q:VK}{k k':Bool} (I:aR X pins σ H s) (q:Q (.bl k) H) (e:k=k'):EP X pins σ Q (.bool k') s:=by
 subst e
 exact ⟨.bl k,H,I,rfl,q⟩
theorem EM:jQ X (compareOp .Is) (fun x y H Q=>y=.non/\Q (.bl (decide (x=.non))) H):=by
 intro pins s σ H x y v u Q I rx ry h
 obtain ⟨rfl,q⟩:=h
 cases ry
 refine is_none_gen (zd I q ?_)
 cases x <;> first
  | (cases rx;rfl)
  | (obtain ⟨t,rfl⟩:=rx;rfl)
theorem B1:jQ X (compareOp .IsNot) (fun x y H Q=>y=.non/\Q (.bl (!decide (x=.non))) H):=by
 intro pins s σ H x y v u Q I rx ry h
 obtain ⟨rfl,q⟩:=h
 cases ry
 refine isnot_none_gen (zd I q ?_)
 cases x <;> first
  | (cases rx;rfl)
  | (obtain ⟨t,rfl⟩:=rx;rfl)
theorem jQ.or {f:Value->Value->Sem Value}{r r':R2} (h:jQ X f r) (h':jQ X f r'):jQ X f (fun x y H Q=>r x y H Q\/r' x y H Q):=by
 intro pins s σ H x y v u Q I rx ry q
 rcases q with q | q
 ·exact h pins s σ H x y v u Q I rx ry q
 ·exact h' pins s σ H x y v u Q I rx ry q
theorem BW {op:CmpOp}{r:R2} (ho:jQ X (compareOp op) r) (ha:PE X a ta) (hb:PE X b tb) (hm:behindInMarks op b=false):PE X (.Compare a [op] [b] pos) (G8 r ta tb):=by
 intro pins s σ H Q I h
 exact wpAny_Compare1 (Dv ha hb I h fun v u s2 x y H2 I2 rx ry q=>ho pins s2 σ H2 x y v u Q I2 rx ry q) hm
def Gk (t:TE):TT:=fun σ H Q=>t σ H fun x H'=>∃ k,x=.bl k/\Q k H'
theorem BI {op:CmpOp}{r:R2} (ho:jQ X (compareOp op) r) (ha:PE X a ta) (hb:PE X b tb) (hm:behindInMarks op b=false):PT X (.Compare a [op] [b] pos) (Gk (G8 r ta tb)):=by
 intro pins s σ H Q I h
 refine wpAny_isTrue_Compare1 (d3 (ha pins s σ H _ I h) fun v s1 ⟨x,H1,I1,r1,q1⟩=>d3 (hb pins s1 σ H1 _ I1 q1) fun u s2 ⟨y,H2,I2,r2,q2⟩=>
  d3 (ho pins s2 σ H2 x y v u _ I2 r1 r2 q2) fun c s3 ⟨z,H3,I3,r3,k,e,q3⟩=>?_) hm
 subst e
 cases r3
 exact Jb ⟨H3,I3,q3⟩
def yW (r r':R2) (ta tb tc:TE):TE:=fun σ H Q=>ta σ H fun x H1=>tb σ H1 fun y H2=>r x y H2 fun z H3=>∃ k,z=.bl k /\
 (if k=true then tc σ H3 fun w' H4=>r' y w' H4 Q else Q (.bl false) H3)
theorem zX {op op':CmpOp}{r r':R2} (ho:jQ X (compareOp op) r) (ho':jQ X (compareOp op') r') (ha:PE X a ta) (hb:PE X b tb) (hc:PE X c tc)
  (hm:lastMarks [op,op'] [b,c]=false:=by with_unfolding_all rfl):PE X (.Compare a [op,op'] [b,c] pos) (yW r r' ta tb tc):=by
 intro pins s σ H Q I h
 refine Compare_chain (d3 (ha pins s σ H _ I h) fun v s1 ⟨x,H1,I1,r1,q1⟩=>chain_link (d3 (hb pins s1 σ H1 _ I1 q1) fun u s2 ⟨y,H2,I2,r2,q2⟩=>
  d3 (ho pins s2 σ H2 x y v u _ I2 r1 r2 q2) fun d s3 ⟨z,H3,I3,r3,k,e,q3⟩=>?_)) hm
 subst e
 cases r3
 refine Jb ?_
 cases k with
 | false=>exact ite_ff ⟨.bl false,H3,I3,rfl,q3⟩
 | true=>exact ite_tt (chain_last (d3 (hc pins s3 σ H3 _ I3 q3) fun w' s4 ⟨z',H4,I4,r4,q4⟩=>ho' pins s4 σ H4 y z' u w' Q I4 r2 r4 q4))
def Dw (K:W.Frag) (x:V) (H:Hp) (k:Bool):Prop:=
 match x with
 | .non=>k=false
 | .bl b=>k=b
 | .int i=>k=(i != 0)
 | .str y=>y.length<=sizeLine/\k=((y.length:Int) != 0)
 | .byt y=>y.size<=sizeLine/\k=((y.size:Int) != 0)
 | .ref p=>(∃ xs,f7 K H p xs/\k=!xs.isEmpty)\/(∃ xs,fB K H p xs/\k=!xs.isEmpty)\/∃ kvs,H p=some (.dK kvs)/\k=!kvs.isEmpty
 | _=>False
theorem vC {κ:Type}{kvs:List (κ × V)}{vs:List (κ × Value)} (r:KV kvs vs):(!vs.isEmpty)=!kvs.isEmpty:=by
 cases r <;> rfl
theorem pb {xs:List V}{its:List Value} (r:ba xs its):(!its.toArray.isEmpty)=!xs.isEmpty:=by
 cases r <;> simp
theorem mO:(sizeLine:Nat)<2 ^ 63:=by rw [Jt];decide
theorem DG:HQ X (fun x H Q=>∃ k,Dw X.K x H k/\Q k H):=by
 intro pins s σ H x v Q I rx h
 obtain ⟨k,e,q⟩:=h
 have hl:=mO
 have hs:sizeLine=16777216:=Jt
 cases x with
 | non=>
  cases rx
  have e':k=false:=e
  subst e'
  exact truthy_none ⟨H,I,q⟩
 | bl b=>
  cases rx
  have e':k=b:=e
  subst e'
  exact Jb ⟨H,I,q⟩
 | int i=>
  obtain ⟨t,rfl⟩:=rx
  have e':k=(i != 0):=e
  subst e'
  exact PySem.P.truthy_int ⟨H,I,q⟩
 | str y=>
  obtain ⟨t,rfl⟩:=rx
  obtain ⟨hy,e'⟩:y.length<=sizeLine/\k=((y.length:Int) != 0):=e
  subst e'
  exact PySem.P.truthy_str (by omega) ⟨H,I.tok _,q⟩
 | byt y=>
  obtain ⟨t,rfl⟩:=rx
  obtain ⟨hy,e'⟩:y.size<=sizeLine/\k=((y.size:Int) != 0):=e
  subst e'
  exact W.truthy_bytes (by omega) ⟨H,I.tok _,q⟩
 | ref p=>
  cases rx
  have e':(∃ xs,f7 X.K H p xs/\k=!xs.isEmpty)\/(∃ xs,fB X.K H p xs/\k=!xs.isEmpty)\/∃ kvs,H p=some (.dK kvs)/\k=!kvs.isEmpty:=e
  rcases e' with ⟨xs,hx,e'⟩ | ⟨xs,hx,e'⟩ | ⟨kvs,hx,e'⟩
  ·subst e'
   obtain ⟨its,r,pl,hz⟩:=I.list hx
   have hlen:=r.length
   exact wpAny_truthy_list pl.isList (by simp only [Ju];omega) ⟨H,I.tok _,by rw [pb r];exact q⟩
  ·subst e'
   obtain ⟨its,r,pl,hz⟩:=I.tuple hx
   have hlen:=r.length
   exact truthy_tuple pl (by simp only [Ju];omega) ⟨H,I.tok _,by rw [pb r];exact q⟩
  ·subst e'
   obtain ⟨hz,hS,vs,r,m⟩:kvs.length<=sizeLine/\(p == sysModules)=false/\∃ vs,KV kvs vs/\s.heap.DictOf (rZ X.prog X.w) p vs:=I.hok p _ hx
   have hlen:kvs.length=vs.length:=Paired.length r
   exact wpAny_truthy_dict hS m (by omega) ⟨H,I.tok _,by rw [vC r];exact q⟩
 | _=>exact (show False from e).elim
theorem zN (ha:PE X a ta) (he:∀ whole,isTrue a X.env whole=(do let v <- whole;standAt a.pos;holding [v] (truthy v))) :
  PT X a (fun σ H Q=>ta σ H fun x H'=>∃ k,Dw X.K x H' k/\Q k H'):=by
 intro pins s σ H Q I h
 exact isTrue_plain (d3 (ha pins s σ H _ I h) fun v s1 ⟨x,H1,I1,r1,q1⟩=>DG pins s1 σ H1 x v Q I1 r1 q1) (he _)
theorem vt:jQ X (binaryOp .Add) (fun x y H Q=>∃ i j,x=.str i/\y=.str j/\i.length+j.length<=sizeLine/\Q (.str (i++j)) H):=by
 intro pins s σ H x y v u Q I rx ry h
 obtain ⟨i,j,rfl,rfl,hz,q⟩:=h
 obtain ⟨t,rfl⟩:=rx
 obtain ⟨t',rfl⟩:=ry
 exact add_str (fun t' tk=>⟨.str (i++j),H,I.tok _,⟨_,rfl⟩,q⟩) hz
theorem gX {x:V}{us:List Value} (r:ba [x] us):∃ u,us=[u]/\cn x u:=by
 cases r with
 | cons r1 r2=>cases r2;exact ⟨_,rfl,r1⟩
theorem yA {x y:V}{us:List Value} (r:ba [x,y] us):∃ u w',us=[u,w']/\cn x u/\cn y w':=by
 cases r with
 | cons r1 r2=>
  cases r2 with
  | cons r3 r4=>cases r4;exact ⟨_,_,rfl,r1,r3⟩
theorem x6 (hc:X.calm=true):dj X (.builtin "max") (fun xs H Q=>∃ i j,xs=[.int i,.int j]/\Q (.int (if j > i then j else i)) H):=by
 intro pins s σ H xs us Q I r h
 obtain ⟨i,j,rfl,q⟩:=h
 obtain ⟨u,w',rfl,⟨t,rfl⟩,⟨t',rfl⟩⟩:=yA r
 refine max_two_ints (I.ok.hd hc) fun h' tk k=>⟨_,H,I.kept k,?_,q⟩
 by_cases hj:j > i
 ·rw [ID hj,ID hj];exact ⟨_,rfl⟩
 ·rw [IE hj,IE hj];exact ⟨_,rfl⟩
theorem x4 (hc:X.calm=true):dj X (.builtin "min") (fun xs H Q=>∃ i j,xs=[.int i,.int j]/\Q (.int (if j<i then j else i)) H):=by
 intro pins s σ H xs us Q I r h
 obtain ⟨i,j,rfl,q⟩:=h
 obtain ⟨u,w',rfl,⟨t,rfl⟩,⟨t',rfl⟩⟩:=yA r
 refine min_two_ints (I.ok.hd hc) fun h' tk k=>⟨_,H,I.kept k,?_,q⟩
 by_cases hj:j<i
 ·rw [ID hj,ID hj];exact ⟨_,rfl⟩
 ·rw [IE hj,IE hj];exact ⟨_,rfl⟩
theorem yb:dj X (.type "int") (fun xs H Q=>(∃ i,xs=[.int i]/\Q (.int i) H)\/∃ k,xs=[.bl k]/\Q (.int (if k then 1 else 0)) H):=by
 intro pins s σ H xs us Q I r h
 rcases h with ⟨i,rfl,q⟩ | ⟨k,rfl,q⟩
 ·obtain ⟨u, rfl, t, rfl⟩ := gX r
  exact call_int_int ⟨.int i,H,I,⟨_,rfl⟩,q⟩
 ·obtain ⟨u, rfl, r1⟩ := gX r
  cases r1
  exact call_int_bool ⟨.int (if k then 1 else 0),H,I.tok _,⟨_,rfl⟩,q⟩
def Dy (K:W.Frag) (x:V) (H:Hp) (n:Nat):Prop:=
 match x with
 | .str y=>y.length<=sizeLine/\n=y.length
 | .byt y=>y.size<=sizeLine/\n=y.size
 | .ref p=>(∃ xs,f7 K H p xs/\n=xs.length)\/∃ xs,fB K H p xs/\n=xs.length
 | _=>False
theorem Au:dj X (.builtin "len") (fun xs H Q=>∃ x n,xs=[x]/\Dy X.K x H n/\Q (.int n) H):=by
 intro pins s σ H xs us Q I r h
 obtain ⟨x,n,rfl,e,q⟩:=h
 obtain ⟨u,rfl,rx⟩:=gX r
 have hl:=mO
 have hs:sizeLine=16777216:=Jt
 cases x with
 | str y=>
  obtain ⟨t,rfl⟩:=rx
  obtain ⟨hy,e'⟩:y.length<=sizeLine/\n=y.length:=e
  subst e'
  exact len_str (by omega) ⟨.int _,H,I.tok _,⟨_,rfl⟩,q⟩
 | byt y=>
  obtain ⟨t,rfl⟩:=rx
  obtain ⟨hy,e'⟩:y.size<=sizeLine/\n=y.size:=e
  subst e'
  exact W.len_bytes (by omega) ⟨.int _,H,I.tok _,⟨_,rfl⟩,q⟩
 | ref p=>
  cases rx
  have e':(∃ xs,f7 X.K H p xs/\n=xs.length)\/∃ xs,fB X.K H p xs/\n=xs.length:=e
  rcases e' with ⟨xs,hx,e'⟩ | ⟨xs,hx,e'⟩
  ·subst e'
   obtain ⟨its,r',pl,hz⟩:=I.list hx
   have hlen:=r'.length
   exact Calls.call_len_list pl.isList (by simp only [Ju];omega) ⟨.int xs.length,H,I.tok _,⟨_,by simp only [Ju];rw [hlen]⟩,q⟩
  ·subst e'
   obtain ⟨its,r',pl,hz⟩:=I.tuple hx
   have hlen:=r'.length
   exact len_tuple pl (by simp only [Ju];omega) ⟨.int xs.length,H,I.tok _,⟨_,by simp only [Ju];rw [hlen]⟩,q⟩
 | _=>exact (show False from e).elim
end
end L2
namespace L2
open PySem PySem.Spec PyProof.Rows
structure Ir (h:Heap) (x dx C:Addr) (mA:Str->Option Value):Prop where
 obj:h.get? x=some (W.instObj C dx)
 ns:h.Ns1 dx mA
 ne:dx≠x
section
variable {prog:Program}{w:World}{A:Around}{E:Value->Shared->Prop}{s:Shared}{K:W.Frag}{x dx C f:Addr}{mA:Str->Option Value}{name:Str}{v:Value}
end
section
variable {P:Program}{w:World}{H H':Hp}{h h':Heap}{a C dx:Addr}{fs fs':List (Str × V)}
end
structure Iq (K:W.Frag) (C:Addr):Prop where
 pg:W.plainGet K C Str.empty=true
 hd:W.hasDictIn K C=true
 po:W.plainOver K C=true
 sa:W.findIn K (.ref C) "__setattr__" = some (some (.builtin "object.__setattr__"))
structure Iw (K:W.Frag) (C:Addr) (f:Str) (v:V) (u:Value):Prop where
 at_:W.findIn K (.ref C) f=some (some u)
 rel:cn v u
 get:W.specialIn K u "__get__" = some none
 cp:W.copiedNames.contains f=false
structure Iu (K:W.Frag) (C:Addr) (m:Str) (f:Addr):Prop where
 at_:W.findIn K (.ref C) m=some (some (.ref f))
 fn:W.isFn K (.ref f)=true
 kp:W.keepIn K (.ref f)=true
section
variable {X:Cx}{pins:List (Addr × Obj)}{σ:St}{H:Hp}{s:Shared}{a C dx:Addr}{fs:List (Str × V)}{f:Str}{v:V}{A:Around}{E:Value->Shared->Prop}
end
section
variable {X:Cx}{o e value:Expr}{f:Str}{pos pos' tpos:Pos}{ta tv:TE}
end
section
variable {X:Cx}{pins:List (Addr × Obj)}{σ:St}{H:Hp}{s:Shared}{A:Around}{E:Value->Shared->Prop}{Q:Value->Shared->Prop}{c:Value}{b:Bool}
inductive n6 (K:W.Frag) (H:Hp):V->Value->Prop where
 | non:n6 K H .non (.type "NoneType")
 | bl (x:Bool):n6 K H (.bl x) (.type "bool")
 | int (i:Int):n6 K H (.int i) (.type "int")
 | str (x:Str):n6 K H (.str x) (.type "str")
 | flt (x:UInt64):n6 K H (.flt x) (.type "float")
 | lst {a:Addr}{xs:List V} (e:H a=some (.lst xs)):n6 K H (.ref a) (.type "list")
 | frz {a:Addr}{o:Obj}{xs:List V} (e:H a=some (.frz o (.lst xs))):n6 K H (.ref a) (.type "list")
 | tup {a:Addr}{xs:List V} (e:H a=some (.tup xs)):n6 K H (.ref a) (.type "tuple")
 | dK {a:Addr}{kvs:List (rA × V)} (e:H a=some (.dK kvs)):n6 K H (.ref a) (.type "dict")
 | dT {a:Addr}{kvs:List (List rA × V)} (e:H a=some (.dT kvs)):n6 K H (.ref a) (.type "dict")
 | ins {a C dx:Addr}{fs:List (Str × V)} (e:H a=some (.ins C dx fs)) (cl:Iq K C) (ha:W.findIn K (.ref C) "__class__" = some (some (.builtin "object.__class__")))
   (hn:W.specialIn K (.builtin "object.__class__") "__get__" = some (some (.builtin "getset_descriptor.__get__"))) (htk:W.takesIn K (.builtin "object.__class__")=some true)
   (hm:W.mroIn K C (.type "object")=some true):n6 K H (.ref a) (.ref C)
end
end L2
namespace L2
open PySem PySem.Spec PyProof.Rows
structure iG (k:Nat) (A:Around):Prop where
 hd:A.handled=none
 dp:A.depth+3 * k+5<recursionLimit
 un:A.units+16 * k+200<cLine
 gd:A.guards=some []
theorem iG.mono {j k:Nat}{A:Around} (r:iG k A) (h:j<=k):iG j A:=⟨r.hd,by have:=r.dp;omega,by have:=r.un;omega,r.gd⟩
theorem iG.deeper {k:Nat}{A:Around} (r:iG (k+1) A) (env:Env):iG k (A.deeper env):=
 ⟨r.hd,by have:=r.dp;show A.depth+1+3 * k+5<_;omega,by have:=r.un;show A.units+3+16 * k+200<_;omega,r.gd⟩
theorem iG.depth {k:Nat}{A:Around} (r:iG k A):A.depth<recursionLimit:=by have:=r.dp;omega
theorem iG.units {k:Nat}{A:Around} (r:iG k A):A.units+64<cLine:=by have:=r.un;omega
def Hw:TA:=fun _ H Q=>Q [] H
def Gu (ta:TE) (tr:TA):TA:=fun σ H Q=>ta σ H fun x H1=>tr σ H1 fun xs H2=>Q (x::xs) H2
section
variable {X:Cx}{e:Expr}{es:List Expr}{te:TE}{t:TA}{pos:Pos}
theorem uX:PA X [] Hw:=fun _ _ _ _ H Q I h=>Calls.spliced_nil ⟨[],H,I,.nil,h⟩
theorem nR (ha:PE X e te) (hr:PA X es t) (hs:starEach (e::es) X.env=(false,eval e X.env)::starEach es X.env:=by rfl):PA X (e::es) (Gu te t):=by
 intro pos pins s σ H Q I h
 rw [hs]
 show wpAny _ _ (spliced ((false,eval e X.env)::backTo pos (starEach es X.env))) _ _ s
 refine Calls.spliced_cons (d3 (ha pins s σ H _ I h) fun u s1 ⟨x,H1,I1,r1,q1⟩=>?_)
 exact d3 (hr pos pins s1 σ H1 _ I1 q1) fun us s2 ⟨xs,H2,I2,r2,q2⟩=>⟨x::xs,H2,I2,.cons r1 r2,q2⟩
def Hs (t:TA):TE:=fun σ H Q=>t σ H fun xs H1=>xs.length<=sizeLine/\∀ p,H1 p=none->Q (.ref p) (cq H1 p (.tup xs))
def Hx (t:TA):TE:=fun σ H Q=>t σ H fun xs H1=>xs.length<=sizeLine/\∀ p,H1 p=none->Q (.ref p) (cq H1 p (.lst xs))
theorem Ey {x1} (h:PA X es t):PE X (.Tuple es x1 pos) (Hs t):=by
 intro pins s σ H Q I hq
 refine wpAny_Tuple_spliced (d3 (h pos pins s σ H _ I hq) fun us s1 ⟨xs,H1,I1,r,z,q⟩=>⟨by rw [<- r.length];exact z,?_⟩)
 have hf:H1 s1.heap.objs.size=none:=I1.hok.fresh (Jp _)
 refine ⟨.ref s1.heap.objs.size,cq H1 s1.heap.objs.size (.tup xs),I1.laid (t':=s1.toks) (fun b u e=>Jn _ e) (Jp _) ?_,rfl,q _ hf⟩
 exact ⟨z,us,r,⟨_,Jo _ rfl,rfl,_,rfl⟩⟩
theorem EC (h:PA X es t):PE X (.List es pos) (Hx t):=by
 intro pins s σ H Q I hq
 refine wpAny_List_spliced (d3 (h pos pins s σ H _ I hq) fun us s1 ⟨xs,H1,I1,r,z,q⟩=>⟨by rw [<- r.length];exact z,?_⟩)
 have hf:H1 s1.heap.objs.size=none:=I1.hok.fresh (Jp _)
 refine ⟨.ref s1.heap.objs.size,cq H1 s1.heap.objs.size (.lst xs),I1.laid (t':=s1.toks) (fun b u e=>Jn _ e) (Jp _) ?_,rfl,q _ hf⟩
 exact ⟨z,us,0,r,Jo _ rfl⟩
end
abbrev Sp:=List V->Hp->VK->XK->Prop
abbrev yo:=List Env->Hp->Shared->XK->Value->Shared->Prop
structure AW (P:Program) (w:World) (K:W.Frag) (mg:Str->Option Value) (base:Heap) (A:Around) (outer:List Env) (s:Shared) (H:Hp):Prop where
 frames:A.frames=some outer
 mod:Mod K mg base
 bs:∀ b o,base.get? b=some o->s.heap.get? b=some o/\H b=none
 bsz:base.objs.size<=s.heap.objs.size
 funs:s.heap.FunFrames base outer
 frf:∀ b∈ym outer,H b=none
 hok:nX P w H s.heap
 bare:AllBare s.gens
def CE (outer:List Env) (P:Program) (w:World) (H:Hp) (s:Shared) (Q:VK) (u:Value) (s':Shared):Prop:=
 ∃ v H',s'.os=s.os/\AllBare s'.gens/\Un (ym outer) [] H H' s.heap s'.heap/\nX P w H' s'.heap/\cn v u/\Q v H'
def CR (CX:yo) (outer:List Env) (P:Program) (w:World) (H:Hp) (s:Shared) (Q:VK) (E:XK) (r:Result) (s':Shared):Prop:=
 match r with
 | .ok (.ret u)=>CE outer P w H s Q u s'
 | .ok _=>False
 | .error e=>CX outer H s E e s'
structure pY (P:Program) (w:World) (K:W.Frag) (mg:Str->Option Value) (base:Heap) (CX:yo) (k:Nat) (f:Addr) (fd:FuncData) (ps:List Str) (sp:Sp):Prop where
 len:∀ vs H Q E,sp vs H Q E->vs.length=ps.length
 run:∀ (A:Around) (outer:List Env) (s:Shared) (H:Hp) (args:Args) (us:List Value) (vs:List V) (Q:VK) (E:XK),iG k A->AW P w K mg base A outer s H->BindsTo s fd args (ps.zip us)->ba vs us->sp vs H Q E ->
  codeAny (model P w) A (.call (.ref f) args) (CR CX outer P w H s Q E) s
section
variable {X:Cx}{pins:List (Addr × Obj)}{σ:St}{H:Hp}{s s':Shared}
theorem aR.env0 (I:aR X pins σ H s):AW X.prog X.w X.K X.mg X.base X.A X.stack s H:=
 ⟨I.ok.frames,I.ok.mod,I.bs,IM I.ok.bsz I.sz,I.stack,I.stkFree,I.hok,I.bare⟩
theorem aR.after {Q:VK}{u:Value} (I:aR X pins σ H s) (h:CE X.stack X.prog X.w H s Q u s'):EP X pins σ Q u s':=by
 obtain ⟨v,H',os,bare,un,hok,r,q⟩:=h
 obtain ⟨hh,g,d,t,os'⟩:=s'
 obtain rfl:os'=s.os:=os
 exact ⟨v,H',I.call (h':=hh) (g':=g) (d':=d) (t':=t) (ch:=[]) un hok bare (fun b z=>absurd z (by simp)),r,q⟩
end
def Gv (sp:Sp) (dvs:List V) (E:XK) (t:TA):TE:=fun σ H Q=>t σ H fun vs H1=>sp (vs++dvs) H1 Q E
def kc (K:W.Frag) (fd:FuncData) (ps:List Str) (ds:List Value):Prop:=
 ∀ (s:Shared) (us:List Value),K.In s.heap->(us++ds).length=ps.length->BindsTo s fd ⟨us,[]⟩ (ps.zip (us++ds))
theorem kc.all {K:W.Frag}{fd:FuncData}{ps:List Str} (h:∀ us:List Value,us.length=ps.length->bindArgs fd ⟨us,[]⟩=pure (ps.zip us)):kc K fd ps []:=fun s us _ hl=>by
 rw [Jv] at hl ⊢
 exact .of_eq (h us hl)
def u7 (CX:yo) (X:Cx) (E:XK):Prop:=∀ (pins:List (Addr × Obj)) (σ:St) (H:Hp) (s:Shared) (e:Value) (s':Shared),aR X pins σ H s->CX X.stack H s E e s'->X.xe e s'
section
variable {X:Cx}{CX:yo}{k:Nat}{f C:Addr}{fd:FuncData}{ps:List Str}{sp:Sp}{dvs:List V}{ds:List Value}{E:XK}{x m:Str}{p pos apos:Pos}{e o:Expr}{es:List Expr}{ta:TE}{t:TA}
theorem Ef {pins:List (Addr × Obj)}{σ:St}{H:Hp}{s:Shared}{Q:VK}{us:List Value}{vs:List V} (F:pY X.prog X.w X.K X.mg X.base CX k f fd ps sp) (hr:iG k X.A) (hb:kc X.K fd ps ds) (hd:ba dvs ds) (hx:u7 CX X E)
  (I:aR X pins σ H s) (r:ba vs us) (h:sp (vs++dvs) H Q E):wpAny (model X.prog X.w) X.A (call (.ref f) us) (EP X pins σ Q) X.xe s:=by
 have r2:ba (vs++dvs) (us++ds):=r.append hd
 have hl:(us++ds).length=ps.length:=by rw [<- r2.length];exact F.len _ _ _ _ h
 refine wpAny_call (Jw (F.run X.A X.stack s H ⟨us,[]⟩ (us++ds) (vs++dvs) Q E hr I.env0 (hb s us I.kIn hl) r2 h) fun r s' hq=>?_)
 cases r with
 | error e=>exact hx pins σ H s e s' I hq
 | ok fl=>
  cases fl with
  | ret u=>exact I.after hq
  | next=>exact False.elim hq
  | brk=>exact False.elim hq
  | cont=>exact False.elim hq
theorem BX (F:pY X.prog X.w X.K X.mg X.base CX k f fd ps sp) (hr:iG k X.A) (hg:Gl X x) (hm:X.mg x=some (.ref f)) (hk:W.keepIn X.K (.ref f)=true) (hb:kc X.K fd ps ds) (hd:ba dvs ds) (hx:u7 CX X E)
  (ha:PA X (e::es) t) (hdb:(x == ("__debug__" : Str))=false:=by decide) (he:starEach (e::es) X.env=(false,eval e X.env)::starEach es X.env:=by rfl) (hpl:(backTo pos (starEach es X.env)).any (·.1)=false:=by rfl) :
  PE X (.Call (.Name x p) (e::es) [] pos) (Gv sp dvs E t):=by
 intro pins s σ H Q I h
 refine Jx (wy I hg hm ?_ hdb)
 refine W.callWith_K (h₀:=X.base) I.ok.mod.kin hk (d3 (ha pos pins s σ H _ I h) fun us s1 ⟨vs,H1,I1,r,q⟩=>⟨I1.kIn,?_⟩) he hpl
 exact Ef F hr hb hd hx I1 r q
structure Mk (K:W.Frag) (C f:Addr):Prop where
 makes:W.makesIn K C=true
 init:W.findIn K (.ref C) "__init__" = some (some (.ref f))
 fn:W.isFn K (.ref f)=true
 kp:W.keepIn K (.ref C)=true
end
section
variable {X:Cx}{CX:yo}{k:Nat}{f C:Addr}{fd:FuncData}{ps ks:List Str}{sp:Sp}{E:XK}{x m:Str}{p pos apos kpos:Pos}{e o:Expr}{es:List Expr}{kws:List Keyword}{te ta:TE}{t tk:TA}{nm:Option Str}
structure HU (K:W.Frag) (fd:FuncData) (ps ks:List Str) (g:List Value->List Value->List Value) (gV:List V->List V->List V):Prop where
 to:∀ (s:Shared) (us ws:List Value),K.In s.heap->(g us ws).length=ps.length->BindsTo s fd ⟨us,ks.zip ws⟩ (ps.zip (g us ws))
 rel:∀ {vs:List V}{us:List Value}{zs:List V}{ws:List Value},ba vs us->ba zs ws->ba (gV vs zs) (g us ws)
variable {g:List Value->List Value->List Value}{gV:List V->List V->List V}
end
structure aO (N P:List Str) (sc:Scope):Prop where
 kind:sc.kind=.function
 co:sc.isCoroutine=false
 gen:sc.isGenerator=false
 nd:N.Nodup
 pre:N.take P.length=P
 par:∀ x∈P,sc.names.lookup x=some .local\/sc.names.lookup x=some .cell
 nofree:∀ y∈sc.names,y.2≠.free
theorem qW {kindOf:Str->Option NameKind}{x:Str}:∀ {binds:List (Str × Value)}{m:Str->Option Value},(∀ v,(x,v) ∉ binds)->bindL kindOf binds m x=m x
 | [],_,_=>rfl
 | (n,v)::r,m,h=>by
  unfold bindL
  rw [qW fun w hw=>h w (IS _ hw)]
  split
  ·have : x ≠ n := by rintro rfl; exact h v IR
   simp [this]
  ·rfl
theorem qY {kindOf:Str->Option NameKind}{x:Str}:∀ {binds:List (Str × Value)}{m:Str->Option Value},(∀ v,(x,v) ∉ binds)->bindC kindOf binds m x=m x
 | [],_,_=>rfl
 | (n,v)::r,m,h=>by
  unfold bindC
  rw [qY fun w hw=>h w (IS _ hw)]
  split
  ·rfl
  ·have : x ≠ n := by rintro rfl; exact h v IR
   simp [this]
theorem qX {kindOf:Str->Option NameKind}{x:Str}{v:Value}:∀ {P:List Str}{vs:List Value}{i:Nat}{m:Str->Option Value},P.Nodup->P[i]?=some x->vs[i]?=some v->kindOf x=some .local ->
  bindL kindOf (P.zip vs) m x=some v
 | [],_,_,_,_,h,_,_=>by simp at h
 | _::_,[],_,_,_,_,h,_=>by simp at h
 | p::P,w::vs,0,m,nd,h1,h2,hk=>by
  simp at h1 h2;subst h1;subst h2
  show bindL kindOf ((p,w)::P.zip vs) m p=_
  unfold bindL
  rw [qW fun v hv=>(Jy.mp nd).1 (Jz hv).1,ID hk]
  simp
 | p::P,w::vs,i+1,m,nd,h1,h2,hk=>by
  show bindL kindOf ((p,w)::P.zip vs) m x=_
  unfold bindL
  exact qX (i:=i) (Jy.mp nd).2 (by simpa using h1) (by simpa using h2) hk
theorem qZ {kindOf:Str->Option NameKind}{x:Str}{v:Value}:∀ {P:List Str}{vs:List Value}{i:Nat}{m:Str->Option Value},P.Nodup->P[i]?=some x->vs[i]?=some v->kindOf x≠some .local ->
  bindC kindOf (P.zip vs) m x=some v
 | [],_,_,_,_,h,_,_=>by simp at h
 | _::_,[],_,_,_,_,h,_=>by simp at h
 | p::P,w::vs,0,m,nd,h1,h2,hk=>by
  simp at h1 h2;subst h1;subst h2
  show bindC kindOf ((p,w)::P.zip vs) m p=_
  unfold bindC
  rw [qY fun v hv=>(Jy.mp nd).1 (Jz hv).1,IE hk]
  simp
 | p::P,w::vs,i+1,m,nd,h1,h2,hk=>by
  show bindC kindOf ((p,w)::P.zip vs) m x=_
  unfold bindC
  exact qZ (i:=i) (Jy.mp nd).2 (by simpa using h1) (by simpa using h2) hk
def start (N:List Str) (vs:List V):St:=vs.map some++List.replicate (N.length - vs.length) none
def rE (CX:yo) (P:Program) (w:World) (K:W.Frag) (mg:Str->Option Value) (base:Heap) (N:List Str) (qual:Str) (scope:Scope) (f:Addr) (cd:Value) (A:Around) (outer:List Env) (s:Shared) (H:Hp) (E:XK):Cx where
 prog:=P
 w:=w
 K:=K
 mg:=mg
 base:=base
 A:=A.deeper (envOfC qual scope s.heap.objs.size f cd)
 N:=N
 s₀:=s
 H₀:=H
 env:=envOfC qual scope s.heap.objs.size f cd
 outer:=outer
 stack:=envOfC qual scope s.heap.objs.size f cd::outer
 ex:=[]
 calm:=true
 fn:=fun _=>true
 pn:=[]
 xe:=fun e s'=>wpAny (model P w) (A.deeper (envOfC qual scope s.heap.objs.size f cd)) (leaving (envOfC qual scope s.heap.objs.size f cd) e) (fun _ s''=>CX outer H s E e s'') (fun e' s''=>CX outer H s E e' s'') s'
theorem ua {sc:Scope}{n:Nat}{x:Str} (h:sc.names.lookup x=some .cell):∃ c,(cellsFrom n sc.names []).lookup x=some c:=by
 have q:=W.cellsFrom_some sc.names n [] (.inl h)
 exact JA.mp q
theorem xO {CX:yo}{P:Program}{w:World}{K:W.Frag}{mg:Str->Option Value}{base:Heap}{N ps:List Str}{qual:Str}{scope:Scope}{f:Addr}{cd:Value}{A:Around}{outer:List Env}{s s1:Shared}{H:Hp}{E:XK}{us:List Value}{vs:List V}
  (S:aO N ps scope) (hd:A.handled=none) (e0:AW P w K mg base A outer s H) (hl:vs.length=ps.length) (r:ba vs us)
  (x:InCallC s s.heap.objs.size (bindL (envOfC qual scope s.heap.objs.size f cd).kindOf (ps.zip us) fun _=>none) (cellsFrom (s.heap.objs.size+1) scope.names []) (bindC (envOfC qual scope s.heap.objs.size f cd).kindOf (ps.zip us) fun _=>none) s1) :
  aR (rE CX P w K mg base N qual scope f cd A outer s H E) [] (start N vs) H s1:=by
 have hpl:ps.length<=N.length:=by have:=Jd List.length S.pre;rw [JB] at this;omega
 obtain ⟨h1,tk,rfl,hk⟩:=x.done
 have noA:∀ b:Addr,b ∉ (rE CX P w K mg base N qual scope f cd A outer s H E).ex:=fun b z=>absurd (show b∈([]:List Addr) from z) (by simp)
 refine ⟨⟨e0.mod,S.kind,rfl,rfl,Jp _,fun y z c h1 h2=>?_,fun y hy=>?_,fun y c _ h=>?_,fun _=>hd,Around.frames_deeper e0.frames,.inr ⟨rfl,rfl⟩,fun b z=>absurd z (noA b),e0.bs,e0.bsz,fun b _ _=>noA b,fun b z=>absurd z (noA b),e0.funs,e0.frf⟩,
  rfl,e0.bare,Un.kept hk,⟨_,x.toInCall.ns,fun i y v h1 h2 h3=>?_⟩,fun y c h=>⟨_,x.cell y c h⟩,e0.hok.fresh (Jp _),fun y c h=>?_,fun p hp=>absurd (show p∈([]:List (Addr × Obj)) from hp) (by simp),e0.hok.kept hk,?_⟩
 ·exact name_of_addr x.apart (JC h1) (JC h2)
 ·have hy : scope.names.lookup y = some .cell \/ scope.names.lookup y = some .free := hy
  rcases hy with hy | hy
  ·exact ua hy
  ·exact absurd rfl (S.nofree _ (JC hy))
 ·exact IP (x.above y c (JC h))
 ·have hi:i<vs.length:=by
   unfold start at h2
   by_cases hi:i<vs.length
   ·exact hi
   ·rw [JD (by simpa using hi)] at h2
    rw [List.getElem?_replicate] at h2
    split at h2 <;> cases h2
  have ha:vs[i]?=some v:=by
   unfold start at h2
   rw [JE (by simpa using hi),JF] at h2
   cases e:vs[i]? with
   | none=>rw [e] at h2;cases h2
   | some a=>rw [e] at h2;cases h2;rfl
  obtain ⟨u,hu,rv⟩:=r.get ha
  have hp:ps[i]?=some y:=by
   rw [<- S.pre,List.getElem?_take_of_lt (by omega)];exact h1
  have ndP:ps.Nodup:=by rw [<- S.pre];exact S.nd.sublist (List.take_sublist _ _)
  refine ⟨u,rv,?_⟩
  rcases S.par y (JG hp) with k | k
  ·exact .inl ⟨k,qX ndP hp hu k⟩
  ·obtain ⟨c, e⟩ := ua (n := s.heap.objs.size + 1) k
   refine .inr ⟨.inl k,c,e,?_⟩
   have q:=x.cell y c e
   rw [qZ ndP hp hu (by show scope.names.lookup y≠_;rw [k];decide)] at q
   exact q
 ·exact e0.hok.fresh (IP (x.above y c (JC h)))
 ·unfold start
  show _=N.length
  rw [JH,JI,List.length_replicate]
  omega
theorem G1 {CX:yo}{P:Program}{w:World}{K:W.Frag}{mg:Str->Option Value}{base:Heap}{k:Nat}{f:Addr}{name qual:Str}{params:Arguments}{body:List Stmt}{scope:Scope}{dV kV doc pm cdv ct oc:Value}{an od:Option Addr}
  {osl:Array (Option Value)}{N ps:List Str}{sp:Sp} (lk:K.lookup f=some ⟨oc,od,.func (W.fnOf name qual params body scope dV kV doc pm an cdv ct),osl⟩) (hcd:W.codeIn K cdv qual=true) (S:aO N ps scope)
  (len:∀ vs H Q E,sp vs H Q E->vs.length=ps.length)
  (hbody : ∀ (A : Around) (outer : List Env) (s : Shared) (H : Hp) (vs : List V) (Q : VK) (E : XK), iG k (A.deeper (envOfC qual scope s.heap.objs.size f cdv)) -> sp vs H Q E ->
   ∃ t,jZ (rE CX P w K mg base N qual scope f cdv A outer s H E) body t/\t { nx:=fun _ H'=>Q .non H',rt:=Q } (start N vs) H) :
  pY P w K mg base CX (k+1) f (W.fnOf name qual params body scope dV kV doc pm an cdv ct) ps sp:=by
 refine ⟨len,fun A outer s H args us vs Q E hr e0 hb r hsp=>?_⟩
 have hl:=len _ _ _ _ hsp
 have KX:K.In s.heap:=e0.mod.kin.keeps fun b o e=>(e0.bs b o e).1
 have lim:s.heap.NoLimit:=e0.mod.nolimit.keeps fun b o e=>(e0.bs b o e).1
 have hkind:∀ y∈ps.zip us,scope.names.lookup y.1=some .local\/(scope.names.lookup y.1=some .cell/\((cellsFrom (s.heap.objs.size+1) scope.names []).lookup y.1).isSome=true):=fun ⟨n,v⟩ hy=>by
  rcases S.par n (Jz hy).1 with q | q
  ·exact .inl q
  ·exact .inr ⟨q,W.cellsFrom_some _ _ _ (.inl q)⟩
 refine codeAny_call_function hr.depth (KX _ _ lk) rfl S.co S.gen rfl (W.codeRec_of KX hcd) (hb _ _ _ _ ?_)
 refine wpAny_newFunctionEnv_cells S.kind hkind fun env he s1 x=>?_
 subst he
 refine ⟨lim.keeps x.toInCall.keep,codeAny_func ?_⟩
 obtain ⟨t,ht,hq⟩:=hbody A outer s H vs Q E (hr.deeper _) hsp
 have I:aR (rE CX P w K mg base N qual scope f cdv A outer s H E) [] (start N vs) H s1:=xO S hr.hd e0 hl r x
 refine Ja (ht [] s1 (start N vs) H _ I hq) (fun fl s' hs=>?_) fun e s' hs=>hs
 have fin:∀ {σ':St}{H':Hp}{v:V}{u:Value},aR (rE CX P w K mg base N qual scope f cdv A outer s H E) [] σ' H' s'->cn v u->Q v H'->CE outer P w H s Q u s':=
  fun {σ' H' v u} J rv q=>⟨v,H',J.os,J.bare,J.base,J.hok,rv,q⟩
 cases fl with
 | ret u=>
  obtain ⟨v,σ',H',J,rv,q⟩:=hs
  exact fin J rv q
 | next=>
  obtain ⟨σ',H',J,q⟩:=hs
  exact fin (v:=V.non) (u:=Value.none) J rfl q
 | brk=>
  obtain ⟨_,_,_,q⟩:=hs
  exact False.elim q
 | cont=>
  obtain ⟨_,_,_,q⟩:=hs
  exact False.elim q
end L2
namespace L2
open PySem PySem.Spec PyProof.Rows
section
variable {X:Cx}{x:Str}{p pos:Pos}{e:Expr}{es:List Expr}{t:TA}{id T:String}{r:List V->Hp->VK->Prop}
def HV (r:List V->Hp->VK->Prop) (t:TA):TE:=fun σ H Q=>t σ H fun vs H1=>r vs H1 Q
theorem tN (hc:dj X (.builtin id) r) (hg:Gl X x) (hm:X.mg x=none) (hv:bootBuiltins x=some (.builtin id)) (ha:PA X (e::es) t) (hn:x ≠ "__name__" := by decide) (hdb:(x == ("__debug__" : Str))=false:=by decide)
  (he:starEach (e::es) X.env=(false,eval e X.env)::starEach es X.env:=by rfl) (hpl:(backTo pos (starEach es X.env)).any (·.1)=false:=by rfl):PE X (.Call (.Name x p) (e::es) [] pos) (HV r t):=by
 intro pins s σ H Q I h
 refine Jx (lD I hg hm hv ?_ hn hdb)
 exact PyProof.Rows.callWith_builtin1 (d3 (ha pos pins s σ H _ I h) fun us s1 ⟨vs,H1,I1,r1,q1⟩=>hc pins s1 σ H1 vs us Q I1 r1 q1) he hpl
theorem qE (hc:dj X (.type T) r) (hg:Gl X x) (hm:X.mg x=none) (hv:bootBuiltins x=some (.type T)) (ha:PA X (e::es) t) (hn:x ≠ "__name__" := by decide) (hdb:(x == ("__debug__" : Str))=false:=by decide)
  (he:starEach (e::es) X.env=(false,eval e X.env)::starEach es X.env:=by rfl) (hpl:(backTo pos (starEach es X.env)).any (·.1)=false:=by rfl):PE X (.Call (.Name x p) (e::es) [] pos) (HV r t):=by
 intro pins s σ H Q I h
 refine Jx (lD I hg hm hv ?_ hn hdb)
 exact Jq (d3 (ha pos pins s σ H _ I h) fun us s1 ⟨vs,H1,I1,r1,q1⟩=>hc pins s1 σ H1 vs us Q I1 r1 q1) he hpl
end
end L2
namespace HT
open PySem PyProof.Rows
section
open PySem.SeqAt
open PySem.AutoSeq1 (wpAny_loadPart')
open PySem.MeetsSeq PySem.MeetsSeq2 PySem.MeetsSeq3
end
section
variable {prog:Program}{w:World}{A:Around}{E:Value->Shared->Prop}{s:Shared}
theorem cat_tup {t b:Addr}{vs ws:List Value}{Q:Value->Shared->Prop} (ht:IsTup s.heap t vs.toArray) (hb:IsTup s.heap b ws.toArray) (hv:vs≠[])
  (h1:ws=[]->Q (.ref t) s) (h2:ws≠[]->Q (.ref s.heap.objs.size) { s with heap:=s.heap.push { cls:=.type "tuple",data:=.seq (vs++ws).toArray } })
  (hsz:vs.length+ws.length<=sizeLine):wpAny (model prog w) A (binaryOp .Add (.ref t) (.ref b)) Q E s:=by
 obtain ⟨⟨cls,dd,data,sl⟩,ho,hc,n,hd⟩:=id ht
 obtain ⟨⟨cls2,dd2,data2,sl2⟩,ho2,hc2,n2,hd2⟩:=id hb
 simp only at hc hd hc2 hd2
 subst hc hd hc2 hd2
 have e:vs.toArray++ws.toArray=(vs++ws).toArray:=by simp
 by_cases hw:ws=[]
 ·exact concat_meets ⟨_,ho,rfl⟩ ⟨_,ho2,rfl⟩ JJ seq_tuple_add JK JL (JM _ _)
   (tuple_addW1 t b vs.toArray ws.toArray n n2 dd dd2 sl sl2 (by simpa using hv) (by simp [hw])) ⟨ho,ho2,h1 hw⟩
 ·refine concat_meets ⟨_,ho,rfl⟩ ⟨_,ho2,rfl⟩ JJ seq_tuple_add JK JL (JM _ _)
   (tuple_addW2 t b vs.toArray ws.toArray n n2 dd dd2 sl sl2 (by simpa using hv) (by simpa using hw) (by rw [Ju,Ju];exact hsz)) ⟨ho,ho2,?_⟩
  rw [e]
  exact h2 hw
def sIx (n d:Nat):Option Int->Nat
 | none=>d
 | some v=>if v<0 then (v+(n:Int)).toNat else min v.toNat n
theorem sIx_none (n d:Nat):sIx n d none=d:=rfl
theorem sIx_nat (n d k:Nat):sIx n d (some (k:Int))=min k n:=by
 show (if (k:Int)<0 then ((k:Int)+(n:Int)).toNat else min (k:Int).toNat n)=min k n
 rw [IE (by omega),JN]
theorem Ee (n d:Nat) (hd:d<=n) (o:Option Int):sIx n d o<=n:=by
 cases o with
 | none=>exact hd
 | some v=>
  show (if v<0 then (v+(n:Int)).toNat else min v.toNat n)<=n
  by_cases hv:v<0
  ·rw [ID hv];omega
  ·rw [IE hv];exact JO _ _
theorem wJ (v:Int) (n d:Nat):(if v<0 then max (v+(n:Int)) 0 else min v (n:Int))=((sIx n d (some v):Nat):Int):=by
 show (if v<0 then max (v+(n:Int)) 0 else min v (n:Int))=(((if v<0 then (v+(n:Int)).toNat else min v.toNat n):Nat):Int)
 by_cases hv:v<0
 ·simp only [ID hv];omega
 ·simp only [IE hv];omega
theorem vQ (lo hi:Option Int) (n:Nat):Builtin.Slice.sliceAdjust lo hi 1 (n:Int)=(((sIx n 0 lo:Nat):Int),((sIx n n hi:Nat):Int)):=by
 have h1:¬ ((1:Int)<0):=by omega
 unfold Builtin.Slice.sliceAdjust
 simp only [h1,JP]
 refine Prod.ext ?_ ?_
 ·cases lo with
  | none=>rfl
  | some v=>exact wJ v n 0
 ·cases hi with
  | none=>rfl
  | some v=>exact wJ v n n
theorem vp (i j:Nat):Builtin.Slice.slicePlaces (i:Int) (j:Int) 1=j - i:=by
 unfold Builtin.Slice.slicePlaces
 have h1:(1:Int) > 0:=by omega
 simp only [h1,JQ,Int.ediv_one]
 split <;> omega
theorem oZ {v:Value}{o:Option Int}{Q:Option Int->Shared->Prop} (p:IsPart v o) (h:Q o s):wpAny (model prog w) A (Builtin.Slice.slicePartIndex v) Q E s:=by
 cases p with
 | none=>exact JR h
 | int i t=>exact slicePart_int h
theorem sliceApplied_gen {sl:Addr}{vl vu:Value}{lo hi:Option Int}{n:Nat}{Q:Int × Int × Nat->Shared->Prop} (hs:s.heap.IsSliceOf sl vl vu .none) (pl:IsPart vl lo) (pu:IsPart vu hi)
  (h:Q (((sIx n 0 lo:Nat):Int),1,sIx n n hi - sIx n 0 lo) s):wpAny (model prog w) A (Builtin.Slice.sliceApplied (.ref sl) (pure (n:Int))) Q E s:=by
 obtain ⟨os,hos,hcs,hds⟩:=id hs
 unfold Builtin.Slice.sliceApplied Builtin.Slice.sliceFields
 refine Jf (Jf (JS hos hds (x:=vl) rfl (Jf (JS hos hds (x:=vu) rfl (Jf (JS hos hds (x:=.none) rfl (Jl ?_)))))))
 refine Jf (JR ?_)
 show wpAny _ _ (if ((1:Int) == 0)=true then _ else _) _ _ s
 rw [IE (by decide)]
 refine Jf (oZ pl (Jf (oZ pu (Jf (Jl ?_)))))
 show wpAny _ _ (match Builtin.Slice.sliceAdjust lo hi 1 (n:Int) with | (lo,hi)=>pure (lo,(1:Int),Builtin.Slice.slicePlaces lo hi 1)) _ _ s
 rw [vQ lo hi n]
 show wpAny _ _ (pure (((sIx n 0 lo:Nat):Int),(1:Int),Builtin.Slice.slicePlaces ((sIx n 0 lo:Nat):Int) ((sIx n n hi:Nat):Int) 1)) _ _ s
 rw [vp]
 exact Jl h
theorem zS (xs:Array Value) (i k:Nat):((List.range k).filterMap fun (m:Nat)=>xs[((i:Int)+(m:Int) * 1).toNat]?).toArray=((xs.toList.drop i).take k).toArray:=by
 have e:(fun (m:Nat)=>xs[((i:Int)+(m:Int) * 1).toNat]?)=fun m=>xs[i+m]?:=by
  funext m
  have:((i:Int)+(m:Int) * 1).toNat=i+m:=by omega
  rw [this]
 rw [e]
 have:=pick_run xs i k
 rw [JT] at this
 have e2:((fun x=>xs[x]?) ∘ fun x=>i+x)=fun m=>xs[i+m]?:=rfl
 rw [e2] at this
 rw [this]
theorem getItem_tuple_cut {t sl:Addr}{items:Array Value}{vl vu:Value}{lo hi:Option Int}{Q:Value->Shared->Prop} (ht:IsTup s.heap t items) (hs:s.heap.IsSliceOf sl vl vu .none) (pl:IsPart vl lo) (pu:IsPart vu hi)
  (hw:¬ (sIx items.size 0 lo=0/\sIx items.size items.size hi=items.size))
  (h:Q (.ref s.heap.objs.size) { s with heap:=s.heap.push { cls:=.type "tuple",data:=.seq ((items.toList.drop (sIx items.size 0 lo)).take (sIx items.size items.size hi - sIx items.size 0 lo)).toArray } })
  (hsz:items.size<=sizeLine):wpAny (model prog w) A (getItem (.ref t) (.ref sl)) Q E s:=by
 have htake:sizeOk (.seq ((items.toList.drop (sIx items.size 0 lo)).take (sIx items.size items.size hi - sIx items.size 0 lo)).toArray):=by
  show ((items.toList.drop (sIx items.size 0 lo)).take (sIx items.size items.size hi - sIx items.size 0 lo)).toArray.size<=sizeLine
  rw [Ju,JB,JU,Jc]
  omega
 have hj:sIx items.size items.size hi<=items.size:=Ee _ _ (Jp _) hi
 obtain ⟨os,hos,hcs,hds⟩:=id hs
 have hTs:s.TypeIs (.ref sl) "slice" := ⟨os,hos,hcs⟩
 unfold getItem
 try with_reducible refine Jg ?_
 first | refine Jf (Jl ?_) | skip
 refine Jf (JV ht.typeIs (by decide) ?_)
 refine Jf (JW (name:=Str.ofString "__getitem__") ht.typeIs JX
  (JY JX ht.typeIs JZ ?_ (J0 _ _)))
 show wpAny _ _ (Builtin.Tuple.tupleItemsOf (.ref t) >>= _) _ _ s
 refine Jf (tupleItemsOf_ ht ?_)
 refine Jf (J1 hTs ?_)
 rw [ID (by decide)]
 refine Jf (sliceApplied_gen hs pl pu ?_)
 have hno:¬ ((((sIx items.size 0 lo:Nat):Int) == 0 && (1:Int) == 1 && (sIx items.size items.size hi - sIx items.size 0 lo) == items.size)=true):=by
  intro q
  rw [J2,J2] at q
  have q1:((sIx items.size 0 lo:Nat):Int)=0:=eq_of_beq q.1.1
  have q2:sIx items.size items.size hi - sIx items.size 0 lo=items.size:=eq_of_beq q.2
  exact hw ⟨by omega,by omega⟩
 show wpAny _ _ (if (((sIx items.size 0 lo:Nat):Int) == 0 && (1:Int) == 1 && (sIx items.size items.size hi - sIx items.size 0 lo) == items.size)=true then _ else _) _ _ s
 rw [IE hno,zS]
 first
  | exact Jf (m:=Builtin.Tuple.tupleExact _) (J3 (Jl ⟨_,rfl,Jl h⟩) htake)
  | exact Jf (m:=Builtin.Tuple.tupleExact _) (J3 (Jf (Jl (Jl ⟨_,rfl,Jl h⟩))) htake)
  | exact Jf (Jf (m:=Builtin.Tuple.tupleExact _) (J3 (Jl (Jl ⟨_,rfl,Jl h⟩)) htake))
  | exact Jf (Jf (m:=Builtin.Tuple.tupleExact _) (J3 (Jl ⟨_,rfl,Jl h⟩) htake))
end
end HT
namespace L2
open PySem PySem.Spec PyProof.Rows
abbrev TO:=St->Hp->(Option Int->Hp->Prop)->Prop
def PO (X:Cx) (e:Option Expr) (t:TO):Prop:=
 ∀ (pins:List (Addr × Obj)) (s:Shared) (σ:St) (H:Hp) (Q:Option Int->Hp->Prop),aR X pins σ H s->t σ H Q ->
  wpAny (model X.prog X.w) X.A (evalPart e X.env) (fun u s'=>∃ o H',aR X pins σ H' s'/\IsPart u o/\Q o H') X.xe s
def A3:TO:=fun _ H Q=>Q none H
def Gp (t:TE):TO:=fun σ H Q=>t σ H fun x H1=>∃ i,x=.int i/\Q (some i) H1
theorem eY {ns:List Int}:∀ {us:List Value},ba (ns.map V.int) us->IntsAre us ns:=by
 induction ns with
 | nil=>intro us r;rw [J4] at r;cases r;exact .nil
 | cons n ns ih=>
  intro us r
  rw [J5] at r
  cases r with
  | cons r1 r2=>
   obtain ⟨t,e⟩:=r1
   subst e
   exact .cons n t (ih r2)
section
variable {X:Cx}{e:Expr}{te:TE}{lo hi:Option Expr}{tl th:TO}{pos p2:Pos}
theorem BO:PO X none A3:=by
 intro pins s σ H Q I h
 rw [evalPart_none]
 exact Jl ⟨none,H,I,.none,h⟩
theorem BN (h:PE X e te):PO X (some e) (Gp te):=by
 intro pins s σ H Q I hw
 rw [evalPart_some]
 refine d3 (h pins s σ H _ I hw) fun u s1 ⟨x,H1,I1,r1,q1⟩=>?_
 obtain ⟨i,rfl,q⟩:=q1
 obtain ⟨t,rfl⟩:=r1
 exact ⟨some i,H1,I1,.int i t,q⟩
def AH (X:Cx) (r:V->Option Int->Option Int->Hp->VK->Prop):Prop:=
 ∀ (pins:List (Addr × Obj)) (s:Shared) (σ:St) (H:Hp) (x:V) (v vl vu:Value) (lo hi:Option Int) (sl:Addr) (Q:VK),aR X pins σ H s->cn x v->s.heap.IsSliceOf sl vl vu .none->IsPart vl lo->IsPart vu hi->r x lo hi H Q ->
  ∃ T id,typeLookup (.type T) "__getitem__" = pure (some (.builtin id))/\s.TypeIs v T/\wpAny (model X.prog X.w) X.A (getItem v (.ref sl)) (EP X pins σ Q) X.xe s
theorem AH.or {r r':V->Option Int->Option Int->Hp->VK->Prop} (h:AH X r) (h':AH X r'):AH X (fun x lo hi H Q=>r x lo hi H Q\/r' x lo hi H Q):=by
 intro pins s σ H x v vl vu lo hi sl Q I rx hs pl pu q
 rcases q with q | q
 ·exact h pins s σ H x v vl vu lo hi sl Q I rx hs pl pu q
 ·exact h' pins s σ H x v vl vu lo hi sl Q I rx hs pl pu q
def Ij (r:V->Option Int->Option Int->Hp->VK->Prop) (te:TE) (tl th:TO):TE:=fun σ H Q=>te σ H fun x H1=>tl σ H1 fun l H2=>th σ H2 fun u H3=>r x l u H3 Q
theorem zU {r:V->Option Int->Option Int->Hp->VK->Prop} (hr:AH X r) (he:PE X e te) (hl:PO X lo tl) (hu:PO X hi th):PE X (.Subscript e (.Slice lo hi none p2) pos) (Ij r te tl th):=by
 intro pins s σ H Q I h
 refine Subscript_ (d3 (he pins s σ H _ I h) fun v s1 ⟨x,H1,I1,r1,q1⟩=>?_)
 refine wpAny_Slice (d3 (hl pins s1 σ H1 _ I1 q1) fun vl s2 ⟨l,H2,I2,pl,q2⟩=>d3 (hu pins s2 σ H2 _ I2 q2) fun vu s3 ⟨u,H3,I3,pu,q3⟩=>?_)
 rw [evalPart_none]
 refine Jl ?_
 have I4:aR X pins σ H3 { s3 with heap:=s3.heap.push { cls:=.type "slice",data:=.fields #[vl,vu,.none] } }:=I3.kept (t':=s3.toks) fun b ob q=>Jn _ q
 obtain ⟨T,id,hT,ht,hg⟩:=hr pins { s3 with heap:=s3.heap.push { cls:=.type "slice",data:=.fields #[vl,vu,.none] } } σ H3 x v vl vu l u s3.heap.objs.size Q I4 r1 (J6 ..) pl pu q3
 show wpAny (model X.prog X.w) X.A (subscriptTail e (.Slice lo hi none p2) v (.ref s3.heap.objs.size)) (EP X pins σ Q) X.xe { s3 with heap:=s3.heap.push { cls:=.type "slice",data:=.fields #[vl,vu,.none] } }
 exact tail_any (ops:=[.ref s3.heap.objs.size,v]) ht hT hg (by with_unfolding_all rfl)
def sQ (xs:List V) (lo hi:Option Int):List V:=(xs.drop (HT.sIx xs.length 0 lo)).take (HT.sIx xs.length xs.length hi - HT.sIx xs.length 0 lo)
theorem nv (xs:List V) (lo hi:Option Int):(sQ xs lo hi).length<=xs.length:=by
 unfold sQ
 rw [JB,JU]
 omega
def FO (K:W.Frag):V->Option Int->Option Int->Hp->VK->Prop:=fun x lo hi H Q=>∃ a xs,x=.ref a/\fB K H a xs /\
 ¬ (HT.sIx xs.length 0 lo=0/\HT.sIx xs.length xs.length hi=xs.length)/\∀ p,H p=none->Q (.ref p) (cq H p (.tup (sQ xs lo hi)))
theorem D2:AH X (FO X.K):=by
 intro pins s σ H x v vl vu lo hi sl Q I rx hs pl pu h
 obtain ⟨a,xs,rfl,hx,hw,q⟩:=h
 cases rx
 obtain ⟨its,r,ht,hz⟩:=I.tuple hx
 have hlen:its.toArray.size=xs.length:=by rw [Ju];exact r.length.symm
 refine ⟨"tuple",_,JX.lookup,ht.typeIs,?_⟩
 refine HT.getItem_tuple_cut ht hs pl pu (by rw [hlen];exact hw) ?_ (by rw [hlen];exact hz)
 rw [hlen]
 refine ⟨.ref s.heap.objs.size,_,I.laid (t':=s.toks) (o:=.tup (sQ xs lo hi)) (fun b ob q=>Jn _ q) (Jp _) ?_,rfl,q _ (I.hok.fresh (Jp _))⟩
 exact ⟨IM (nv xs lo hi) hz,_,(r.drop (HT.sIx xs.length 0 lo)).take (HT.sIx xs.length xs.length hi - HT.sIx xs.length 0 lo),IsTup.new _ _⟩
def GJ (K:W.Frag):R2:=fun x y H Q=>∃ a b xs ys,x=.ref a/\y=.ref b/\fB K H a xs/\fB K H b ys/\xs≠[]/\xs.length+ys.length<=sizeLine /\
 (ys=[]->Q (.ref a) H)/\(ys≠[]->∀ p,H p=none->Q (.ref p) (cq H p (.tup (xs++ys))))
theorem ba.nil_iff {xs:List V}{us:List Value} (r:ba xs us):us=[]↔xs=[]:=by
 cases r with
 | nil=>simp
 | cons _ _=>simp
theorem B5:jQ X (binaryOp .Add) (GJ X.K):=by
 intro pins s σ H x y v u Q I rx ry h
 obtain ⟨a,b,xs,ys,rfl,rfl,ha,hb,hx,hz,q1,q2⟩:=h
 cases rx
 cases ry
 obtain ⟨its,r1,p1,_⟩:=I.tuple ha
 obtain ⟨its2,r2,p2,_⟩:=I.tuple hb
 refine HT.cat_tup p1 p2 (fun z=>hx (r1.nil_iff.mp z)) (fun z=>⟨.ref a,H,I,rfl,q1 (r2.nil_iff.mp z)⟩) (fun z=>?_) (by rw [<- r1.length,<- r2.length];exact hz)
 refine ⟨.ref s.heap.objs.size,_,I.laid (t':=s.toks) (o:=.tup (xs++ys)) (fun b ob q=>Jn _ q) (Jp _) ?_,rfl,q2 (fun w=>z (r2.nil_iff.mpr w)) _ (I.hok.fresh (Jp _))⟩
 exact ⟨by rw [JH];exact hz,_,r1.append r2,IsTup.new _ _⟩
end
end L2
namespace L2
open PySem PySem.Spec PyProof.Rows
def vR (n:Nat) (i:Int):Option Nat:=if 0<=i then (if i<n then some i.toNat else none) else if -(n:Int)<=i then some (i+n).toNat else none
def atI {α:Type} (xs:List α) (i:Int):Option α:=(vR xs.length i).bind fun j=>xs[j]?
theorem r6 {n:Nat}{i:Int}{j:Nat} (h:vR n i=some j):seqIndex? i n=some j/\j<n/\-(n:Int)<=i/\i<n:=by
 unfold vR at h
 by_cases h0:0<=i
 ·rw [ID h0] at h
  by_cases h1:i<n
  ·rw [ID h1] at h
   have e:i.toNat=j:=IF h
   exact ⟨by rw [seqIndex_of h0 h1,e],by omega,by omega,h1⟩
  ·rw [IE h1] at h;cases h
 ·rw [IE h0] at h
  by_cases h1:-(n:Int)<=i
  ·rw [ID h1] at h
   have e:(i+n).toNat=j:=IF h
   exact ⟨by rw [seqIndex_neg (by omega) h1,e],by omega,h1,by omega⟩
  ·rw [IE h1] at h;cases h
theorem sd {α:Type}{xs:List α}{i:Int}{v:α} (h:atI xs i=some v):∃ j,seqIndex? i xs.length=some j/\xs[j]?=some v/\j<xs.length/\-(xs.length:Int)<=i/\i<xs.length:=by
 unfold atI at h
 cases e:vR xs.length i with
 | none=>rw [e] at h;cases h
 | some j=>
  rw [e] at h
  obtain ⟨h1,h2,h3,h4⟩:=r6 e
  exact ⟨j,h1,h,h2,h3,h4⟩
theorem kI {α:Type}{xs:List α}{j:Nat}{v:α} (h:xs[j]?=some v):atI xs (j:Int)=some v:=by
 have hj:j<xs.length:=(IX.mp h).1
 have e:vR xs.length (j:Int)=some j:=by
  unfold vR
  rw [ID (by omega),ID (by omega)];simp
 unfold atI;rw [e];exact h
def sg (b:Expr):Prop:=∀ o i,subscripted b false o i=operate [o,i] (getItem o i)
def AK (X:Cx) (r:R2):Prop:=
 ∀ (value slice:Expr) (pins:List (Addr × Obj)) (s:Shared) (σ:St) (H:Hp) (x y:V) (v u:Value) (Q:VK),aR X pins σ H s->cn x v->cn y u->r x y H Q ->
  subscripted slice false v u=operate [v,u] (getItem v u)->wpAny (model X.prog X.w) X.A (subscriptTail value slice v u) (EP X pins σ Q) X.xe s
def HZ (X:Cx) (id:String) (r:V->List V->Hp->VK->Prop):Prop:=
 ∀ (pins:List (Addr × Obj)) (s:Shared) (σ:St) (H:Hp) (x:V) (xs:List V) (v:Value) (us:List Value) (Q:VK),aR X pins σ H s->cn x v->ba xs us->r x xs H Q ->
  wpAny (model X.prog X.w) X.A (call (.builtin id) (v::us)) (EP X pins σ Q) X.xe s
section
variable {X:Cx}{a b:Expr}{ta tb:TE}{pos:Pos}
theorem AK.or {r r':R2} (h:AK X r) (h':AK X r'):AK X (fun x y H Q=>r x y H Q\/r' x y H Q):=by
 intro value slice pins s σ H x y v u Q I rx ry q hs
 rcases q with q | q
 ·exact h value slice pins s σ H x y v u Q I rx ry q hs
 ·exact h' value slice pins s σ H x y v u Q I rx ry q hs
theorem GO {r:R2} (hr:AK X r) (ha:PE X a ta) (hb:PE X b tb) (hs:sg b):PE X (.Subscript a b pos) (G8 r ta tb):=by
 intro pins s σ H Q I h
 exact Subscript_ (Dv ha hb I h fun v u s2 x y H2 I2 rx ry q=>hr a b pins s2 σ H2 x y v u Q I2 rx ry q (hs _ _))
def FW (K:W.Frag):R2:=fun x y H Q=>∃ p xs i v,x=.ref p/\y=.int i/\f7 K H p xs/\atI xs i=some v/\Q v H
def FU (K:W.Frag):R2:=fun x y H Q=>∃ p xs i v,x=.ref p/\y=.int i/\fB K H p xs/\atI xs i=some v/\Q v H
def FV:R2:=fun x y H Q=>∃ z i c,x=.str z/\y=.int i/\z.length<=sizeLine/\atI z.cps.toList i=some c/\Q (.str ⟨#[c]⟩) H
theorem Cu:AK X (FW X.K):=by
 intro value slice pins s σ H x y v u Q I rx ry h hs
 obtain ⟨p,xs,i,z,rfl,rfl,hq,he,q⟩:=h
 cases rx
 obtain ⟨t,rfl⟩:=ry
 obtain ⟨its,r,pl,hz⟩:=I.list hq
 obtain ⟨j,h1,h2,h3,h4,h5⟩:=sd he
 obtain ⟨w,ew,rw'⟩:=r.get h2
 have hl:=r.length
 have hn:=mO
 have fin:EP X pins σ Q w s:=⟨z,H,I,rw',q⟩
 by_cases h0:0<=i
 ·have hj:i.toNat=j:=by
   rw [seqIndex_of h0 h5] at h1
   exact IF h1
  exact item_listR pl.isList h0 (by omega) (by rw [hj];simpa using ew) fin hs
 ·have hj:(i+(its.toArray.size:Int)).toNat=j:=by
   rw [seqIndex_neg (by omega) h4] at h1
   rw [Ju,<- hl]
   exact IF h1
  exact subscriptTail_builtinR (x:=w) pl.isList.typeIs J7.lookup
   (wpAny_getItem_list_neg (Q:=fun r s'=>r=w/\EP X pins σ Q r s') pl.isList (by omega) (by rw [Ju] <;> omega) (by omega) (by rw [hj];simpa using ew) ⟨rfl,fin⟩) hs
theorem Fc:AK X (FU X.K):=by
 intro value slice pins s σ H x y v u Q I rx ry h hs
 obtain ⟨p,xs,i,z,rfl,rfl,hq,he,q⟩:=h
 cases rx
 obtain ⟨t,rfl⟩:=ry
 obtain ⟨its,r,pl,hz⟩:=I.tuple hq
 obtain ⟨j,h1,h2,h3,h4,h5⟩:=sd he
 obtain ⟨w,ew,rw'⟩:=r.get h2
 have hl:=r.length
 have hn:=mO
 have fin:EP X pins σ Q w s:=⟨z,H,I,rw',q⟩
 exact subscriptTail_builtinR (x:=w) pl.typeIs slot_tuple_getitem.lookup
  (getItem_tuple (j:=j) (Q:=fun r s'=>r=w/\EP X pins σ Q r s') pl (by omega) (by omega) (by rw [Ju,<- hl];exact h1) (by simpa using ew) ⟨rfl,fin⟩) hs
theorem Fd:AK X FV:=by
 intro value slice pins s σ H x y v u Q I rx ry h hs
 obtain ⟨z,i,c,rfl,rfl,hz,he,q⟩:=h
 obtain ⟨t,rfl⟩:=rx
 obtain ⟨t',rfl⟩:=ry
 obtain ⟨j,h1,h2,h3,h4,h5⟩:=sd he
 have hl:z.cps.toList.length=z.length:=by simp [Str.length]
 rw [hl] at h1 h4 h5
 have hn:=mO
 exact tail_any (typeIs_str s z t) slot_str_getitem.lookup (getItem_str (c:=c) (by
  have e1:decide (i < -(2 ^ 63:Int))=false:=Iz (by omega)
  have e2:decide (i ≥ 2 ^ 63)=false:=Iz (by omega)
  rw [e1,e2,Bool.or_false]) (by rw [h1];simpa using h2) ⟨.str ⟨#[c]⟩,H,I.tok _,⟨_,rfl⟩,q⟩) hs
def HW (K:W.Frag):R2:=fun x y H Q=>FW K x y H Q\/FU K x y H Q\/FV x y H Q
theorem Fe:AK X (HW X.K):=Cu.or (Fc.or Fd)
theorem vA (its:List Value) (n j:Nat) (u:Value):Obj.mapSeq (·.setIfInBounds j u) { cls:=.type "list",data:=.seq its.toArray n }={ cls:=.type "list",data:=.seq (its.set j u).toArray n }:=by
 simp [Obj.mapSeq]
theorem aR.lst {pins:List (Addr × Obj)}{σ:St}{H:Hp}{s:Shared}{p:Addr}{xs:List V} (I:aR X pins σ H s) (h:H p=some (.lst xs)) :
  ∃ (its:List Value) (n:Nat),ba xs its/\s.heap.get? p=some { cls:=.type "list",data:=.seq its.toArray n }/\xs.length<=sizeLine:=by
 obtain ⟨z,its,n,r,e⟩:=I.hok p _ h
 exact ⟨its,n,r,e,z⟩
theorem aR.lstUpd {pins:List (Addr × Obj)}{σ:St}{H:Hp}{s:Shared}{p:Addr}{xs ys:List V}{its its':List Value}{n n':Nat}{f:Obj->Obj} (I:aR X pins σ H s) (h:H p=some (.lst xs))
  (ho:s.heap.get? p=some { cls:=.type "list",data:=.seq its.toArray n }) (hf:f { cls:=.type "list",data:=.seq its.toArray n }={ cls:=.type "list",data:=.seq its'.toArray n' }) (r:ba ys its') (hz:ys.length<=sizeLine) (t:Nat) :
  aR X pins σ (cq H p (.lst ys)) { s with heap:=s.heap.update p f,toks:=t }:=by
 have e:(s.heap.update p f).get? p=some { cls:=.type "list",data:=.seq its'.toArray n' }:=by
  rw [J8 f ho (by rw [hf] <;> rfl),hf]
 refine I.write (x:=p) (e:=p) (by rw [h];trivial) (.inl rfl) (fun b u hb q=>(Heap.get?_update_other _ _ (IU hb)).trans q) ⟨_,e⟩ ?_
 exact ⟨hz,its',n',r,e⟩
def CY:V->V->V->Hp->(Hp->Prop)->Prop:=fun o i v H Q=>∃ p xs k j,o=.ref p/\i=.int k/\H p=some (.lst xs)/\vR xs.length k=some j/\Q (cq H p (.lst (xs.set j v)))
theorem zA:Ge X CY:=by
 intro pins s σ H o i v ov iv u Q I ro ri rv h
 obtain ⟨p,xs,k,j,rfl,rfl,hp,hj,q⟩:=h
 cases ro
 obtain ⟨t,rfl⟩:=ri
 obtain ⟨its,n,r,ho,hz⟩:=I.lst hp
 obtain ⟨h1,h2,h3,h4⟩:=r6 hj
 have hl:=r.length
 have hn:=mO
 have I':aR X pins σ (cq H p (.lst (xs.set j v))) { s with heap:=s.heap.update p (Obj.mapSeq (·.setIfInBounds j u)) }:=
  I.lstUpd hp ho (vA its n j u) (r.set rv j) (by rw [J9];exact hz) s.toks
 by_cases h0:0<=k
 ·have hk:k.toNat=j:=by
   rw [seqIndex_of h0 h4] at h1
   exact IF h1
  exact W.ki_setAt ho h0 (by omega) (by rw [Ju,<- hl];exact h4) (by rw [hk];exact ⟨_,I',q⟩)
 ·have hk:(k+(its.toArray.size:Int)).toNat=j:=by
   rw [seqIndex_neg (by omega) h3] at h1
   rw [Ju,<- hl]
   exact IF h1
  exact W.ki_setBack ho (by omega) (by rw [Ju,<- hl];exact h3) (by omega) (by rw [hk];exact ⟨_,I',q⟩)
theorem sj (lo hi:Option Int) (n:Nat):(sliceBounds lo hi none n).1=((HT.sIx n 0 lo:Nat):Int)/\(sliceBounds lo hi none n).2.1=((HT.sIx n n hi:Nat):Int)/\(sliceBounds lo hi none n).2.2=1:=by
 refine ⟨?_,?_,rfl⟩
 ·cases lo with
  | none=>simp [sliceBounds,HT.sIx]
  | some i=>
   simp only [sliceBounds,HT.sIx,Option.getD_none,show (1:Int) > 0 by decide,JQ]
   by_cases h:i<0
   ·simp only [h,JQ] <;> omega
   ·simp only [h,JP] <;> omega
 ·cases hi with
  | none=>simp [sliceBounds,HT.sIx]
  | some i=>
   simp only [sliceBounds,HT.sIx,Option.getD_none,show (1:Int) > 0 by decide,JQ]
   by_cases h:i<0
   ·simp only [h,JQ] <;> omega
   ·simp only [h,JP] <;> omega
theorem p5 (its:List Value) (lo hi:Option Int):slicePick its.toArray lo hi none=((its.drop (HT.sIx its.length 0 lo)).take (HT.sIx its.length its.length hi - HT.sIx its.length 0 lo)).toArray:=by
 obtain ⟨h1,h2,h3⟩:=sj lo hi its.toArray.size
 unfold slicePick
 rw [h1,h2,h3]
 simp only [sliceRange_one,pick_run,Ju] <;> rfl
def FP (K:W.Frag):V->Option Int->Option Int->Hp->VK->Prop:=fun x lo hi H Q=>∃ a xs,x=.ref a/\f7 K H a xs/\∀ p,H p=none->Q (.ref p) (cq H p (.lst (sQ xs lo hi)))
theorem Bo:AH X (FP X.K):=by
 intro pins s σ H x v vl vu lo hi sl Q I rx hs pl pu h
 obtain ⟨a,xs,rfl,hx,q⟩:=h
 cases rx
 obtain ⟨its,r,ht,hz⟩:=I.list hx
 have hlen:=r.length
 refine ⟨"list",_,J7.lookup,ht.isList.typeIs,?_⟩
 refine wpAny_getItem_list_slice ht.isList hs pl pu .none (by simp) ?_ (by rw [Ju] <;> omega)
 rw [p5,<- hlen]
 refine ⟨.ref s.heap.objs.size,_,I.laid (t':=s.toks) (o:=.lst (sQ xs lo hi)) (fun b ob q=>Jn _ q) (Jp _) ?_,rfl,q _ (I.hok.fresh (Jp _))⟩
 exact ⟨IM (nv xs lo hi) hz,_,0,(r.drop (HT.sIx xs.length 0 lo)).take (HT.sIx xs.length xs.length hi - HT.sIx xs.length 0 lo),Jo _ rfl⟩
theorem dj.or {f:Value}{r r':List V->Hp->VK->Prop} (h:dj X f r) (h':dj X f r'):dj X f (fun xs H Q=>r xs H Q\/r' xs H Q):=by
 intro pins s σ H xs us Q I rs q
 rcases q with q | q
 ·exact h pins s σ H xs us Q I rs q
 ·exact h' pins s σ H xs us Q I rs q
theorem qe:dj X (.type "tuple") (fun xs H Q=>∃ p ys,xs=[.ref p]/\((f7 X.K H p ys/\∀ l,H l=none->Q (.ref l) (cq H l (.tup ys)))\/(fB X.K H p ys/\Q (.ref p) H))):=by
 intro pins s σ H xs us Q I r h
 obtain ⟨p,ys,rfl,h⟩:=h
 obtain ⟨u,rfl,rx⟩:=gX r
 cases rx
 rcases h with ⟨hq,q⟩ | ⟨hq,q⟩
 ·obtain ⟨its, r', pl, hz⟩ := I.list hq
  have hlen:=r'.length
  refine call_tuple_list pl.isList (fun h' kp=>?_) (by simp only [Ju] <;> omega)
  have I1:aR X pins σ H { s with heap:=h' }:=I.kept (t':=s.toks) kp
  have I2:aR X pins σ (cq H h'.objs.size (.tup ys)) { s with heap:=h'.push { cls:=.type "tuple",data:=.seq its.toArray } }:=
   I1.laid (t':=s.toks) (fun b o e=>Jn _ e) (Jp _) (show fv X.prog X.w _ _ _ (.tup ys) from ⟨hz,its,r',IsTup.new _ _⟩)
  exact ⟨.ref h'.objs.size,_,I2,rfl,q _ (I1.hok.fresh (Jp _))⟩
 ·obtain ⟨its, r', pl, hz⟩ := I.tuple hq
  exact call_tuple_same pl ⟨.ref p,H,I,rfl,q⟩
def Hj (K:W.Frag) (T:String) (x:V) (H:Hp):Prop:=match x with
 | .str _=>T = "str"
 | .int _=>T = "int"
 | .ref p=>(T = "list" /\ ∃ xs,f7 K H p xs)\/(T = "tuple" /\ ∃ o,K.lookup p=some o/\o.cls=.type "tuple" /\ o.dict=none) \/
   (T = "dict" /\ ((∃ kvs,H p=some (.dK kvs))\/∃ kvs,H p=some (.dT kvs)))\/(T = "set" /\ ∃ S n,H p=some (.set S n))
 | _=>False
theorem DE {pins:List (Addr × Obj)}{σ:St}{H:Hp}{s:Shared}{T:String}{x:V}{v:Value} (I:aR X pins σ H s) (r:cn x v) (ty:Hj X.K T x H) :
  s.TypeIs v T/\∀ a,v=.ref a->∃ ob,s.heap.get? a=some ob/\ob.dict=none:=by
 cases x with
 | str z=>
  obtain ⟨t,rfl⟩:=r
  cases (show T = "str" from ty)
  exact ⟨typeIs_str s z t,fun _ e=>nomatch e⟩
 | int i=>
  obtain ⟨t,rfl⟩:=r
  cases (show T = "int" from ty)
  exact ⟨typeIs_int s i t,fun _ e=>nomatch e⟩
 | ref p=>
  cases r
  rcases ty with ⟨rfl,xs,hq⟩ | ⟨rfl,o,hk,hc,hd⟩ | ⟨rfl,hk⟩ | ⟨rfl,S,n,hk⟩
  ·obtain ⟨its, _, pl, _⟩ := I.list hq
   refine ⟨pl.isList.typeIs,fun a e=>?_⟩
   cases e
   obtain ⟨o,n,e,c,hd,_⟩:=pl
   exact ⟨o,e,hd⟩
  ·refine ⟨⟨o, I.kIn p o hk, hc⟩, fun a e => ?_⟩
   cases e
   exact ⟨o,I.kIn _ o hk,hd⟩
  ·have z:∃ o,s.heap.get? p=some o/\o.ExactDict:=by
    rcases hk with ⟨kvs,hk⟩ | ⟨kvs,hk⟩
    ·obtain ⟨_, _, _, _, o, _, _, e, ex, _⟩ := I.hok p _ hk
     exact ⟨o,e,ex⟩
    ·obtain ⟨_, _, _, _, o, _, _, e, ex, _⟩ := I.hok p _ hk
     exact ⟨o,e,ex⟩
   obtain ⟨o,e,ex⟩:=z
   refine ⟨⟨o,e,ex.1⟩,fun a e2=>?_⟩
   cases e2
   exact ⟨o,e,ex.2.1⟩
  ·obtain ⟨o, _, _, _, e, ex, _⟩ := I.hok p _ hk
   refine ⟨⟨o,e,ex.1⟩,fun a e2=>?_⟩
   cases e2
   exact ⟨o,e,ex.2.1⟩
 | _=>exact False.elim ty
def Il (K:W.Frag) (T:String) (r:V->List V->Hp->VK->Prop) (to:TE) (t:TA):TE:=fun σ H Q=>to σ H fun x H1=>Hj K T x H1/\t σ H1 fun xs H2=>r x xs H2 Q
variable {o e:Expr}{es:List Expr}{to:TE}{t:TA}{name:Str}{apos cpos:Pos}{T id:String}{r:V->List V->Hp->VK->Prop}
theorem GP (pa:PlainAttrs T) (slot:Slot T name id) (hty:typeOf (.builtin id)=pure (.type "method_descriptor")) (hm:HZ X id r) (ho:PE X o to) (ha:PA X (e::es) t)
  (hbase:attributeBase o name X.env (eval o X.env)=eval o X.env:=by rfl)
  (hfew : ((backTo cpos (starEach (e :: es) X.env)).all (fun x => !x.1) && (backToKw cpos (keywordEach [] X.env)).all (fun x => x.1.isSome)
   && decide ((e::es).length+([]:List Keyword).length+(if ([]:List Keyword).isEmpty then 0 else 1)<30))=true:=by rfl)
  (hline:(apos.endLine == cpos.line)=true:=by rfl) (hs:starEach (e::es) X.env=(false,eval e X.env)::starEach es X.env:=by rfl) (hplain:(backTo cpos (starEach es X.env)).any (·.1)=false:=by rfl) :
  PE X (.Call (.Attribute o name apos) (e::es) [] cpos) (Il X.K T r to t):=by
 intro pins s σ H Q I h
 refine wpAny_Call_method_late hbase hfew hline rfl (d3 (ho pins s σ H _ I h) fun v s1 ⟨x,H1,I1,r1,ty,q1⟩=>?_)
 obtain ⟨h1,h2⟩:=DE I1 r1 ty
 refine ⟨T,id,pa,slot,hty,h1,h2,?_⟩
 have hA:=ha cpos pins s1 σ H1 _ I1 q1
 rw [hs] at hA ⊢
 refine Calls.callWith_builtin (by show (false || (backTo cpos (starEach es X.env)).any (·.1))=false;rw [hplain] <;> rfl) (Calls.evalArgs_plain ?_)
 exact d3 hA fun us s2 ⟨vs,H2,I2,r2,q2⟩=>hm pins s2 σ H2 x vs v us Q I2 r1 r2 q2
end
end L2
namespace L2
open PySem PySem.Spec PyProof.Rows
def Ib (X:Cx) (id:String) (r:V->List V->Hp->VK->Prop):Prop:=
 ∀ (pins:List (Addr × Obj)) (s:Shared) (σ:St) (H:Hp) (x:V) (xs:List V) (v:Value) (us:List Value) (Q:VK),aR X pins σ H s->cn x v->ba xs us->r x xs H Q ->
  wpAny (model X.prog X.w) X.A (call (.builtin id) (v::us)) (EP X pins σ Q) X.xe s
theorem ba.one:∀ {x:V}{us:List Value},ba [x] us->∃ u,us=[u]/\cn x u
 | _,_,.cons r .nil=>⟨_,rfl,r⟩
theorem ba.eraseIdx:∀ {xs:List V}{us:List Value} (i:Nat),ba xs us->ba (xs.eraseIdx i) (us.eraseIdx i)
 | _,_,_,.nil=>.nil
 | _,_,0,.cons _ t=>t
 | _,_,i+1,.cons r t=>.cons r (ba.eraseIdx i t)
theorem ba.reverse {xs:List V}{us:List Value} (h:ba xs us):ba xs.reverse us.reverse:=by
 induction h with
 | nil=>exact .nil
 | cons r t ih=>rw [Ka,Ka];exact ba.append ih (.cons r .nil)
theorem ba.rep {xs:List V}{us:List Value} (h:ba xs us):∀ k:Nat,ba (List.replicate k xs).flatten (List.replicate k us).flatten
 | 0=>.nil
 | k+1=>by
  rw [Kb,Kb,Kc,Kc]
  exact ba.append h (ba.rep h k)
theorem qJ {α:Type}:∀ (l:List α) (i:Nat),(l.eraseIdx i).length<=l.length
 | [],_=>Jp _
 | _::_,0=>Kd _
 | _::r,i+1=>Nat.succ_le_succ (qJ r i)
theorem qR (its:List Value):∀ (k:Nat) (acc:List Value),
  List.foldl (fun x1 x2=>x1++x2) acc.toArray (List.replicate k its.toArray)=(acc++(List.replicate k its).flatten).toArray
 | 0,acc=>by simp
 | k+1,acc=>by
  have e:acc.toArray++its.toArray=(acc++its).toArray:=by simp
  have e2:(acc++its)++(List.replicate k its).flatten=acc++(List.replicate (k+1) its).flatten:=by
   rw [Kb,Kc,Ke]
  rw [<- e2,<- qR its k (acc++its),<- e,Kb,Kf]
section
variable {X:Cx}{pins:List (Addr × Obj)}{σ:St}{H:Hp}{s:Shared}{l b:Addr}{xs ys zs:List V}
theorem aR.lset {its its':List Value}{n:Nat}{f:Array Value->Array Value}{t':Nat} (I:aR X pins σ H s) (hH:H l=some (.lst xs))
  (e:s.heap.get? l=some { cls:=.type "list",data:=.seq its.toArray n }) (hf:f its.toArray=its'.toArray) (hv:ba ys its') (hz:ys.length<=sizeLine) :
  aR X pins σ (cq H l (.lst ys)) { s with heap:=s.heap.update l (Obj.mapSeq f),toks:=t' }:=by
 have q:=PySem.IsL.update e f
 rw [hf] at q
 refine I.write (x:=l) (e:=l) (by rw [hH];exact trivial) (.inl rfl) (fun b' u hb hu=>(Heap.get?_update_other s.heap (Obj.mapSeq f) (IU hb)).trans hu) ⟨_,q⟩ ?_
 exact ⟨hz,its',_,hv,q⟩
theorem aR.lnew {its:List Value}{t':Nat} (I:aR X pins σ H s) (hv:ba ys its) (hz:ys.length<=sizeLine) :
  aR X pins σ (cq H s.heap.objs.size (.lst ys)) { s with heap:=s.heap.push { cls:=.type "list",data:=.seq its.toArray },toks:=t' }:=
 I.laid (fun _ _ q=>Jn _ q) (Jp _) ⟨hz,its,0,hv,Jo _ rfl⟩
theorem aR.fresh (I:aR X pins σ H s):H s.heap.objs.size=none:=I.hok.fresh (Jp _)
theorem aR.lstM (I:aR X pins σ H s) (hH:H l=some (.lst xs)):xs.length<=sizeLine/\∃ (its:List Value) (n:Nat),ba xs its/\xs.length=its.length/\s.heap.get? l=some { cls:=.type "list",data:=.seq its.toArray n }:=by
 obtain ⟨z,its,n,r,e⟩:=I.hok l _ hH
 exact ⟨z,its,n,r,r.length,e⟩
theorem tR {n:Nat} (h:n<=sizeLine):Builtin.List.listTooLong n=false:=by
 unfold Builtin.List.listTooLong
 exact Iz (by omega)
end
section
variable {X:Cx}
def BE:V->List V->Hp->VK->Prop:=fun x vs H Q=>∃ l xs y,x=.ref l/\vs=[y]/\H l=some (.lst xs)/\xs.length<sizeLine/\Q .non (cq H l (.lst (xs++[y])))
theorem xJ:Ib X "list.append" BE:=by
 intro pins s σ H x vs v us Q I rx rv h
 obtain ⟨l,xs,y,rfl,rfl,hH,hz,q⟩:=h
 cases rx
 obtain ⟨u,rfl,ru⟩:=rv.one
 obtain ⟨z,its,n,r,hl,e⟩:=I.lstM hH
 refine Kg F.slot_list_append ⟨_,e,rfl⟩ F.entry_list_append (F.args_list_append_2 _ _) (PySem.list_append l its.toArray n u (by rw [Ju];omega)) ⟨e,?_⟩
 refine ⟨.non,_,I.lset (its':=its++[u]) hH e (by simp) (r.append (.cons ru .nil)) ?_,rfl,q⟩
 rw [JH,Kh]
 omega
def y8:V->List V->Hp->VK->Prop:=fun x vs H Q=>∃ l xs i k y,x=.ref l/\vs=[.int i]/\H l=some (.lst xs)/\-(2 ^ 63)<=i/\i<2 ^ 63/\seqIndex? i xs.length=some k/\xs[k]?=some y/\Q y (cq H l (.lst (xs.eraseIdx k)))
theorem Ad:Ib X "list.pop" y8:=by
 intro pins s σ H x vs v us Q I rx rv h
 obtain ⟨l,xs,i,k,y,rfl,rfl,hH,h1,h2,hk,hy,q⟩:=h
 cases rx
 obtain ⟨u,rfl,ru⟩:=rv.one
 obtain ⟨t,rfl⟩:=ru
 obtain ⟨z,its,n,r,hl,e⟩:=I.lstM hH
 obtain ⟨w,hw,rw'⟩:=r.get hy
 refine Kg F.slot_list_pop ⟨_,e,rfl⟩ F.entry_list_pop (F.args_list_pop_2 _ _)
  (MeetsSeq.list_pop_at l its.toArray n i t k w (fitsIndex_both h1 h2) (by rw [Ju,<- hl];exact hk) (by rw [<- Ki];exact hw) (by rw [Ju];omega)) ⟨e,?_⟩
 refine ⟨y,_,I.lset (its':=its.eraseIdx k) hH e ?_ (r.eraseIdx k) ?_,rw',q⟩
 ·show its.toArray.eraseIdxIfInBounds k = (its.eraseIdx k).toArray
  rw [List.eraseIdxIfInBounds_toArray]
 ·have := qJ xs k
  omega
def FY:R2:=fun x y H Q=>∃ l b xs zs,x=.ref l/\y=.ref b/\H l=some (.lst xs)/\H b=some (.lst zs)/\xs.length+zs.length<=sizeLine/\∀ p,H p=none->Q (.ref p) (cq H p (.lst (xs++zs)))
theorem ER:jQ X (binaryOp .Add) FY:=by
 intro pins s σ H x y v u Q I rx ry h
 obtain ⟨l,b,xs,zs,rfl,rfl,hH,hB,hz,q⟩:=h
 cases rx
 cases ry
 obtain ⟨z,its,n,r,hl,e⟩:=I.lstM hH
 obtain ⟨z2,its2,n2,r2,hl2,e2⟩:=I.lstM hB
 refine PySem.P.add_list e e2 ?_ (by rw [Ju,Ju];omega)
 have ea:its.toArray++its2.toArray=(its++its2).toArray:=by simp
 rw [ea]
 exact ⟨.ref _,_,I.lnew (t':=s.toks) (r.append r2) (by rw [JH];omega),rfl,q _ I.fresh⟩
def FR:R2:=fun x y H Q=>∃ l k xs,x=.ref l/\y=.int k/\H l=some (.lst xs)/\-(2 ^ 63)<=k/\k<2 ^ 63/\xs.length * k.toNat<=sizeLine /\
 ∀ p,H p=none->Q (.ref p) (cq H p (.lst (List.replicate k.toNat xs).flatten))
theorem Cr {α:Type} (xs:List α) (k:Nat):(List.replicate k xs).flatten.length=k * xs.length:=by
 induction k with
 | zero=>simp
 | succ k ih=>rw [Kb,Kc,JH,ih,Nat.succ_mul,Nat.add_comm]
theorem EH:jQ X (binaryOp .Mult) FR:=by
 intro pins s σ H x y v u Q I rx ry h
 obtain ⟨l,k,xs,rfl,rfl,hH,h1,h2,hz,q⟩:=h
 cases rx
 obtain ⟨t,rfl⟩:=ry
 obtain ⟨z,its,n,r,hl,e⟩:=I.lstM hH
 have hlen:its.toArray.size * k.toNat<=sizeLine:=by rw [Ju,<- hl];exact hz
 have hcap:¬ its.toArray.size * k.toNat > (2 ^ 63 - 1) / 8:=by
  have:(sizeLine:Nat)<=(2 ^ 63 - 1) / 8:=by decide
  omega
 have hfit:¬ (!Builtin.List.listFitsIndex k)=true:=by
  rw [fitsIndex_both h1 h2]
  exact Jj
 have hlong:¬ Builtin.List.listTooLong (its.toArray.size * k.toNat)=true:=by
  rw [tR hlen]
  exact Jj
 have hnew:List.foldl (fun x1 x2=>x1++x2) #[] (List.replicate (if its.toArray.isEmpty=true then 0 else k.toNat) its.toArray)=(List.replicate k.toNat its).flatten.toArray:=by
  have f0:∀ m:Nat,List.foldl (fun x1 x2=>x1++x2) #[] (List.replicate m its.toArray)=(List.replicate m its).flatten.toArray:=fun m=>by
   have:=qR its m []
   rw [Kj] at this
   exact this
  rw [f0]
  cases its with
  | nil=>simp
  | cons a r'=>rw [IE (by simp)]
 refine wpAny_binaryOp_repeat_ref (T:="list") (U:="int") (by decide) ⟨_,e,rfl⟩ (fun s'=>typeIs_int s' k t) noFill_list_mul F.fills_int_mul F.slot_int_rmul repeat_list F.slot_int_index.lookup
  (Kg F.slot_int_rmul (typeIs_int s k t) F.entry_int_rmul (F.args_int_rmul_2 _ _) (int___rmul___int_list k t l its.toArray n)
   ⟨e,rfl,⟨_,e,rfl⟩,Kg F.slot_list_mul ⟨_,e,rfl⟩ F.entry_list_mul (F.args_list_mul_2 _ _) (AutoListH.list___mul___list_int_3 l its.toArray n k t hfit hcap hlong) ⟨e,?_⟩⟩)
 rw [hnew]
 exact ⟨.ref _,_,I.lnew (t':=s.toks) (r.rep k.toNat) (by rw [Cr,Nat.mul_comm];exact hz),rfl,q _ I.fresh⟩
end
section
variable {prog:Program}{w:World}{A:Around}{E:Value->Shared->Prop}{s:Shared}
end
section
variable {X:Cx}
end
end L2
namespace Att
open PySem PySem.W PySem.Calls PyProof.Rows
theorem nO {P:Params}{h:Heap}:∀ (ns:List Int) (vs:List Value),WellAll P h vs (ns.map WData.int)->IntsAre vs ns:=by
 intro ns
 induction ns with
 | nil=>
  intro vs w
  rw [J4] at w
  cases w
  exact .nil
 | cons n ns ih=>
  intro vs w
  rw [J5] at w
  cases w with
  | cons a b=>
   cases a
   exact .cons _ _ (ih _ b)
theorem xo {l:OpenLaw}{n:Nat} (hn:l.most=some n) {P:Params}{h:Heap}{args:List WData}{vals:List Value}
  (hpre:l.row.toRowW.claim.pre args=true) (hwl:WellAll P h vals args) :
  ∃ a vs ns,vals=[Value.ref a]/\args=[WData.list (ns.map WData.int)]/\h.get? a=some { cls:=.type "list",data:=.seq vs.toArray }/\IntsAre vs ns/\ns.length<=n:=by
 have hsh:WShape.hasAll [] args [.list .int]=true:=(pre_splitW hpre).1
 have hc:l.pre.holds [] { args:=args }=true:=(pre_splitW hpre).2
 obtain ⟨d,r,rfl,h1,h2⟩:=hasAllW_cons hsh
 obtain rfl:=hasAllW_nil h2
 obtain ⟨xs,rfl,h3⟩:=hasW_list h1
 obtain ⟨ns,rfl⟩:=items_int h3
 have hlen:ns.length<=n:=by
  unfold OpenLaw.pre at hc
  have h4:(WTm.not (.lt (.lit (.int (n:Int))) (.len (.arg 0)))).holds [] { args:=[.list (ns.map .int)] }=true:=by
   have h4:=(holds_andW hc).1
   rw [hn] at h4
   exact h4
  have h5:=condW_of h4 (w_not (w_lt w_lit (w_len_list (w_arg rfl))))
  rw [JI] at h5
  refine Nat.le_of_not_lt fun q=>?_
  have q':(n:Int)<((ns.length:Nat):Int):=by omega
  first
   | (rw [Kk q'] at h5;exact absurd h5 (by decide))
   | (simp at h5;omega)
 cases hwl with
 | cons w1 w2=>
  cases w2
  cases w1 with
  | list ho hall=>exact ⟨_,_,ns,rfl,rfl,ho,nO ns _ hall,hlen⟩
theorem xt (l:OpenLaw) (args:List WData):l.row.toRowW.claim.post args (.bool true) args=true:=
 postW_of (r:=l.row.toRowW) (X:=(true == true))
  (show WShape.has [] (.bool true) .bool=true by first | rfl | decide | simp [WShape.has,WShape.arms,WShape.armsAll])
  (show (WTm.eq .res (.lit (.bool true))).value [] { args:=args,res:=some (.bool true),after:=args }=some (.bool (true == true)) from w_eq_bool (w_res rfl) w_lit) rfl
theorem attach_call {l:OpenLaw}{n:Nat}{q:Program}{loose:List Str}{XP:(Str->Option Value)->Heap->Prop}{YP:World->Heap->Prop}{d:DefRec}
  (hn:l.most=some n) (hdf:d.params.defaults=[])
  (call : ∀ (w : World) (s₀ s₁ : Shared) (mg mb : Str -> Option Value) (fa : Addr) (o : Obj) (pm cd doc : Value) (a : Addr) (vs : List Value) (ns : List Int),
   Ground q loose [] XP w s₀ mg mb s₁.heap->YP w s₁.heap ->
   s₁.heap.get? fa=some o->o.data=.func (docDef d.name d.params d.body d.scope pm cd doc)->s₁.heap.CodeRec cd d.name->mg d.name=some (.ref fa) ->
   s₁.heap.get? a=some { cls:=.type "list",data:=.seq vs.toArray }->IntsAre vs ns->ns.length<=n->s₁.gens=#[] ->
   codeAny (model l.prog w) callerA (.call (.ref fa) ⟨[.ref a],[]⟩) (fun r s'=>r=.ok (.ret (.bool true))/\OldK s₁.heap s'.heap/\s'.os=s₁.os/\AllBare s'.gens) s₁) :
  WalkO q loose XP YP l.row.toRowW d [] (fun f vs=>PySem.call f vs):=by
 intro w s₀ s₁ mg mb G Y fa o pm cd doc dV kV ho hd hcd hD hmg hg args vals as hpre hlay hrd hwl hlo
 obtain rfl:dV=.none:=Dflts.none hD hdf
 obtain rfl:kV=.none:=Dflts.noKw hD
 obtain ⟨a,vs,ns,rfl,rfl,hobj,hints,hlen⟩:=xo hn hpre hwl
 refine enter_call (Jw (call w s₀ s₁ mg mb fa o pm cd doc a vs ns G Y ho (fd_plain hd) hcd hmg hobj hints hlen hg) fun r s' hq=>?_)
 obtain ⟨rfl,h2,h3,h4⟩:=hq
 exact ⟨.inl ⟨.bool true,.bool true,[],rfl,fun _=>rfl,.bool true,xt l _,fun _=>⟨List.Pairwise.nil,fun _ hm=>(nomatch hm)⟩⟩,h2,h3,h4⟩
section
variable {prog:Program}{w:World}{A:Around}{E:Value->Shared->Prop}{s:Shared}{K:Frag}
end
end Att
namespace L2
open PySem PySem.Spec PyProof.Rows
theorem qv:∀ {vs:List Value}{ns:List Int},IntsAre vs ns->ba (ns.map V.int) vs
 | _,_,.nil=>.nil
 | _,_,.cons n t h=>.cons ⟨t,rfl⟩ (qv h)
def AV (H:Hp):Prop:=∀ b,H b=none\/∃ o xs,H b=some (.frz o (.lst xs))
theorem Af {P:Program}{w:World}{K:W.Frag}{mg mb:Str->Option Value}{CX:yo}{k:Nat}{fa a:Addr}{fd:FuncData}{x:Str}{sp:Sp}{s₁:Shared}{vs:List Value}{ns:List Int}
  (KX:K.In s₁.heap) (hns:s₁.heap.Ns mainGlobals mg) (hb:s₁.heap.Ns builtinsNs mb) (hbb:∀ x:Str,x ≠ "__name__" -> mb x=bootBuiltins x) (hlim:s₁.heap.NoLimit) (hg:s₁.gens=#[])
  (ha:s₁.heap.get? a=some { cls:=.type "list",data:=.seq vs.toArray }) (hi:IntsAre vs ns) (hl:ns.length<=sizeLine) (hr:iG k callerA)
  (F:∀ base:Heap,K.In base->base.Ns mainGlobals mg->pY P w K mg base CX k fa fd [x] sp) (hbind:∀ (s:Shared) (u:Value),BindsTo s fd ⟨[u],[]⟩ [(x,u)])
  (hsp:∀ H:Hp,AV H->f7 K H a (ns.map V.int)->sp [.ref a] H (fun v _=>v=.bl true) fun _ _ _=>False)
  (hCX:∀ H e s',CX [] H s₁ (fun _ _ _=>False) e s'->False) :
  codeAny (model P w) callerA (.call (.ref fa) ⟨[.ref a],[]⟩) (fun r s'=>r=.ok (.ret (.bool true))/\OldK s₁.heap s'.heap/\s'.os=s₁.os/\AllBare s'.gens) s₁:=by
 have rv:=qv hi
 have lenV:=hi.length
 have core:∀ H:Hp,AV H->f7 K H a (ns.map V.int)->nX P w H s₁.heap->(∀ b,H b≠none->b=a)->(H a≠none->K.lookup a=none) ->
   codeAny (model P w) callerA (.call (.ref fa) ⟨[.ref a],[]⟩) (fun r s'=>r=.ok (.ret (.bool true))/\OldK s₁.heap s'.heap/\s'.os=s₁.os/\AllBare s'.gens) s₁:=by
  intro H hO hS hok hA hK
  have base_of:∀ {b:Addr}{o:Obj},s₁.heap.get? b=some o->H b=none->(rC s₁.heap H).get? b=some o:=fun e n=>Ak e n
  have noA:∀ {b:Addr}{o:Obj}{es:Array DictEntry}{ep:Nat},s₁.heap.get? b=some o->o.data=.dict es ep->H b=none:=fun {b o es ep} e d=>by
   cases q:H b with
   | none=>rfl
   | some u=>
    have e':b=a:=hA b (by rw [q];simp)
    subst e'
    rw [ha] at e;cases e
    have d':Data.seq vs.toArray _=Data.dict es ep:=d
    cases d'
  have nsK:∀ {b:Addr}{m:Str->Option Value},s₁.heap.Ns b m->(rC s₁.heap H).Ns b m:=fun {b m} ⟨o,es,ep,e,d,r⟩=>⟨o,es,ep,base_of e (noA e d),d,r⟩
  have hKb:K.In (rC s₁.heap H):=fun b o e=>base_of (KX b o e) (by
   cases q:H b with
   | none=>rfl
   | some u=>
    have e':b=a:=hA b (by rw [q];simp)
    subst e'
    rw [hK (by rw [q];simp)] at e;cases e)
  have hM:Mod K mg (rC s₁.heap H):=⟨hKb,nsK hns,⟨mb,nsK hb,hbb⟩,let ⟨mc,h1,h2⟩:=hlim;⟨mc,nsK h1,h2⟩⟩
  have e0:AW P w K mg (rC s₁.heap H) callerA [] s₁ H:=⟨rfl,hM,fun b o e=>Ca e,Kl (xQ _ _),trivial,fun b hb=>absurd (show b∈([]:List Addr) from hb) (by simp),hok,.of_eq hg⟩
  refine Jw ((F _ hKb (nsK hns)).run callerA [] s₁ H ⟨[.ref a],[]⟩ [.ref a] [.ref a] _ _ hr e0 (hbind s₁ (.ref a)) (.cons rfl .nil) (hsp H hO hS)) fun r s' h=>?_
  cases r with
  | error e=>exact (hCX H e s' h).elim
  | ok fl=>
   cases fl with
   | next=>exact False.elim h
   | brk=>exact False.elim h
   | cont=>exact False.elim h
   | ret u=>
    obtain ⟨v,H',os,bare,un,hok',r',q⟩:=h
    have q':v=.bl true:=q
    subst q'
    obtain rfl:u=Value.bool true:=r'
    refine ⟨rfl,OldK.of_keep fun b o e=>?_,os,bare⟩
    cases q:H b with
    | none=>exact un.keep b o e q (by intro z;exact absurd (show b∈([]:List Addr) from z) (by simp)) (by simp)
    | some u=>
     rcases hO b with z | ⟨ob,xs,z⟩
     ·rw [q] at z;cases z
     ·have z2 := un.frzs b ob _ z
      obtain ⟨e1,_⟩:=hok b _ z
      obtain ⟨e2,_⟩:=hok' b _ z2
      rw [e] at e1;cases e1
      exact e2
 cases hk:K.lookup a with
 | some o=>
  have e:=KX a o hk
  rw [ha] at e
  cases e
  refine core (fun _=>none) (fun _=>.inl rfl) (.inr ⟨_,vs.toArray,_,hk,rfl,rfl,rfl,by rw [Ju,lenV];exact hl,by simpa using rv⟩) (fun b u z=>by have z':(none:Option HO)=some u:=z;cases z') (fun b z=>absurd rfl z) fun z=>absurd rfl z
 | none=>
  refine core (fun b=>if b=a then some (.frz { cls:=.type "list",data:=.seq vs.toArray } (.lst (ns.map V.int))) else none) (fun b=>?_) (.inl (.inr ⟨{ cls:=.type "list",data:=.seq vs.toArray },ID rfl⟩)) (fun b u z=>?_) (fun b z=>?_) fun _=>hk
  ·by_cases hb : b = a
   ·exact .inr ⟨_,_,ID hb⟩
   ·exact .inl (IE hb)
  ·by_cases hb : b = a
   ·have z' := (ID hb).symm.trans z
    cases z'
    subst hb
    exact ⟨ha,by rw [JI];exact hl,vs,_,rv,ha⟩
   ·have z' := (IE hb).symm.trans z
    cases z'
  ·by_cases hb : b = a
   ·exact hb
   ·exact absurd (IE hb) z
end L2
namespace L2
open PySem PySem.Spec PyProof.Rows
theorem walk_of {l:W.OpenLaw}{n k:Nat}{q:Program}{loose:List Str}{XP:(Str->Option Value)->Heap->Prop}{YP:World->Heap->Prop}{d:DefRec}{K:Params->W.Frag}{CX:World->yo}{sp:World->Sp}{x:Str}
  (hn:l.most=some n) (hn2:n<=sizeLine) (hdf:d.params.defaults=[]) (hr:iG k callerA)
  (hY:∀ (w:World) (h:Heap),YP w h->(K w.params).In h)
  (F : ∀ (w : World) (mg : Str -> Option Value) (fa : Addr) (h : Heap), (K w.params).In h -> h.Ns mainGlobals mg -> mg d.name = some (.ref fa) ->
   ∃ fd:FuncData,(∀ (s:Shared) (u:Value),BindsTo s fd ⟨[u],[]⟩ [(x,u)]) /\
    ∀ base:Heap,(K w.params).In base->base.Ns mainGlobals mg->pY l.prog w (K w.params) mg base (CX w) k fa fd [x] (sp w))
  (hsp:∀ (w:World) (H:Hp) (a:Addr) (ns:List Int),ns.length<=n->AV H->f7 (K w.params) H a (ns.map V.int)->sp w [.ref a] H (fun v _=>v=.bl true) fun _ _ _=>False)
  (hCX:∀ (w:World) (H:Hp) (s:Shared) (e:Value) (s':Shared),CX w [] H s (fun _ _ _=>False) e s'->False) :
  W.WalkO q loose XP YP l.row.toRowW d [] (fun f vs=>PySem.call f vs):=by
 refine Att.attach_call hn hdf fun w s₀ s₁ mg mb fa o pm cd doc a vs ns G Y ho hd hcd hmg hobj hints hlen hg=>?_
 have KX:=hY w _ Y
 obtain ⟨fd,hb,hF⟩:=F w mg fa _ KX G.T.g hmg
 exact Af KX G.T.g G.T.b G.T.builtins G.T.nolimit hg hobj hints (IM hlen hn2) hr hF hb (fun H hO hS=>hsp w H a ns hlen hO hS) fun H e s'=>hCX w H s₁ e s'
end L2
namespace L2
open PySem PySem.Spec PyProof.Rows
def d8 (s:Stmt):Arguments:=match s with
 | .FunctionDef _ a _ _ _ _ _ _ _ _=>a
 | _=>{ posonlyargs:=[],args:=[],vararg:=none,kwonlyargs:=[],kw_defaults:=[],kwarg:=none,defaults:=[] }
def cI (s:Stmt):List Stmt:=match s with
 | .FunctionDef _ _ b _ _ _ _ _ _ _=>b
 | _=>[]
def ao (s:Stmt):Scope:=match s with
 | .FunctionDef _ _ _ _ _ _ sc _ _ _=>sc
 | _=>{ kind:=.function,names:=[],isGenerator:=false,isCoroutine:=false }
abbrev yp:yo:=fun _ _ _ _ _ _=>False
abbrev E0:XK:=fun _ _ _=>False
theorem GR {X:Cx}:u7 yp X E0:=fun _ _ _ _ _ _ _ h=>h.elim
structure gW (K:W.Frag) (x qual:Str) (st:Stmt) (f:Addr) (fd:FuncData):Prop where
 ex:∃ (oc:Value) (od:Option Addr) (kV doc pm:Value) (an:Option Addr) (cdv ct:Value) (osl:Array (Option Value)),
  fd=W.fnOf x qual (d8 st) (cI st) (ao st) .none kV doc pm an cdv ct/\K.lookup f=some ⟨oc,od,.func fd,osl⟩/\W.codeIn K cdv qual=true
 kp:W.keepIn K (.ref f)=true
section
variable {P:Program}{w:World}{K:W.Frag}{mg:Str->Option Value}{base:Heap}
theorem gW.ok {x qual:Str}{st:Stmt}{f:Addr}{fd:FuncData}{N ps:List Str}{k:Nat}{sp:Sp} (F:gW K x qual st f fd) (S:aO N ps (ao st)) (len:∀ vs H Q E,sp vs H Q E->vs.length=ps.length)
  (hbody : ∀ (cdv : Value) (A : Around) (outer : List Env) (s : Shared) (H : Hp) (vs : List V) (Q : VK) (E : XK), iG k (A.deeper (envOfC qual (ao st) s.heap.objs.size f cdv)) -> sp vs H Q E ->
   ∃ t,jZ (rE yp P w K mg base N qual (ao st) f cdv A outer s H E).nox (cI st) t/\t { nx:=fun _ H'=>Q .non H',rt:=Q } (start N vs) H):pY P w K mg base yp (k+1) f fd ps sp:=by
 obtain ⟨oc,od,kV,doc,pm,an,cdv,ct,osl,rfl,lk,hcd⟩:=F.ex
 refine G1 lk hcd S len fun A outer s H vs Q E hr hsp=>?_
 obtain ⟨t,h,q⟩:=hbody cdv A outer s H vs Q E hr hsp
 exact ⟨t,h.nox,q⟩
theorem gW.binds {x qual:Str}{st:Stmt}{f:Addr}{fd:FuncData}{ps:List Str} (F:gW K x qual st f fd)
  (h:∀ (kV doc pm:Value) (an:Option Addr) (cdv ct:Value) (us:List Value),us.length=ps.length->bindArgs (W.fnOf x qual (d8 st) (cI st) (ao st) .none kV doc pm an cdv ct) ⟨us,[]⟩=pure (ps.zip us)):kc K fd ps []:=by
 obtain ⟨oc,od,kV,doc,pm,an,cdv,ct,osl,rfl,lk,hcd⟩:=F.ex
 exact .all (h kV doc pm an cdv ct)
theorem Fl {x qual:Str}{st:Stmt}{f:Addr}{oc:Value}{od an:Option Addr}{osl:Array (Option Value)}{kV doc pm cdv ct:Value} (l:K.lookup f=some ⟨oc,od,.func (W.fnOf x qual (d8 st) (cI st) (ao st) .none kV doc pm an cdv ct),osl⟩)
  (c:W.codeIn K cdv qual=true) (k:W.keepIn K (.ref f)=true):gW K x qual st f (W.fnOf x qual (d8 st) (cI st) (ao st) .none kV doc pm an cdv ct):=⟨⟨oc,od,kV,doc,pm,an,cdv,ct,osl,rfl,l,c⟩,k⟩
end
section
variable {X:Cx}
end
theorem Gb {A B:Prop} (h:B):if false=true then A else B:=by
 rw [IE Jj]
 exact h
theorem Ga {A B:Prop} (h:A):if true=true then A else B:=by
 rw [ID rfl]
 exact h
end L2
namespace Lw
open PySem PySem.Spec PyProof.Rows L2
def top (i:Nat):Stmt:=PySem.Challenge.pw_rootwebs_k05_whole_steps.main.body.getD i (.Pass ⟨0,0,0,0⟩)
abbrev iR:Stmt:=top 6
abbrev eB:Stmt:=top 7
abbrev iT:Stmt:=top 8
abbrev fN:Stmt:=top 9
abbrev fM:Stmt:=top 10
abbrev jC:Stmt:=top 15
abbrev jB:Stmt:=top 18
abbrev kJ:Stmt:=top 17
abbrev iu:Stmt:=top 16
abbrev iP:Stmt:=top 14
abbrev ji:Stmt:=top 19
abbrev fS:Stmt:=top 20
abbrev de:Stmt:=top 23
abbrev fO:Stmt:=top 22
abbrev kK:Stmt:=top 21
abbrev jA:Stmt:=top 24
abbrev fL:Stmt:=top 25
abbrev iQ:Stmt:=top 26
abbrev gD:Stmt:=top 27
abbrev iS:Stmt:=top 28
abbrev fR:Stmt:=top 30
abbrev ir:Stmt:=top 29
abbrev eU:Stmt:=top 32
abbrev g9:Stmt:=top 33
abbrev fU:Stmt:=top 34
abbrev hV:Stmt:=top 35
abbrev dG:Stmt:=top 36
abbrev df:Stmt:=top 37
abbrev gO:Stmt:=top 38
abbrev eJ:Stmt:=top 39
abbrev aZ:Stmt:=top 40
abbrev fT:Stmt:=top 41
abbrev bj:Stmt:=top 42
abbrev bI:Stmt:=top 43
abbrev ke:Stmt:=top 44
noncomputable def en (P:Params) (n:Str) (t:Tok) (v:Value):DictEntry:=⟨PyData.keyHash P n,.str n t,v⟩
noncomputable def fo (n:Str) (st:Stmt) (m:Str) (t:Tok) (c:Addr):Obj:=⟨.type "function",none,.func (W.fnOf n n (d8 st) (cI st) (ao st) .none .none .none (.str m t) none (.ref c) .none),#[]⟩
noncomputable def co (n:Str) (t:Tok) (l k i:Int) (a:Addr) (p:Bool) (u:Nat):Obj:=⟨.type "code",none,.fields #[.str n t,.str n (t+1),.str "/claim/cut.py" (t+2),.int l 0,.int k 0,.int 0 0,.int 0 0,.int 3 0,.ref a,.bool true,.int i 0,.ref (a+1),.none,bif p then .ref (a+2) else .none,bif p then .ref (a+3) else .none,.ref (bif p then a+4 else a+2),.int u 0,.int l 0,.str "/claim/cut.py" (u+1)],#[]⟩
noncomputable def Kz (P:Params):W.Frag:=[(3,⟨.type "dict",none,.dict #[en P "__name__" 165 (.str "law_rootwebs_k05_whole_steps" 431),en P "__doc__" 166 .none,en P "__package__" 167 .none,en P "__loader__" 168 (.builtin "__main__.__loader__#opaque"),en P "__spec__" 169 .none,en P "__annotations__" 170 (.ref 6),en P "__builtins__" 171 (.ref 4),en P "__file__" 173 (.str "/claim/cut.py" 172),en P "__cached__" 174 .none,en P "RootError" 206 (.ref 24),en P "NoPlace" 222 (.ref 37),en P "NoNumber" 238 (.ref 49),en P "NoWeb" 263 (.ref 68),en P "is_whole" 272 (.ref 77),en P "is_whole_from" 281 (.ref 84),en P "is_place" 289 (.ref 91),en P "is_places" 295 (.ref 96),en P "is_rising" 301 (.ref 101),en P "MOST_PLACES" 305 (.int 6 304),en P "MOST_STEPS" 307 (.int 6 306),en P "web_good" 316 (.ref 108),en P "is_many" 323 (.ref 115),en P "is_ties" 329 (.ref 120),en P "is_tie" 337 (.ref 127),en P "is_pair" 345 (.ref 134),en P "web_of" 351 (.ref 139),en P "check_place" 359 (.ref 146),en P "far_of" 368 (.ref 153),en P "fars_from" 374 (.ref 158),en P "next_places" 380 (.ref 163),en P "star_of" 388 (.ref 170),en P "steps_web" 394 (.ref 175),en P "two_step" 401 (.ref 182),en P "still_from" 409 (.ref 189),en P "is_still" 416 (.ref 196),en P "renamed" 422 (.ref 201),en P "is_renaming" 430 (.ref 208),en P "_law_cell_at" 440 (.ref 215),en P "_law_next" 447 (.ref 222),en P "_law_pen_of" 455 (.ref 229),en P "_law_draw" 464 (.ref 236),en P "_law_named" 470 (.ref 241),en P "_law_names_by" 476 (.ref 246),en P "_law_far" 482 (.ref 251),en P "_law_steps" 488 (.ref 256),en P "_law_sparse_by" 494 (.ref 261),en P "_law_web_by" 506 (.ref 268),en P "_law_steps_right" 512 (.ref 273),en P "_law_named_right" 518 (.ref 278),en P "law" 524 (.ref 283)] 50,#[]⟩),
 (76,co "is_whole" 266 13 1 181 71 true 270),
 (77,fo "is_whole" iR "rootwebs.kinds" 264 76),
 (83,co "is_whole_from" 273 15 3 181 78 true 279),
 (84,fo "is_whole_from" eB "rootwebs.kinds" 264 83),
 (90,co "is_place" 282 17 2 181 85 true 287),
 (91,fo "is_place" iT "rootwebs.kinds" 264 90),
 (95,co "is_places" 290 19 2 181 92 false 293),
 (96,fo "is_places" fN "rootwebs.kinds" 264 95),
 (100,co "is_rising" 296 21 1 181 97 false 299),
 (101,fo "is_rising" fM "rootwebs.kinds" 264 100),
 (107,co "web_good" 308 26 1 181 102 true 314),
 (108,fo "web_good" iP "rootwebs.webs" 302 107),
 (114,co "is_many" 317 31 1 181 109 true 321),
 (115,fo "is_many" jC "rootwebs.webs" 302 114),
 (119,co "is_ties" 324 33 2 181 116 false 327),
 (120,fo "is_ties" iu "rootwebs.webs" 302 119),
 (126,co "is_tie" 330 35 2 181 121 true 335),
 (127,fo "is_tie" kJ "rootwebs.webs" 302 126),
 (133,co "is_pair" 338 37 2 181 128 true 343),
 (134,fo "is_pair" jB "rootwebs.webs" 302 133),
 (138,co "web_of" 346 39 2 181 135 false 349),
 (139,fo "web_of" ji "rootwebs.webs" 302 138),
 (145,co "check_place" 352 46 2 181 140 true 357),
 (146,fo "check_place" fS "rootwebs.webs" 302 145),
 (152,co "far_of" 360 49 3 181 147 true 366),
 (153,fo "far_of" kK "rootwebs.webs" 302 152),
 (157,co "fars_from" 369 53 2 181 154 false 372),
 (158,fo "fars_from" fO "rootwebs.webs" 302 157),
 (162,co "next_places" 375 65 2 181 159 false 378),
 (163,fo "next_places" de "rootwebs.webs" 302 162),
 (169,co "star_of" 381 67 2 181 164 true 386),
 (170,fo "star_of" jA "rootwebs.webs" 302 169),
 (174,co "steps_web" 389 70 2 181 171 false 392),
 (175,fo "steps_web" fL "rootwebs.webs" 302 174),
 (181,co "two_step" 395 79 1 181 176 true 399),
 (182,fo "two_step" iQ "rootwebs.webs" 302 181),
 (188,co "still_from" 402 81 1 181 183 true 407),
 (189,fo "still_from" gD "rootwebs.webs" 302 188),
 (195,co "is_still" 410 86 1 181 190 true 414),
 (196,fo "is_still" iS "rootwebs.webs" 302 195),
 (200,co "renamed" 417 88 2 181 197 false 420),
 (201,fo "renamed" ir "rootwebs.webs" 302 200),
 (207,co "is_renaming" 423 93 2 181 202 true 428),
 (208,fo "is_renaming" fR "rootwebs.webs" 302 207),
 (214,co "_law_cell_at" 433 96 2 181 209 true 438),
 (215,fo "_law_cell_at" eU "law_rootwebs_k05_whole_steps" 431 214),
 (221,co "_law_next" 441 100 1 181 216 true 445),
 (222,fo "_law_next" g9 "law_rootwebs_k05_whole_steps" 431 221),
 (228,co "_law_pen_of" 448 103 1 181 223 true 453),
 (229,fo "_law_pen_of" fU "law_rootwebs_k05_whole_steps" 431 228),
 (235,co "_law_draw" 456 106 2 181 230 true 462),
 (236,fo "_law_draw" hV "law_rootwebs_k05_whole_steps" 431 235),
 (240,co "_law_named" 465 113 2 181 237 false 468),
 (241,fo "_law_named" dG "law_rootwebs_k05_whole_steps" 431 240),
 (245,co "_law_names_by" 471 116 2 181 242 false 474),
 (246,fo "_law_names_by" df "law_rootwebs_k05_whole_steps" 431 245),
 (250,co "_law_far" 477 119 1 181 247 false 480),
 (251,fo "_law_far" gO "law_rootwebs_k05_whole_steps" 431 250),
 (255,co "_law_steps" 483 130 2 181 252 false 486),
 (256,fo "_law_steps" eJ "law_rootwebs_k05_whole_steps" 431 255),
 (260,co "_law_sparse_by" 489 136 1 181 257 false 492),
 (261,fo "_law_sparse_by" aZ "law_rootwebs_k05_whole_steps" 431 260),
 (267,co "_law_web_by" 495 155 1 181 262 true 504),
 (268,fo "_law_web_by" fT "law_rootwebs_k05_whole_steps" 431 267),
 (272,co "_law_steps_right" 507 168 1 181 269 false 510),
 (273,fo "_law_steps_right" bj "law_rootwebs_k05_whole_steps" 431 272),
 (277,co "_law_named_right" 513 182 2 181 274 false 516),
 (278,fo "_law_named_right" bI "law_rootwebs_k05_whole_steps" 431 277),
 (282,co "law" 519 193 1 181 279 false 522),
 (283,fo "law" ke "law_rootwebs_k05_whole_steps" 431 282)]
noncomputable def Qz:Program:=W.view PySem.Challenge.pw_rootwebs_k05_whole_steps [1,2,3,4,6,7,8,9,10,12,13,14,15,16,17,18,19,20,21,22,23,24,25,26,27,28,29,30,32,33,34,35,36,37,38,39,40,41,42,43,44]
noncomputable abbrev Hz:W.Hook:=W.kHook Kz [3,76,77,83,84,90,91,95,96,100,101,107,108,114,115,119,120,126,127,133,134,138,139,145,146,152,153,157,158,162,163,169,170,174,175,181,182,188,189,195,196,200,201,207,208,214,215,221,222,228,229,235,236,240,241,245,246,250,251,255,256,260,261,267,268,272,273,277,278,282,283] fun _=>by kernel_rfl
theorem DA:PySem.Challenge.rw_rootwebs_k05_whole_steps.wellSaid=true:=by kernel_rfl
noncomputable abbrev Xz (s:Shared):Bool:=W.xlAt Qz [] s && W.recOk (W.RowW.records (W.OpenRow.toRowW (W.OpenLaw.row PySem.Challenge.rw_rootwebs_k05_whole_steps))) s
theorem DB:W.LeftO PySem.Challenge.rw_rootwebs_k05_whole_steps.row.prog Qz [] Xz (W.Hook.obs Hz) (W.Hook.val Hz) 3926:=fun w=>by kernel_rfl
end Lw
namespace L2
open PySem PySem.Spec PyProof.Rows
theorem eV {x:Str}:∀ {names:List (Str × NameKind)}{k:NameKind},names.lookup x=some k->(x,k)∈names
 | [],_,h=>by simp at h
 | (n,j)::r,k,h=>by
  rw [Km] at h
  cases hx:x == n with
  | true=>
   rw [hx] at h
   have e:x=n:=eq_of_beq hx
   cases h
   rw [e];exact IR
  | false=>rw [hx] at h;exact IS _ (eV h)
theorem kB {env:Env}{x:Str}:∀ {names:List (Str × NameKind)},
  (names.map fun (n, k) => if (k == NameKind.free && env.scope.kind == .function && env.kindOf n == some .cell) then (n, NameKind.cell) else (n, k)).lookup x =
   (names.lookup x).map fun k=>if (k == NameKind.free && env.scope.kind == .function && env.kindOf x == some .cell) then NameKind.cell else k
 | []=>rfl
 | (n,k)::r=>by
  have ih:=kB (env:=env) (x:=x) (names:=r)
  rw [J5]
  show List.lookup x ((if (k == NameKind.free && env.scope.kind == .function && env.kindOf n == some .cell)=true then (n,NameKind.cell) else (n,k))::_)=_
  cases hx:x == n with
  | true=>
   have e:x=n:=eq_of_beq hx
   subst e
   by_cases hc:(k == NameKind.free && env.scope.kind == .function && env.kindOf x == some .cell)=true
   ·rw [ID hc,Km,hx,Km,hx];show some NameKind.cell=some (if _ then _ else _);rw [ID hc]
   ·rw [IE hc,Km,hx,Km,hx];show some k=some (if _ then _ else _);rw [IE hc]
  | false=>
   by_cases hc:(k == NameKind.free && env.scope.kind == .function && env.kindOf n == some .cell)=true
   ·rw [ID hc,Km,hx,Km,hx];exact ih
   ·rw [IE hc,Km,hx,Km,hx];exact ih
theorem lI {env:Env}{f:Str × NameKind->List (Str × Addr)->Sem (ForInStep (List (Str × Addr)))}
  (h1:∀ n c acc,env.cells.lookup n=some c->f (n,.free) acc=pure (.yield ((n,c)::acc))) (h2:∀ n k acc,k≠.free->f (n,k) acc=pure (.yield acc)) :
  ∀ (names:List (Str × NameKind)) (acc:List (Str × Addr)),(∀ y∈names,y.2=.free->∃ c,env.cells.lookup y.1=some c)->(∀ x c,acc.lookup x=some c->env.cells.lookup x=some c) ->
   ∃ cl,forIn names acc f=(pure cl:Sem (List (Str × Addr)))/\(∀ x c,cl.lookup x=some c->env.cells.lookup x=some c)/\(∀ x,(acc.lookup x).isSome=true->(cl.lookup x).isSome=true)/\(∀ y∈names,y.2=.free->(cl.lookup y.1).isSome=true)
 | [],acc,_,ha=>⟨acc,rfl,ha,fun _ h=>h,fun y hy=>by simp at hy⟩
 | (n,k)::r,acc,hn,ha=>by
  by_cases hk:k=.free
  ·subst hk
   obtain ⟨c,hc⟩:=hn (n,.free) IR rfl
   obtain ⟨cl,e1,e2,e3,e4⟩:=lI h1 h2 r ((n,c)::acc) (fun y hy=>hn y (IS _ hy)) (fun x d h=>by
    rw [Km] at h
    cases hx:x == n with
    | true=>rw [hx] at h;cases h;rw [eq_of_beq hx];exact hc
    | false=>rw [hx] at h;exact ha x d h)
   refine ⟨cl,?_,e2,fun x h=>e3 x ?_,fun y hy hf=>?_⟩
   ·rw [List.forIn_cons,h1 n c acc hc];exact e1
   ·rw [Km];cases hx:x == n <;> simp [h]
   ·rcases IT.mp hy with z | z
    ·subst z;exact e3 n (by simp [Km])
    ·exact e4 y z hf
  ·obtain ⟨cl, e1, e2, e3, e4⟩ := lI h1 h2 r acc (fun y hy => hn y (IS _ hy)) ha
   refine ⟨cl,?_,e2,e3,fun y hy hf=>?_⟩
   ·rw [List.forIn_cons,h2 n k acc hk];exact e1
   ·rcases IT.mp hy with z | z
    ·subst z;exact absurd hf hk
    ·exact e4 y z hf
theorem uH {env:Env}{n:Str}{c:Addr} (h:env.cells.lookup n=some c):cellOf env n=pure c:=by
 unfold cellOf;rw [h]
def vW (env:Env) (x:Str × NameKind) (r:List (Str × Addr)):Sem (ForInStep (List (Str × Addr))):=
 match x with | (name,kind)=>if kind == .free then do let c <- cellOf env name;pure (.yield ((name,c)::r)) else pure (.yield r)
theorem vJ {scope:Scope}{env:Env} (hn:∀ y∈scope.names,y.2=.free->∃ c,env.cells.lookup y.1=some c) :
  ∃ cl,closureFor scope env=pure cl/\(∀ x c,cl.lookup x=some c->env.cells.lookup x=some c)/\(∀ y∈scope.names,y.2=.free->(cl.lookup y.1).isSome=true):=by
 obtain ⟨cl,e1,e2,_,e4⟩:=lI (env:=env) (f:=vW env)
  (fun n c acc h=>by unfold vW;simp only [Kn,JQ];rw [uH h];rfl)
  (fun n k acc h => by
   unfold vW
   have:(k == NameKind.free)=false:=by simpa using h
   simp only [this,Ko,JP]) scope.names [] hn (fun x c h=>by simp at h)
 refine ⟨cl,?_,e2,e4⟩
 show (forIn scope.names [] (vW env) >>= fun s=>pure s)=pure cl
 rw [e1];rfl
def i7 (X:Cx) (Nc:List Str) (scope:Scope) (cl:List (Str × Addr)) (C:Addr) (s:Shared) (H:Hp) (fp:List Addr):Cx where
 prog:=X.prog
 w:=X.w
 K:=X.K
 mg:=X.mg
 base:=X.base
 A:=X.A
 N:=Nc
 s₀:=s
 H₀:=H
 env:=compEnvC scope (cellsFrom (C+1) scope.names cl) C X.env
 outer:=X.stack
 stack:=X.stack
 ex:=fp
 fn:=fun x=>scope.names.lookup x == some .cell
 calm:=X.calm
 pn:=[]
 xe:=fun _ _=>False
def oh (cap:List (Option Nat)) (σ:St):St:=cap.map fun o=>o.bind fun j=>(σ[j]?).join
def f9 (N:List Str) (env:Env) (scope:Scope):List Str->List (Option Nat)->Bool
 | [],[]=>true
 | _::Nc,none::cap=>f9 N env scope Nc cap
 | x::Nc,some j::cap=>(N[j]? == some x) && (scope.names.lookup x == some .free) && f9 N env scope Nc cap
 | _,_=>false
theorem m7 {N:List Str}{env:Env}{scope:Scope}:∀ {Nc:List Str}{cap:List (Option Nat)},f9 N env scope Nc cap=true->cap.length=Nc.length
 | [],[],_=>rfl
 | [],_::_,h=>by simp [f9] at h
 | _::_,[],h=>by simp [f9] at h
 | _::Nc,none::cap,h=>by rw [Kq,Kq,m7 (Nc:=Nc) (cap:=cap) h]
 | x::Nc,some j::cap,h=>by
  have h':f9 N env scope Nc cap=true:=by unfold f9 at h;simp only [J2] at h;exact h.2
  rw [Kq,Kq,m7 h']
theorem oR {N:List Str}{env:Env}{scope:Scope}:∀ {Nc:List Str}{cap:List (Option Nat)}{i j:Nat}{x:Str},f9 N env scope Nc cap=true->cap[i]?=some (some j)->Nc[i]?=some x->N[j]?=some x/\scope.names.lookup x=some .free
 | [],_,_,_,_,_,_,e=>by simp at e
 | _::_,[],_,_,_,h,_,_=>by simp [f9] at h
 | y::Nc,none::cap,0,j,x,h,e,_=>by simp at e
 | y::Nc,some k::cap,0,j,x,h,e,e2=>by
  simp at e e2;subst e;subst e2
  unfold f9 at h;simp only [J2] at h
  exact ⟨eq_of_beq h.1.1,eq_of_beq h.1.2⟩
 | y::Nc,none::cap,i+1,j,x,h,e,e2=>oR (Nc:=Nc) (cap:=cap) (i:=i) h (by simpa using e) (by simpa using e2)
 | y::Nc,some k::cap,i+1,j,x,h,e,e2=>by
  have h':f9 N env scope Nc cap=true:=by unfold f9 at h;simp only [J2] at h;exact h.2
  exact oR (Nc:=Nc) (cap:=cap) (i:=i) h' (by simpa using e) (by simpa using e2)
structure bY (N:List Str) (env:Env) (scope:Scope) (Nc:List Str) (cap:List (Option Nat)):Prop where
 kind:scope.kind=.function
 nd:∀ y∈scope.names,scope.names.lookup y.1=some y.2
 free:∀ y∈scope.names,y.2=.free->env.kindOf y.1=some .cell\/env.kindOf y.1=some .free
 cap:f9 N env scope Nc cap=true
theorem kM {n0:Nat}{x:Str}{c:Addr}:∀ {names:List (Str × NameKind)}{cl:List (Str × Addr)}{n:Nat},n0<=n->((x,NameKind.cell)∈names\/∃ c',cl.lookup x=some c'/\n0<=c')->(cellsFrom n names cl).lookup x=some c->n0<=c
 | [],cl,n,_,h,e=>by
  rcases h with z | ⟨c',z1,z2⟩
  ·simp at z
  ·have e' : cl.lookup x = some c := e
   rw [z1] at e';cases e';exact z2
 | (y,k)::r,cl,n,hn,h,e=>by
  unfold cellsFrom at e
  split at e
  ·rename_i hk
   refine kM (n:=n+1) (by omega) ?_ e
   cases hx:x == y with
   | true=>exact .inr ⟨n,by rw [Km,hx],hn⟩
   | false=>
    rcases h with z | ⟨c',z1,z2⟩
    ·rcases IT.mp z with q | q
     ·have : x = y := Jd Prod.fst q
      rw [this] at hx;simp at hx
     ·exact .inl q
    ·exact .inr ⟨c',by rw [Km,hx];exact z1,z2⟩
  ·rename_i hk
   refine kM hn ?_ e
   rcases h with z | z
   ·rcases IT.mp z with q | q
    ·have : k = .cell := (Jd Prod.snd q).symm
     exact absurd (by rw [this];rfl) hk
    ·exact .inl q
   ·exact .inr z
theorem jl {x:Str}:∀ {names:List (Str × NameKind)}{cl:List (Str × Addr)}{n:Nat},(x,NameKind.cell) ∉ names->(cellsFrom n names cl).lookup x=cl.lookup x
 | [],cl,n,_=>rfl
 | (y,k)::r,cl,n,hn=>by
  unfold cellsFrom
  have hr:(x,NameKind.cell) ∉ r:=fun z=>hn (IS _ z)
  split
  ·rename_i hk
   rw [jl hr,Km]
   cases hx:x == y with
   | true=>exact absurd (by rw [eq_of_beq hx,(eq_of_beq hk:k=.cell)];exact IR) hn
   | false=>rfl
  ·exact jl hr
theorem m5 {n0:Nat}:∀ {names:List (Str × NameKind)}{cl:List (Str × Addr)}{n:Nat},n0<=n->(∀ x y c,cl.lookup x=some c->cl.lookup y=some c->n0<=c->x=y)->(∀ x c,cl.lookup x=some c->c<n) ->
  ∀ x y c,(cellsFrom n names cl).lookup x=some c->(cellsFrom n names cl).lookup y=some c->n0<=c->x=y
 | [],cl,n,_,h,_=>h
 | (z,k)::r,cl,n,hn,h,hb=>by
  unfold cellsFrom
  split
  ·refine m5 (n := n + 1) (by omega) (fun x y c e1 e2 hc => ?_) (fun x c e => ?_)
   ·rw [Km] at e1 e2
    cases hx:x == z with
    | true=>
     cases hy:y == z with
     | true=>rw [eq_of_beq hx,eq_of_beq hy]
     | false=>
      rw [hx] at e1;rw [hy] at e2
      cases e1
      exact absurd (hb y _ e2) (II _)
    | false=>
     cases hy:y == z with
     | true=>
      rw [hx] at e1;rw [hy] at e2
      cases e2
      exact absurd (hb x _ e1) (II _)
     | false=>rw [hx] at e1;rw [hy] at e2;exact h x y c e1 e2 hc
   ·rw [Km] at e
    cases hx:x == z with
    | true=>rw [hx] at e;cases e;exact Kr _
    | false=>rw [hx] at e;exact Ks (hb x c e)
  ·exact m5 hn h hb
theorem kv {x:Str}{c:Addr}:∀ {names:List (Str × NameKind)}{cl:List (Str × Addr)}{h:Heap},(cellsFrom h.objs.size names cl).lookup x=some c->cl.lookup x=some c\/(pushCells h names).IsCell c none
 | [],cl,h,e=>.inl e
 | (y,k)::r,cl,h,e=>by
  unfold cellsFrom at e
  unfold pushCells
  split at e
  ·rename_i hk
   rw [ID hk]
   have e':(cellsFrom (h.push { cls:=.type "cell",data:=.cell none }).objs.size r ((y,h.objs.size)::cl)).lookup x=some c:=by rw [Kt];exact e
   rcases kv e' with q | q
   ·rw [Km] at q
    cases hx:x == y with
    | true=>
     rw [hx] at q;cases q
     exact .inr ⟨_,Ku _ _ _ _ (Jo _ rfl),rfl⟩
    | false=>rw [hx] at q;exact .inl q
   ·exact .inr q
  ·rename_i hk
   rw [IE hk]
   exact kv e
theorem xP {X:Cx}{pins:List (Addr × Obj)}{σ:St}{H:Hp}{s:Shared}{h':Heap}{t':Nat}{fp:List Addr}{Nc:List Str}{scope:Scope}{cl:List (Str × Addr)}{cap:List (Option Nat)}
  (I:aR X pins σ H s) (hf:∀ b∈fp,lR X pins H b) (hfs:∀ b∈fp,b<s.heap.objs.size) (S:bY X.N X.env scope Nc cap)
  (hcl:∀ x c,cl.lookup x=some c->X.env.cells.lookup x=some c) (hall:∀ y∈scope.names,y.2=.free->(cl.lookup y.1).isSome=true)
  (hn:h'.Ns s.heap.objs.size (fun _=>none)) (hk:∀ b o,s.heap.get? b=some o->h'.get? b=some o) (hce:∀ x c,(cellsFrom (s.heap.objs.size+1) scope.names cl).lookup x=some c->cl.lookup x=some c\/h'.IsCell c none) :
  aR (i7 X Nc scope cl s.heap.objs.size s H fp) [] (oh cap σ) H { s with heap:=h',toks:=t' }:=by
 have hrl:∀ x,(i7 X Nc scope cl s.heap.objs.size s H fp).env.kindOf x=(scope.names.lookup x).map fun k=>if (k == NameKind.free && X.env.scope.kind == .function && X.env.kindOf x == some .cell) then NameKind.cell else k:=fun x=>kB
 have hcf:∀ x,((i7 X Nc scope cl s.heap.objs.size s H fp).env.kindOf x=some .cell\/(i7 X Nc scope cl s.heap.objs.size s H fp).env.kindOf x=some .free)->scope.names.lookup x=some .free\/scope.names.lookup x=some .cell:=fun x hx=>by
  rw [hrl] at hx
  cases e:scope.names.lookup x with
  | none=>rw [e] at hx;rcases hx with z | z <;> cases z
  | some k=>
   rw [e] at hx
   by_cases hkf:k=.free
   ·rw [hkf];exact .inl rfl
   ·have : (k == NameKind.free) = false := by simpa using hkf
    simp only [this,Bool.false_and,Option.map_some] at hx
    rcases hx with z | z
    ·have z' : k = .cell := by simpa using z
     rw [z'];exact .inr rfl
    ·have z' : k = .free := by simpa using z
     exact absurd z' hkf
 have hclx:∀ x,scope.names.lookup x=some .free->∃ c,cl.lookup x=some c:=fun x e=>JA.mp (hall (x,.free) (eV e) rfl)
 have hcb:∀ x c,cl.lookup x=some c->c<s.heap.objs.size:=fun x c e=>by
  obtain ⟨v,q⟩:=I.cell x c (hcl x c e)
  exact q.lt
 have hcell:∀ x c,(cellsFrom (s.heap.objs.size+1) scope.names cl).lookup x=some c->(cl.lookup x=some c/\c<s.heap.objs.size)\/(s.heap.objs.size+1<=c/\h'.IsCell c none):=fun x c e=>by
  by_cases hm:(x,NameKind.cell)∈scope.names
  ·have h1 := kM (Jp _) (.inl hm) e
   rcases hce x c e with z | z
   ·have := hcb x c z
    exact absurd (IH (Ks this) h1) (II _)
   ·exact .inr ⟨h1,z⟩
  ·rw [jl hm] at e
   exact .inl ⟨e,hcb x c e⟩
 have hinj:∀ x y c,(cellsFrom (s.heap.objs.size+1) scope.names cl).lookup x=some c->(cellsFrom (s.heap.objs.size+1) scope.names cl).lookup y=some c->x=y:=fun x y c e1 e2=>by
  rcases hcell x c e1 with ⟨a1,a2⟩ | ⟨a1,a2⟩
  ·rcases hcell y c e2 with ⟨b1, b2⟩ | ⟨b1, b2⟩
   ·exact I.ok.inj x y c (hcl x c a1) (hcl y c b1)
   ·exact absurd (IH (Ks a2) b1) (II _)
  ·exact m5 (Jp _) (fun x y c q _ hc=>absurd (IH (Ks (hcb x c q)) hc) (II _)) (fun x c q=>Ks (hcb x c q)) x y c e1 e2 a1
 refine ⟨⟨I.ok.mod,S.kind,I.ok.glob,I.ok.blt,Jp _,fun x y c e1 e2=>hinj x y c e1 e2,fun x hx=>?_,fun x c e e2=>?_,I.ok.hd,I.ok.frames,.inl rfl,
  fun b hb=>⟨IJ (hfs b hb),fun x c e=>?_⟩,I.bs,IM I.ok.bsz I.sz,fun b o e hb=>?_,fun b hb z=>?_,I.stack,I.stkFree⟩,
  rfl,I.bare,Un.kept hk,⟨_,hn,fun i x v e1 e2 e3=>?_⟩,fun x c e=>?_,I.hok.fresh (Jp _),fun x c e=>?_,fun p hp=>absurd (show p∈([]:List (Addr × Obj)) from hp) (by simp),I.hok.kept hk,?_⟩
 ·rcases hcf x hx with q | q
  ·by_cases hm : (x, NameKind.cell) ∈ scope.names
   ·rcases JA.mp (W.cellsFrom_some scope.names (s.heap.objs.size + 1) cl (.inl (S.nd (x, .cell) hm))) with ⟨c, e⟩
    exact ⟨c,e⟩
   ·obtain ⟨c, e⟩ := hclx x q
    exact ⟨c,(jl hm).trans e⟩
  ·obtain ⟨c, e⟩ := JA.mp (W.cellsFrom_some scope.names (s.heap.objs.size + 1) cl (.inl q))
   exact ⟨c,e⟩
 ·have hm : (x, NameKind.cell) ∈ scope.names := eV (eq_of_beq (show (scope.names.lookup x == some .cell) = true from e))
  exact Nat.le_of_succ_le (kM (Jp _) (.inl hm) e2)
 ·rcases hcell x c e with ⟨a1, a2⟩ | ⟨a1, a2⟩
  ·exact (hf b hb).2.2.2.2.1 x c (hcl x c a1)
  ·exact fun z=>absurd (IH (Ks (hfs b hb)) (by rw [<- z];exact a1)) (II _)
 ·rcases (hf b hb).2.2.2.1 with z | z
  ·exact I.ok.noex b o e z
  ·exact absurd (IH (IH (IG e) I.ok.bsz) z) (II _)
 ·rcases IT.mp (I.stkSub b z) with q | q
  ·exact (hf b hb).2.1 q
  ·exact (hf b hb).2.2.1 q
 ·have e2':∃ j,cap[i]?=some (some j)/\σ[j]?=some (some v):=by
   unfold oh at e2
   rw [JF] at e2
   cases hc:cap[i]? with
   | none=>rw [hc] at e2;cases e2
   | some o=>
    rw [hc] at e2
    cases o with
    | none=>cases e2
    | some j=>
     refine ⟨j,rfl,?_⟩
     simp only [Option.map_some,Option.bind_some] at e2
     cases hj:σ[j]? with
     | none=>rw [hj] at e2;cases e2
     | some q=>
      rw [hj] at e2
      simp only [Option.join_some] at e2
      rw [IF e2]
  obtain ⟨j,hj,hv⟩:=e2'
  obtain ⟨hN,hx⟩:=oR S.cap hj e1
  have hkx:=S.free (x,.free) (eV hx) rfl
  obtain ⟨m,hm,hl⟩:=I.loc
  obtain ⟨u,r,l⟩:=hl j x v hN hv (hkx.elim (fun z=>.inr (.inl z)) (fun z=>.inr (.inr z)))
  refine ⟨u,r,.inr ⟨?_,?_⟩⟩
  ·rw [hrl, hx]
   show some (if _ then _ else _)=_\/some (if _ then _ else _)=_
   by_cases hc:(NameKind.free == NameKind.free && X.env.scope.kind == .function && X.env.kindOf x == some .cell)=true
   ·rw [ID hc];exact .inl rfl
   ·rw [IE hc];exact .inr rfl
  ·obtain ⟨c, ec⟩ := hclx x hx
   have hm:(x,NameKind.cell) ∉ scope.names:=fun z=>by
    have:=S.nd (x,.cell) z
    rw [hx] at this;cases this
   refine ⟨c,(jl hm).trans ec,?_⟩
   rcases l with ⟨k,_⟩ | ⟨k,c',ec',z⟩
   ·rcases hkx with q | q <;> (rw [k] at q;cases q)
   ·have q := hcl x c ec
    rw [ec'] at q;cases q
    obtain ⟨o,ho,hd⟩:=z
    exact ⟨o,hk _ o ho,hd⟩
 ·rcases hcell x c e with ⟨a1, a2⟩ | ⟨a1, a2⟩
  ·obtain ⟨v, o, ho, hd⟩ := I.cell x c (hcl x c a1)
   exact ⟨v,o,hk _ o ho,hd⟩
  ·exact ⟨none,a2⟩
 ·rcases hcell x c e with ⟨a1, a2⟩ | ⟨a1, a2⟩
  ·exact I.freeC x c (hcl x c a1)
  ·exact I.hok.fresh (Nat.le_of_succ_le a1)
 ·show (cap.map _).length = Nc.length
  rw [JI,m7 S.cap]
abbrev vT:Value->Shared->Prop:=fun _ _=>False
def rT (ifs:List Expr) (env:Env):Sem Bool:=forIn ifs true fun c r=>if r=true then do let ok <- isTrue c env (eval c env);pure (ForInStep.yield ok) else pure (ForInStep.yield r)
def sH (X:Cx) (ifs:List Expr) (t:TT):Prop:=
 ∀ (pins:List (Addr × Obj)) (s:Shared) (σ:St) (H:Hp) (Q:Bool->Hp->Prop),aR X pins σ H s->t σ H Q->wpAny (model X.prog X.w) X.A (rT ifs X.env) (TP X pins σ Q) X.xe s
def Gj:TT:=fun _ H Q=>Q true H
theorem BH {X:Cx}:sH X [] Gj:=fun _ _ _ H _ I h=>Jl ⟨H,I,h⟩
theorem BG {X:Cx}{c:Expr}{t:TT} (h:PT X c t):sH X [c] t:=fun pins s σ H Q I q=>wpAny_tests_one (h pins s σ H Q I q)
def Ft (e:Expr) (acc:Value) (env:Env):Sem Unit:=match e with
 | .ListComp elt _ _ _=>do let _ <- call (.builtin "list.append") [acc,<- eval elt env]
 | .SetComp elt _ _ _=>do let v <- eval elt env;standAt elt.pos;let _ <- call (.builtin "set.add") [acc,v]
 | _=>unsupported "internal:not-a-comprehension"
def om:Expr->Bool
 | .ListComp ..=>true
 | .SetComp ..=>true
 | _=>false
def lV (M:Model) (A:Around) (e:Expr) (k:Nat) (acc:Value) (env:Env) (C:Shared->Prop) (E:Value->Shared->Prop) (s:Shared):Prop:=match (clausesOf e)[k]? with
 | some g=>wpAny M A (eval g.iter env) (fun x s1=>wpAny M A (foldedSetIterable g.iter env x) (fun x s2=>wpAny M A (pyIter x) (fun it s3=>
   codeAny M A (.compStart e k it acc env) (fun r s4=>(∃ f,r=.ok f)/\C s4) s3) E s2) E s1) E s
 | none=>wpAny M A (Ft e acc env) (fun _ s1=>C s1) E s
theorem ud {M:Model}{A:Around}{e:Expr}{k:Nat}{acc:Value}{env:Env}{C C':Shared->Prop}{E:Value->Shared->Prop}{s:Shared} (hC:∀ s,C s->C' s) (h:lV M A e k acc env C vT s):lV M A e k acc env C' E s:=by
 unfold lV at h ⊢
 split at h
 ·exact Ja h (fun _ _ h=>Ja h (fun _ _ h=>Ja h (fun _ _ h=>Jw h fun _ _ h=>⟨h.1,hC _ h.2⟩) fun _ _ z=>z.elim) fun _ _ z=>z.elim) fun _ _ z=>z.elim
 ·exact Ja h (fun _ _ h=>hC _ h) fun _ _ z=>z.elim
theorem AZ {M:Model}{A:Around}{E:Value->Shared->Prop}{s:Shared}{e:Expr}{d:Nat}{g:Comprehension}{it acc:Value}{env:Env}{Q:Fin->Shared->Prop} (he:om e=true) (hz:∀ g∈clausesOf e,g.is_async=0) (hg:(clausesOf e)[d]?=some g)
  (h : wpAny M A (pyNext it) (fun r s₁ => match r with
   | none=>Q (.done .next) s₁
   | some v=>wpAny M A (letOwnedTupleGo g.target it v) (fun _ s₁'=>wpAny M A (assign g.target env v) (fun _ s₂=>wpAny M A (rT g.ifs env) (fun ok s₃=>
     if ok=true then lV M A e (d+1) acc env (fun s₄=>wpAny M A (again (.compLoop e d it acc env)) Q E s₄) E s₃ else wpAny M A (again (.compLoop e d it acc env)) Q E s₃) E s₂) E s₁') E s₁) E s) :
  wpAny M A (compTurn e d it acc env) Q E s:=by
 have h0:=hz g (JG hg)
 have h1:∀ g',(clausesOf e)[d+1]?=some g'->g'.is_async=0:=fun g' h=>hz g' (JG h)
 unfold compTurn
 cases e <;> first
  | exact absurd (show false=true from he) Jj
  | (rename_i elt gens sc pos
     have hg':gens[d]?=some g:=hg
     have h1':∀ g',gens[d+1]?=some g'->g'.is_async=0:=h1
     dsimp only
     rw [hg']
     dsimp only
     rw [h0]
     refine Jf (Jh ?_)
     show wpAny M A (pyNext it >>= _) Q E s
     refine Jf (Ja h (fun r s₁ h₁=>?_) fun _ _ z=>z)
     cases r with
     | none=>exact Jl h₁
     | some v=>
      refine Jf (Ja h₁ (fun _ s₁' h₁'=>?_) fun _ _ z=>z)
      refine Jf (Ja h₁' (fun _ s₂ h₂=>?_) fun _ _ z=>z)
      refine Jf (Ja h₂ (fun ok s₃ h₃=>?_) fun _ _ z=>z)
      cases ok with
      | false=>exact h₃
      | true=>
       simp only [JQ] at h₃ ⊢
       unfold lV at h₃
       dsimp only [clausesOf] at h₃
       cases e2:gens[d+1]? with
       | none=>
        rw [e2] at h₃
        exact Jf h₃
       | some g'=>
        rw [e2] at h₃
        have e3:=h1' g' e2
        simp only [e3]
        refine Jf (Ja h₃ (fun x s₄ h₄=>?_) fun _ _ z=>z)
        refine Jf (Jh ?_)
        show wpAny M A (foldedSetIterable g'.iter env x >>= _) Q E s₄
        refine Jf (Ja h₄ (fun x s₅ h₅=>?_) fun _ _ z=>z)
        refine Jf (Jg ?_)
        show wpAny M A (pyIter x) _ E s₅
        refine Ja h₅ (fun it' s₆ h₆=>?_) fun _ _ z=>z
        refine Jf (wpAny_runOwn (Jw h₆ fun r s₇ h₇=>?_))
        obtain ⟨⟨f,rfl⟩,hc⟩:=h₇
        exact hc)
section
variable {prog:Program}{w:World}{A:Around}{R:Result->Shared->Prop}{s:Shared}
theorem w9 {e:Expr}{k:Nat}{g:Comprehension}{it acc:Value}{env:Env} (he:om e=true) (hz:∀ g∈clausesOf e,g.is_async=0) (hg:(clausesOf e)[k]?=some g)
  (h0:codeAny (model prog w) A (.compLoop e k it acc env) R s) (h:wpAny (model prog w) A (pyIter it) (fun it' s'=>codeAny (model prog w) A (.compLoop e k it' acc env) R s') vT s) :
  codeAny (model prog w) A (.compStart e k it acc env) R s:=by
 have ha:=hz g (JG hg)
 cases e <;> first
  | exact absurd (show false=true from he) Jj
  | (refine Kv ?_
     show wpAny _ _ ((compStart _ k it acc env).onRaise (fun x=>do noteFrame x env;standAt theWindowsPlace)) _ _ s
     refine wpAny_notedAt ?_
     unfold compStart
     rw [hg]
     have e1:((some g).elim false fun x=>x.is_async != 0)=false:=by show (g.is_async != 0)=false;rw [ha];rfl
     rw [e1]
     simp only [Ko,JP]
     refine Jf (Kw (wpAny_ite ?_))
     split
     ·exact Jl (And.intro rfl h0)
     ·refine Jf (Kx ?_)
      refine Jf (Jh ?_)
      exact Jf (Ja h (fun it' s' h'=>Jl (And.intro rfl h')) fun _ _ z=>z.elim))
theorem xK {e:Expr}{d:Nat}{g:Comprehension}{it acc:Value}{env:Env} (he:om e=true) (hz:∀ g∈clausesOf e,g.is_async=0) (hg:(clausesOf e)[d]?=some g) (I:Nat->Shared->Prop)
  (turn : ∀ n s, I n s -> wpAny (model prog w) A (pyNext it) (fun r s₁ => match r with
   | none=>R (.ok .next) s₁
   | some v=>wpAny (model prog w) A (letOwnedTupleGo g.target it v) (fun _ s₁'=>wpAny (model prog w) A (assign g.target env v) (fun _ s₂=>
     wpAny (model prog w) A (rT g.ifs env) (fun ok s₃=>
      if ok=true then lV (model prog w) A e (d+1) acc env (fun s₅=>∃ m,m<n/\I m s₅) vT s₃
      else ∃ m,m<n/\I m s₃) vT s₂) vT s₁') vT s₁) vT s)
  (n:Nat) (h:I n s):codeAny (model prog w) A (.compLoop e d it acc env) R s:=by
 refine codeAny_loop (by cases e <;> first | exact absurd (show false=true from he) Jj | rfl) I (fun n s hI=>?_) n h
 cases e <;> first
  | exact absurd (show false=true from he) Jj
  | (show wpAny _ A ((compTurn _ d it acc env).onRaise (fun x => do noteFrame x env; theTreesLotGoes x)) _ _ s
     refine wpAny_noted (AZ he hz hg (Ja (turn n s hI) (fun r s₁ h₁=>?_) fun _ _ z=>z.elim))
     cases r with
     | none=>exact h₁
     | some v=>
      refine Ja h₁ (fun _ s₂ h₂=>Ja h₂ (fun _ s₃ h₃=>Ja h₃ (fun ok s₄ h₄=>?_) fun _ _ z=>z.elim) fun _ _ z=>z.elim) fun _ _ z=>z.elim
      cases ok with
      | false=>exact Jl ⟨rfl,h₄⟩
      | true=>
       simp only [JQ] at h₄ ⊢
       exact ud (fun s₅ h₅=>Jl ⟨rfl,h₅⟩) h₄)
end
abbrev AG:=St->Hp->(St->Hp->Prop)->Prop
def AI (X:Cx) (e:Expr) (k:Nat) (acc:Addr) (t:AG):Prop:=
 ∀ (pins:List (Addr × Obj)) (s:Shared) (σ:St) (H:Hp) (N:St->Hp->Prop),aR X pins σ H s->t σ H N->lV (model X.prog X.w) X.A e k (.ref acc) X.env (fun s'=>∃ σ' H',aR X pins σ' H' s'/\N σ' H') vT s
def Hk (J:It) (g:TG) (tt:TT) (tb:AG) (N:St->Hp->Prop) (σ:St) (H:Hp):Prop:=∃ W:Nat->Nat->St->Hp->Prop,(∃ m,W 0 m σ H)/\∀ i m σ1 H,W i m σ1 H ->
 (J.stop i H/\N σ1 H)\/(J.go i H/\∃ N':St->Hp->Prop,(∀ σ' H',N' σ' H'->∃ m',m'<m/\W (i+1) m' σ' H')/\∀ x H',J.yld i H x H'->g x σ1 H' fun σ2 H2=>tt σ2 H2 fun b H3=>if b=true then tb σ2 H3 N' else N' σ2 H3)
section
variable {X:Cx}{e:Expr}{d:Nat}{cl:Comprehension}{g:TG}{tt:TT}{tb:AG}{acc:Addr}
theorem uG {J:It}{fp:List Addr}{it:Addr}{tn:Nat->Heap->Prop}{pins:List (Addr × Obj)}{N:St->Hp->Prop}{σ:St}{H:Hp}{s:Shared} (he:om e=true) (hz:∀ g∈clausesOf e,g.is_async=0) (hg:(clausesOf e)[d]?=some cl) (hxe:X.xe=vT) (hc:X.calm=true)
  (T:wY X.prog X.w X.K cl.target J fp it tn) (hgc:PG X cl.target g) (htc:sH X cl.ifs tt) (hb:AI X e (d+1) acc tb) (I:aR X pins σ H s) (st:tn 0 s.heap) (fr:∀ b∈fp,lR X pins H b) (h:Hk J g tt tb N σ H) :
  codeAny (model X.prog X.w) X.A (.compLoop e d (.ref it) (.ref acc) X.env) (fun r s'=>r=.ok .next/\∃ σ' H',aR X pins σ' H' s'/\N σ' H') s:=by
 obtain ⟨W,⟨m0,w0⟩,turn⟩:=h
 have stat:∀ {H':Hp},(∀ b∈fp,H' b=none)->∀ b∈fp,lR X pins H' b:=fun hn b hb=>⟨hn b hb,(fr b hb).2⟩
 refine xK he hz hg (fun n s'=>∃ i σ' H',aR X pins σ' H' s'/\tn i s'.heap/\(∀ b∈fp,H' b=none)/\W i n σ' H') ?_ m0 ⟨0,_,_,I,st,fun b hb=>(fr b hb).1,w0⟩
 rintro n s5 ⟨i,σ5,H5,I5,st5,fr5,w5⟩
 rcases turn i n σ5 H5 w5 with ⟨stop,qn⟩ | ⟨go,N',hN,step⟩
 ·refine d3 (T.done X rfl rfl rfl hc i pins s5 σ5 H5 vT I5 (stat fr5) st5 stop) fun r s6 ⟨hr, I6⟩ => ?_
  subst hr
  exact ⟨rfl,_,_,I6,qn⟩
 ·refine d3 (T.item X rfl rfl rfl hc i pins s5 σ5 H5 vT I5 (stat fr5) st5 go) fun r s6 ⟨u, hr, h6⟩ => ?_
  subst hr
  refine d3 h6 fun _ s7 ⟨x,H7,I7,r7,y7,st7,fr7⟩=>?_
  have I7':=I7.pinned (stat fr7) (T.obj _ _ st7)
  have z1:=hgc _ s7 σ5 H7 x u _ I7' r7 (step x H7 y7)
  rw [hxe] at z1
  refine d3 z1 fun _ s8 ⟨σ8,H8,I8,q8⟩=>?_
  have z2:=htc _ s8 σ8 H8 _ I8 q8
  rw [hxe] at z2
  refine d3 z2 fun b s9 ⟨H9,I9,q9⟩=>?_
  have again:∀ {σa:St}{Ha:Hp}{sa:Shared},aR X (pins++oj fp s7.heap) σa Ha sa->N' σa Ha->∃ m,m<n/\∃ i σ' H',aR X pins σ' H' sa/\tn i sa.heap/\(∀ b∈fp,H' b=none)/\W i m σ' H':=fun {σa Ha sa} Ia na=>by
   obtain ⟨m',hm,wa⟩:=hN σa Ha na
   refine ⟨m',hm,i+1,σa,Ha,Ia.unpinned,T.keep _ _ _ st7 fun b hb o e=>(Ia.pin (b,o) (Js _ (Js _ (jD hb e)))).1,fun b hb=>?_,wa⟩
   obtain ⟨o,e,d⟩:=T.obj _ _ st7 b hb
   exact (Ia.pin (b,o) (Js _ (Js _ (jD hb e)))).2.1
  cases b with
  | false=>
   rw [IE Jj] at q9 ⊢
   exact again I9 q9
  | true=>
   rw [ID rfl] at q9 ⊢
   exact ud (fun s' ⟨σ',H',I',n'⟩=>again I' n') (hb _ s9 σ8 H9 _ I9 q9)
def CV (te:TE) (acc:Addr):AG:=fun σ H N=>te σ H fun y H4=>∃ ys,H4 acc=some (.lst ys)/\ys.length<sizeLine/\N σ (cq H4 acc (.lst (ys++[y])))
theorem tO {te:TE}{elt:Expr}{gens:List Comprehension}{scope:Scope}{pos:Pos} (hg:gens[d]?=none) (hxe:X.xe=vT) (hel:PE X elt te):AI X (.ListComp elt gens scope pos) d acc (CV te acc):=by
 intro pins s σ H N I h
 unfold lV
 show (match gens[d]? with | some g=>_ | none=>_:Prop)
 rw [hg]
 show wpAny _ _ (do let _ <- call (.builtin "list.append") [.ref acc,<- eval elt X.env]) _ _ _
 have z:=hel pins s σ H _ I h
 rw [hxe] at z
 refine Jf (d3 z fun v10 s10 ⟨y,H10,I10,r10,ys,hy,hz,nn⟩=>?_)
 have z4:=xJ (X:=X) pins s10 σ H10 (.ref acc) [y] (.ref acc) [v10] (fun _ H'=>N σ H') I10 rfl (.cons r10 .nil) ⟨_,ys,y,rfl,rfl,hy,hz,nn⟩
 rw [hxe] at z4
 exact Jf (d3 z4 fun v11 s11 ⟨y',H11,I11,r11,n11⟩=>Jl ⟨_,_,I11,n11⟩)
end
theorem An {M:Model}{A:Around}{E:Value->Shared->Prop}{s:Shared}{scope:Scope}{cl:List (Str × Addr)}{env:Env}{Q:Env->Shared->Prop}
  (hQ : ∀ h', h'.Ns s.heap.objs.size (fun _ => none) -> (∀ b o, s.heap.get? b = some o -> h'.get? b = some o) -> (∀ x c, (cellsFrom (s.heap.objs.size + 1) scope.names cl).lookup x = some c -> cl.lookup x = some c \/ h'.IsCell c none) ->
   ∀ cenv:Env,({ cenv with scope:=relabel scope env }:Env)=compEnvC scope (cellsFrom (s.heap.objs.size+1) scope.names cl) s.heap.objs.size env->cenv.locals=s.heap.objs.size->Q cenv { s with heap:=h' }) :
  wpAny M A (newFunctionEnv scope env.globals cl [] env.qual none .none (some env)) Q E s:=by
 simp only [newFunctionEnv,Option.isSome_some,JQ]
 refine Jf (wpAny_alloc ?_)
 refine Jf (wpAny_layCells _ (fun name kind cells=>by cases hkc:kind == NameKind.cell <;> simp [hkc]) _ _ _ _ ?_)
 have hsz:(s.heap.push { cls:=.type "dict",data:=.dict #[] }).objs.size=s.heap.objs.size+1:=Kt ..
 refine Jf (Jl (Jl ?_))
 show Q _ { s with heap:=pushCells (s.heap.push { cls:=.type "dict",data:=.dict #[] }) scope.names }
 refine hQ _ ((Heap.Ns.new s.heap (.type "dict")).keeps (Ku _ _)) (fun b o e=>Ku _ _ b o (Jn _ e)) (fun x c e=>?_) _ ?_ rfl
 ·rw [<- hsz] at e
  exact kv e
 ·show _ = _
  unfold compEnvC
  rw [<- hsz]
def mL (o0:Addr->HO) (wi:TI) (cap:List (Option Nat)) (g:TG) (tt:TT) (tb:Addr->AG):TE:=fun σ H Q=>wi σ H fun J H1=>∀ acc,H1 acc=none->Hk J g tt (tb acc) (fun _ H'=>Q (.ref acc) H') (oh cap σ) (cq H1 acc (o0 acc))
def yB (wi:TI) (cap:List (Option Nat)) (g:TG) (tt:TT) (te:TE):TE:=mL (fun _=>.lst []) wi cap g tt (CV te)
def Hm (X:Cx) (newAcc:Sem Value) (o0:Addr->HO):Prop:=∀ (pins:List (Addr × Obj)) (s:Shared) (σ:St) (H:Hp) (Q:Value->Shared->Prop),aR X pins σ H s ->
 (∀ s',aR X pins σ (cq H s.heap.objs.size (o0 s.heap.objs.size)) s'->(∀ b o,s.heap.get? b=some o->s'.heap.get? b=some o)->s.heap.objs.size<s'.heap.objs.size->Q (.ref s.heap.objs.size) s')->wpAny (model X.prog X.w) X.A newAcc Q X.xe s
theorem tT {X:Cx}:Hm X (newList []) (fun _=>.lst []):=fun pins s σ H Q I h=>
 J3 (h _ (I.lnew (t':=s.toks) (ys:=[]) (its:=[]) .nil (Ky _)) (fun b o e=>Jn _ e) (by rw [Kt];exact Kr _))
section
variable {X:Cx}{e:Expr}{cl0:Comprehension}{rest:List Comprehension}{scope:Scope}{Nc:List Str}{cap:List (Option Nat)}{wi:TI}{g:TG}{tt:TT}{tb:Addr->AG}{pos':Pos}{o0:Addr->HO}{newAcc:Sem Value}
theorem m4 {use:Option (Value->Sem Unit)}{pins:List (Addr × Obj)}{s:Shared}{σ:St}{H:Hp}{Q:VK}{QQ:Value->Shared->Prop}
  (he:om e=true) (hz:∀ g∈clausesOf e,g.is_async=0) (hcl0:clausesOf e=cl0::rest) (hmk:Hm X newAcc o0)
  (hc:X.calm=true) (S:bY X.N X.env scope Nc cap) (hi:PI X cl0.target cl0.iter wi)
  (hg:∀ cl C s H fp,PG (i7 X Nc scope cl C s H fp) cl0.target g) (ht:∀ cl C s H fp,sH (i7 X Nc scope cl C s H fp) cl0.ifs tt) (hb:∀ cl C s H fp acc,AI (i7 X Nc scope cl C s H fp) e 1 acc (tb acc))
  (I:aR X pins σ H s) (h:mL o0 wi cap g tt tb σ H Q)
  (hfin:∀ C acc s' H',aR X pins σ H' s'->lR X pins H' C->(∃ m,s'.heap.Ns C m)->Q (.ref acc) H'->compPost (model X.prog X.w) X.A X.xe use QQ (.ref acc) C (.ok .next) s')
  (hs:∀ x,foldedSetIterable cl0.iter X.env x=pure x) :
  wpAny (model X.prog X.w) X.A (comprehension e scope X.env pos' newAcc false (eval cl0.iter X.env) use) QQ X.xe s:=by
 obtain ⟨cl,hclos,hcl,hall⟩:=vJ (scope:=scope) (env:=X.env) (fun y hy hf=>I.ok.has y.1 (S.free y hy hf))
 have hg0:(clausesOf e)[0]?=some cl0:=by rw [hcl0];rfl
 refine wpAny_comprehension_free hcl0 hs hclos S.kind (fun x hx e=>by rw [S.nd x hx,e]) ?_
 refine d3 (hi pins s σ H _ I h) fun v s1 h1=>d3 h1 fun itv s2 h2=>?_
 obtain ⟨it,fp,tn,J,H2,e',I2,T,st2,f2,rd⟩:=h2
 subst e'
 have rd:=rd _ I2.fresh
 refine hmk pins s2 σ H2 _ I2 fun s3 I3 hk3 hsz3=>?_
 have st3:tn 0 s3.heap:=T.keep _ _ _ st2 fun b _ o e=>hk3 b o e
 have fpn:∀ b∈fp,b≠s2.heap.objs.size:=fun b hb=>by
  obtain ⟨o,eo,_⟩:=T.obj _ _ st2 b hb
  exact IJ (IG eo)
 have f3:∀ b∈fp,lR X pins (cq H2 s2.heap.objs.size (o0 s2.heap.objs.size)) b:=fun b hb=>⟨by rw [bE (fpn b hb)];exact (f2 b hb).1,(f2 b hb).2⟩
 have hfs:∀ b∈fp,b<s3.heap.objs.size:=fun b hb=>by
  obtain ⟨o,eo,_⟩:=T.obj _ _ st3 b hb
  exact IG eo
 refine An fun h1 hns1 hk1 hce cenv ecenv elc=>?_
 rw [ecenv]
 have IB:aR (i7 X Nc scope cl s3.heap.objs.size s3 (cq H2 s2.heap.objs.size (o0 s2.heap.objs.size)) fp) [] (oh cap σ) (cq H2 s2.heap.objs.size (o0 s2.heap.objs.size)) { s3 with heap:=h1,toks:=s3.toks }:=
  xP I3 f3 hfs S hcl hall hns1 hk1 hce
 have stB:tn 0 h1:=T.keep _ _ _ st3 fun b _ o e=>hk1 b o e
 rw [elc]
 have frB:∀ b∈fp,lR (i7 X Nc scope cl s3.heap.objs.size s3 (cq H2 s2.heap.objs.size (o0 s2.heap.objs.size)) fp) [] (cq H2 s2.heap.objs.size (o0 s2.heap.objs.size)) b:=fun b hb=>
  ⟨(f3 b hb).1,(IB.ok.exf b hb).1,IB.ok.exfs b hb,.inl hb,(IB.ok.exf b hb).2,fun p hp=>absurd (show p∈([]:List (Addr × Obj)) from hp) (by simp)⟩
 have loop:=uG (X:=i7 X Nc scope cl s3.heap.objs.size s3 (cq H2 s2.heap.objs.size (o0 s2.heap.objs.size)) fp) he hz hg0 rfl hc T (hg _ _ _ _ _) (ht _ _ _ _ _) (hb _ _ _ _ _ _) IB stB frB rd
 have fin:∀ r s',(r=.ok .next/\∃ σ' H',aR (i7 X Nc scope cl s3.heap.objs.size s3 (cq H2 s2.heap.objs.size (o0 s2.heap.objs.size)) fp) [] σ' H' s'/\Q (.ref s2.heap.objs.size) H')->compPost (model X.prog X.w) X.A X.xe use QQ (.ref s2.heap.objs.size) s3.heap.objs.size r s':=by
  rintro r s' ⟨rfl,σ',H',J',q⟩
  have I5:aR X pins σ H' s':=I3.call' (ch:=fp) J'.os J'.base J'.hok J'.bare fun b hbf=>⟨(f3 b hbf).2.2.2.1,(f3 b hbf).2.1,(f3 b hbf).2.2.2.2.1,(f3 b hbf).2.2.2.2.2⟩
  obtain ⟨mm,hnn,_⟩:=J'.loc
  exact hfin _ _ s' H' I5 (I3.fpOk (Jp _) J'.free) ⟨mm,hnn⟩ q
 exact w9 he hz hg0 (Jw loop fin) (T.self _ 0 _ _ _ stB (Jw loop fin))
variable {elt:Expr}{pos:Pos}
theorem zW (hc:X.calm=true) (hz:∀ g∈cl0::rest,g.is_async=0) (S:bY X.N X.env scope Nc cap) (hi:PI X cl0.target cl0.iter wi)
  (hg:∀ cl C s H fp,PG (i7 X Nc scope cl C s H fp) cl0.target g) (ht:∀ cl C s H fp,sH (i7 X Nc scope cl C s H fp) cl0.ifs tt) (hb:∀ cl C s H fp acc,AI (i7 X Nc scope cl C s H fp) (.ListComp elt (cl0::rest) scope pos) 1 acc (tb acc))
  (hs:∀ x,foldedSetIterable cl0.iter X.env x=pure x):PE X (.ListComp elt (cl0::rest) scope pos) (mL (fun _=>.lst []) wi cap g tt tb):=by
 intro pins s σ H Q I h
 have h0:=hz cl0 IR
 obtain ⟨tg0,it0,if0,as0⟩:=cl0
 have h0':as0=0:=h0
 subst h0'
 rw [arm_eval_ListComp]
 refine m4 (e:=.ListComp elt (_::rest) scope pos) (Q:=Q) rfl hz rfl tT hc S hi hg ht hb I h (fun C acc s' H' I' hf hn q=>?_) hs
 obtain ⟨m,hn⟩:=hn
 refine ⟨m,hn,fun h' sb=>⟨.ref acc,H',?_,rfl,q⟩⟩
 exact I'.turned (t':=s'.toks) (it:=C) (fun b o hb e=>(sb.2 b hb).trans e) hf.1 hf.2.1 hf.2.2.2.1 hf.2.2.2.2.1 hf.2.2.2.2.2
theorem zQ {i:Nat}{x:Str}{pos1:Pos}{pos2:Pos} (hc:X.calm=true) (hz:∀ g∈cl0::rest,g.is_async=0) (hN:X.N.Nodup) (hix:X.N[i]?=some x) (hx:X.env.scope.names.lookup x=some .local) (S:bY X.N X.env scope Nc cap) (hi:PI X cl0.target cl0.iter wi)
  (hg:∀ cl C s H fp,PG (i7 X Nc scope cl C s H fp) cl0.target g) (ht:∀ cl C s H fp,sH (i7 X Nc scope cl C s H fp) cl0.ifs tt) (hb:∀ cl C s H fp acc,AI (i7 X Nc scope cl C s H fp) (.ListComp elt (cl0::rest) scope pos) 1 acc (tb acc))
  (hsw:swapsWith (.ListComp elt (cl0::rest) scope pos) (some (.Name x pos1)) pos2.line X.env=pure true) (hs:∀ x,foldedSetIterable cl0.iter X.env x=pure x) :
  PS X (.Assign [.Name x pos1] (.ListComp elt (cl0::rest) scope pos) pos2) (yt (mL (fun _=>.lst []) wi cap g tt tb) (sY i)):=by
 intro pins s σ H D I h
 have h0:=hz cl0 IR
 obtain ⟨tg0,it0,if0,as0⟩:=cl0
 have h0':as0=0:=h0
 subst h0'
 rw [exec_Assign_Name_used _ _ _ _ hsw]
 refine Jf (Jh (Jf ?_))
 show wpAny _ X.A (do let _ <- comprehension (.ListComp elt (⟨tg0,it0,if0,0⟩::rest) scope pos) scope X.env _ (newList []) false (eval it0 X.env) (some (assign (.Name x pos1) X.env))) _ _ s
 refine Jf (Ja (m4 (e:=.ListComp elt (_::rest) scope pos) (use:=some (assign (.Name x pos1) X.env)) (Q:=fun v H1=>D.nx (σ.set i (some v)) H1) (QQ:=fun _ s'=>SP X pins D .next s') rfl hz rfl tT hc S hi hg ht hb I h (fun C acc s' H' I' hf hn q=>?_) hs)
  (fun _ s' hq=>Jl (Jl hq)) fun _ _ e=>e)
 obtain ⟨m,hn⟩:=hn
 show wpAny _ X.A (assign (.Name x pos1) X.env (.ref acc)) _ _ _
 refine wpAny_assign_Name (qw I' hN hix (.inl hx) (show cn (.ref acc) (.ref acc) from rfl) (fun s'' I'' hsb=>?_) (.inr hx))
 obtain ⟨a,sb,ha⟩:=hsb
 have hCa:C≠a:=by
  rcases ha with z | z
  ·rw [z];exact hf.2.1
  ·exact fun e=>hf.2.2.2.2.1 x a z e.symm
 refine ⟨m,hn.sameBut sb hCa,fun h' sb'=>⟨_,H',?_,q⟩⟩
 exact I''.turned (t':=s''.toks) (it:=C) (fun b o hb e=>(sb'.2 b hb).trans e) hf.1 hf.2.1 hf.2.2.2.1 hf.2.2.2.2.1 hf.2.2.2.2.2
variable {tg iter:Expr}{ifs:List Expr}{te:TE}
theorem qH:∀ g∈([⟨tg,iter,ifs,0⟩]:List Comprehension),g.is_async=0:=fun g hg=>by rw [KA.mp hg]
theorem BV (hc:X.calm=true) (S:bY X.N X.env scope Nc cap) (hi:PI X tg iter wi)
  (hg:∀ cl C s H fp,PG (i7 X Nc scope cl C s H fp) tg g) (ht:∀ cl C s H fp,sH (i7 X Nc scope cl C s H fp) ifs tt) (he:∀ cl C s H fp,PE (i7 X Nc scope cl C s H fp) elt te)
  (hs:∀ x,foldedSetIterable iter X.env x=pure x:=by intro _;rfl):PE X (.ListComp elt [⟨tg,iter,ifs,0⟩] scope pos) (yB wi cap g tt te):=
 zW (cl0:=⟨tg,iter,ifs,0⟩) hc qH S hi hg ht (fun cl C s H fp acc=>tO rfl rfl (he cl C s H fp)) hs
theorem BL {i:Nat}{x:Str}{pos1:Pos}{pos2:Pos} (hc:X.calm=true) (hN:X.N.Nodup) (hix:X.N[i]?=some x) (hx:X.env.scope.names.lookup x=some .local) (S:bY X.N X.env scope Nc cap) (hi:PI X tg iter wi)
  (hg:∀ cl C s H fp,PG (i7 X Nc scope cl C s H fp) tg g) (ht:∀ cl C s H fp,sH (i7 X Nc scope cl C s H fp) ifs tt) (he:∀ cl C s H fp,PE (i7 X Nc scope cl C s H fp) elt te)
  (hsw:swapsWith (.ListComp elt [⟨tg,iter,ifs,0⟩] scope pos) (some (.Name x pos1)) pos2.line X.env=pure true) (hs:∀ x,foldedSetIterable iter X.env x=pure x:=by intro _;rfl) :
  PS X (.Assign [.Name x pos1] (.ListComp elt [⟨tg,iter,ifs,0⟩] scope pos) pos2) (yt (yB wi cap g tt te) (sY i)):=
 zQ (cl0:=⟨tg,iter,ifs,0⟩) hc qH hN hix hx S hi hg ht (fun cl C s H fp acc=>tO rfl rfl (he cl C s H fp)) hsw hs
end
end L2
namespace RS
open PySem PySem.W PyProof.Rows
open AutoSeq1 (wpAny_loadPart')
section
variable {prog:Program}{w:World}{A:Around}{E:Value->Shared->Prop}{s:Shared}
theorem sD {it t:Addr}{i:Nat}{items}{x:Value}{Q:Value->Shared->Prop} (hit:s.heap.IsTupleIter it t i) (ht:s.heap.IsTuple t items) (hx:items[i]?=some x)
  (hQ:∀ h',h'.IsTupleIter it t (i+1)->Heap.SameBut it s.heap h'->Q x { s with heap:=h' }):wpAny (model prog w) A (Builtin.SmallTypes.nextOf (.ref it)) Q E s:=by
 obtain ⟨o,ho,hc,hd⟩:=id hit
 obtain ⟨ol,hol,_,nl,hdl⟩:=ht
 unfold Builtin.SmallTypes.nextOf
 refine Jf (JW (name:=Str.ofString "__next__") hit.typeIs KB (JY KB hit.typeIs KC ?_ (KD _)))
 show wpAny _ _ (field (.ref it) 0 >>= _) _ _ s
 refine Jf (JS ho hd (x:=.ref t) rfl ?_)
 show wpAny _ _ (if (Value.ref t == Value.none)=true then _ else _) _ _ s
 rw [IE (show ¬ ((Value.ref t == Value.none)=true) from Jj)]
 show wpAny _ _ (field (.ref it) 1 >>= _) _ _ s
 refine Jf (JS ho hd (x:=.int i 0) rfl ?_)
 show wpAny _ _ (seqItems? (.ref t) >>= _) _ _ s
 refine Jf (KE hol hdl ?_)
 simp only [JN,hx]
 refine Jf (wpAny_setField ho hd (by simp) (Jl ⟨x,rfl,Jl (hQ _ ?_ (KF ..))⟩))
 exact ⟨_,J8 _ ho (Obj.isFreed_of_fields (Obj.data_mapFields hd _)),(Obj.cls_mapFields ..).trans hc,by rw [Obj.data_mapFields hd];simp [rawInt]⟩
theorem ni {it t:Addr}{i:Nat}{items}{Q:Value->Shared->Prop} (hh:A.handled=none) (hit:s.heap.IsTupleIter it t i) (ht:s.heap.IsTuple t items) (hx:items[i]?=none)
  (hE:∀ h' e,Heap.ExtBut it s.heap h'->(∃ o,h'.get? e=some o/\o.cls=.type "StopIteration")->E (.ref e) { s with heap:=h' }):wpAny (model prog w) A (Builtin.SmallTypes.nextOf (.ref it)) Q E s:=by
 obtain ⟨o,ho,hc,hd⟩:=id hit
 obtain ⟨ol,hol,_,nl,hdl⟩:=ht
 unfold Builtin.SmallTypes.nextOf
 refine Jf (JW (name:=Str.ofString "__next__") hit.typeIs KB (JY KB hit.typeIs KC ?_ (KD _)))
 show wpAny _ _ (field (.ref it) 0 >>= _) _ _ s
 refine Jf (JS ho hd (x:=.ref t) rfl ?_)
 show wpAny _ _ (if (Value.ref t == Value.none)=true then _ else _) _ _ s
 rw [IE (show ¬ ((Value.ref t == Value.none)=true) from Jj)]
 show wpAny _ _ (field (.ref it) 1 >>= _) _ _ s
 refine Jf (JS ho hd (x:=.int i 0) rfl ?_)
 show wpAny _ _ (seqItems? (.ref t) >>= _) _ _ s
 refine Jf (KE hol hdl ?_)
 simp only [JN,hx]
 refine Jf (Kx (Jf (wpAny_setField ho hd (by simp) ?_)))
 show wpAny _ _ (newExc (.type "StopIteration") [] >>= _) _ _ _
 refine Jf ?_
 simp only [newExc,newTuple]
 refine Jf (J3 ?_ (by size_fits))
 refine Jf (m:=firstArgMember _ _) (KG (a:=Value.none) (by first | rfl | (simp only [firstArgMember];rfl)) ?_)
 refine J3 ?_ (by size_fits)
 simp only [raiseNew]
 refine Jf (wpAny_handled ?_)
 first | rw [show A.in1.handled=none from hh] | rw [hh]
 refine Jf (Jl (wpAny_throw ?_))
 exact hE _ _ (((KF ..).extBut.push _).push _) ⟨_,Jo _ rfl,rfl⟩
end
theorem Fu {prog:Program}{w:World}{A:Around} (hh:A.handled=none) (it l:Addr) (hne:l≠it) (items:Array Value) :
  Draws prog w A it [it,l] items.size (fun i v=>items[i]?=some v) (fun i h=>h.IsTupleIter it l i/\h.IsTuple l items) where
 live:=fun _ _ st=>let ⟨o,ho,_⟩:=st.1;⟨o,ho⟩
 frame:=fun _ _ _ st hk=>⟨by
  obtain ⟨o,ho,r⟩:=st.1
  exact ⟨o,hk it (by simp) o ho,r⟩,by
  obtain ⟨o,ho,r⟩:=st.2
  exact ⟨o,hk l (by simp) o ho,r⟩⟩
 item:=fun i s Q E hi st hQ=>by
  refine sD st.1 st.2 (x:=items[i]) (by simp [hi]) fun h' hit' hs'=>?_
  refine hQ _ h' s.toks (by simp [hi]) ⟨hit',?_⟩ hs'
  obtain ⟨o,ho,r⟩:=st.2
  exact ⟨o,(hs'.2 l hne).trans ho,r⟩
 done:=fun s Q E st hE=>ni hh st.1 st.2 (by simp) hE
theorem uB (l:Addr) (items:Array Value) (n:Nat) (dct:Option Addr) (sl:Array (Option Value)) :
  Meets (Builtin.«enumerate.__new__» ⟨[.type "enumerate",.ref l],[]⟩) (fun _ R s=>s.heap.get? l=some { cls:=.type "tuple",dict:=dct,data:=.seq items n,slots:=sl } /\
   R (.ok (.ret (.ref (s.heap.push { cls:=.type "tuple_iterator",data:=.fields #[.ref l,.int 0 0] }).objs.size)))
    { s with heap:=(s.heap.push { cls:=.type "tuple_iterator",data:=.fields #[.ref l,.int 0 0] }).push { cls:=.type "enumerate",data:=.fields #[.none,.bool false,.ref s.heap.objs.size,rawInt 0,.none,.none] } }):=
 .of_wp fun prog w A R s h=>by
  obtain ⟨hp,g,d,tk,os⟩:=s;obtain ⟨hl,h⟩:=h
  have hsub:=sub_enumerate
  have hL:Heap.IsTuple (Shared.heap ⟨hp,g,d,tk,os⟩) l items:=⟨_,hl,rfl,n,rfl⟩
  wp_walk using wpAny_loadPart' hl
  refine wpAny_stack_any fun st=>Jl ?_
  split
  ·rename_i c _ _ _ _ _
   cases (c == Value.type "enumerate")
   ·wp_walk using wpAny_loadPart' hl, KH hL
    exact ⟨_,rfl,h⟩
   ·wp_walk using wpAny_loadPart' hl, KH hL
    exact ⟨_,rfl,h⟩
  ·wp_walk using wpAny_loadPart' hl, KH hL
   exact ⟨_,rfl,h⟩
section
variable {prog:Program}{w:World}{A:Around}{E:Value->Shared->Prop}{s:Shared}
theorem vP {l:Addr}{items:Array Value}{Q:Value->Shared->Prop} (hL:s.heap.IsTuple l items)
  (h : ∀ h', IsEnum h' (s.heap.objs.size + 1) s.heap.objs.size 0 .none -> h'.IsTupleIter s.heap.objs.size l 0 -> h'.objs.size = s.heap.objs.size + 2 ->
   (∀ b o,s.heap.get? b=some o->h'.get? b=some o)->Q (.ref (s.heap.objs.size+1)) { s with heap:=h' }) :
  wpAny (model prog w) A (call (.type "enumerate") [.ref l]) Q E s:=by
 obtain ⟨⟨c,dct,dt,sl⟩,hl,hc,n,hd⟩:=hL
 replace hc:c=.type "tuple" := hc
 replace hd:dt=.seq items n:=hd
 subst hc hd
 refine callType_new F.called_enumerate (by decide) (F.typeCall_enumerate_1 _) (F.newCall_enumerate_1 _) (fun obj=>F.args_object_init_2 obj _) F.entry_enumerate_new (uB l items n dct sl) ⟨hl,?_⟩
 have hz:(s.heap.push { cls:=.type "tuple_iterator",data:=.fields #[.ref l,.int 0 0] }).objs.size=s.heap.objs.size+1:=Kt ..
 show _/\_
 rw [hz]
 have he:IsEnum ((s.heap.push { cls:=.type "tuple_iterator",data:=.fields #[.ref l,.int 0 0] }).push
   { cls:=.type "enumerate",data:=.fields #[.none,.bool false,.ref s.heap.objs.size,rawInt 0,.none,.none] }) (s.heap.objs.size+1) s.heap.objs.size 0 .none:=by
  have:=Jo (s.heap.push { cls:=.type "tuple_iterator",data:=.fields #[.ref l,.int 0 0] })
   (o:={ cls:=.type "enumerate",data:=.fields #[.none,.bool false,.ref s.heap.objs.size,rawInt 0,.none,.none] }) rfl
  rw [hz] at this;exact this
 exact ⟨⟨_,he,rfl⟩,h _ he ⟨_,Jn _ (Jo _ rfl),rfl,rfl⟩ (by rw [Kt,hz]) fun b o x=>Jn _ (Jn _ x)⟩
end
end RS
namespace L2
open PySem PySem.Spec PyProof.Rows RS
def Sq (b:Bool) (K:W.Frag) (H:Hp) (a:Addr) (xs:List V):Prop:=if b=true then f7 K H a xs else fB K H a xs
def Ho (b:Bool) (K:W.Frag) (a:Addr):It:=
 ⟨fun i H => ∃ xs x, Sq b K H a xs /\ xs[i]? = some x,
  fun i H x H'=>∃ q y,x=.ref q/\H q=none/\H'=cq H q (.tup [.int i,y])/\∀ xs,Sq b K H a xs->xs[i]?=some y,
  fun i H=>∃ xs,Sq b K H a xs/\xs.length=i⟩
def rH (b:Bool) (h:Heap) (it a:Addr) (i:Nat):Prop:=if b=true then h.IsListIter it a i else h.IsTupleIter it a i
theorem rH.obj {b:Bool}{h:Heap}{it a:Addr}{i:Nat} (x:rH b h it a i):∃ o,h.get? it=some o/\∀ v,o.data≠.cell v:=by
 cases b with
 | true=>obtain ⟨o,e,c,d⟩:=(show h.IsListIter it a i from x);exact ⟨o,e,fun v z=>by rw [d] at z;cases z⟩
 | false=>obtain ⟨o,e,c,d⟩:=(show h.IsTupleIter it a i from x);exact ⟨o,e,fun v z=>by rw [d] at z;cases z⟩
theorem rH.keep {b:Bool}{h h':Heap}{it a:Addr}{i:Nat} (x:rH b h it a i) (k:∀ o,h.get? it=some o->h'.get? it=some o):rH b h' it a i:=by
 cases b with
 | true=>obtain ⟨o,e,r⟩:=(show h.IsListIter it a i from x);exact (show h'.IsListIter it a i from ⟨o,k o e,r⟩)
 | false=>obtain ⟨o,e,r⟩:=(show h.IsTupleIter it a i from x);exact (show h'.IsTupleIter it a i from ⟨o,k o e,r⟩)
theorem t9 {X:Cx}{pins:List (Addr × Obj)}{σ:St}{H:Hp}{s:Shared}{b:Bool}{a it:Addr}{xs:List V} (I:aR X pins σ H s) (hc:X.calm=true) (hq:Sq b X.K H a xs) (hne:a≠it) :
  ∃ (its:Array Value) (St:Nat->Heap->Prop),ba xs its.toList/\Draws X.prog X.w X.A.in1 it [it,a] its.size (fun i v=>its[i]?=some v) St/\(∀ i,rH b s.heap it a i->St i s.heap)/\∀ i h,St i h->rH b h it a i:=by
 have hh:X.A.in1.handled=none:=by simpa using I.ok.hd hc
 cases b with
 | true=>
  obtain ⟨its,rv,p,hz⟩:=I.list (show f7 X.K H a xs from hq)
  exact ⟨its.toArray,_,by simpa using rv,Draws.list hh it a hne its.toArray,fun i h=>⟨h,p.isList⟩,fun i h st=>st.1⟩
 | false=>
  obtain ⟨its,rv,p,hz⟩:=I.tuple (show fB X.K H a xs from hq)
  exact ⟨its.toArray,_,by simpa using rv,Fu hh it a hne its.toArray,fun i h=>⟨h,p⟩,fun i h st=>st.1⟩
theorem DW {X:Cx}{pins:List (Addr × Obj)}{σ:St}{H:Hp}{s:Shared}{b:Bool}{a:Addr}{xs ys:List V} (I:aR X pins σ H s) (h1:Sq b X.K H a xs) (h2:Sq b X.K H a ys):xs=ys:=by
 cases b with
 | true=>exact I.list_inj h1 h2
 | false=>exact I.tuple_inj h1 h2
theorem aR.turns {X:Cx}{pins:List (Addr × Obj)}{σ:St}{H:Hp}{s:Shared}{h':Heap}{t':Nat}{ch:List Addr} (I:aR X pins σ H s) (k:∀ b o,b ∉ ch->s.heap.get? b=some o->h'.get? b=some o) (hf:∀ b∈ch,lR X pins H b):aR X pins σ H { s with heap:=h',toks:=t' }:=by
 have nit:∀ b u,H b=some u->b ∉ ch:=fun b u e z=>by rw [(hf b z).1] at e;cases e
 refine I.step (g':=s.gens) (d':=s.drawn) (ch:=ch) (fun b hb=>?_) (fun b o _ _ hc e _=>k b o hc e) (fun b o _ _ hc e _=>⟨o.slots,k b o hc e⟩) (fun _ _ _ _ n=>n)
  (fun b o hc e=>⟨o,k b o hc e⟩) (fun _ _ e=>e) (fun _ _ _ e=>e) (fun b ps e=>⟨#[],by rw [e];simp⟩) (fun m hm=>?_) (fun b u e=>?_) I.bare
 ·obtain ⟨f0, f1, f2, f3, f4, f5⟩ := hf b hb
  exact ⟨f3,f1,f4,f5⟩
 ·obtain ⟨o, es, ep, ho, r⟩ := hm
  exact ⟨o,es,ep,k _ o (fun z=>(hf _ z).2.1 rfl) ho,r⟩
 ·refine (I.hok b u e).stay (fun c v hc q => k c v ?_ q) (fun _ q => q) fun _ _ q => q
  rcases hc with z | z
  ·rw [z];exact nit b u e
  ·exact nit c _ z
theorem w8 {P:Program}{w:World}{K:W.Frag}{elts:List Expr}{k1:Nat}{pos:Pos}{b:Bool} (a it e:Addr) (hei:e≠it) (hai:a≠it) (hae:a≠e) :
  wY P w K (.Tuple elts k1 pos) (Ho b K a) [e,it] e (fun i h=>(∃ old,IsEnum h e it (i:Nat) old)/\rH b h it a i) where
 mem:=by simp
 obj:=fun i h st x hx=>by
  obtain ⟨⟨old,he⟩,hi⟩:=st
  rcases IT.mp hx with rfl | hx
  ·exact ⟨_,he,fun v z=>by cases z⟩
  ·rw [KA.mp hx];exact hi.obj
 keep:=fun i h h' st k=>by
  obtain ⟨⟨old,he⟩,hi⟩:=st
  exact ⟨⟨old,k e (by simp) _ he⟩,hi.keep fun o eo=>k it (by simp) o eo⟩
 item:=by
  intro X hP hw hK hc i pins s σ H E I hf st hg
  subst hP hw hK
  obtain ⟨⟨old,he⟩,hi⟩:=st
  obtain ⟨xs,x,hq,hx⟩:=hg
  obtain ⟨its,St,rv,D,d1,d2⟩:=t9 I hc hq hai
  obtain ⟨u,hu,ru⟩:=rv.get hx
  have hlt:i<its.size:=by
   have:=(IX.mp hu).1
   simpa using this
  have hef:e ∉ [it,a]:=by
   simp only [IT,KJ,KL,not_or];exact ⟨hei,IU hae⟩
  obtain ⟨f0,f1,f2,f3,f4,f5⟩:=hf e (by simp)
  obtain ⟨g0,g1,g2,g3,g4,g5⟩:=hf it (by simp)
  have helt:e<s.heap.objs.size:=IG he
  have hilt:it<s.heap.objs.size:=by obtain ⟨o,eo,_⟩:=hi.obj;exact IG eo
  refine wpAny_pyNext_enum_itemD D he (d1 i hi) hlt hei hef fun y h' tk hy ho hst' ht hsz hk=>?_
  have ey:y=u:=by
   rw [<- Ki,hu] at hy
   exact (IF hy).symm
  subst ey
  refine ⟨_,rfl,?_⟩
  refine wpAny_letOwnedTupleGo_enum (s:={ s with heap:=h',toks:=tk+1 }) ho fun h2 he2 hs2=>?_
  replace hs2:Heap.SameBut e h' h2:=hs2
  have hold:∀ b o,b≠e->b≠it->s.heap.get? b=some o->h2.get? b=some o:=fun b o h1 h3 q=>(hs2.2 b h1).trans (hk b o h1 h3 q)
  have ht2:h2.get? s.heap.objs.size=some { cls:=.type "tuple",data:=.seq #[.int i tk,y] }:=(hs2.2 _ (Jk helt)).trans ht
  have hqn:H s.heap.objs.size=none:=I.hok.fresh (Jp _)
  have I1:aR X pins σ (cq H s.heap.objs.size (.tup [.int i,x])) { s with heap:=s.heap.push { cls:=.type "tuple",data:=.seq #[.int i tk,y] },toks:=tk }:=by
   refine I.laid (t':=tk) (fun b o eo=>Jn _ eo) (Jp _) ?_
   exact ⟨by show 2<=sizeLine;decide,[.int i tk,y],.cons ⟨tk,rfl⟩ (.cons ru .nil),_,Jo _ rfl,rfl,0,rfl⟩
  have hne:∀ b∈[e,it],b≠s.heap.objs.size:=fun b hb=>by
   rcases IT.mp hb with rfl | hb
   ·exact IJ helt
   ·rw [KA.mp hb];exact IJ hilt
  have hf':∀ b∈[e,it],lR X pins (cq H s.heap.objs.size (.tup [.int i,x])) b:=fun b hb=>by
   obtain ⟨k0,k1⟩:=hf b hb
   exact ⟨by rw [bE (hne b hb)];exact k0,k1⟩
  have I2:aR X pins σ (cq H s.heap.objs.size (.tup [.int i,x])) { s with heap:=h2,toks:=tk+1 }:=by
   refine aR.turns (s:={ s with heap:=s.heap.push { cls:=.type "tuple",data:=.seq #[.int i tk,y] },toks:=tk }) I1 (ch:=[e,it]) (t':=tk+1) (fun b o hb eo=>?_) hf'
   simp only [IT,KJ,KL,not_or] at hb
   by_cases hbq:b=s.heap.objs.size
   ·subst hbq
    have:=(Jo s.heap (o:={ cls:=.type "tuple",data:=.seq #[.int i tk,y] }) rfl).symm.trans eo
    rw [ht2];exact this
   ·have:s.heap.get? b=some o:=by
     rw [KM _ _ _ hbq] at eo;exact eo
    exact hold b o hb.1 hb.2 this
  refine ⟨.ref s.heap.objs.size,_,I2,rfl,⟨_,x,rfl,hqn,rfl,fun ys hy=>by rw [DW I hy hq];exact hx⟩,⟨⟨y,by simpa using he2⟩,?_⟩,fun b hb=>(hf' b hb).1⟩
  refine (d2 (i+1) h' hst').keep fun o eo=>?_
  exact (hs2.2 it (IU hei)).trans eo
 done:=by
  intro X hP hw hK hc i pins s σ H E I hf st hg
  subst hP hw hK
  obtain ⟨⟨old,he⟩,hi⟩:=st
  obtain ⟨xs,hq,hx⟩:=hg
  obtain ⟨its,St,rv,D,d1,d2⟩:=t9 I hc hq hai
  have hil:its.size=i:=by
   have h1:=rv.length
   have h2:its.toList.length=its.size:=Jc
   omega
  subst hil
  refine wpAny_pyNext_enum_endD D he (d1 _ hi) fun h' hx=>⟨rfl,?_⟩
  refine I.turns (ch:=[e,it]) (t':=s.toks) (fun b o hb eo=>hx b o (fun z=>hb (by rw [z];simp)) eo) hf
 self:=fun _ _ _ _ _ st h=>by
  obtain ⟨⟨old,he⟩,hi⟩:=st
  exact wpAny_pyIter_enum he h
section
variable {X:Cx}{tg:Expr}
def Fj (K:W.Frag) (ta:TA):TI:=fun σ H R=>ta σ H fun vs H1=>∃ a b,vs=[.ref a]/\(∃ xs,Sq b K H1 a xs)/\R (Ho b K a) H1
theorem BP {a:Expr}{ta:TA}{p pos tpos:Pos}{elts:List Expr}{k1:Nat} (hg:Gl X "enumerate") (hm:X.mg "enumerate" = none) (ha:PA X [a] ta) (hs:starEach [a] X.env=[(false,eval a X.env)]:=by rfl):PI X (.Tuple elts k1 tpos) (.Call (.Name "enumerate" p) [a] [] pos) (Fj X.K ta):=by
 intro pins s σ H R I h
 refine Call_ (lD I hg hm (by rfl) (Jq (d3 (ha pos pins s σ H _ I h) fun us s1 ⟨vs,H1,I1,r1,q1⟩=>?_) hs rfl))
 obtain ⟨l,b,e,⟨xs,hq⟩,q⟩:=q1
 subst e
 obtain ⟨u,rfl,ru⟩:=gX r1
 cases ru
 have fin:∀ h',IsEnum h' (s1.heap.objs.size+1) s1.heap.objs.size 0 .none->rH b h' s1.heap.objs.size l 0->l<s1.heap.objs.size->h'.objs.size=s1.heap.objs.size+2->(∀ b o,s1.heap.get? b=some o->h'.get? b=some o) ->
   wpAny (model X.prog X.w) X.A (pyIter (.ref (s1.heap.objs.size+1))) (Hl X pins σ (.Tuple elts k1 tpos) R) X.xe { s1 with heap:=h' }:=by
  intro h' he hi hl hsz hk
  have I2:aR X pins σ H1 { s1 with heap:=h' }:=I1.kept (t':=s1.toks) hk
  refine wpAny_pyIter_enum he ?_
  refine ⟨_,[s1.heap.objs.size+1,s1.heap.objs.size],_,_,H1,rfl,I2,w8 (b:=b) l s1.heap.objs.size (s1.heap.objs.size+1) (Nat.succ_ne_self _) (IJ hl) (IJ (Ks hl)),⟨⟨.none,he⟩,hi⟩,fun b hb=>?_,q⟩
  rcases IT.mp hb with rfl | hb
  ·exact I1.fpOk (Kd _) (I1.hok.fresh (Kd _))
  ·rw [KA.mp hb];exact I1.fpOk (Jp _) (I1.hok.fresh (Jp _))
 cases b with
 | true=>
  obtain ⟨its,rv,pl,hz⟩:=I1.list (show f7 X.K H1 l xs from hq)
  have hl:l<s1.heap.objs.size:=by obtain ⟨o,eo,_⟩:=pl.isList;exact IG eo
  exact call_enumerate_list pl.isList fun h' he hi hsz hk=>fin h' he hi hl hsz hk
 | false=>
  obtain ⟨its,rv,pl,hz⟩:=I1.tuple (show fB X.K H1 l xs from hq)
  have hl:l<s1.heap.objs.size:=by obtain ⟨o,eo,_⟩:=pl;exact IG eo
  exact vP pl fun h' he hi hsz hk=>fin h' he hi hl hsz hk
end
end L2
namespace RS
open PySem
def wN (mask:Nat):Nat->Nat->Nat->List Nat
 | 0,_,_=>[]
 | n+1,i,pe=>(List.range (SetTable.runEnd mask i+1 - i)).map (i+·)++wN mask n (SetTable.leap mask i pe).1 (SetTable.leap mask i pe).2
def cG (mask:Nat) (h:Int):List Nat:=wN mask (SetTable.turns mask) (SetTable.bits h % (mask+1)) (SetTable.bits h)
def ic (t:SetTable):Nat->SetTable.Probe->List Nat
 | 0,_=>[]
 | n+1,p=>p.j::ic t n (t.advance p)
def lX (mask i pe:Nat) (d:Option Nat):SetTable.Probe:={ j:=i,more:=SetTable.runEnd mask i - i,i,perturb:=pe,dummy:=d }
theorem tq (t:SetTable):∀ (m n:Nat) (p:SetTable.Probe),p.more=m ->
  ic t (m+1+n) p=(List.range (m+1)).map (p.j+·)++ic t n (lX t.mask (SetTable.leap t.mask p.i p.perturb).1 (SetTable.leap t.mask p.i p.perturb).2 p.dummy)
 | 0,n,p,h=>by
  have e:0+1+n=n+1:=by omega
  rw [e]
  show p.j::ic t n (t.advance p)=_
  have ea:t.advance p=lX t.mask (SetTable.leap t.mask p.i p.perturb).1 (SetTable.leap t.mask p.i p.perturb).2 p.dummy:=by
   unfold SetTable.advance
   rw [IE (by omega)]
   rfl
  rw [ea]
  simp
 | m+1,n,p,h=>by
  have e:m+1+1+n=(m+1+n)+1:=by omega
  rw [e]
  show p.j::ic t (m+1+n) (t.advance p)=_
  have ea:t.advance p={ p with j:=p.j+1,more:=p.more - 1 }:=by
   unfold SetTable.advance
   rw [ID (by omega)]
  rw [ea,tq t m n { p with j:=p.j+1,more:=p.more - 1 } (by show p.more - 1=m;omega)]
  rw [KN (n:=m+1),J5,KO]
  show p.j::((List.range (m+1)).map (p.j+1+·)++_)=(p.j+0)::(List.map _ _)++_
  rw [Nat.add_zero]
  show p.j::(_++_)=p.j::(_++_)
  congr 2
  apply KQ
  intro a _
  show p.j+1+a=p.j+(a+1)
  omega
theorem yY (mask i:Nat):i<=SetTable.runEnd mask i/\SetTable.runEnd mask i<=i+9:=by
 unfold SetTable.runEnd;split <;> omega
theorem oy (t:SetTable):∀ (n i pe:Nat) (d:Option Nat),ic t (wN t.mask n i pe).length (lX t.mask i pe d)=wN t.mask n i pe
 | 0,_,_,_=>rfl
 | n+1,i,pe,d=>by
  have hr:=yY t.mask i
  show ic t ((List.range (SetTable.runEnd t.mask i+1 - i)).map (i+·)++_).length _=_
  rw [JH,JI,KR]
  have e:SetTable.runEnd t.mask i+1 - i=(SetTable.runEnd t.mask i - i)+1:=by omega
  rw [e,tq t (SetTable.runEnd t.mask i - i) _ (lX t.mask i pe d) rfl]
  show _++ic t (wN t.mask n (SetTable.leap t.mask i pe).1 (SetTable.leap t.mask i pe).2).length (lX t.mask (SetTable.leap t.mask i pe).1 (SetTable.leap t.mask i pe).2 d)=_
  rw [oy t n]
  show _=(List.range (SetTable.runEnd t.mask i+1 - i)).map (i+·)++_
  rw [e];rfl
theorem rV (mask:Nat):∀ (n i pe:Nat),(wN mask n i pe).length<=10 * n
 | 0,_,_=>Ky _
 | n+1,i,pe=>by
  have hr:=yY mask i
  have ih:=rV mask n (SetTable.leap mask i pe).1 (SetTable.leap mask i pe).2
  show ((List.range (SetTable.runEnd mask i+1 - i)).map (i+·)++_).length<=_
  rw [JH,JI,KR]
  omega
theorem r8 (t:SetTable) (hashAt:Nat->Int) (h:Int):∀ (pre:List Nat) (j:Nat) (post:List Nat) (fuel:Nat) (p:SetTable.Probe),ic t (pre.length+1+post.length) p=pre++j::post->pre.length<fuel->p.dummy=none ->
  (∀ k∈pre,∃ i,t.slot k=.live i/\hashAt i≠h) ->
  (t.slot j=.empty->SetTable.probe.go t hashAt h fuel p=some (.empty j none))/\(∀ i,t.slot j=.live i->hashAt i=h->∃ nx,SetTable.probe.go t hashAt h fuel p=some (.candidate j i nx))
 | [],j,post,0,p,_,hf,_,_=>by simp at hf
 | [],j,post,fuel+1,p,hw,_,hd,_=>by
  have ew:ic t (([]:List Nat).length+1+post.length) p=p.j::ic t post.length (t.advance p):=by
   rw [KS,show 0+1+post.length=post.length+1 from by omega];rfl
  rw [ew,Kj] at hw
  have ej:p.j=j:=(KU hw).1
  refine ⟨fun he=>?_,fun i hl hh=>?_⟩
  ·show (match t.slot p.j with | .empty => _ | .dummy => _ | .live i => _) = _
   rw [ej,he,hd]
  ·refine ⟨t.advance p, ?_⟩
   show (match t.slot p.j with | .empty=>_ | .dummy=>_ | .live i=>_)=_
   rw [ej,hl]
   show (if (hashAt i == h)=true then _ else _)=_
   rw [ID (by simpa using hh)]
 | x::pre,j,post,0,p,_,hf,_,_=>by simp at hf
 | x::pre,j,post,fuel+1,p,hw,hf,hd,hp=>by
  have ew:ic t ((x::pre).length+1+post.length) p=p.j::ic t (pre.length+1+post.length) (t.advance p):=by
   rw [Kq,show pre.length+1+1+post.length=(pre.length+1+post.length)+1 from by omega];rfl
  rw [ew,KW] at hw
  have ej:p.j=x:=(KU hw).1
  have er:=(KU hw).2
  obtain ⟨i,hl,hne⟩:=hp x IR
  have hda:(t.advance p).dummy=none:=by
   unfold SetTable.advance
   split
   ·exact hd
   ·exact hd
  have ih:=r8 t hashAt h pre j post fuel (t.advance p) er (by rw [Kq] at hf;omega) hda (fun k hk=>hp k (IS _ hk))
  have eg:SetTable.probe.go t hashAt h (fuel+1) p=SetTable.probe.go t hashAt h fuel (t.advance p):=by
   show (match t.slot p.j with | .empty=>_ | .dummy=>_ | .live i=>_)=_
   rw [ej,hl]
   show (if (hashAt i == h)=true then _ else _)=_
   rw [IE (by simpa using hne)]
  rw [eg]
  exact ih
def AC (xs:List Nat):Prop:=xs.Pairwise (·<·)
theorem oT (xs:Array Nat) (j:Nat):∀ (fuel lo hi:Nat),lo<=hi->hi<=xs.size->hi - lo<=fuel->(∀ i k,i<k->k<xs.size->xs.getD i j<xs.getD k j)->(∀ i,i<lo->xs.getD i j<j)->(∀ i,hi<=i->i<xs.size->j<=xs.getD i j) ->
  let b:=SetTable.below.go xs j fuel lo hi
  b<=xs.size/\(∀ i,i<b->xs.getD i j<j)/\(∀ i,b<=i->i<xs.size->j<=xs.getD i j)
 | 0,lo,hi,h1,h2,h3,hr,ha,hb=>by
  have e:lo=hi:=by omega
  subst e
  exact ⟨h2,ha,hb⟩
 | fuel+1,lo,hi,h1,h2,h3,hr,ha,hb=>by
  by_cases hlt:lo<hi
  ·simp only [SetTable.below.go, hlt, JQ]
   by_cases hc:xs.getD ((lo+hi) / 2) j<j
   ·rw [ID hc]
    refine oT xs j fuel _ hi (by omega) h2 (by omega) hr (fun i hi'=>?_) hb
    by_cases e:i=(lo+hi) / 2
    ·rw [e];exact hc
    ·have := hr i ((lo + hi) / 2) (by omega) (by omega)
     omega
   ·rw [IE hc]
    refine oT xs j fuel lo _ (by omega) (by omega) (by omega) hr ha (fun i hi' hs=>?_)
    by_cases e:i=(lo+hi) / 2
    ·rw [e];omega
    ·have := hr ((lo + hi) / 2) i (by omega) hs
     omega
  ·have e : lo = hi := by omega
   subst e
   simp only [SetTable.below.go,hlt,JP]
   exact ⟨h2,ha,hb⟩
theorem rX {xs:Array Nat} (h:AC xs.toList) (j:Nat):∀ i k,i<k->k<xs.size->xs.getD i j<xs.getD k j:=fun i k hik hk=>by
 have hi:i<xs.size:=by omega
 have:=KY.mp h i k (by simpa using hi) (by simpa using hk) hik
 simpa [Array.getD,hi,hk] using this
theorem lJ {xs:Array Nat} (h:AC xs.toList) (j:Nat):SetTable.below xs j<=xs.size/\(∀ i,i<SetTable.below xs j->xs.getD i j<j)/\(∀ i,SetTable.below xs j<=i->i<xs.size->j<=xs.getD i j):=
 oT xs j xs.size 0 xs.size (Ky _) (Jp _) (by omega) (rX h j) (fun i hi=>by omega) (fun i h1 h2=>by omega)
theorem ye {xs:Array Nat} (h:AC xs.toList) {i j:Nat} (e:xs[i]?=some j):SetTable.below xs j=i:=by
 obtain ⟨h1,h2,h3⟩:=lJ h j
 have hi:i<xs.size:=by
  rcases KZ.mp e with ⟨q,_⟩;exact q
 have ei:xs.getD i j=j:=by
  rcases KZ.mp e with ⟨q,z⟩
  simp [Array.getD,hi,z]
 by_cases hlt:SetTable.below xs j<i
 ·have a := h3 (SetTable.below xs j) (Jp _) (by omega)
  have b:=rX h j (SetTable.below xs j) i hlt hi
  omega
 ·by_cases hgt : i < SetTable.below xs j
  ·have:=h2 i hgt;omega
  ·omega
theorem jM {α:Type} (xs:Array α) (p:Nat) (x:α):(SetTable.insertAt xs p x).toList=xs.toList.take p++x::xs.toList.drop p:=by
 unfold SetTable.insertAt
 simp [K0]
theorem jE {α:Type} (p:α->Prop):∀ (l:List α),(∃ x∈l,p x)->∃ pre x post,l=pre++x::post/\p x/\∀ y∈pre,¬ p y
 | [],h=>by obtain ⟨x,hx,_⟩:=h;simp at hx
 | a::l,h=>by
  by_cases ha:p a
  ·exact ⟨[],a,l,rfl,ha,fun y hy=>by simp at hy⟩
  ·obtain ⟨x, hx, px⟩ := h
   rcases IT.mp hx with z | z
   ·rw [z] at px;exact absurd px ha
   ·obtain ⟨pre, y, post, e, py, hp⟩ := jE p l ⟨x, z, px⟩
    refine ⟨a::pre,y,post,by rw [e];rfl,py,fun w hw=>?_⟩
    rcases IT.mp hw with q | q
    ·rw [q];exact ha
    ·exact hp w q
structure qg (t:SetTable) (es:Array (Int × Value)) (Z:List (Nat × Int × Value)):Prop where
 place:t.place.toList=Z.map (·.1)
 ents:es.toList=Z.map (·.2)
 ris:AC (Z.map (·.1))
 top:∀ z∈Z,z.1<=t.mask
 dum:t.dummies=#[]
 reach:∀ z∈Z,∃ pre post,cG t.mask z.2.1=pre++z.1::post/\∀ k∈pre,k∈Z.map (·.1)
theorem qg.size {t:SetTable}{es:Array (Int × Value)}{Z:List (Nat × Int × Value)} (T:qg t es Z):t.place.size=Z.length/\es.size=Z.length:=by
 have a:=Jd List.length T.place
 have b:=Jd List.length T.ents
 simp at a b
 exact ⟨a,b⟩
theorem qg.fill {t:SetTable}{es:Array (Int × Value)}{Z:List (Nat × Int × Value)} (T:qg t es Z):t.fill=Z.length:=by
 unfold SetTable.fill;rw [T.size.1,T.dum];rfl
theorem qN (j:Nat):SetTable.has #[] j=false:=by
 unfold SetTable.has;simp
theorem qg.slot_empty {t:SetTable}{es:Array (Int × Value)}{Z:List (Nat × Int × Value)} (T:qg t es Z) {j:Nat} (h:j ∉ Z.map (·.1)):t.slot j=.empty:=by
 unfold SetTable.slot
 have hn:¬ (t.place[SetTable.below t.place j]? == some j)=true:=by
  intro e
  have e':t.place[SetTable.below t.place j]?=some j:=by simpa using e
  apply h
  rw [<- T.place]
  rw [<- Ki] at e'
  exact JG e'
 simp only [hn,T.dum,qN]
 rfl
theorem qg.slot_live {t:SetTable}{es:Array (Int × Value)}{Z:List (Nat × Int × Value)} (T:qg t es Z) {i:Nat}{z:Nat × Int × Value} (h:Z[i]?=some z):t.slot z.1=.live i:=by
 have e:t.place[i]?=some z.1:=by
  rw [<- Ki,T.place,JF,h];rfl
 have r:AC t.place.toList:=by rw [T.place];exact T.ris
 have eb:=ye r e
 unfold SetTable.slot
 have hc:(t.place[SetTable.below t.place z.1]? == some z.1)=true:=by rw [eb,e];simp
 simp only [hc,JQ]
 rw [eb]
theorem qg.hashAt {t:SetTable}{es:Array (Int × Value)}{Z:List (Nat × Int × Value)} (T:qg t es Z) {i:Nat}{z:Nat × Int × Value} (h:Z[i]?=some z):es[i]?=some z.2:=by
 rw [<- Ki,T.ents,JF,h];rfl
theorem jd {α:Type}:∀ {l1 l2:List α},l1.Nodup->(∀ x∈l1,x∈l2)->l1.length<=l2.length
 | [],_,_,_=>Ky _
 | a::r,l2,hn,hs=>by
  obtain ⟨s,t,e⟩:=List.append_of_mem (hs a IR)
  have hn':=Jy.mp hn
  have ih:=jd (l1:=r) (l2:=s++t) hn'.2 (fun x hx=>by
   have hx2:=hs x (IS _ hx)
   rw [e] at hx2
   rcases IV.mp hx2 with q | q
   ·exact IW _ q
   ·rcases IT.mp q with q | q
    ·rw [q] at hx;exact absurd hx hn'.1
    ·exact Js _ q)
  rw [e,JH,Kq,Kq]
  rw [JH] at ih
  omega
theorem v9 (mask:Nat):∀ (n i pe:Nat),i<=mask->∀ j∈wN mask n i pe,j<=mask
 | 0,_,_,_,j,h=>by simp [wN] at h
 | n+1,i,pe,hi,j,h=>by
  rcases IV.mp h with q | q
  ·obtain ⟨k, hk, e⟩ := K1.mp q
   have hk':=IL.mp hk
   have:SetTable.runEnd mask i<=mask:=by unfold SetTable.runEnd;split <;> omega
   have e':i+k=j:=e
   omega
  ·refine v9 mask n _ _ ?_ j q
   show (i * 5+1+pe / 32) % (mask+1)<=mask
   exact Nat.le_of_lt_succ (Nat.mod_lt _ (Nat.succ_pos mask))
theorem jj {mask:Nat}{h:Int}{j:Nat} (e:j∈cG mask h):j<=mask:=by
 refine v9 mask _ _ _ ?_ j e
 exact Nat.le_of_lt_succ (Nat.mod_lt _ (Nat.succ_pos mask))
theorem qP {m:Nat}{l:List Nat} (h:l.length<=m):∃ j,j<=m/\j ∉ l:=by
 refine K2 fun hn=>?_
 have hall:∀ j∈List.range (m+1),j∈l:=fun j hj=>by
  refine K2 fun hj'=>hn ⟨j,?_,hj'⟩
  have:=IL.mp hj;omega
 have:=jd (K3 (n:=m+1)) hall
 rw [KR] at this
 omega
theorem qg.search {t:SetTable}{es:Array (Int × Value)}{Z:List (Nat × Int × Value)} (T:qg t es Z) {h:Int} (cov:∀ j,j<=t.mask->j∈cG t.mask h) (hz:Z.length<=t.mask) (hA:Nat->Int) (hAe:∀ i z,Z[i]?=some z->hA i=z.2.1) :
  (∃ i z nx,Z[i]?=some z/\z.2.1=h/\t.probe hA h (t.probeStart h)=some (.candidate z.1 i nx)) \/
  ((∀ z∈Z,z.2.1≠h)/\∃ j pre post,t.probe hA h (t.probeStart h)=some (.empty j none)/\j<=t.mask/\j ∉ Z.map (·.1)/\cG t.mask h=pre++j::post/\∀ k∈pre,k∈Z.map (·.1)):=by
 obtain ⟨j0,hj0,hn0⟩:=qP (m:=t.mask) (l:=Z.map (·.1)) (by rw [JI];exact hz)
 obtain ⟨pre,j,post,e,hs,hp⟩:=jE (fun j=>j ∉ Z.map (·.1)\/∃ z∈Z,z.1=j/\z.2.1=h) (cG t.mask h) ⟨j0,cov j0 hj0,.inl hn0⟩
 have hw:ic t (pre.length+1+post.length) (t.probeStart h)=pre++j::post:=by
  have q:=oy t (SetTable.turns t.mask) (SetTable.bits h % (t.mask+1)) (SetTable.bits h) none
  have el:(wN t.mask (SetTable.turns t.mask) (SetTable.bits h % (t.mask+1)) (SetTable.bits h)).length=pre.length+1+post.length:=by
   show (cG t.mask h).length=_
   rw [e,JH,Kq];omega
  rw [el] at q
  exact q.trans e
 have hlen:pre.length<10 * SetTable.turns t.mask:=by
  have q:=rV t.mask (SetTable.turns t.mask) (SetTable.bits h % (t.mask+1)) (SetTable.bits h)
  have el:(wN t.mask (SetTable.turns t.mask) (SetTable.bits h % (t.mask+1)) (SetTable.bits h)).length=pre.length+1+post.length:=by
   show (cG t.mask h).length=_
   rw [e,JH,Kq];omega
  omega
 have occ:∀ k∈pre,k∈Z.map (·.1):=fun k hk=>by
  refine K2 fun q=>hp k hk (.inl q)
 have hpre:∀ k∈pre,∃ i,t.slot k=.live i/\hA i≠h:=fun k hk=>by
  obtain ⟨z,hzm,ez⟩:=K1.mp (occ k hk)
  obtain ⟨i,hi⟩:=K4 hzm
  refine ⟨i,ez ▸ T.slot_live hi,fun q=>hp k hk (.inr ⟨z,hzm,ez,?_⟩)⟩
  rw [<- hAe i z hi];exact q
 obtain ⟨g1,g2⟩:=r8 t hA h pre j post (10 * SetTable.turns t.mask) (t.probeStart h) hw hlen rfl hpre
 by_cases hany:∃ z∈Z,z.2.1=h
 ·obtain ⟨z, hzm, ez⟩ := hany
  obtain ⟨pz,qz,ezz,hoz⟩:=T.reach z hzm
  rw [ez] at ezz
  have hjo:j∈Z.map (·.1):=by
   have e2:pre++j::post=pz++z.1::qz:=by rw [<- e,<- ezz]
   rcases List.append_eq_append_iff.mp e2 with ⟨a,h1,h2⟩ | ⟨c,h1,h2⟩
   ·cases a with
    | nil=>
     simp only [Kj] at h2
     rw [(KU h2).1];exact K5 hzm
    | cons x a=>
     rw [KW] at h2
     have:j∈pz:=by rw [h1,(KU h2).1];simp
     exact hoz j this
   ·cases c with
    | nil=>
     simp only [Kj] at h2
     rw [<- (KU h2).1];exact K5 hzm
    | cons x c=>
     rw [KW] at h2
     have:z.1∈pre:=by rw [h1,(KU h2).1];simp
     exact absurd (.inr ⟨z,hzm,rfl,ez⟩) (hp z.1 this)
  rcases hs with q | ⟨z',hz',e1,e2⟩
  ·exact absurd hjo q
  ·obtain ⟨i, hi⟩ := K4 hz'
   obtain ⟨nx,en⟩:=g2 i (e1 ▸ T.slot_live hi) (by rw [hAe i z' hi];exact e2)
   exact .inl ⟨i,z',nx,hi,e2,by rw [e1];exact en⟩
 ·have hno : ∀ z ∈ Z, z.2.1 ≠ h := fun z hz' e' => hany ⟨z, hz', e'⟩
  rcases hs with q | ⟨z',hz',e1,e2⟩
  ·have hjm : j <= t.mask := jj (h := h) (by rw [e]; simp)
   exact .inr ⟨hno,j,pre,post,g1 (T.slot_empty q),hjm,q,e,occ⟩
  ·exact absurd e2 (hno z' hz')
theorem vn {l:List Nat}{j p:Nat} (h:AC l) (h1:∀ x∈l.take p,x<j) (h2:∀ x∈l.drop p,j<x):AC (l.take p++j::l.drop p):=by
 unfold AC at *
 have h':(l.take p++l.drop p).Pairwise (·<·):=by rw [K6];exact h
 rw [List.pairwise_append] at h' ⊢
 refine ⟨h'.1,K7.mpr ⟨fun x hx=>h2 x hx,h'.2.1⟩,fun a ha b hb=>?_⟩
 rcases IT.mp hb with q | q
 ·rw [q];exact h1 a ha
 ·exact h'.2.2 a ha b q
theorem qg.put {t:SetTable}{es:Array (Int × Value)}{Z:List (Nat × Int × Value)} (T:qg t es Z) {j:Nat}{h:Int}{x:Value}{pre post:List Nat} (hj:j<=t.mask) (hn:j ∉ Z.map (·.1)) (e:cG t.mask h=pre++j::post) (hp:∀ k∈pre,k∈Z.map (·.1)) :
  ∃ Z',qg (t.put j).1 (SetTable.insertAt es (t.put j).2 (h,x)) Z'/\Z'.Perm ((j,h,x)::Z)/\(t.put j).1={ t with place:=SetTable.insertAt t.place (SetTable.below t.place j) j }:=by
 have e1:(t.put j).1={ t with place:=SetTable.insertAt t.place (SetTable.below t.place j) j }:=by
  unfold SetTable.put
  simp only [T.dum,qN]
  rw [IE Jj]
 have e2:(t.put j).2=SetTable.below t.place j:=rfl
 have r:AC t.place.toList:=by rw [T.place];exact T.ris
 obtain ⟨b1,b2,b3⟩:=lJ r j
 generalize hb:SetTable.below t.place j=p at *
 refine ⟨Z.take p++(j,h,x)::Z.drop p,⟨?_,?_,?_,fun z hz=>?_,by rw [e1];exact T.dum,fun z hz=>?_⟩,?_,e1⟩
 ·rw [e1]
  show (SetTable.insertAt t.place p j).toList=_
  rw [jM,T.place,K8,J5,K9,La]
 ·rw [e2,jM,T.ents,K8,J5,K9,La]
 ·rw [K8, J5, K9, La]
  have hlen:t.place.size=(Z.map (·.1)).length:=by rw [<- T.place];simp
  refine vn T.ris (fun y hy=>?_) (fun y hy=>?_)
  ·obtain ⟨i, hi⟩ := K4 hy
   rw [List.getElem?_take] at hi
   split at hi
   ·rename_i hlt
    have q:=b2 i hlt
    rw [<- T.place,Ki] at hi
    simp only [Lb,hi,Lc] at q
    exact q
   ·cases hi
  ·obtain ⟨i, hi⟩ := K4 hy
   rw [Ld] at hi
   have hmem:y∈Z.map (·.1):=JG hi
   rw [<- T.place,Ki] at hi
   have hlt:p+i<t.place.size:=(KZ.mp hi).1
   have q:=b3 (p+i) (by omega) hlt
   simp only [Lb,hi,Lc] at q
   have:y≠j:=fun ey=>hn (ey ▸ hmem)
   omega
 ·rw [e1]
  show z.1<=t.mask
  rcases IV.mp hz with q | q
  ·exact T.top z (Le q)
  ·rcases IT.mp q with q | q
   ·rw [q];exact hj
   ·exact T.top z (List.mem_of_mem_drop q)
 ·rw [e1]
  show ∃ pre post,cG t.mask z.2.1=pre++z.1::post/\_
  have sub:∀ k∈Z.map (·.1),k∈(Z.take p++(j,h,x)::Z.drop p).map (·.1):=fun k hk=>by
   rw [<- K6 p Z,K8] at hk
   rw [K8,J5]
   rcases IV.mp hk with q | q
   ·exact IW _ q
   ·exact Js _ (IS _ q)
  have old:∀ z∈Z,∃ pre post,cG t.mask z.2.1=pre++z.1::post/\∀ k∈pre,k∈(Z.take p++(j,h,x)::Z.drop p).map (·.1):=fun z hz=>by
   obtain ⟨a,b,c,d⟩:=T.reach z hz
   exact ⟨a,b,c,fun k hk=>sub k (d k hk)⟩
  rcases IV.mp hz with q | q
  ·exact old z (Le q)
  ·rcases IT.mp q with q | q
   ·rw [q];exact ⟨pre,post,e,fun k hk=>sub k (hp k hk)⟩
   ·exact old z (List.mem_of_mem_drop q)
 ·have q : (Z.take p ++ (j, h, x) :: Z.drop p).Perm ((j, h, x) :: (Z.take p ++ Z.drop p)) := List.perm_middle
  rw [K6] at q
  exact q
theorem qQ (mask:Nat) (owner:Array (Option Nat)):∀ (n i pe:Nat),
  SetTable.layClean.free mask owner n i pe=(wN mask n i pe).find? fun j=>(owner.getD j (some 0)).isNone
 | 0,_,_=>rfl
 | n+1,i,pe=>by
  show (match (List.range (SetTable.runEnd mask i+1 - i)).find? fun k=>(owner.getD (i+k) (some 0)).isNone with | some k=>_ | none=>_)=_
  show _=((List.range (SetTable.runEnd mask i+1 - i)).map (i+·)++wN mask n (SetTable.leap mask i pe).1 (SetTable.leap mask i pe).2).find? _
  rw [List.find?_append,List.find?_map,<- qQ mask owner n]
  have ec:((fun j=>(owner.getD j (some 0)).isNone) ∘ fun x=>i+x)=fun k=>(owner.getD (i+k) (some 0)).isNone:=rfl
  rw [ec]
  cases (List.range (SetTable.runEnd mask i+1 - i)).find? fun k=>(owner.getD (i+k) (some 0)).isNone with
  | some k=>rfl
  | none=>rfl
structure Do (mask:Nat) (hs:List Int) (owner:Array (Option Nat)):Prop where
 size:owner.size=mask+1
 all:∀ (i:Nat) (h:Int),hs[i]?=some h->∃ j:Nat,j<=mask/\owner[j]?=some (some i)/\∃ pre post,cG mask h=pre++j::post/\∀ k∈pre,∃ i':Nat,owner[k]?=some (some i')
 lt:∀ (j i:Nat),owner[j]?=some (some i)->i<hs.length
 inj:∀ (j j' i:Nat),owner[j]?=some (some i)->owner[j']?=some (some i)->j=j'
theorem B0 (mask:Nat):Do mask [] (Array.replicate (mask+1) none):=by
 have hno:∀ (j i:Nat),(Array.replicate (mask+1) (none:Option Nat))[j]?≠some (some i):=fun j i e=>by
  rw [Array.getElem?_replicate] at e
  split at e <;> cases e
 exact ⟨by simp,fun i h e=>by simp at e,fun j i e=>absurd e (hno j i),fun j j' i e=>absurd e (hno j i)⟩
theorem zZ {mask:Nat}{hs:List Int}{owner:Array (Option Nat)} (O:Do mask hs owner) (hl:hs.length<=mask):∃ j,j<=mask/\owner[j]?=some none:=by
 refine K2 fun hn=>?_
 have hall:∀ j,j<=mask->∃ i,owner[j]?=some (some i):=fun j hj=>by
  have hs':j<owner.size:=by rw [O.size];omega
  cases e:owner[j]? with
  | none=>rw [Lf] at e;omega
  | some o=>
   cases o with
   | none=>exact absurd ⟨j,hj,e⟩ hn
   | some i=>exact ⟨i,rfl⟩
 have key:∀ n,n<=mask+1->∃ l:List Nat,l.length=n/\l.Nodup/\(∀ i∈l,i<hs.length)/\∀ i∈l,∃ j,j<n/\owner[j]?=some (some i):=by
  intro n
  induction n with
  | zero=>exact fun _=>⟨[],rfl,Lg,fun _ h=>by simp at h,fun _ h=>by simp at h⟩
  | succ n ih=>
   intro hn'
   obtain ⟨l,h1,h2,h3,h4⟩:=ih (by omega)
   obtain ⟨i,hi⟩:=hall n (by omega)
   refine ⟨i::l,by rw [Kq,h1],Jy.mpr ⟨fun hm=>?_,h2⟩,fun x hx=>?_,fun x hx=>?_⟩
   ·obtain ⟨j, hj, ej⟩ := h4 i hm
    have:=O.inj j n i ej hi
    omega
   ·rcases IT.mp hx with q | q
    ·rw [q];exact O.lt n i hi
    ·exact h3 x q
   ·rcases IT.mp hx with q | q
    ·rw [q];exact ⟨n,by omega,hi⟩
    ·obtain ⟨j, hj, ej⟩ := h4 x q
     exact ⟨j,by omega,ej⟩
 obtain ⟨l,h1,h2,h3,_⟩:=key (mask+1) (Jp _)
 have:=jd h2 (l2:=List.range hs.length) (fun x hx=>IL.mpr (h3 x hx))
 rw [KR,h1] at this
 omega
theorem zY {mask:Nat}{hs:List Int}{owner:Array (Option Nat)}{h:Int} (O:Do mask hs owner) (hl:hs.length<=mask) (cov:∀ j,j<=mask->j∈cG mask h) :
  ∃ j,SetTable.layClean.free mask owner (SetTable.turns mask) (SetTable.bits h % (mask+1)) (SetTable.bits h)=some j/\Do mask (hs++[h]) (owner.setIfInBounds j (some hs.length)):=by
 obtain ⟨j0,hj0,e0⟩:=zZ O hl
 have none_iff:∀ j,((owner.getD j (some 0)).isNone=true)↔owner[j]?=some none:=fun j=>by
  rw [Lb]
  cases owner[j]? with
  | none=>simp
  | some o=>cases o <;> simp
 obtain ⟨pre,j,post,e,hs',hp⟩:=jE (fun j=>owner[j]?=some none) (cG mask h) ⟨j0,cov j0 hj0,e0⟩
 have hjm:j<=mask:=jj (h:=h) (by rw [e];simp)
 have hjs:j<owner.size:=by rw [O.size];omega
 have hocc:∀ k∈pre,∃ i',owner[k]?=some (some i'):=fun k hk=>by
  have hkm:k<=mask:=jj (h:=h) (by rw [e];simp [hk])
  cases q:owner[k]? with
  | none=>
   rw [Lf,O.size] at q
   omega
  | some o=>
   cases o with
   | none=>exact absurd q (hp k hk)
   | some i=>exact ⟨i,rfl⟩
 have hset:∀ k,(owner.setIfInBounds j (some hs.length))[k]?=if j=k then some (some hs.length) else owner[k]?:=fun k=>by
  rw [Array.getElem?_setIfInBounds]
  by_cases q:j=k
  ·rw [ID q,ID q,ID hjs]
  ·rw [IE q,IE q]
 have keep:∀ k i',owner[k]?=some (some i')->(owner.setIfInBounds j (some hs.length))[k]?=some (some i'):=fun k i' q=>by
  rw [hset,IE]
  ·exact q
  ·intro ej;rw [<- ej,hs'] at q;cases q
 refine ⟨j,?_,by simp [O.size],fun i h' ei=>?_,fun k i ei=>?_,fun k k' i e1 e2=>?_⟩
 ·rw [qQ]
  show (cG mask h).find? _=some j
  rw [e,List.find?_append]
  have e1:pre.find? (fun j=>(owner.getD j (some 0)).isNone)=none:=by
   rw [List.find?_eq_none]
   intro k hk q
   exact hp k hk ((none_iff k).mp q)
  simp only [e1,Option.none_or,List.find?_cons,(none_iff j).mpr hs']
 ·by_cases hi : i < hs.length
  ·rw [JE hi] at ei
   obtain ⟨j',a1,a2,pr,po,a3,a4⟩:=O.all i h' ei
   exact ⟨j',a1,keep j' i a2,pr,po,a3,fun k hk=>(a4 k hk).elim fun i' q=>⟨i',keep k i' q⟩⟩
  ·have hi':i=hs.length:=by
    have:=(IX.mp ei).1
    simp at this;omega
   subst hi'
   rw [JD (Jp _),Nat.sub_self] at ei
   have eh:h=h':=by simpa using ei
   subst eh
   exact ⟨j,hjm,by rw [hset,ID rfl],pre,post,e,fun k hk=>(hocc k hk).elim fun i' q=>⟨i',keep k i' q⟩⟩
 ·rw [hset] at ei
  rw [JH,Kh]
  split at ei
  ·cases ei;omega
  ·have:=O.lt k i ei;omega
 ·rw [hset] at e1 e2
  split at e1
  ·rename_i q1
   cases e1
   split at e2
   ·rename_i q2;rw [<- q1,q2]
   ·have:=O.lt k' _ e2;omega
  ·split at e2
   ·cases e2
    have:=O.lt k _ e1;omega
   ·exact O.inj k k' i e1 e2
theorem tP {mask:Nat}:∀ (hs0 hs1:List Int) (owner:Array (Option Nat)),Do mask hs0 owner->hs0.length+hs1.length<=mask+1->(∀ h∈hs1,∀ j,j<=mask->j∈cG mask h) ->
  ∃ owner',hs1.foldl (fun (acc:Option (Array (Option Nat) × Nat)) h=>do
   let (owner,k) <- acc
   let j <- SetTable.layClean.free mask owner (SetTable.turns mask) (SetTable.bits h % (mask+1)) (SetTable.bits h)
   pure (owner.setIfInBounds j (some k),k+1)) (some (owner,hs0.length))=some (owner',(hs0++hs1).length)/\Do mask (hs0++hs1) owner'
 | hs0,[],owner,O,_,_=>⟨owner,by simp,by simpa using O⟩
 | hs0,h::hs1,owner,O,hl,cov=>by
  rw [Kq] at hl
  obtain ⟨j,ej,O'⟩:=zY (h:=h) O (by omega) (cov h IR)
  obtain ⟨ow,e1,e2⟩:=tP (hs0++[h]) hs1 _ O' (by rw [JH,Kh];omega) (fun x hx=>cov x (IS _ hx))
  rw [Ke,List.singleton_append] at e1 e2
  refine ⟨ow,?_,e2⟩
  rw [Kf]
  show List.foldl _ ((SetTable.layClean.free mask owner (SetTable.turns mask) (SetTable.bits h % (mask+1)) (SetTable.bits h)).bind fun j=>some (owner.setIfInBounds j (some hs0.length),hs0.length+1)) hs1=_
  rw [ej]
  show List.foldl _ (some (owner.setIfInBounds j (some hs0.length),hs0.length+1)) hs1=_
  rw [JH,Kh] at e1
  exact e1
theorem tL {α:Type}:∀ l:List α,(List.range l.length).filterMap (fun i=>l[i]?)=l
 | []=>rfl
 | a::l=>by
  rw [Kq,KN,IQ]
  show a::List.filterMap _ _=_
  rw [JT]
  show a::List.filterMap (fun i=>l[i]?) _=_
  rw [tL l]
theorem Cs {mask:Nat}{hs:List Int} (hl:hs.length<=mask+1) (cov:∀ h∈hs,∀ j,j<=mask->j∈cG mask h):∃ owner,SetTable.layClean mask hs.toArray=some owner/\Do mask hs owner:=by
 obtain ⟨ow,e1,e2⟩:=tP [] hs _ (B0 mask) (by rw [KS,Nat.zero_add];exact hl) cov
 refine ⟨ow,?_,by simpa using e2⟩
 unfold SetTable.layClean
 rw [List.foldl_toArray']
 ·show Option.map (·.1) (hs.foldl _ (some (Array.replicate (mask + 1) none, ([] : List Int).length))) = _
  rw [e1];rfl
 ·simp
theorem o9 {t:SetTable}{es:Array (Int × Value)}{wanted mask:Nat} (hm:SetTable.sizeAbove wanted - 1=mask) (hl:es.size<=mask) (cov:∀ e∈es.toList,∀ j,j<=mask->j∈cG mask e.1) :
  ∃ t' order Z',t.relaid (es.map (·.1)) wanted=some (t',order)/\qg t' (order.filterMap (es[·]?)) Z'/\(Z'.map (·.2)).Perm es.toList/\t'.mask=mask/\t'.led=t.led/\t'.plain=t.plain/\order.toList.Perm (List.range es.size):=by
 have ea:es.map (·.1)=(es.toList.map (·.1)).toArray:=by rw [<- Array.toList_map]
 obtain ⟨ow,e1,O⟩:=Cs (mask:=mask) (hs:=es.toList.map (·.1)) (by simp;omega) (fun h hh=>by
  obtain ⟨e,he,q⟩:=K1.mp hh
  rw [<- q];exact cov e he)
 let live:List (Nat × Nat):=(List.range (mask+1)).filterMap fun j=>(ow.getD j none).map (j,·)
 have hlive:∀ j i,(j,i)∈live↔(j<=mask/\ow[j]?=some (some i)):=fun j i=>by
  simp only [live,Jr,IL]
  constructor
  ·rintro ⟨k, hk, q⟩
   rw [Lb] at q
   cases e:ow[k]? with
   | none=>rw [e] at q;cases q
   | some o=>
    rw [e] at q
    cases o with
    | none=>cases q
    | some i'=>
     simp only [Lc,Option.map_some,Option.some.injEq,Prod.mk.injEq] at q
     obtain ⟨q1,q2⟩:=q
     subst q1;subst q2
     exact ⟨by omega,e⟩
  ·rintro ⟨hj, e⟩
   refine ⟨j,by omega,?_⟩
   rw [Lb,e];rfl
 have hfst:(live.map (·.1)).Pairwise (·<·):=by
  have gen:∀ (l:List Nat),l.Pairwise (·<·)->((l.filterMap fun j=>(ow.getD j none).map (j,·)).map (·.1)).Pairwise (·<·)/\∀ x∈((l.filterMap fun j=>(ow.getD j none).map (j,·)).map (·.1)),x∈l:=by
   intro l
   induction l with
   | nil=>intro _;exact ⟨List.Pairwise.nil,fun x hx=>by simp at hx⟩
   | cons a l ih=>
    intro hp
    obtain ⟨h1,h2⟩:=K7.mp hp
    obtain ⟨i1,i2⟩:=ih h2
    rw [IQ]
    cases q:(ow.getD a none).map (a,·) with
    | none=>exact ⟨i1,fun x hx=>IS _ (i2 x hx)⟩
    | some p=>
     have ep:p.1=a:=by
      cases hq:ow.getD a none with
      | none=>rw [hq] at q;cases q
      | some i=>rw [hq] at q;cases q;rfl
     show (p.1::List.map _ _).Pairwise _/\∀ x∈p.1::List.map _ _,x∈a::l
     rw [ep]
     exact ⟨K7.mpr ⟨fun x hx=>h1 x (i2 x hx),i1⟩,fun x hx=>by
      rcases IT.mp hx with z | z
      ·rw [z];exact IR
      ·exact IS _ (i2 x z)⟩
  exact (gen _ Lh).1
 have hnd:live.Nodup:=by
  have:=hfst.imp (fun h=>IJ h)
  exact List.Pairwise.of_map (·.1) (fun a b h e=>h (by rw [e])) this
 have hsz:∀ j i,(j,i)∈live->i<es.size:=fun j i h=>by
  have:=O.lt j i ((hlive j i).mp h).2
  simpa using this
 have hsnd:(live.map (·.2)).Perm (List.range es.size):=by
  refine (Li ?_ K3).mpr fun i=>?_
  ·refine List.Pairwise.map _ (fun a b h => ?_) (List.Pairwise.and_mem.mp hnd)
   obtain ⟨ha,hb,hne⟩:=h
   intro e
   have q1:=((hlive a.1 a.2).mp ha).2
   have q2:=((hlive b.1 b.2).mp hb).2
   rw [<- e] at q2
   exact hne (Prod.ext (O.inj _ _ _ q1 q2) e)
  ·rw [IL, K1]
   constructor
   ·rintro ⟨p,hp,e⟩;rw [<- e];exact hsz p.1 p.2 hp
   ·intro hi
    obtain ⟨j,hj,q,_⟩:=O.all i (es[i].1) (by rw [JF,Ki,Lj hi];rfl)
    exact ⟨(j,i),(hlive j i).mpr ⟨hj,q⟩,rfl⟩
 let Z':List (Nat × Int × Value):=live.filterMap fun p=>(es[p.2]?).map fun e=>(p.1,e)
 have hZ1:Z'.map (·.1)=live.map (·.1):=by
  have gen:∀ l:List (Nat × Nat),(∀ p∈l,p.2<es.size)->(l.filterMap fun p=>(es[p.2]?).map fun e=>(p.1,e)).map (·.1)=l.map (·.1):=by
   intro l
   induction l with
   | nil=>intro _;rfl
   | cons p l ih=>
    intro h
    rw [IQ,Lj (h p IR)]
    show p.1::List.map _ _=p.1::List.map _ _
    rw [ih fun q hq=>h q (IS _ hq)]
  exact gen live fun p hp=>hsz p.1 p.2 hp
 have hZ2:Z'.map (·.2)=(live.map (·.2)).filterMap (es[·]?):=by
  have gen:∀ l:List (Nat × Nat),(l.filterMap fun p=>(es[p.2]?).map fun e=>(p.1,e)).map (·.2)=(l.map (·.2)).filterMap (es[·]?):=by
   intro l
   induction l with
   | nil=>rfl
   | cons p l ih=>
    rw [IQ,J5,IQ]
    cases es[p.2]? with
    | none=>exact ih
    | some e=>show e::List.map _ _=e::_;rw [ih]
  exact gen live
 have hes:(List.range es.size).filterMap (es[·]?)=es.toList:=by
  have q:=tL es.toList
  rw [Jc] at q
  simpa only [Ki] using q
 refine ⟨{ mask,place:=(live.map (·.1)).toArray,dummies:=#[],finger:=t.finger,led:=t.led,moves:=t.movedTo mask,plain:=t.plain },(live.map (·.2)).toArray,Z',?_,⟨?_,?_,?_,fun z hz=>?_,rfl,fun z hz=>?_⟩,?_,rfl,rfl,rfl,hsnd⟩
 ·unfold SetTable.relaid SetTable.laid
  rw [hm,ea,e1]
  rfl
 ·show (live.map (·.1))=_;rw [hZ1]
 ·rw [hZ2];simp
 ·rw [hZ1];exact hfst
 ·have : z.1 ∈ live.map (·.1) := by rw [<- hZ1]; exact K5 hz
  obtain ⟨p,hp,q⟩:=K1.mp this
  rw [<- q];exact ((hlive p.1 p.2).mp hp).1
 ·obtain ⟨p, hp, q⟩ := Jr.mp hz
  rw [Lj (hsz p.1 p.2 hp)] at q
  have ez:z=(p.1,es[p.2]'(hsz p.1 p.2 hp)):=(IF q).symm
  obtain ⟨hj,ho⟩:=(hlive p.1 p.2).mp hp
  obtain ⟨j,a1,a2,pre,post,a3,a4⟩:=O.all p.2 (es[p.2]'(hsz p.1 p.2 hp)).1 (by rw [JF,Ki,Lj (hsz p.1 p.2 hp)];rfl)
  have ejp:j=p.1:=O.inj _ _ _ a2 ho
  refine ⟨pre,post,by rw [ez];rw [ejp] at a3;exact a3,fun k hk=>?_⟩
  obtain ⟨i',hi'⟩:=a4 k hk
  rw [hZ1]
  have hkm:k<=mask:=jj (h:=(es[p.2]'(hsz p.1 p.2 hp)).1) (by rw [a3];simp [hk])
  exact K1.mpr ⟨(k,i'),(hlive k i').mpr ⟨hkm,hi'⟩,rfl⟩
 ·rw [hZ2, <- hes]
  exact hsnd.filterMap _
def prs:List (List Int):=((List.range 36).filter fun n=>n / 6<n % 6).map fun n=>[((n / 6:Nat):Int),((n % 6:Nat):Int)]
def hsh (ks:List Int):Int:=reduceHash (Builtin.Tuple.tupleHashOf (ks.map hashInt))
theorem zc {prog:Program}{w:World} (ks:List Int):tupleKeyHash (intKind prog w) ks=hsh ks:=rfl
def Du (mask:Nat):Bool:=prs.all fun ks=>(List.range (mask+1)).all fun j=>(cG mask (hsh ks)).contains j
theorem HN:Du 7=true:=by decide +kernel
theorem De:Du 31=true:=by decide +kernel
theorem GU:(prs.map hsh).Nodup:=by decide +kernel
theorem wq:prs.length=15:=by decide +kernel
theorem u4 {mask:Nat} (h:Du mask=true) {ks:List Int} (hk:ks∈prs):∀ j,j<=mask->j∈cG mask (hsh ks):=fun j hj=>by
 have a:=Lk.mp h ks hk
 have b:=Lk.mp a j (IL.mpr (by omega))
 simpa using b
theorem Fi {l:List (List Int)} (h:(l.map hsh).Nodup) {a b:List Int} (ha:a∈l) (hb:b∈l) (e:hsh a=hsh b):a=b:=by
 induction l with
 | nil=>simp at ha
 | cons c l ih=>
  rw [J5] at h
  obtain ⟨h1,h2⟩:=Jy.mp h
  rcases IT.mp ha with qa | qa <;> rcases IT.mp hb with qb | qb
  ·rw [qa,qb]
  ·exact absurd (by rw [<- qa,e];exact K5 qb) h1
  ·exact absurd (by rw [<- qb,<- e];exact K5 qa) h1
  ·exact ih h2 qa qb
theorem CA {a b:List Int} (ha:a∈prs) (hb:b∈prs) (e:hsh a=hsh b):a=b:=Fi GU ha hb e
theorem rY {a b:Int} (h1:0<=a) (h2:a<b) (h3:b<6):[a,b]∈prs:=by
 have key:∀ x:Nat,x<6->∀ y:Nat,y<6->x<y->[(x:Int),(y:Int)]∈prs:=by decide +kernel
 have:=key a.toNat (by omega) b.toNat (by omega) (by omega)
 rw [Ll h1,Ll (by omega)] at this
 exact this
end RS
namespace RS
open PySem PyProof.Rows
abbrev KP:=List Int × Addr
structure dP (w:World) (h:Heap) (a:Addr) (qs:List (Int × Value)) (o:Obj) (es:Array (Int × Value)) (ep:Nat) (t:SetTable) (Z:List (Nat × Int × Value)):Prop where
 ho:h.get? a=some o
 ex:o.ExactSet
 hd:o.data=.set es ep t
 tab:qg t es Z
 plain:t.plain=true
 led:t.led=!w.params.followText "set-order"
 big:(t.mask=7/\Z.length<=4)\/(t.mask=31/\Z.length<=18)
 perm:(Z.map (·.2)).Perm qs
def uQ (p:KP):Int × Value:=(hsh p.1,Value.ref p.2)
def bR (w:World) (h:Heap) (a:Addr) (ps:List KP):Prop:=∃ o es ep t Z,dP w h a (ps.map uQ) o es ep t Z/\(∀ p∈ps,p.1∈prs)/\(ps.map (·.1)).Nodup
theorem dP.len {w:World}{h:Heap}{a:Addr}{ps:List (Int × Value)}{o es ep t Z} (S:dP w h a ps o es ep t Z):Z.length=ps.length:=by
 have:=S.perm.length_eq
 simpa using this
theorem kF {ps:List KP} (hk:∀ p∈ps,p.1∈prs) (hn:(ps.map (·.1)).Nodup):ps.length<=15:=by
 have:=jd hn (l2:=prs) (fun x hx=>by obtain ⟨p,hp,e⟩:=K1.mp hx;rw [<- e];exact hk p hp)
 rw [JI,wq] at this
 exact this
theorem dP.fits {w:World}{h:Heap}{a:Addr}{ps:List (Int × Value)}{o es ep t Z} (S:dP w h a ps o es ep t Z):t.fits es.size=true:=by
 unfold SetTable.fits
 rw [S.tab.fill,S.tab.size.1,S.tab.size.2]
 rcases S.big with ⟨h1,h2⟩ | ⟨h1,h2⟩ <;> simp [h1] <;> omega
theorem dP.cov {w:World}{h:Heap}{a:Addr}{ps:List (Int × Value)}{o es ep t Z} (S:dP w h a ps o es ep t Z) {k:List Int} (hk:k∈prs):∀ j,j<=t.mask->j∈cG t.mask (hsh k):=by
 rcases S.big with ⟨h1,h2⟩ | ⟨h1,h2⟩ <;> rw [h1]
 ·exact u4 HN hk
 ·exact u4 De hk
theorem bR.keeps {w:World}{h h':Heap}{a:Addr}{ps:List KP} (S:bR w h a ps) (k:∀ o,h.get? a=some o->h'.get? a=some o):bR w h' a ps:=by
 obtain ⟨o,es,ep,t,Z,S,hk,hn⟩:=S
 exact ⟨o,es,ep,t,Z,⟨k o S.ho,S.ex,S.hd,S.tab,S.plain,S.led,S.big,S.perm⟩,hk,hn⟩
section
variable {prog:Program}{w:World}{A:Around}{E:Value->Shared->Prop}{s:Shared}
abbrev Tk (prog:Program) (w:World) (h:Heap) (k:List Int) (r:Addr):Prop:=IsTupleKey (intKind prog w) h k r
theorem items_int {k:List Int}{vs:List Value} (h:ItemsAre (intKind prog w) k vs):∀ v∈vs,∃ i t,v=.int i t:=by
 induction h with
 | nil=>intro v hv;simp at hv
 | @cons k v' ks vs h1 _ ih=>
  intro v hv
  rcases IT.mp hv with q | q
  ·obtain ⟨t, e⟩ := Iy (k := k) (v := v') h1
   exact ⟨k,t,by rw [q,e]⟩
  ·exact ih v q
theorem tQ {k:List Int}{r:Addr}{Q:Bool->Shared->Prop} (hk:Tk prog w s.heap k r) (h:Q false s):wpAny (model prog w) A (ofAClassStatement 8 (.ref r)) Q E s:=by
 have hT:=hk.typeIs
 obtain ⟨o,items,n,ho,hc,hd,hi⟩:=hk
 unfold ofAClassStatement
 refine Jf (J1 hT ?_)
 dsimp only
 simp only [Kn,JQ]
 refine Jf (Jl ?_)
 simp only [Lm,Ko,JP]
 refine Jf (KE ho hd ?_)
 dsimp only
 refine Jf ?_
 show wpAny _ _ (forIn items _ _) _ _ s
 rw [<- Array.forIn_toList]
 refine Ln _ (fun rest r s'=>r.1=none/\s'=s/\∀ v∈rest,∃ i t,v=.int i t) _ ?_ ?_ _ _ ⟨rfl,rfl,items_int hi⟩
 ·rintro v rest r s' ⟨hr, rfl, hall⟩
  obtain ⟨i,t,e⟩:=hall v IR
  subst e
  unfold ofAClassStatement
  refine Jf (Jl ?_)
  simp only [Ko,JP]
  exact Jl ⟨rfl,rfl,fun u hu'=>hall u (IS _ hu')⟩
 ·rintro ⟨r1, r2⟩ s' ⟨hr, rfl, _⟩
  simp only at hr
  subst hr
  exact Jl h
theorem qd {k:List Int}{r:Addr}{Q:Bool->Shared->Prop} (hk:Tk prog w s.heap k r) (h:Q true s):wpAny (model prog w) A (hashByValue 8 (.ref r)) Q E s:=by
 have hT:=hk.typeIs
 obtain ⟨o,items,n,ho,hc,hd,hi⟩:=hk
 unfold hashByValue
 refine Jf (wpAny_specialOf hT F.slot_tuple_hash.lookup ?_)
 dsimp only
 refine Jf (KE ho hd ?_)
 refine Jf ?_
 show wpAny _ _ (forIn items _ _) _ _ s
 rw [<- Array.forIn_toList]
 refine Ln _ (fun rest r s'=>r.1=none/\s'=s/\∀ v∈rest,∃ i t,v=.int i t) _ ?_ ?_ _ _ ⟨rfl,rfl,items_int hi⟩
 ·rintro v rest r s' ⟨hr, rfl, hall⟩
  obtain ⟨i,t,e⟩:=hall v IR
  subst e
  unfold hashByValue
  refine Jf (Jl ?_)
  simp only [Lm,Ko,JP]
  exact Jl ⟨rfl,rfl,fun u hu'=>hall u (IS _ hu')⟩
 ·rintro ⟨r1, r2⟩ s' ⟨hr, rfl, _⟩
  simp only at hr
  subst hr
  exact Jl h
theorem z9 {k:List Int}{r:Addr}{ys:List Value}{Q:Bool->Shared->Prop} (hk:Tk prog w s.heap k r) (hy:∀ y∈ys,∃ k' r',y=.ref r'/\Tk prog w s.heap k' r') (h:Q false s):wpAny (model prog w) A (searchCouldBeSeen (.ref r) ys) Q E s:=by
 unfold searchCouldBeSeen
 refine Jf ?_
 refine Ln _ (fun rest r' s'=>r'.1=none/\s'=s/\∀ y∈rest,∃ k' r',y=.ref r'/\Tk prog w s.heap k' r') _ ?_ ?_ _ _ ⟨rfl,rfl,hy⟩
 ·rintro v rest q s' ⟨hr, rfl, hall⟩
  obtain ⟨k',r',e,hk'⟩:=hall v IR
  subst e
  have hrest:=fun u hu'=>hall u (IS _ hu')
  dsimp only
  by_cases hv:(r == r' || carriedByValue (Value.ref r) && carriedByValue (Value.ref r'))=true
  ·rw [ID hv]
   exact Jl ⟨rfl,rfl,hrest⟩
  ·rw [IE hv]
   refine Jf (wpAny_eqIsQuiet_tuple hk ?_)
   simp only [Lm,Ko,JP]
   refine Jf (wpAny_eqIsQuiet_tuple hk' ?_)
   simp only [Lm,Ko,JP]
   refine Jf (tQ hk ?_)
   simp only [Ko,JP]
   refine Jf (tQ hk' ?_)
   simp only [Ko,JP]
   exact Jl ⟨rfl,rfl,hrest⟩
 ·rintro ⟨r1, r2⟩ s' ⟨hr, rfl, _⟩
  simp only at hr
  subst hr
  exact Jl h
end
end RS
namespace RS
open PySem PyProof.Rows
section
variable {prog:Program}{w:World}{A:Around}{E:Value->Shared->Prop}{s:Shared}
theorem zh {h:Heap}{a:Addr}{ps:List KP}{o es ep t Z} (S:dP w h a (ps.map uQ) o es ep t Z) {z:Nat × Int × Value} (hz:z∈Z):∃ p∈ps,z.2=(hsh p.1,Value.ref p.2):=by
 have:z.2∈Z.map (·.2):=K5 hz
 obtain ⟨p,hp,e⟩:=K1.mp (S.perm.mem_iff.mp this)
 exact ⟨p,hp,e.symm⟩
theorem Fs {h:Heap}{a:Addr}{ps:List KP}{o es ep t Z} (S:dP w h a (ps.map uQ) o es ep t Z) {p:KP} (hp:p∈ps):∃ z∈Z,z.2=(hsh p.1,Value.ref p.2):=by
 have:uQ p∈ps.map uQ:=K5 hp
 obtain ⟨z,hz,e⟩:=K1.mp (S.perm.mem_iff.mpr this)
 exact ⟨z,hz,e⟩
theorem wZ {a r:Addr}{k:List Int}{ps:List KP}{o es ep t Z}{Q:SetFound->Shared->Prop} (S:dP w s.heap a (ps.map uQ) o es ep t Z) (hks:∀ p∈ps,p.1∈prs) (hk:k∈prs) (hr:Tk prog w s.heap k r) (hps:∀ p∈ps,Tk prog w s.heap p.1 p.2) (hu:A.units<cLine)
  (h1:k∈ps.map (·.1)->Q (.there none) s)
  (h2:k ∉ ps.map (·.1)->∀ j pre post,j<=t.mask->j ∉ Z.map (·.1)->cG t.mask (hsh k)=pre++j::post->(∀ x∈pre,x∈Z.map (·.1))->Q (.free j false) s) :
  wpAny (model prog w) A (setSearch a (.ref r) (hsh k) true) Q E s:=by
 have hodd:t.gaveWay=false:=by
  unfold SetTable.gaveWay
  rcases S.big with ⟨q,_⟩ | ⟨q,_⟩ <;> rw [q] <;> decide
 have hz:Z.length<=t.mask:=by rcases S.big with ⟨q,q2⟩ | ⟨q,q2⟩ <;> omega
 unfold setSearch setSearchFrom
 refine Jf (Lo S.ho S.hd S.fits ?_)
 dsimp only
 rw [hodd]
 simp only [Ko,JP]
 generalize hpr:SetTable.probe t _ (hsh k) (Option.getD none (t.probeStart (hsh k)))=pr
 have key:∀ (hA:Nat->Int) pr,(∀ i z,Z[i]?=some z->hA i=z.2.1)->t.probe hA (hsh k) (t.probeStart (hsh k))=pr ->
   (∃ i z nx,Z[i]?=some z/\z.2.1=hsh k/\pr=some (.candidate z.1 i nx)) \/
   ((∀ z∈Z,z.2.1≠hsh k)/\∃ j pre post,pr=some (.empty j none)/\j<=t.mask/\j ∉ Z.map (·.1)/\cG t.mask (hsh k)=pre++j::post/\∀ x∈pre,x∈Z.map (·.1)):=fun hA pr hAe e=>by
  subst e
  exact S.tab.search (S.cov hk) hz hA hAe
 rcases key _ pr (fun i z hi=>by show (Option.map (·.1) es[i]?).getD 0=_;rw [S.tab.hashAt hi];rfl) hpr with ⟨i,z,nx,hi,ez,e⟩ | ⟨hno,j,pre,post,e,hj,hn,e2,hp⟩
 ·subst e
  dsimp only
  have hzm:z∈Z:=JG hi
  obtain ⟨p,hp,ep'⟩:=zh S hzm
  have ek:p.1=k:=CA (hks p hp) hk (by rw [<- ez,ep'])
  have hin:k∈ps.map (·.1):=by rw [<- ek];exact K5 hp
  have rest:wpAny (model prog w) A (do
    let some (_,y):=es[i]? | unsupported "internal:set-entry"
    let equal <- holding [y] (eqBool y (.ref r))
    let (es',_,t') <- setState a
    if true && equal then return SetFound.there none
    let some same:=t'.sameMemory t.moves t.mask | unsupported "set.changed-during-lookup:is-the-new-block-at-the-old-address"
    let still <- match (if same then t'.slot z.1 else .empty) with
     | .live i'=>match es'[i']? with
      | some (_,y')=>do pure (if <- isSame y' y then some i' else none)
      | none=>pure none
     | _=>pure none
    match still with
    | none=>rule "set.search.anew";setSearchFrom a (.ref r) (hsh k) true 99999 none
    | some i'=>if equal then return .there (some i') else setSearchFrom a (.ref r) (hsh k) true 99999 (some nx)) Q E s:=by
   rw [S.tab.hashAt hi,ep']
   dsimp only
   refine Jf (Jg (wpAny_eqBool_tuple hu (hps p hp) hr ?_))
   refine Jf (Lo S.ho S.hd S.fits ?_)
   dsimp only
   rw [ek,Kk rfl]
   simp only [Lp,JQ]
   exact Jl (h1 hin)
  by_cases hl:(!t.led)=true
  ·rw [ID hl]
   refine Jf (z9 hr (fun y hy=>?_) ?_)
   ·obtain ⟨e', he', q⟩ := K1.mp hy
    have he2:e'∈es.toList:=by
     have:=Array.mem_filter.mp (Lq.mp he')
     exact Lq.mpr this.1
    rw [S.tab.ents] at he2
    obtain ⟨z',hz',q2⟩:=K1.mp he2
    obtain ⟨p',hp',q3⟩:=zh S hz'
    exact ⟨p'.1,p'.2,by rw [<- q,<- q2,q3],hps p' hp'⟩
   ·simp only [Ko, JP]
    exact rest
  ·rw [IE hl]
   exact rest
 ·subst e
  dsimp only
  refine Jl (h2 (fun hin=>?_) j pre post hj hn e2 hp)
  obtain ⟨p,hpm,ek⟩:=K1.mp hin
  obtain ⟨z,hzm,ez⟩:=Fs S hpm
  exact hno z hzm (by rw [ez,<- ek])
end
end RS
namespace RS
open PySem PyProof.Rows
def ia (ps:List KP) (k:List Int) (r:Addr):List KP:=if k∈ps.map (·.1) then ps else ps++[(k,r)]
section
variable {prog:Program}{w:World}{A:Around}{E:Value->Shared->Prop}{s:Shared}
theorem yR {a r:Addr}{k:List Int}{ps:List KP}{Q:Bool->Shared->Prop} (S:bR w s.heap a ps) (hk:k∈prs) (hr:Tk prog w s.heap k r) (hps:∀ p∈ps,Tk prog w s.heap p.1 p.2) (hu:A.units<cLine)
  (h:∀ b h',Heap.SameBut a s.heap h'->bR w h' a (ia ps k r)->Q b { s with heap:=h' }):wpAny (model prog w) A (setAddHashed a (.ref r) (hsh k)) Q E s:=by
 obtain ⟨o,es,ep,t,Z,S,hk0,hn0⟩:=S
 unfold setAddHashed setAddHashedIn
 refine Jg (Jf (Lo S.ho S.hd S.fits ?_))
 dsimp only
 have hsc:byScan (Value.ref r) es=false:=rfl
 rw [hsc]
 simp only [Ko,JP]
 refine Jf (wZ S hk0 hk hr hps hu (fun hin=>?_) fun hin j pre post hj hn e hp=>?_)
 ·dsimp only
  refine Jl ?_
  have q:=h false s.heap (Heap.SameBut.refl a s.heap) (by unfold ia;rw [ID hin];exact ⟨o,es,ep,t,Z,S,hk0,hn0⟩)
  cases s;exact q
 ·dsimp only
  refine Jf (Lo S.ho S.hd S.fits ?_)
  dsimp only
  obtain ⟨Z',T',hperm,et⟩:=S.tab.put (x:=Value.ref r) hj hn e hp
  have e2:(t.put j).2=SetTable.below t.place j:=rfl
  have hpl:(t.put j).1.plain=true:=by rw [et];exact S.plain
  have hled:(t.put j).1.led=t.led:=by rw [et]
  have hmask:(t.put j).1.mask=t.mask:=by rw [et]
  have hperm':(Z'.map (·.2)).Perm ((ps++[(k,r)]).map uQ):=by
   have q1:=hperm.map (·.2)
   refine q1.trans ?_
   rw [J5,K8]
   refine List.Perm.trans (List.Perm.cons _ S.perm) ?_
   exact (List.perm_append_singleton _ _).symm
  have hkeys:∀ p∈ps++[(k,r)],p.1∈prs:=fun p hp'=>by
   rcases IV.mp hp' with q | q
   ·exact hk0 p q
   ·rw [KA] at q;rw [q];exact hk
  have hnd:((ps++[(k,r)]).map (·.1)).Nodup:=by
   rw [K8]
   refine Lr.mpr ⟨hn0,by simp,fun x hx y hy=>?_⟩
   simp at hy
   rw [hy];rintro rfl;exact hin hx
  have hlen15:=kF hkeys hnd
  have hZ':Z'.length=ps.length+1:=by rw [hperm.length_eq,Kq,S.len,JI]
  have hesz:(SetTable.insertAt es (t.put j).2 (hsh k,Value.ref r)).size=Z'.length:=T'.size.2
  have hadd:ia ps k r=ps++[(k,r)]:=by unfold ia;rw [IE hin]
  rw [hadd] at h
  rw [JH,Kh] at hlen15
  generalize ht1:(t.put j).1=t1 at *
  generalize hes1:SetTable.insertAt es (t.put j).2 (hsh k,Value.ref r)=es1 at *
  have hline:es1.size<=sizeLine:=by rw [hesz,hZ'];exact IM hlen15 (by decide)
  rw [hpl]
  simp only [JQ]
  refine Jf (qd hr ?_)
  simp only [JQ]
  refine Jf (Ls S.ho S.hd ?_ hline)
  have hg:(s.heap.update a (Obj.putSet es1 t1)).get? a=some { o with data:=.set es1 (ep+1) t1 }:=by
   have:=J8 (Obj.putSet es1 t1) S.ho (by rw [Lu es1 t1 S.hd];rfl)
   rw [Lu es1 t1 S.hd] at this;exact this
  have hsb1:=KF s.heap a (Obj.putSet es1 t1)
  have hfill:t1.fill=ps.length+1:=by rw [T'.fill,hZ']
  by_cases hfull:t1.tooFull=true
  ·simp only [hfull, Lx, Lp, JQ]
   have hm7:t.mask=7/\ps.length=4:=by
    unfold SetTable.tooFull at hfull
    rw [hfill,hmask] at hfull
    have hf:(ps.length+1) * 5 ≥ t.mask * 3:=by simpa using hfull
    have hl:=S.len
    rw [JI] at hl
    rcases S.big with ⟨q,q2⟩ | ⟨q,q2⟩
    ·rw [q] at hf;exact ⟨q,by omega⟩
    ·rw [q] at hf;omega
   have hes0:es.size=4:=by rw [S.tab.size.2,S.len,JI,hm7.2]
   have hsz1:es1.size=5:=by rw [hesz,hZ',hm7.2]
   have hgr:SetTable.grown (es.size+1)=20:=by rw [hes0];rfl
   rw [hgr]
   unfold setRelay
   have hfits1:t1.fits es1.size=true:=by
    unfold SetTable.fits
    rw [T'.fill,T'.size.1,hesz,hmask,hm7.1,hZ',hm7.2];rfl
   refine Jf (Jf (Lo hg rfl hfits1 ?_))
   dsimp only
   rw [IE (by decide)]
   obtain ⟨t2,order,Z2,er,T2,hp2,hm2,hl2,hpl2,_⟩:=o9 (t:=t1) (es:=es1) (wanted:=20) (mask:=31) (by rfl) (by rw [hsz1];decide) (fun e' he'=>by
    rw [T'.ents] at he'
    obtain ⟨p,hp',q⟩:=K1.mp (hperm'.mem_iff.mp he')
    rw [<- q]
    exact u4 De (hkeys p hp'))
   rw [er]
   have hZ2:Z2.length=5:=by
    have:=hp2.length_eq
    simp at this
    omega
   have hes2:(order.filterMap (es1[·]?)).size=5:=by rw [T2.size.2,hZ2]
   have hne:((order.filterMap (es1[·]?)).size != es1.size)=false:=by rw [hes2,hsz1];rfl
   refine Jf ?_
   show wpAny _ A (if ((order.filterMap (es1[·]?)).size != es1.size)=true then _ else _) _ _ _
   rw [hne]
   simp only [Ko,JP]
   refine Jl ?_
   refine Ls hg rfl ?_ (by rw [hes2];decide)
   have hg2:((s.heap.update a (Obj.putSet es1 t1)).update a (Obj.putSet (order.filterMap (es1[·]?)) t2)).get? a=some { o with data:=.set (order.filterMap (es1[·]?)) (ep+1+1) t2 }:=by
    have:=J8 (Obj.putSet (order.filterMap (es1[·]?)) t2) hg (by rw [Lu _ t2 rfl];rfl)
    rw [Lu _ t2 rfl] at this;exact this
   refine Jl ?_
   refine h true _ (hsb1.trans (KF _ a _)) ⟨_,_,_,t2,Z2,⟨hg2,S.ex,rfl,T2,by rw [hpl2];exact hpl,by rw [hl2,hled];exact S.led,.inr ⟨hm2,by omega⟩,?_⟩,hkeys,hnd⟩
   refine hp2.trans ?_
   rw [T'.ents];exact hperm'
  ·have hf : t1.tooFull = false := by simpa using hfull
   simp only [hf,Bool.and_false,Ko,JP]
   refine Jl ?_
   refine h true _ hsb1 ⟨_,_,_,t1,Z',⟨hg,S.ex,rfl,T',hpl,by rw [hled];exact S.led,?_,hperm'⟩,hkeys,hnd⟩
   unfold SetTable.tooFull at hf
   rw [hfill,hmask] at hf
   have hf':¬ ((ps.length+1) * 5 ≥ t.mask * 3):=by simpa using hf
   rw [hmask,hZ']
   rcases S.big with ⟨q,q2⟩ | ⟨q,q2⟩
   ·rw [q] at hf' ⊢;exact .inl ⟨rfl,by omega⟩
   ·rw [q] at hf' ⊢;exact .inr ⟨rfl,by omega⟩
end
def eX (qs:List KP):List KP:=qs.foldl (fun ps p=>ia ps p.1 p.2) []
theorem uI (qs:List KP) (p:KP):eX (qs++[p])=ia (eX qs) p.1 p.2:=by unfold eX;rw [Ly];rfl
theorem oV {ps:List KP}{k:List Int}{r:Addr}{p:KP} (h:p∈ia ps k r):p∈ps\/p=(k,r):=by
 unfold ia at h
 split at h
 ·exact .inl h
 ·rcases IV.mp h with q | q
  ·exact .inl q
  ·exact .inr (KA.mp q)
theorem nz:∀ {qs ps:List KP}{p:KP},p∈qs.foldl (fun ps p=>ia ps p.1 p.2) ps->p∈ps\/p∈qs
 | [],_,_,h=>.inl h
 | q::qs,ps,p,h=>by
  rw [Kf] at h
  rcases nz h with z | z
  ·rcases oV z with z | z
   ·exact .inl z
   ·exact .inr (by rw [z];exact IR)
  ·exact .inr (IS _ z)
theorem lK {qs:List KP}{p:KP} (h:p∈eX qs):p∈qs:=(nz h).elim (fun z=>by simp at z) id
theorem pq {ps:List KP}{k:List Int}{r:Addr} (h:(ps.map (·.1)).Nodup):((ia ps k r).map (·.1)).Nodup:=by
 unfold ia
 split
 ·exact h
 ·rename_i hn
  rw [K8]
  refine Lr.mpr ⟨h,by simp,fun x hx y hy=>?_⟩
  simp at hy
  rw [hy];rintro rfl;exact hn hx
theorem lg:∀ {qs ps:List KP},(ps.map (·.1)).Nodup->((qs.foldl (fun ps p=>ia ps p.1 p.2) ps).map (·.1)).Nodup
 | [],_,h=>h
 | q::qs,ps,h=>by rw [Kf];exact lg (pq h)
theorem sF {qs:List KP}:((eX qs).map (·.1)).Nodup:=lg (ps:=[]) Lg
def k7 (w:World):Bool:=!w.params.followText "set-order"
theorem kr {w:World}{h:Heap}{a:Addr} (e:h.get? a=some { cls:=.type "set",dict:=none,data:=.set #[] 0 (.fresh 0 0 (k7 w)) }):bR w h a []:=
 ⟨_,_,_,_,[],⟨e,⟨rfl,rfl,rfl⟩,rfl,⟨rfl,rfl,List.Pairwise.nil,fun z hz=>by simp at hz,rfl,fun z hz=>by simp at hz⟩,rfl,rfl,.inl ⟨rfl,by decide⟩,List.Perm.nil⟩,fun p hp=>by simp at hp,Lg⟩
section
variable {prog:Program}{w:World}{A:Around}{R:Result->Shared->Prop}{I:Addr}{fp wr:List Addr}{G:Array GenState->Array GenState->Prop}{P:Nat->Value->Prop}{St:Nat->Shared->Prop}
structure yz (prog:Program) (w:World) (u:Nat) (S:Addr) (vs:List Value) (J:Nat->Heap->Prop):Prop where
 keep:∀ i h h',(∀ b o,b<=S->h.get? b=some o->h'.get? b=some o)->J i h->J i h'
 add:∀ (A:Around) (i:Nat) (v:Value) (s:Shared) (E:Value->Shared->Prop) (Q:Bool->Shared->Prop),A.units<=u->vs[i]?=some v->J i s.heap ->
  (∀ b h' tk,s.toks<=tk->Heap.SameBut S s.heap h'->J (i+1) h'->Q b { s with heap:=h',toks:=tk })->wpAny (model prog w) A (setAdd S v) Q E s
theorem tV {u:Nat}{vs:List Value}{J:Nat->Heap->Prop} (W:WalksS prog w A.in1 I fp wr G vs.length P St) (S:Addr) (hSf:S ∉ fp) (hwr:∀ b∈wr,S<b) (hP:∀ (i:Nat) v,P i v->vs[i]?=some v) (hJ:yz prog w u S vs J) (hu:A.units+1<=u) :
  ∀ (k i:Nat) (s:Shared),vs.length - i=k->i<=vs.length->St i s->J i s.heap ->
   (∀ s',Moved (S::wr) G s s'->J vs.length s'.heap->R (.ok (.ret .none)) s') ->
   codeAny (model prog w) A (.builtin "set.update.loop" ⟨[.ref S,.ref I],[]⟩) R s:=by
 have hSw:S ∉ wr:=fun h=>hSf (W.sub _ h)
 have hsub:∀ b∈wr,b∈S::wr:=fun b hb=>IS _ hb
 have hle:∀ b,b<=S->b ∉ wr:=fun b hb z=>II _ (IH (hwr b z) hb)
 intro k
 induction k with
 | zero=>
  intro i s ek hi hst hS hR
  have hin:i=vs.length:=by omega
  subst hin
  refine Lz F.entry_set_update_loop ?_
  rw [LA LB _]
  show wpAny _ A.in1 (pyNext (.ref I) >>= _) _ _ s
  refine Jf (W.done s _ _ hst fun s' hm=>?_)
  show wpAny _ A.in1 (ret Value.none) _ _ s'
  exact Jl (hR s' (hm.mono hsub) (hJ.keep _ _ _ (fun b o hb e=>hm.heap b o (hle b hb) e) hS))
 | succ k ih=>
  intro i s ek hi hst hS hR
  have hlt:i<vs.length:=by omega
  refine Lz F.entry_set_update_loop ?_
  rw [LA LB _]
  show wpAny _ A.in1 (pyNext (.ref I) >>= _) _ _ s
  refine Jf (W.item i s _ _ hlt hst fun v s' hPv hst' hm=>?_)
  have hv:=hP i v hPv
  have hS':=hJ.keep i _ s'.heap (fun b o hb e=>hm.heap b o (hle b hb) e) hS
  show wpAny _ A.in1 (holding [v] (setAdd S v) >>= _) _ _ s'
  refine Jf (Jg ?_)
  refine hJ.add A.in1 i v s' _ _ (by show A.units+1<=u;exact hu) hv hS' fun b h' tk ht hsb hS2=>?_
  have hkeep:∀ b o,b≠S->s'.heap.get? b=some o->h'.get? b=some o:=fun b o hb e=>(hsb.2 b hb).trans e
  refine Jl ⟨plainId_quiet LB _,ih (i+1) _ (by omega) hlt (W.frame _ s' _ _ hst' ht fun b hb o e=>hkeep b o (fun z=>hSf (by rw [<- z];exact hb)) e) hS2 fun s'' hm'' hS''=>?_⟩
  refine hR s'' (Moved.trans W.gtrans ((hm.mono hsub).then_heap ht fun b o hb e=>?_) hm'') hS''
  exact hkeep b o (fun z=>hb (by rw [z];exact IR)) e
end
section
variable {prog:Program}{w:World}{A:Around}{E:Value->Shared->Prop}{s:Shared}
theorem mr (a:Value) {Q1:Value->Shared->Prop}
  (h:Q1 (.ref s.heap.objs.size) { s with heap:=s.heap.push { cls:=.type "set",dict:=none,data:=.set #[] 0 (.fresh 0 0 (k7 w)) } }) :
  codeAny (model prog w) A (.call (.builtin "set.__new__") ⟨[.type "set",a],[]⟩) (wants Q1 E) s:=by
 refine Kv ?_
 show wpAny _ A.in1 (do checkBuiltinCall "set.__new__" ⟨[.type "set",a],[]⟩;again (.builtin "set.__new__" ⟨[.type "set",a],[]⟩)) _ _ s
 refine Jf (KG (F.newCall_set_1 a) (Jl ⟨plainId_quiet F.plain_set_new _,Lz F.entry_set_new ?_⟩))
 rw [LA F.plain_set_new _]
 unfold Builtin.«set.__new__» Builtin.Frozenset.newClass
 have hsub:=sub_set_self
 obtain ⟨hp,g,d,tk,os⟩:=s
 dsimp only
 wp_walk
 refine Kw (Jl ?_)
 dsimp only
 simp only [newObj]
 refine Jf (wpAny_alloc (Jl ?_))
 exact Jl h
namespace F
theorem sub_list_set:isSubtype (.type "list") (.type "set")=pure false:=by rw [LC];kernel_rfl
theorem sub_list_frozenset:isSubtype (.type "list") (.type "frozenset")=pure false:=by rw [LC];kernel_rfl
end F
theorem me {l:Addr}{items:Array Value}{J:Nat->Heap->Prop}{Q:Value->Shared->Prop}
  (hh:A.handled=none) (hl:s.heap.IsList l items) (hJ:yz prog w (A.units+20) s.heap.objs.size items.toList J)
  (h0:∀ h',(∀ b o,s.heap.get? b=some o->h'.get? b=some o)->h'.get? s.heap.objs.size=some { cls:=.type "set",dict:=none,data:=.set #[] 0 (.fresh 0 0 (k7 w)) }->J 0 h')
  (h:∀ (h':Heap) (tk:Nat),J items.size h'->(∀ b o,b<s.heap.objs.size->s.heap.get? b=some o->h'.get? b=some o)->Q (.ref s.heap.objs.size) { s with heap:=h',toks:=tk }) :
  wpAny (model prog w) A (call (.type "set") [.ref l]) Q E s:=by
 obtain ⟨c,tl,hmro⟩:=LD.mro
 have hmade:=LD.made
 have hsub:=LD.sub
 refine wpAny_call (Kv ?_)
 show wpAny _ _ (callAny (.type "set") _) _ _ _
 refine Jl ⟨LF _ (by decide +kernel),Lz PySem.F.entry_type_call ?_⟩
 rw [Around.under_plain (weight_type_call_type "set" [.ref l] []) rfl]
 have h1:=LD.notType
 have h2:=LD.canCreate
 have hct:=PySem.F.typeCall_set_1 (.ref l)
 repeat (any_goals (first | assumption | wp_step))
 refine Jw (mr (.ref l) (E:=E) (Q1:=fun obj s1=>obj=.ref s.heap.objs.size/\s1={ s with heap:=s.heap.push { cls:=.type "set",dict:=none,data:=.set #[] 0 (.fresh 0 0 (k7 w)) } }) ⟨rfl,rfl⟩) fun r s1 hr=>?_
 cases r with
 | error e=>exact hr
 | ok fl=>
  cases fl with
  | ret obj=>
   obtain ⟨rfl,rfl⟩:=hr
   generalize hled:k7 w=led
   have hS:(s.heap.push { cls:=.type "set",dict:=none,data:=.set #[] 0 (.fresh 0 0 led) }).get? s.heap.objs.size=some { cls:=.type "set",dict:=none,data:=.set #[] 0 (.fresh 0 0 led) }:=Jo _ rfl
   have hTy:Shared.TypeIs { s with heap:=s.heap.push { cls:=.type "set",dict:=none,data:=.set #[] 0 (.fresh 0 0 led) } } (.ref s.heap.objs.size) "set" := ⟨_,hS,rfl⟩
   have hli:=LD.init.lookup
   have hbi:=LD.init.bind (.ref s.heap.objs.size)
   repeat (any_goals (first | assumption | wp_step))
   refine Jw (codeAny_call_builtin (R:=wants (fun r s2=>r=.none/\∃ h' tk,s2={ s with heap:=h',toks:=tk }/\J items.size h' /\
     (∀ b o,b<s.heap.objs.size->s.heap.get? b=some o->h'.get? b=some o)) E) LD.init.plain PySem.F.entry_set_init (check_set_init_1 hTy ?_)) fun r2 s2 hr2=>?_
   ·obtain ⟨ol, hol, hcl, nl, hdl⟩ := hl
    obtain ⟨ocls,odict,odata,oslots⟩:=ol
    simp only at hcl hdl
    subst hcl;subst hdl
    have hol':(s.heap.push { cls:=.type "set",dict:=none,data:=.set #[] 0 (.fresh 0 0 led) }).get? l=some { cls:=.type "list",dict:=odict,data:=.seq items nl,slots:=oslots }:=Jn _ hol
    have hsls:=F.sub_list_set
    have hslf:=F.sub_list_frozenset
    have hne:(Value.type "list" == Value.type "dict")=false:=by decide
    have hl1:(s.heap.push { cls:=.type "set",dict:=none,data:=.set #[] 0 (.fresh 0 0 led) }).IsList l items:=⟨_,hol',rfl,nl,rfl⟩
    unfold Builtin.«set.__init__» noKeywords Builtin.Frozenset.updateFrom
    generalize hPI:pyIter=PI
    wp_walk
    subst hPI
    refine LG hl1 ?_
    refine Jf (LH ?_)
    have hlS:l<s.heap.objs.size:=IG hol
    have hh3:A.in1.in1.in1.handled=none:=by simp [hh]
    have hneI:l≠(s.heap.push { cls:=.type "set",dict:=none,data:=.set #[] 0 (.fresh 0 0 led) }).objs.size:=by
     rw [Kt];exact IJ (Ks hlS)
    have hSf:s.heap.objs.size ∉ [(s.heap.push { cls:=.type "set",dict:=none,data:=.set #[] 0 (.fresh 0 0 led) }).objs.size,l]:=by
     rw [Kt];simp only [IT,KA,KJ,KL,not_or]
     exact ⟨IJ (Kr _),Jk hlS⟩
    have W:=(Walks.list (prog:=prog) (w:=w) hh3 (s.heap.push { cls:=.type "set",dict:=none,data:=.set #[] 0 (.fresh 0 0 led) }).objs.size l hneI items).toS
    rw [show items.size=items.toList.length by rw [Jc]] at W
    refine tV W s.heap.objs.size hSf (fun b hb=>?_) (fun i v hv=>by rw [Ki];exact hv) hJ (by simp only [Around.in1];omega) (items.toList.length - 0) 0 _ (by omega) (Ky _)
     ⟨⟨_,Jo _ rfl,rfl,rfl⟩,?hL⟩ ?hS0 ?hR
    case hL=>
     obtain ⟨o,ho,rest⟩:=hl1
     exact ⟨o,Jn _ ho,rest⟩
    case hS0=>
     refine h0 _ (fun b o e=>Jn _ (Jn _ e)) ?_
     rw [hled]
     exact Jn _ hS
    case hR=>
     intro s' hm hS'
     obtain ⟨h',g',d',tk',os'⟩:=s'
     have eg:g'=s.gens:=hm.gens
     have ed:d'=s.drawn:=hm.drawn
     have eo:os'=s.os:=hm.os
     subst eg;subst ed;subst eo
     show wpAny _ _ _ _ _ _
     refine Jl ?_
     show wpAny _ _ (ret Value.none) _ _ _
     refine Jl ⟨rfl,h',tk',rfl,by rw [Jc] at hS';exact hS',fun b o hb e=>?_⟩
     have hb1:b≠s.heap.objs.size:=IJ hb
     have hb2:b≠(s.heap.push { cls:=.type "set",dict:=none,data:=.set #[] 0 (.fresh 0 0 led) }).objs.size:=by
      rw [Kt];exact IJ (Ks hb)
     exact hm.heap b o (by simp only [IT,KA,KJ,KL,not_or];exact ⟨hb1,hb2⟩) (Jn _ (Jn _ e))
    ·rw [Kt] at hb
     rw [KA.mp hb]
     exact Kr _
   ·cases r2 with
    | error e=>exact hr2
    | ok fl2=>
     cases fl2 with
     | ret r=>
      obtain ⟨rfl,h',tk,rfl,hS',hk'⟩:=hr2
      repeat (any_goals (first | assumption | wp_step))
      exact h _ _ hS' hk'
     | _=>exact hr2.elim
  | _=>exact hr.elim
namespace F
theorem sub_tuple_set:isSubtype (.type "tuple") (.type "set")=pure false:=by rw [LC];kernel_rfl
theorem sub_tuple_frozenset:isSubtype (.type "tuple") (.type "frozenset")=pure false:=by rw [LC];kernel_rfl
end F
theorem la {l:Addr}{items:Array Value}{J:Nat->Heap->Prop}{Q:Value->Shared->Prop}
  (hh:A.handled=none) (hl:s.heap.IsTuple l items) (hJ:yz prog w (A.units+20) s.heap.objs.size items.toList J)
  (h0:∀ h',(∀ b o,s.heap.get? b=some o->h'.get? b=some o)->h'.get? s.heap.objs.size=some { cls:=.type "set",dict:=none,data:=.set #[] 0 (.fresh 0 0 (k7 w)) }->J 0 h')
  (h:∀ (h':Heap) (tk:Nat),J items.size h'->(∀ b o,b<s.heap.objs.size->s.heap.get? b=some o->h'.get? b=some o)->Q (.ref s.heap.objs.size) { s with heap:=h',toks:=tk }) :
  wpAny (model prog w) A (call (.type "set") [.ref l]) Q E s:=by
 obtain ⟨c,tl,hmro⟩:=LD.mro
 have hmade:=LD.made
 have hsub:=LD.sub
 refine wpAny_call (Kv ?_)
 show wpAny _ _ (callAny (.type "set") _) _ _ _
 refine Jl ⟨LF _ (by decide +kernel),Lz PySem.F.entry_type_call ?_⟩
 rw [Around.under_plain (weight_type_call_type "set" [.ref l] []) rfl]
 have h1:=LD.notType
 have h2:=LD.canCreate
 have hct:=PySem.F.typeCall_set_1 (.ref l)
 repeat (any_goals (first | assumption | wp_step))
 refine Jw (mr (.ref l) (E:=E) (Q1:=fun obj s1=>obj=.ref s.heap.objs.size/\s1={ s with heap:=s.heap.push { cls:=.type "set",dict:=none,data:=.set #[] 0 (.fresh 0 0 (k7 w)) } }) ⟨rfl,rfl⟩) fun r s1 hr=>?_
 cases r with
 | error e=>exact hr
 | ok fl=>
  cases fl with
  | ret obj=>
   obtain ⟨rfl,rfl⟩:=hr
   generalize hled:k7 w=led
   have hS:(s.heap.push { cls:=.type "set",dict:=none,data:=.set #[] 0 (.fresh 0 0 led) }).get? s.heap.objs.size=some { cls:=.type "set",dict:=none,data:=.set #[] 0 (.fresh 0 0 led) }:=Jo _ rfl
   have hTy:Shared.TypeIs { s with heap:=s.heap.push { cls:=.type "set",dict:=none,data:=.set #[] 0 (.fresh 0 0 led) } } (.ref s.heap.objs.size) "set" := ⟨_,hS,rfl⟩
   have hli:=LD.init.lookup
   have hbi:=LD.init.bind (.ref s.heap.objs.size)
   repeat (any_goals (first | assumption | wp_step))
   refine Jw (codeAny_call_builtin (R:=wants (fun r s2=>r=.none/\∃ h' tk,s2={ s with heap:=h',toks:=tk }/\J items.size h' /\
     (∀ b o,b<s.heap.objs.size->s.heap.get? b=some o->h'.get? b=some o)) E) LD.init.plain PySem.F.entry_set_init (check_set_init_1 hTy ?_)) fun r2 s2 hr2=>?_
   ·obtain ⟨ol, hol, hcl, nl, hdl⟩ := hl
    obtain ⟨ocls,odict,odata,oslots⟩:=ol
    simp only at hcl hdl
    subst hcl;subst hdl
    have hol':(s.heap.push { cls:=.type "set",dict:=none,data:=.set #[] 0 (.fresh 0 0 led) }).get? l=some { cls:=.type "tuple",dict:=odict,data:=.seq items nl,slots:=oslots }:=Jn _ hol
    have hsls:=F.sub_tuple_set
    have hslf:=F.sub_tuple_frozenset
    have hne:(Value.type "tuple" == Value.type "dict")=false:=by decide
    have hl1:(s.heap.push { cls:=.type "set",dict:=none,data:=.set #[] 0 (.fresh 0 0 led) }).IsTuple l items:=⟨_,hol',rfl,nl,rfl⟩
    unfold Builtin.«set.__init__» noKeywords Builtin.Frozenset.updateFrom
    generalize hPI:pyIter=PI
    wp_walk
    subst hPI
    refine KH hl1 ?_
    refine Jf (LH ?_)
    have hlS:l<s.heap.objs.size:=IG hol
    have hh3:A.in1.in1.in1.handled=none:=by simp [hh]
    have hneI:l≠(s.heap.push { cls:=.type "set",dict:=none,data:=.set #[] 0 (.fresh 0 0 led) }).objs.size:=by
     rw [Kt];exact IJ (Ks hlS)
    have hSf:s.heap.objs.size ∉ [(s.heap.push { cls:=.type "set",dict:=none,data:=.set #[] 0 (.fresh 0 0 led) }).objs.size,l]:=by
     rw [Kt];simp only [IT,KA,KJ,KL,not_or]
     exact ⟨IJ (Kr _),Jk hlS⟩
    have W:=(Walks.tuple (prog:=prog) (w:=w) hh3 (s.heap.push { cls:=.type "set",dict:=none,data:=.set #[] 0 (.fresh 0 0 led) }).objs.size l hneI items).toS
    rw [show items.size=items.toList.length by rw [Jc]] at W
    refine tV W s.heap.objs.size hSf (fun b hb=>?_) (fun i v hv=>by rw [Ki];exact hv) hJ (by simp only [Around.in1];omega) (items.toList.length - 0) 0 _ (by omega) (Ky _)
     ⟨⟨_,Jo _ rfl,rfl,rfl⟩,?hL⟩ ?hS0 ?hR
    case hL=>
     obtain ⟨o,ho,rest⟩:=hl1
     exact ⟨o,Jn _ ho,rest⟩
    case hS0=>
     refine h0 _ (fun b o e=>Jn _ (Jn _ e)) ?_
     rw [hled]
     exact Jn _ hS
    case hR=>
     intro s' hm hS'
     obtain ⟨h',g',d',tk',os'⟩:=s'
     have eg:g'=s.gens:=hm.gens
     have ed:d'=s.drawn:=hm.drawn
     have eo:os'=s.os:=hm.os
     subst eg;subst ed;subst eo
     show wpAny _ _ _ _ _ _
     refine Jl ?_
     show wpAny _ _ (ret Value.none) _ _ _
     refine Jl ⟨rfl,h',tk',rfl,by rw [Jc] at hS';exact hS',fun b o hb e=>?_⟩
     have hb1:b≠s.heap.objs.size:=IJ hb
     have hb2:b≠(s.heap.push { cls:=.type "set",dict:=none,data:=.set #[] 0 (.fresh 0 0 led) }).objs.size:=by
      rw [Kt];exact IJ (Ks hb)
     exact hm.heap b o (by simp only [IT,KA,KJ,KL,not_or];exact ⟨hb1,hb2⟩) (Jn _ (Jn _ e))
    ·rw [Kt] at hb
     rw [KA.mp hb]
     exact Kr _
   ·cases r2 with
    | error e=>exact hr2
    | ok fl2=>
     cases fl2 with
     | ret r=>
      obtain ⟨rfl,h',tk,rfl,hS',hk'⟩:=hr2
      repeat (any_goals (first | assumption | wp_step))
      exact h _ _ hS' hk'
     | _=>exact hr2.elim
  | _=>exact hr.elim
theorem pk {qs:List KP}{S:Addr}{u:Nat} (hk:∀ p∈qs,p.1∈prs) (hS:∀ p∈qs,p.2<S) (hu:u<cLine):yz prog w u S (qs.map fun p=>Value.ref p.2) (fun i h=>bR w h S (eX (qs.take i))/\∀ p∈qs,Tk prog w h p.1 p.2):=by
 have keepT:∀ {h1 h2:Heap}{q:KP},q∈qs->(∀ b o,b<S->h1.get? b=some o->h2.get? b=some o)->Tk prog w h1 q.1 q.2->Tk prog w h2 q.1 q.2:=fun {h1 h2 q} hq kk t=>by
  obtain ⟨o,items,n,ho,r⟩:=t
  exact ⟨o,items,n,kk _ o (hS q hq) ho,r⟩
 refine ⟨fun i h h' hk' ⟨j1,j2⟩=>⟨j1.keeps fun o e=>hk' S o (Jp _) e,fun p hp=>keepT hp (fun b o hb e=>hk' b o (IP hb) e) (j2 p hp)⟩,fun A i v s E Q hA hv ⟨j1,j2⟩ hQ=>?_⟩
 rw [JF] at hv
 cases e:qs[i]? with
 | none=>rw [e] at hv;cases hv
 | some p=>
  rw [e] at hv
  cases hv
  have hpm:p∈qs:=JG e
  unfold setAdd
  refine Jg ?_
  refine Jf (wpAny_pyHash_tuple (by omega) (j2 p hpm) ?_)
  rw [zc]
  refine yR (s:={ s with toks:=s.toks+(p.1.length+1) }) j1 (hk p hpm) (j2 p hpm) (fun q hq=>j2 q (Le (lK hq))) (by omega) fun b h' hsb hS2=>?_
  have etk:qs.take (i+1)=qs.take i++[p]:=by rw [LI,e];rfl
  refine hQ b h' _ (LJ _ _) hsb ⟨by rw [etk,uI];exact hS2,fun q hq=>keepT hq (fun b o hb e=>(hsb.2 b (IJ hb)).trans e) (j2 q hq)⟩
theorem za {qs:List KP} (hT:∀ p∈qs,Tk prog w s.heap p.1 p.2):∀ p∈qs,p.2<s.heap.objs.size:=fun p hp=>by
 obtain ⟨o,_,_,ho,_⟩:=hT p hp
 exact IG ho
theorem uj {l:Addr}{items:Array Value}{qs:List KP}{Q:Value->Shared->Prop}
  (hh:A.handled=none) (hl:s.heap.IsList l items) (hi:items.toList=qs.map fun p=>Value.ref p.2) (hk:∀ p∈qs,p.1∈prs) (hT:∀ p∈qs,Tk prog w s.heap p.1 p.2) (hu:A.units+20<cLine)
  (h:∀ (h':Heap) (tk:Nat),bR w h' s.heap.objs.size (eX qs)->(∀ b o,b<s.heap.objs.size->s.heap.get? b=some o->h'.get? b=some o)->Q (.ref s.heap.objs.size) { s with heap:=h',toks:=tk }) :
  wpAny (model prog w) A (call (.type "set") [.ref l]) Q E s:=by
 have hlen:items.size=qs.length:=by rw [<- Jc,hi,JI]
 refine me hh hl (hi ▸ pk hk (za hT) hu) (fun h' k e=>⟨kr e,fun p hp=>?_⟩) fun h' tk ⟨j1,_⟩=>h h' tk ?_
 ·obtain ⟨o, its, n, ho, rest⟩ := hT p hp
  exact ⟨o,its,n,k _ _ ho,rest⟩
 ·rw [hlen, LK] at j1
  exact j1
theorem sk {l:Addr}{items:Array Value}{qs:List KP}{Q:Value->Shared->Prop}
  (hh:A.handled=none) (hl:s.heap.IsTuple l items) (hi:items.toList=qs.map fun p=>Value.ref p.2) (hk:∀ p∈qs,p.1∈prs) (hT:∀ p∈qs,Tk prog w s.heap p.1 p.2) (hu:A.units+20<cLine)
  (h:∀ (h':Heap) (tk:Nat),bR w h' s.heap.objs.size (eX qs)->(∀ b o,b<s.heap.objs.size->s.heap.get? b=some o->h'.get? b=some o)->Q (.ref s.heap.objs.size) { s with heap:=h',toks:=tk }) :
  wpAny (model prog w) A (call (.type "set") [.ref l]) Q E s:=by
 have hlen:items.size=qs.length:=by rw [<- Jc,hi,JI]
 refine la hh hl (hi ▸ pk hk (za hT) hu) (fun h' k e=>⟨kr e,fun p hp=>?_⟩) fun h' tk ⟨j1,_⟩=>h h' tk ?_
 ·obtain ⟨o, its, n, ho, rest⟩ := hT p hp
  exact ⟨o,its,n,k _ _ ho,rest⟩
 ·rw [hlen, LK] at j1
  exact j1
end
end RS
namespace RS
open PySem PySem.W PyProof.Rows
structure eG (n:Nat) (p:Array Nat):Prop where
 size:p.size=n
 perm:p.toList.Perm (List.range n)
def at' (key:Nat->Int) (p:Array Nat) (k:Nat):Int:=key (p.getD k 0)
def AD (key:Nat->Int) (p:Array Nat) (m:Nat):Prop:=∀ i j,i<j->j<m->at' key p i<at' key p j
def AX (key:Nat->Int) (p:Array Nat) (m:Nat):Prop:=∀ i j,i<j->j<m->at' key p j<at' key p i
section
variable {n:Nat}{key:Nat->Int}{cmp:Nat->Nat->(Bool->Shared->Prop)->Shared->Prop}{s:Shared}{p:Array Nat}
theorem eG.lt (g:eG n p) {k:Nat} (hk:k<n):p.getD k 0<n:=by
 have hs:k<p.size:=by rw [g.size];exact hk
 have:p[k]∈p.toList:=by rw [Lq];exact Array.getElem_mem hs
 have:=g.perm.mem_iff.mp this
 rw [IL] at this
 simpa [Array.getD,hs] using this
theorem eG.inj (g:eG n p) {k k':Nat} (hk:k<n) (hk':k'<n) (e:p.getD k 0=p.getD k' 0):k=k':=by
 have hs:k<p.toList.length:=by rw [Jc,g.size];exact hk
 have hs':k'<p.toList.length:=by rw [Jc,g.size];exact hk'
 have nd:p.toList.Nodup:=g.perm.nodup_iff.mpr K3
 refine (IY (h₀:=hs) (h₁:=hs') nd).mp ?_
 have h1:k<p.size:=by rw [g.size];exact hk
 have h2:k'<p.size:=by rw [g.size];exact hk'
 simpa [Array.getD,h1,h2] using e
variable (hkey:∀ i j,i<n->j<n->key i=key j->i=j) (hc:∀ i j,i<n->j<n->∀ C:Bool->Shared->Prop,C (decide (key i<key j)) s->cmp i j C s)
include hkey in
theorem yO (g:eG n p) {k k':Nat} (hk:k<n) (hk':k'<n) (h:k≠k'):at' key p k≠at' key p k':=fun e=>h (g.inj hk hk' (hkey _ _ (g.lt hk) (g.lt hk') e))
include hkey hc
theorem u6 (g:eG n p):∀ (f m:Nat) (Q:Nat->Shared->Prop),1<=m->m+f<=n->AD key p m->(∀ m',m<=m'->m'<=m+f->AD key p m'->(m'=m+f\/at' key p m'<at' key p (m' - 1))->Q m' s)->(kas_asc p f m).kasWp cmp Q s
 | 0,m,Q,h1,h2,ha,hQ=>hQ m (Jp _) (Jp _) ha (.inl rfl)
 | f+1,m,Q,h1,h2,ha,hQ=>by
  show cmp (p.getD m 0) (p.getD (m - 1) 0) _ s
  refine hc _ _ (g.lt (by omega)) (g.lt (by omega)) _ ?_
  by_cases hlt:key (p.getD m 0)<key (p.getD (m - 1) 0)
  ·rw [Kk hlt]; (show (if true = true then _ else _ : KasT _).kasWp cmp _ s); rw [ID rfl]
   exact hQ m (Jp _) (by omega) ha (.inr hlt)
  ·rw [Iz hlt]; (show (if false = true then _ else _ : KasT _).kasWp cmp _ s); rw [IE Jj]
   have hne:=yO hkey g (k:=m) (k':=m - 1) (by omega) (by omega) (by omega)
   have hgt:at' key p (m - 1)<at' key p m:=by unfold at' at *;omega
   refine u6 g f (m+1) Q (by omega) (by omega) (fun i j hij hj=>?_) (fun m' a b c d=>hQ m' (by omega) (by omega) c (d.elim (fun e=>.inl (by omega)) .inr))
   by_cases ej:j=m
   ·subst ej
    by_cases ei:i=j - 1
    ·rw [ei];exact hgt
    ·have:=ha i (j - 1) (by omega) (by omega);omega
   ·exact ha i j hij (by omega)
theorem wI (g:eG n p):∀ (f m:Nat) (Q:Array Nat × Nat × Nat->Shared->Prop),1<=m->m+f<=n->AX key p m->(∀ m',m<=m'->m'<=m+f->AX key p m'->Q (p,m',0) s)->(kas_desc f p m 0).kasWp cmp Q s
 | 0,m,Q,h1,h2,ha,hQ=>hQ m (Jp _) (Jp _) ha
 | f+1,m,Q,h1,h2,ha,hQ=>by
  show cmp (p.getD m 0) (p.getD (m - 1) 0) _ s
  refine hc _ _ (g.lt (by omega)) (g.lt (by omega)) _ ?_
  by_cases hlt:key (p.getD m 0)<key (p.getD (m - 1) 0)
  ·rw [Kk hlt]; (show (if true = true then _ else _ : KasT _).kasWp cmp _ s); rw [ID rfl, IE (by omega)]
   refine wI g f (m+1) Q (by omega) (by omega) (fun i j hij hj=>?_) (fun m' a b c=>hQ m' (by omega) (by omega) c)
   by_cases ej:j=m
   ·subst ej
    by_cases ei:i=j - 1
    ·rw [ei];exact hlt
    ·have := ha i (j - 1) (by omega) (by omega)
     have:at' key p j<at' key p (j - 1):=hlt
     omega
   ·exact ha i j hij (by omega)
  ·rw [Iz hlt]; (show (if false = true then _ else _ : KasT _).kasWp cmp _ s); rw [IE Jj]
   show cmp (p.getD (m - 1) 0) (p.getD m 0) _ s
   refine hc _ _ (g.lt (by omega)) (g.lt (by omega)) _ ?_
   have hne:=yO hkey g (k:=m) (k':=m - 1) (by omega) (by omega) (by omega)
   have hgt:key (p.getD (m - 1) 0)<key (p.getD m 0):=by unfold at' at hne;omega
   rw [Kk hgt];(show (if true=true then _ else _:KasT _).kasWp cmp _ s);rw [ID rfl]
   exact hQ m (Jp _) (by omega) ha
omit hkey hc in
theorem ox {p p':Array Nat}{k k':Nat} (h:p[k]?=p'[k']?):at' key p k=at' key p' k':=by
 unfold at'
 rw [Lb,Lb,h]
omit hkey hc in
theorem qO {p':Array Nat} (g:eG n p) (h:p'.Perm p) (hs:p'.size=p.size):eG n p':=⟨hs.trans g.size,(Array.perm_iff_toList_perm.mp h).trans g.perm⟩
omit hkey hc in
theorem BC (g:eG n p) {m:Nat} (hm:m<=n) (hd:AX key p m):eG n (kas_rev p 0 m)/\AD key (kas_rev p 0 m) m:=by
 have hs:m<=p.size:=by rw [g.size];exact hm
 refine ⟨qO g (mirror_perm _ _ _ _) (mirror_size _ _ _ _),fun i j hij hj=>?_⟩
 have ei:at' key (kas_rev p 0 m) i=at' key p (0+m - 1 - i):=ox (by unfold kas_rev;rw [getElem?_mirror_all hs,ID ⟨Ky _,by omega⟩])
 have ej:at' key (kas_rev p 0 m) j=at' key p (0+m - 1 - j):=ox (by unfold kas_rev;rw [getElem?_mirror_all hs,ID ⟨Ky _,by omega⟩])
 rw [ei,ej]
 exact hd _ _ (by omega) (by omega)
theorem zk (g:eG n p) {m:Nat} (h1:1<=m) (hm:m<=n) (hd:AX key p m) (Q:Nat × Array Nat->Shared->Prop) (hQ:∀ m' p',eG n p'->1<=m'->m'<=n->AD key p' m'->Q (m',p') s):(kas_tail3 m n p).kasWp cmp Q s:=by
 obtain ⟨g',ha⟩:=BC (key:=key) g hm hd
 unfold kas_tail3
 rw [LL]
 exact u6 hkey hc g' (n - m) m _ h1 (by omega) ha fun m' a b c d=>hQ m' _ g' (by omega) (by omega) c
theorem Ar (g:eG n p) (h2:2<=n) (Q:Nat × Array Nat->Shared->Prop) (hQ:∀ m' p',eG n p'->1<=m'->m'<=n->AD key p' m'->Q (m',p') s):(kas_count n p).kasWp cmp Q s:=by
 unfold kas_count
 rw [LL]
 refine u6 hkey hc g (n - 1) 1 _ (Jp _) (by omega) (fun i j hij hj=>by omega) fun m a b c d=>?_
 by_cases e:m=n
 ·rw [ID (by simpa using e)]
  exact hQ m p g a (by omega) c
 ·rw [IE (by simpa using e)]
  by_cases h1:m > 1
  ·rw [ID h1]
   show cmp (p.getD 0 0) (p.getD (m - 1) 0) _ s
   refine hc _ _ (g.lt (by omega)) (g.lt (by omega)) _ ?_
   have:at' key p 0<at' key p (m - 1):=c 0 (m - 1) (by omega) (by omega)
   rw [Kk (show key (p.getD 0 0)<key (p.getD (m - 1) 0) from this)];(show (if true=true then _ else _:KasT _).kasWp cmp _ s);rw [ID rfl]
   exact hQ m p g a (by omega) c
  ·rw [IE h1]
   have em:m=1:=by omega
   subst em
   unfold kas_descPart
   rw [LL]
   have hlt:at' key p 1<at' key p 0:=d.elim (fun e'=>by omega) id
   refine wI hkey hc g (n - (1+1)) (1+1) _ (by omega) (by omega) (fun i j hij hj=>?_) fun m' a' b' c'=>?_
   ·have ei : i = 0 := by omega
    have ej:j=1:=by omega
    rw [ei,ej];exact hlt
   ·show (if (0 : Nat) > 0 then _ else _ : KasT (Nat × Array Nat)).kasWp cmp Q s
    rw [IE (by omega)]
    exact zk hkey hc g (by omega) (by omega) c' Q hQ
theorem oJ (g:eG n p) {k:Nat} (hk:k<n) (ha:AD key p k):∀ (f l r:Nat) (Q:Nat->Shared->Prop),l<=r->r<=k->r - l<=f->(∀ i,i<l->at' key p i<at' key p k)->(∀ i,r<=i->i<k->at' key p k<at' key p i) ->
  (∀ l',l'<=k->(∀ i,i<l'->at' key p i<at' key p k)->(∀ i,l'<=i->i<k->at' key p k<at' key p i)->Q l' s)->(kas_place p k f l r).kasWp cmp Q s
 | 0,l,r,Q,h1,h2,h3,ha1,hb1,hQ=>by
  have e:l=r:=by omega
  subst e
  exact hQ l h2 ha1 hb1
 | f+1,l,r,Q,h1,h2,h3,ha1,hb1,hQ=>by
  unfold kas_place
  by_cases e:l ≥ r
  ·rw [ID e]
   have e':l=r:=by omega
   subst e'
   exact hQ l h2 ha1 hb1
  ·rw [IE e]
   show cmp (p.getD k 0) (p.getD ((l+r) / 2) 0) _ s
   refine hc _ _ (g.lt hk) (g.lt (by omega)) _ ?_
   by_cases hlt:key (p.getD k 0)<key (p.getD ((l+r) / 2) 0)
   ·rw [Kk hlt]; (show (if true = true then _ else _ : KasT _).kasWp cmp _ s); rw [ID rfl]
    refine oJ g hk ha f l ((l+r) / 2) Q (by omega) (by omega) (by omega) ha1 (fun i hi hik=>?_) hQ
    by_cases ei:i=(l+r) / 2
    ·rw [ei];exact hlt
    ·have := ha ((l + r) / 2) i (by omega) hik
     have:at' key p k<at' key p ((l+r) / 2):=hlt
     omega
   ·rw [Iz hlt]; (show (if false = true then _ else _ : KasT _).kasWp cmp _ s); rw [IE Jj]
    have hne:=yO hkey g (k:=k) (k':=(l+r) / 2) hk (by omega) (by omega)
    have hgt:at' key p ((l+r) / 2)<at' key p k:=by unfold at' at *;omega
    refine oJ g hk ha f ((l+r) / 2+1) r Q (by omega) h2 (by omega) (fun i hi=>?_) hb1 hQ
    by_cases ei:i=(l+r) / 2
    ·rw [ei];exact hgt
    ·have := ha i ((l + r) / 2) (by omega) (by omega)
     omega
theorem zj:∀ (f:Nat) (p:Array Nat) (k:Nat) (Q:Array Nat->Shared->Prop),eG n p->k+f=n->AD key p k->(∀ p',eG n p'->AD key p' n->Q p' s)->(kas_bin f p k).kasWp cmp Q s
 | 0,p,k,Q,g,hk,ha,hQ=>by
  have e:k=n:=by omega
  rw [e] at ha
  exact hQ p g ha
 | f+1,p,k,Q,g,hk,ha,hQ=>by
  unfold kas_bin
  rw [LL]
  refine oJ hkey hc g (by omega) ha k 0 k _ (Ky _) (Jp _) (by omega) (fun i hi=>by omega) (fun i h1 h2=>by omega) fun l hl ha1 hb1=>?_
  have hs:k<p.size:=by rw [g.size];omega
  refine zj f _ (k+1) Q (qO g (bubble_perm _ _ _) (bubble_size _ _ _)) (by omega) (fun i j hij hj=>?_) hQ
  have hb:∀ x,at' key (bubble p k (k - l)) x=if x=l then at' key p k else if l<x/\x<=k then at' key p (x - 1) else at' key p x:=fun x=>by
   have e:=getElem?_bubble hs (k - l) (by omega) x
   have el:k - (k - l)=l:=by omega
   rw [el] at e
   by_cases e1:x=l
   ·rw [ID e1] at e ⊢;exact ox e
   ·rw [IE e1] at e ⊢
    by_cases e2:l<x/\x<=k
    ·rw [ID e2] at e ⊢;exact ox e
    ·rw [IE e2] at e ⊢;exact ox e
  rw [hb i,hb j]
  by_cases i1:i=l
  ·rw [ID i1, IE (by omega), ID ⟨by omega, by omega⟩]
   exact hb1 (j - 1) (by omega) (by omega)
  ·rw [IE i1]
   by_cases i2:l<i/\i<=k
   ·rw [ID i2, IE (by omega), ID ⟨by omega, by omega⟩]
    exact ha (i - 1) (j - 1) (by omega) (by omega)
   ·rw [IE i2]
    have hi:i<l:=by omega
    by_cases j1:j=l
    ·rw [ID j1];exact ha1 i hi
    ·rw [IE j1]
     by_cases j2:l<j/\j<=k
     ·rw [ID j2]
      by_cases ej:i=j - 1
      ·omega
      ·exact ha i (j - 1) (by omega) (by omega)
     ·rw [IE j2];exact ha i j hij (by omega)
theorem Bk (h2:2<=n) (Q:Array Nat->Shared->Prop) (hQ:∀ p',eG n p'->AD key p' n->Q p' s):(kas_sort n).kasWp cmp Q s:=by
 unfold kas_sort
 rw [LL]
 have g0:eG n (List.toArray (List.range n)):=⟨by simp,by simp⟩
 refine Ar hkey hc g0 h2 _ fun m p' g h1 hm ha=>?_
 show (if m<n then _ else _:KasT (Array Nat)).kasWp cmp Q s
 by_cases e:m<n
 ·rw [ID e]
  have em:max m 1=m:=by omega
  rw [em]
  exact zj hkey hc (n - m) p' m Q g (by omega) ha hQ
 ·rw [IE e]
  have em:m=n:=by omega
  rw [em] at ha
  exact hQ p' g ha
end
def nj (k:List Int):Int:=k.getD 0 0 * 6+k.getD 1 0
theorem fw {k:List Int} (h:k∈prs):∃ a b:Int,k=[a,b]/\0<=a/\a<b/\b<6:=by
 have key:∀ k∈prs,0<=k.getD 0 0/\k.getD 0 0<k.getD 1 0/\k.getD 1 0<6/\k=[k.getD 0 0,k.getD 1 0]:=by decide +kernel
 obtain ⟨h1,h2,h3,h4⟩:=key k h
 exact ⟨_,_,h4,h1,h2,h3⟩
theorem CM {k k':List Int} (h:k∈prs) (h':k'∈prs) (e:nj k=nj k'):k=k':=by
 obtain ⟨a,b,rfl,h1,h2,h3⟩:=fw h
 obtain ⟨c,d,rfl,h4,h5,h6⟩:=fw h'
 have e':a * 6+b=c * 6+d:=e
 have:a=c:=by omega
 have:b=d:=by omega
 subst_vars;rfl
section
variable {prog:Program}{w:World}{A:Around}{E:Value->Shared->Prop}{s:Shared}
theorem uT {h:Heap}{a b:Int}{r:Addr} (t:Tk prog w h [a,b] r):∃ o n t1 t2,h.get? r=some o/\o.cls=.type "tuple" /\ o.data=.seq #[.int a t1,.int b t2] n:=by
 obtain ⟨o,items,n,ho,hc,hd,hi⟩:=t
 cases hi':items.toList with
 | nil=>rw [hi'] at hi;cases hi
 | cons v1 r1=>
  rw [hi'] at hi
  cases hi with
  | cons h1 t1=>
   cases t1 with
   | cons h2 t2=>
    cases t2
    obtain ⟨x1,e1⟩:=Iy (k:=a) h1
    obtain ⟨x2,e2⟩:=Iy (k:=b) h2
    have e:items=#[.int a x1,.int b x2]:=by
     apply Array.toList_inj.mp;rw [hi',e1,e2]
    exact ⟨o,n,x1,x2,ho,hc,by rw [hd,e]⟩
theorem BZ {x y:Addr}{k k':List Int}{Q:Bool->Shared->Prop} (hx:Tk prog w s.heap k x) (hy:Tk prog w s.heap k' y) (hk:k∈prs) (hk':k'∈prs) (h:Q (decide (nj k<nj k')) s) :
  wpAny (model prog w) A (keyLt' (tuples' true) (.ref x) (.ref y)) Q E s:=by
 obtain ⟨a,b,rfl,h1,h2,h3⟩:=fw hk
 obtain ⟨c,d,rfl,h4,h5,h6⟩:=fw hk'
 obtain ⟨o,n,t1,t2,ho,_,hd⟩:=uT hx
 obtain ⟨o',n',t1',t2',ho',_,hd'⟩:=uT hy
 have h':Q (decide (a * 6+b<c * 6+d)) s:=h
 refine kat_lt ho hd ho' hd' ?_
 show KatLex prog w A true (decide (2<2)) Q [(.int a t1,.int c t1'),(.int b t2,.int d t2')] 0 s
 refine kat_cons (IC ?_)
 by_cases e1:a=c
 ·rw [show (a == c) = true by simpa using e1]
  refine kat_yes (kat_cons (IC ?_))
  by_cases e2:b=d
  ·rw [show (b == d) = true by simpa using e2]
   refine kat_yes (kat_nil ?_)
   have:decide (a * 6+b<c * 6+d)=decide (2<2):=by rw [LM];omega
   rw [<- this];exact h'
  ·rw [show (b == d) = false by simpa using e2]
   refine kat_no ?_
   show wpAny _ A (oneLt' false _ _) Q _ s
   refine kat_one _ _ (lt_int ?_)
   have:decide (a * 6+b<c * 6+d)=decide (b<d):=by rw [LM];omega
   show Q _ s
   rw [<- this];exact h'
 ·rw [show (a == c) = false by simpa using e1]
  refine kat_no ?_
  show wpAny _ A (keyLt' oneType' _ _) Q _ s
  refine kat_lt_int ?_
  have:decide (a * 6+b<c * 6+d)=decide (a<c):=by rw [LM];omega
  rw [<- this];exact h'
end
def ik (ps:List KP):Prop:=ps.Pairwise fun p q=>nj p.1<nj q.1
def aS (ps:List KP):List Value:=ps.map fun p=>Value.ref p.2
section
variable {prog:Program}{w:World}{A:Around}{E:Value->Shared->Prop}{s:Shared}
theorem v8 {h:Heap}:∀ {ps:List KP},(∀ p∈ps,p.1∈prs)->(∀ p∈ps,Tk prog w h p.1 p.2)->∃ fs,KatTups h (aS ps) fs/\fs.length=ps.length/\∀ v∈fs,∃ i t,v=Value.int i t
 | [],_,_=>⟨[],KatTups.nil,rfl,fun v hv=>by simp at hv⟩
 | p::ps,hk,ht=>by
  obtain ⟨fs,h1,h2,h3⟩:=v8 (ps:=ps) (fun q hq=>hk q (IS _ hq)) (fun q hq=>ht q (IS _ hq))
  obtain ⟨a,b,e,_⟩:=fw (hk p IR)
  have t:=ht p IR
  rw [e] at t
  obtain ⟨o,n,t1,t2,ho,hc,hd⟩:=uT t
  refine ⟨.int a t1::fs,KatTups.cons ho hc hd rfl h1,by rw [Kq,Kq,h2],fun v hv=>?_⟩
  rcases IT.mp hv with q | q
  ·exact ⟨a,t1,q⟩
  ·exact h3 v q
theorem EF {ps:List KP} (hk:∀ p∈ps,p.1∈prs) (hn:(ps.map (·.1)).Nodup) {p:Array Nat} (g:eG ps.length p) (ha:AD (fun i=>nj (ps.getD i ([],0)).1) p ps.length) :
  ∃ out:List KP,(p.toList.map fun i=>(aS ps).getD i Value.none)=aS out/\out.Perm ps/\ik out:=by
 refine ⟨p.toList.map fun i=>ps.getD i ([],0),?_,?_,?_⟩
 ·unfold aS
  rw [KO]
  refine KQ fun i hi=>?_
  have hi':i<ps.length:=IL.mp (g.perm.mem_iff.mp hi)
  simp [LN,hi']
 ·refine (g.perm.map _).trans ?_
  have:(List.range ps.length).map (fun i=>ps.getD i ([],0))=ps:=by
   apply LO
   intro i
   rw [JF]
   by_cases hi:i<ps.length
   ·rw [LP hi];simp [hi]
   ·rw [LQ (by simpa using hi),LQ (by omega)];rfl
  rw [this]
 ·unfold ik
  rw [LR]
  refine KY.mpr fun i j hi hj hij=>?_
  have hi':i<p.size:=by simpa using hi
  have hj':j<p.size:=by simpa using hj
  have:=ha i j hij (by rw [<- g.size];exact hj')
  unfold at' at this
  simpa [Array.getD,hi',hj'] using this
theorem vf {a:Addr}{ps:List KP}{n:Nat}{P:PySem.Fin->Shared->Prop} (ho:s.heap.get? a=some (seqObj "list" (aS ps).toArray n)) (hk:∀ p∈ps,p.1∈prs) (hn:(ps.map (·.1)).Nodup) (hT:∀ p∈ps,Tk prog w s.heap p.1 p.2)
  (h:∀ out:List KP,out.Perm ps->ik out->P (.done (.ret .none)) { s with heap:=sortedHeap s.heap a (aS ps) (aS out).toArray }) :
  wpAny (model prog w) A (Builtin.«list.sort» ⟨[.ref a],[]⟩) P E s:=by
 have hlen:=kF hk hn
 have hvl:(aS ps).length=ps.length:=by unfold aS;rw [JI]
 rw [list_sort_plain]
 have hal:a<s.heap.objs.size:=IG ho
 refine Jf (listItems_at ho rfl ?_)
 refine Jf (LS ho rfl ?_ (by rw [Ju,hvl];exact IM hlen (by decide)) (Ky _))
 obtain ⟨e1,ho1⟩:∃ e1,(s.heap.update a (Obj.mapSeq fun _=>#[])).get? a=some (seqObj "list" #[] e1):=⟨_,LU ho (fun _=>#[])⟩
 refine Jf (seqEpoch_at ho1 rfl ?_)
 refine Jf (wpAny_newTuple ?_)
 refine Jf (LV ?_)
 refine Jg ?_
 have ho6:(((s.heap.update a (Obj.mapSeq fun _=>#[])).push (seqObj "tuple" (aS ps).toArray 0)).push (seqObj "list" #[] 0)).get? a=some (seqObj "list" #[] e1):=by
  rw [KM _ _ _ (by rw [LW,LX];exact IJ (Ks hal)),KM _ _ _ (by rw [LX];exact IJ hal)]
  exact ho1
 show wpAny (model prog w) A _ P E { s with heap:=((s.heap.update a (Obj.mapSeq fun _=>#[])).push (seqObj "tuple" (aS ps).toArray 0)).push (seqObj "list" #[] 0) }
 dsimp only
 have hna:∀ p∈ps,p.2≠a:=fun p hp e=>by
  obtain ⟨o,items,m,ho',hc',_⟩:=hT p hp
  rw [e,ho] at ho'
  have:=IF ho'
  subst this
  exact absurd (show Value.type "list" = Value.type "tuple" from hc') (by decide)
 generalize hS:({ s with heap:=((s.heap.update a (Obj.mapSeq fun _=>#[])).push (seqObj "tuple" (aS ps).toArray 0)).push (seqObj "list" #[] 0) }:Shared)=s1
 have eh1:s1.heap=((s.heap.update a (Obj.mapSeq fun _=>#[])).push (seqObj "tuple" (aS ps).toArray 0)).push (seqObj "list" #[] 0):=by rw [<- hS]
 have hT1:∀ p∈ps,Tk prog w s1.heap p.1 p.2:=fun p hp=>by
  obtain ⟨o,items,m,ho',rest⟩:=hT p hp
  refine ⟨o,items,m,?_,rest⟩
  rw [eh1]
  refine Jn _ (Jn _ ?_)
  rw [LY _ _ _ _ (hna p hp)]
  exact ho'
 rw [<- eh1] at ho6
 have hfin:∀ out:List KP,out.Perm ps->ik out->P (.done (.ret .none)) { s1 with heap:=s1.heap.update a (Obj.mapSeq fun _=>(aS out).toArray) }:=fun out h1 h2=>by
  have q:=h out h1 h2
  rw [<- hS]
  exact q
 have hszv:(aS ps).toArray.size=ps.length:=by rw [Ju,hvl]
 by_cases h2:(aS ps).toArray.size<2
 ·rw [ID h2, ID h2]
  refine Jf (Jl ?_)
  rw [StateT.run_pure]
  refine Jf (Jl ?_)
  dsimp only
  refine Jf (seqEpoch_at ho6 rfl ?_)
  have eo:(arrOf (SortSt.mk' general' ((aS ps).toArray.zip (aS ps).toArray) #[] 7 none)).map (·.2)=(aS ps).toArray:=by
   show (((aS ps).toArray.zip (aS ps).toArray)).map (·.2)=_
   apply Array.toList_inj.mp
   rw [Array.toList_map,Array.toList_zip]
   exact List.map_snd_zip (Jp _)
  rw [eo]
  refine Jf (LS ho6 rfl ?_ (Ky _) (by show (aS ps).toArray.size<=_;rw [hszv];exact IM hlen (by decide)))
  simp only [LZ,Ko,JP]
  refine Jl (hfin ps (List.Perm.refl _) ?_)
  rw [hszv] at h2
  match ps,h2 with
  | [],_=>exact List.Pairwise.nil
  | [_],_=>exact List.pairwise_singleton _ _
  | _::_::_,h=>rw [Kq,Kq] at h;omega
 ·rw [IE h2, IE h2]
  rw [hszv] at h2
  obtain ⟨fs,k1,k2,k3⟩:=v8 hk hT1
  refine Jf (kat_kind (T:=Value.type "int") k1 (by omega) (fun v hv=>?_) (by rfl) ?_)
  ·obtain ⟨i, t, e⟩ := k3 v hv
   rw [e];exact .now
  ·have et : (Value.type "int" != Value.type "tuple") = true := by decide
   rw [et]
   refine Jf (Ja (kat_run (ks:=aS ps) (vs:=aS ps) (Q:=fun st' s'=>s'=s1/\failedOf st'=none/\∃ out:List KP,out.Perm ps/\ik out/\(arrOf st').map (·.2)=(aS out).toArray)
    (G:=fun p s'=>s'=s1/\∃ out:List KP,(p.toList.map fun i=>(aS ps).getD i Value.none)=aS out/\out.Perm ps/\ik out) rfl (by rw [hvl];omega) (by rw [hvl];omega) ?_ ?_) ?_ fun _ _ e=>e)
   ·rintro p st' s' hp har hf ⟨e, out, o1, o2, o3⟩
    exact ⟨e,hf,out,o2,o3,by rw [kat_snds rfl har,o1]⟩
   ·rw [hvl]
    refine Bk (key:=fun i=>nj (ps.getD i ([],0)).1) (fun i j hi hj e=>?_) (fun i j hi hj C hC=>?_) (by omega) _ (fun p g ha=>⟨rfl,EF hk hn g ha⟩)
    ·have hi' : ps.getD i ([], 0) = ps[i] := by simp [LN, hi]
     have hj':ps.getD j ([],0)=ps[j]:=by simp [LN,hj]
     simp only [hi',hj'] at e
     have e2:=CM (hk _ (L0 hi)) (hk _ (L0 hj)) e
     have hil:i<(ps.map (·.1)).length:=by rw [JI];exact hi
     have hjl:j<(ps.map (·.1)).length:=by rw [JI];exact hj
     exact (IY (h₀:=hil) (h₁:=hjl) hn).mp (by simpa using e2)
    ·unfold kas_ask
     have gi:(aS ps).getD i Value.none=.ref ps[i].2:=by unfold aS;simp [LN,hi]
     have gj:(aS ps).getD j Value.none=.ref ps[j].2:=by unfold aS;simp [LN,hj]
     have hi':ps.getD i ([],0)=ps[i]:=by simp [LN,hi]
     have hj':ps.getD j ([],0)=ps[j]:=by simp [LN,hj]
     rw [gi,gj]
     simp only [hi',hj'] at hC
     exact BZ (hT1 _ (L0 hi)) (hT1 _ (L0 hj)) (hk _ (L0 hi)) (hk _ (L0 hj)) hC
   ·rintro ⟨⟨⟩, st'⟩ s' ⟨rfl, hf, out, o1, o2, o3⟩
    dsimp only
    refine Jf (seqEpoch_at ho6 rfl ?_)
    rw [o3]
    refine Jf (LS ho6 rfl ?_ (Ky _) (by show (aS out).toArray.size<=_;rw [Ju];unfold aS;rw [JI,o1.length_eq];exact IM hlen (by decide)))
    rw [hf]
    simp only [LZ,Ko,JP]
    exact Jl (hfin out o1 o2)
end
end RS
namespace RS
open PySem PySem.W PyProof.Rows
namespace Fx
theorem slot_setiter_next:Slot "set_iterator" "__next__" "set_iterator.__next__" :=
 .of (owner:="set_iterator") (n:="__next__") (by rw [typeLookup_type,builtinLookup_eq_fast];kernel_rfl) (by decide +kernel) (by decide +kernel) (by decide +kernel)
  (by first | exact .inl (by decide +kernel) | exact .inr (by decide +kernel)) (by rw [LC];kernel_rfl)
theorem entry_setiter_next:entryFor table "set_iterator.__next__" = some Builtin.«set_iterator.__next__»:=entryFor_of_fast (by kernel_rfl)
theorem args_setiter_next (a:Value):argsOk "set_iterator.__next__" ⟨[a],[]⟩:=by unfold argsOk;kernel_rfl
theorem entry_set_iter:entryFor table "set.__iter__" = some Builtin.«frozenset.__iter__»:=
 entryFor_alias (id':="frozenset.__iter__") (by kernel_rfl) rfl (by decide +kernel) (by kernel_rfl)
end Fx
def dF (h:Heap) (I S:Addr) (i n ep slot:Nat):Prop:=h.get? I=some { cls:=.type "set_iterator",dict:=none,data:=.fields #[.int (slot:Int) 0,.int (i:Int) 0,.ref S,.int (n:Int) 0,.int (ep:Int) 0],slots:=#[] }
def dJ (w:World) (S:Addr) (ep:Nat) (es:Array (Int × Value)):List (Int × Value):=if w.params.followText "set-order" then (pickOrder (w.params.setOrder S ep) es).toList else es.toList
def dn (w:World) (Z:List (Nat × Int × Value)) (i:Nat):Nat:=if w.params.followText "set-order" then 0 else if i=0 then 0 else (Z.getD (i - 1) (0,0,.none)).1+1
theorem qD {α:Type} (next:Nat->Nat):∀ (fuel k:Nat) (left:List α) (out:Array α),left.length=fuel->(pickOrder.go next fuel k left out).toList.Perm (out.toList++left)
 | 0,k,left,out,h=>by
  have:left=[]:=List.length_eq_zero_iff.mp h
  subst this
  show out.toList.Perm (out.toList++[])
  rw [Jv]
 | fuel+1,k,left,out,h=>by
  have hlt:next k % left.length<left.length:=Nat.mod_lt _ (by omega)
  show (match left[next k % left.length]? with | some x=>_ | none=>_:Array α).toList.Perm _
  rw [L1 hlt]
  show (pickOrder.go next fuel (k+1) (left.eraseIdx (next k % left.length)) (out.push left[next k % left.length])).toList.Perm _
  refine (qD next fuel (k+1) _ _ (by rw [List.length_eraseIdx_of_lt hlt];omega)).trans ?_
  rw [Array.toList_push,Ke]
  refine List.Perm.append_left _ ?_
  rw [List.singleton_append,List.eraseIdx_eq_take_drop_succ]
  have q:(left.take (next k % left.length)++left[next k % left.length]::left.drop (next k % left.length+1))=left:=by
   rw [List.getElem_cons_drop];exact K6 _ _
  have q2:=(List.perm_middle (a:=left[next k % left.length]) (l₁:=left.take (next k % left.length)) (l₂:=left.drop (next k % left.length+1))).symm
  rw [q] at q2
  exact q2
theorem kh {w:World}{S:Addr}{ep:Nat}{es:Array (Int × Value)}:(dJ w S ep es).Perm es.toList:=by
 unfold dJ
 split
 ·have := qD (w.params.setOrder S ep) es.size 0 es.toList #[] (by simp)
  simpa [pickOrder] using this
 ·exact List.Perm.refl _
theorem Aw {t:SetTable}{es:Array (Int × Value)}{Z:List (Nat × Int × Value)} (T:qg t es Z) {w:World} (hb:w.params.followText "set-order" = false) {i:Nat} (hi:i<=Z.length):SetTable.below t.place (dn w Z i)=i:=by
 have r:AC t.place.toList:=by rw [T.place];exact T.ris
 obtain ⟨b1,b2,b3⟩:=lJ r (dn w Z i)
 have hsz:=T.size.1
 have gz:∀ k,k<Z.length->t.place.getD k (dn w Z i)=(Z.getD k (0,0,.none)).1:=fun k hk=>by
  have e:t.place[k]?=some (Z[k]).1:=by rw [<- Ki,T.place,JF,L1 hk];rfl
  rw [Lb,e,LN,L1 hk];rfl
 have hris:∀ a b,a<b->b<Z.length->(Z.getD a (0,0,.none)).1<(Z.getD b (0,0,.none)).1:=fun a b hab hbz=>by
  rw [<- gz a (by omega),<- gz b hbz]
  exact rX r _ a b hab (by omega)
 have hs:dn w Z i=if i=0 then 0 else (Z.getD (i - 1) (0,0,.none)).1+1:=by
  unfold dn;rw [hb,IE Jj]
 by_cases h0:i=0
 ·rw [ID h0] at hs
  rw [hs] at b2 ⊢
  by_cases hz:SetTable.below t.place 0=0
  ·rw [hz,h0]
  ·have:=b2 0 (by omega);omega
 ·rw [IE h0] at hs
  have hlo:¬ SetTable.below t.place (dn w Z i)<=i - 1:=fun hle=>by
   have:=b3 (i - 1) hle (by omega)
   rw [gz _ (by omega)] at this
   omega
  have hhi:¬ i<SetTable.below t.place (dn w Z i):=fun hlt=>by
   have:=b2 i hlt
   have hiz:i<Z.length:=by omega
   rw [gz i hiz] at this
   have:=hris (i - 1) i (by omega) hiz
   omega
  omega
section
variable {prog:Program}{w:World}{A:Around}{E:Value->Shared->Prop}{s:Shared}
theorem tF {a:Addr}{ps:List (Int × Value)}{o es ep t Z}{i:Nat}{Q:Option (Value × Nat)->Shared->Prop} (S:dP w s.heap a ps o es ep t Z) (hi:i<=Z.length)
  (h:Q (((dJ w a ep es)[i]?).map fun e=>(e.2,dn w Z (i+1))) s):wpAny (model prog w) A (setNext a (dn w Z i) i ep) Q E s:=by
 unfold setNext
 refine Jf (Lo S.ho S.hd S.fits ?_)
 dsimp only
 unfold setsByText
 refine Jf (Jf (Kw (Jl ?_)))
 cases hb:w.params.followText "set-order" with
 | true=>
  have e1:dJ w a ep es=(pickOrder (w.params.setOrder a ep) es).toList:=by unfold dJ;rw [hb,ID rfl]
  have e2:∀ j,dn w Z j=0:=fun j=>by unfold dn;rw [hb,ID rfl]
  rw [e1,e2] at h
  show wpAny _ _ (if (w.params.followText "set-order")=true then _ else _) _ _ _
  rw [hb,ID rfl]
  rw [IE (by simp)]
  refine Jf ?_
  unfold setWalk
  refine Jf (Lo S.ho S.hd S.fits ?_)
  dsimp only
  unfold setsByText
  refine Jf (Jf (Kw (Jl ?_)))
  show wpAny _ _ (if (w.params.followText "set-order")=true then _ else _) _ _ _
  rw [hb,ID rfl]
  refine Jf (Kw (Jl (Jl ?_)))
  rw [e2,<- Ki]
  exact h
 | false=>
  have e1:dJ w a ep es=es.toList:=by unfold dJ;rw [hb,IE Jj]
  have hled:t.led=true:=by rw [S.led,hb];rfl
  show wpAny _ _ (if (w.params.followText "set-order")=true then _ else _) _ _ _
  rw [hb,IE Jj]
  have hdr:(!t.plain && decide (es.size > 1))=false:=by rw [S.plain];rfl
  show wpAny _ _ (if (!t.plain && decide (es.size > 1))=true then _ else _) _ _ _
  rw [hdr,IE Jj]
  refine Jf ?_
  show wpAny _ _ (if (!t.led && !es.isEmpty)=true then _ else _) _ _ _
  rw [hled]
  simp only [Lm,Bool.false_and,Ko,JP]
  refine Jl (Jl ?_)
  rw [Aw S.tab hb hi]
  rw [e1,Ki] at h
  by_cases hlt:i<Z.length
  ·have ez : Z[i]? = some Z[i] := L1 hlt
   have ee:=S.tab.hashAt ez
   have ep':t.place[i]?=some (Z[i]).1:=by rw [<- Ki,S.tab.place,JF,ez];rfl
   rw [ee,ep']
   rw [ee] at h
   have es':dn w Z (i+1)=(Z[i]).1+1:=by
    unfold dn
    rw [hb,IE Jj,IE (by omega),Nat.add_sub_cancel,LN,ez];rfl
   rw [es'] at h
   exact h
  ·have : es[i]? = none := by rw [Lf, S.tab.size.2]; omega
   rw [this]
   rw [this] at h
   exact h
end
end RS
namespace RS
open PySem PySem.W PyProof.Rows
section
variable {prog:Program}{w:World}{A:Around}{E:Value->Shared->Prop}{s:Shared}
theorem dF.typeIs {I S:Addr}{i n ep slot:Nat} (h:dF s.heap I S i n ep slot):s.TypeIs (.ref I) "set_iterator" := ⟨_,h,rfl⟩
theorem gu {a:Addr}{ps:List (Int × Value)}{o es ep t Z} (S:dP w s.heap a ps o es ep t Z):s.TypeIs (.ref a) "set" := ⟨o,S.ho,S.ex.1⟩
theorem zB {a:Addr}{ps:List (Int × Value)}{o es ep t Z}{Q:Value->Shared->Prop} (S:dP w s.heap a ps o es ep t Z)
  (hQ:Q (.ref s.heap.objs.size) { s with heap:=s.heap.push { cls:=.type "set_iterator",data:=.fields #[.int ((0:Nat):Int) 0,.int ((0:Nat):Int) 0,.ref a,.int (Z.length:Int) 0,.int (ep:Int) 0] } }) :
  wpAny (model prog w) A (pyIter (.ref a)) Q E s:=by
 refine wpAny_pyIter_slot (gu S) PySem.F.slot_set_iter (JY PySem.F.slot_set_iter (gu S) Fx.entry_set_iter ?_ (PySem.F.args_set_iter_1 _))
 unfold Builtin.«frozenset.__iter__» Builtin.Frozenset.sizeOf
 refine Jf (m:=Builtin.Frozenset.slot0 "__iter__" _) (KG (a:=a) rfl ?_)
 refine Jf (Jf (L3 S.ho S.hd S.fits (Jl ?_)))
 unfold setDrawn
 refine Jf (Jf (Lo S.ho S.hd S.fits ?_))
 dsimp only
 unfold setsByText
 refine Jf (Jf (Kw (Jl (Jl ?_))))
 have hdr:(!w.params.followText "set-order" && (!t.plain && decide (es.size > 1)))=false:=by rw [S.plain];simp
 show wpAny _ _ (if (!w.params.followText "set-order" && (!t.plain && decide (es.size > 1)))=true then _ else _) _ _ _
 rw [hdr,IE Jj]
 refine Jf (Jl ?_)
 refine Jf (wpAny_setEpoch_of S.ho S.hd S.fits ?_)
 refine Jf (J3 (Jl ⟨_,rfl, "set_iterator",_,⟨_,Jo _ rfl,rfl⟩,Fx.slot_setiter_next.lookup,?_⟩))
 rw [S.tab.size.2]
 exact hQ
theorem zC {I a:Addr}{ps:List (Int × Value)}{o es ep t Z}{i:Nat}{v:Int × Value}{Q:Option Value->Shared->Prop} (S:dP w s.heap a ps o es ep t Z) (hit:dF s.heap I a i Z.length ep (dn w Z i)) (hv:(dJ w a ep es)[i]?=some v)
  (hQ:∀ h',dF h' I a (i+1) Z.length ep (dn w Z (i+1))->Heap.SameBut I s.heap h'->Q (some v.2) { s with heap:=h' }):wpAny (model prog w) A (pyNext (.ref I)) Q E s:=by
 have hT:=hit.typeIs
 have hoi:=hit
 unfold dF at hoi
 have hil:i<Z.length:=by
  have:=(IX.mp hv).1
  rw [kh.length_eq,Jc,S.tab.size.2] at this
  exact this
 unfold pyNext
 refine Jf (wpAny_attempt (JW (name:=Str.ofString "__next__") hT Fx.slot_setiter_next (JY Fx.slot_setiter_next hT Fx.entry_setiter_next ?_ (Fx.args_setiter_next _))))
 unfold Builtin.«set_iterator.__next__»
 refine Jf (m:=slotArgs "__next__" 0 _) (KG (a:=(.ref I,[])) rfl ?_)
 dsimp only
 unfold fieldsOf
 refine Jf (Jf (Jm hoi ?_))
 refine Jl ?_
 refine Jf (L3 S.ho S.hd S.fits ?_)
 rw [S.tab.size.2]
 simp only [LZ,Ko,JP,JN]
 refine Jf (tF S (IP hil) ?_)
 rw [hv]
 dsimp only [Option.map_some]
 refine Jf (L5 hoi (by simp) fun h1 e1 sb1=>?_)
 refine Jf (L5 (s:={ s with heap:=h1 }) e1 (by simp) fun h2 e2 sb2=>?_)
 refine Jl ⟨v.2,rfl,Jl (hQ h2 ?_ (sb1.trans sb2))⟩
 unfold dF
 rw [e2]
 simp [rawInt]
theorem Bs {I a:Addr}{ps:List (Int × Value)}{o es ep t Z}{Q:Option Value->Shared->Prop} (hh:A.handled=none) (S:dP w s.heap a ps o es ep t Z) (hit:dF s.heap I a Z.length Z.length ep (dn w Z Z.length))
  (hQ:∀ h',Heap.ExtBut I s.heap h'->Q none { s with heap:=h' }):wpAny (model prog w) A (pyNext (.ref I)) Q E s:=by
 have hT:=hit.typeIs
 have hoi:=hit
 unfold dF at hoi
 have hv:(dJ w a ep es)[Z.length]?=none:=by
  rw [List.getElem?_eq_none_iff,kh.length_eq,Jc,S.tab.size.2]
  exact Jp _
 unfold pyNext
 refine Jf (wpAny_attempt (JW (name:=Str.ofString "__next__") hT Fx.slot_setiter_next (JY Fx.slot_setiter_next hT Fx.entry_setiter_next ?_ (Fx.args_setiter_next _))))
 unfold Builtin.«set_iterator.__next__»
 refine Jf (m:=slotArgs "__next__" 0 _) (KG (a:=(.ref I,[])) rfl ?_)
 dsimp only
 unfold fieldsOf
 refine Jf (Jf (Jm hoi ?_))
 refine Jl ?_
 refine Jf (L3 S.ho S.hd S.fits ?_)
 rw [S.tab.size.2]
 simp only [LZ,Ko,JP,JN]
 refine Jf (tF S (Jp _) ?_)
 rw [hv]
 dsimp only [Option.map_none]
 refine Jf (L5 hoi (by simp) fun h1 e1 sb1=>?_)
 refine Jf ?_
 simp only [newExc,newTuple]
 refine Jf (J3 ?_ (by size_fits))
 refine Jf (m:=firstArgMember _ _) (KG (a:=Value.none) (by first | rfl | (simp only [firstArgMember];rfl)) ?_)
 refine J3 ?_ (by size_fits)
 simp only [raiseNew]
 refine Jf (wpAny_handled ?_)
 rw [show A.in1.handled=none from hh]
 refine Jf (Jl (wpAny_throw ?_))
 refine Jf (wpAny_isInstance (T:="StopIteration") (b:=true) ⟨_,Jo _ rfl,rfl⟩ isSubtype_stop ?_)
 exact Jl (hQ _ ((sb1.extBut.push _).push _))
end
end RS
namespace RS
open PySem PySem.W PyProof.Rows
namespace Fx
theorem entry_extend_loop:entryFor table "list.extend.loop" = some Builtin.«list.extend.loop»:=entryFor_of_fast (by kernel_rfl)
theorem plain_extend_loop:plainId "list.extend.loop" = true:=by decide +kernel
theorem split_set_len:splitId "set.__len__" = some ("set", "__len__"):=by decide +kernel
end Fx
section
variable {prog:Program}{w:World}{A:Around}{E:Value->Shared->Prop}{s:Shared}
theorem uC {a:Addr}{ps:List (Int × Value)}{o es ep t Z}{Q:Bool->Shared->Prop} (S:dP w s.heap a ps o es ep t Z) (h:Q false s):wpAny (model prog w) A (Builtin.List.listLengthHint (.ref a)) Q E s:=by
 unfold Builtin.List.listLengthHint
 refine Jf (wpAny_specialOf (gu S) PySem.F.slot_set_len.lookup ?_)
 dsimp only
 rw [Fx.split_set_len]
 dsimp only
 refine Jf (wpAny_isInstance (gu S) sub_set_self ?_)
 simp only [Lm,Ko,JP]
 rw [ID (by rfl)]
 refine Jf (J1 (gu S) ?_)
 exact Jl h
theorem uD {R:Result->Shared->Prop}{I a L:Addr}{ps:List (Int × Value)}{o es ep t Z} (hh:A.handled=none) (hIa:I≠a) (hIL:I≠L) (hLa:L≠a) (hz:Z.length<=100) :
  ∀ (k i n:Nat) (s:Shared),Z.length - i=k->i<=Z.length->dP w s.heap a ps o es ep t Z->dF s.heap I a i Z.length ep (dn w Z i)->s.heap.get? L=some (seqObj "list" (((dJ w a ep es).take i).map (·.2)).toArray n) ->
   (∀ h' m,(∀ b u,b≠I->b≠L->s.heap.get? b=some u->h'.get? b=some u)->h'.get? L=some (seqObj "list" ((dJ w a ep es).map (·.2)).toArray m)->R (.ok (.ret (.ref L))) { s with heap:=h' }) ->
   codeAny (model prog w) A (.builtin "list.extend.loop" ⟨[.ref L,.ref I,.ref L],[]⟩) R s:=by
 intro k
 induction k with
 | zero=>
  intro i n s ek hi S hit hL hR
  have e:i=Z.length:=by omega
  subst e
  refine Lz Fx.entry_extend_loop ?_
  rw [LA Fx.plain_extend_loop _]
  show wpAny _ A.in1 (pyNext (.ref I) >>= _) _ _ s
  refine Jf (Bs (by simpa using hh) S hit fun h' eb=>?_)
  show wpAny _ A.in1 (ret (.ref L)) _ _ _
  refine Jl (hR h' n (fun b u hb _ q=>eb b u hb q) ?_)
  rw [K0 (by rw [kh.length_eq,Jc,S.tab.size.2];exact Jp _)] at hL
  exact eb L _ (IU hIL) hL
 | succ k ih=>
  intro i n s ek hi S hit hL hR
  have hil:i<(dJ w a ep es).length:=by rw [kh.length_eq,Jc,S.tab.size.2];omega
  refine Lz Fx.entry_extend_loop ?_
  rw [LA Fx.plain_extend_loop _]
  show wpAny _ A.in1 (pyNext (.ref I) >>= _) _ _ s
  refine Jf (zC S hit (L1 hil) fun h' hit' sb=>?_)
  have hL':h'.get? L=some (seqObj "list" (((dJ w a ep es).take i).map (·.2)).toArray n):=(sb.2 L (IU hIL)).trans hL
  have hsz:(((dJ w a ep es).take i).map (·.2)).toArray.size<=100:=by
   rw [Ju,JI,JB];omega
  show wpAny _ A.in1 (Builtin.List.listUpdate (.ref L) _ >>= _) _ _ _
  refine Jf (LS (s:={ s with heap:=h' }) hL' rfl ?_ (IM hsz (by decide)) (by rw [Array.size_push];exact IM (Nat.succ_le_succ hsz) (by decide)))
  have hL2:=LU hL' (·.push ((dJ w a ep es)[i]).2)
  have eL:(((dJ w a ep es).take i).map (·.2)).toArray.push ((dJ w a ep es)[i]).2=(((dJ w a ep es).take (i+1)).map (·.2)).toArray:=by
   have q:(dJ w a ep es).take (i+1)=(dJ w a ep es).take i++[(dJ w a ep es)[i]]:=by rw [LI,L1 hil];rfl
   rw [q,K8,List.push_toArray];rfl
  rw [eL] at hL2
  have hsb2:=KF h' L (Obj.mapSeq (·.push ((dJ w a ep es)[i]).2))
  refine Jl ⟨plainId_quiet Fx.plain_extend_loop _,ih (i+1) _ _ (by omega) (by omega) ?_ ?_ hL2 fun h'' m kk hm=>?_⟩
  ·refine ⟨?_, S.ex, S.hd, S.tab, S.plain, S.led, S.big, S.perm⟩
   exact (hsb2.2 a (IU hLa)).trans ((sb.2 a (IU hIa)).trans S.ho)
  ·exact (hsb2.2 I hIL).trans hit'
  ·refine hR h'' m (fun b u hb1 hb2 q => kk b u hb1 hb2 ?_) hm
   exact (hsb2.2 b hb2).trans ((sb.2 b hb1).trans q)
theorem mn {α β:Type}{f:α->β}{l m:List β} (h:l.Perm m):∀ ps:List α,m=ps.map f->∃ qs:List α,qs.Perm ps/\l=qs.map f:=by
 induction h with
 | nil=>
  intro ps e
  have:ps=[]:=List.map_eq_nil_iff.mp e.symm
  exact ⟨[],by rw [this],rfl⟩
 | cons x _ ih=>
  intro ps e
  cases ps with
  | nil=>cases e
  | cons p ps=>
   rw [J5] at e
   obtain ⟨qs,h1,h2⟩:=ih ps (KU e).2
   exact ⟨p::qs,h1.cons p,by rw [J5,<- h2,(KU e).1]⟩
 | swap x y l=>
  intro ps e
  match ps,e with
  | p::q::r,e=>
   rw [J5,J5] at e
   obtain ⟨e1,e2⟩:=KU e
   obtain ⟨e2,e3⟩:=KU e2
   exact ⟨q::p::r,List.Perm.swap _ _ _,by rw [J5,J5,e1,e2,e3]⟩
 | trans _ _ ih1 ih2=>
  intro ps e
  obtain ⟨qs,h1,h2⟩:=ih2 ps e
  obtain ⟨rs,h3,h4⟩:=ih1 qs h2
  exact ⟨rs,h3.trans h1,h4⟩
theorem ny {a:Addr}{ps:List (Int × Value)}{o es ep t Z}{Q:List Value->Shared->Prop} (hh:A.handled=none) (S:dP w s.heap a ps o es ep t Z) (hz:Z.length<=100)
  (h:∀ qs:List (Int × Value),qs.Perm ps->∀ h',(∀ b u,s.heap.get? b=some u->h'.get? b=some u)->s.heap.objs.size<=h'.objs.size->Q (qs.map (·.2)) { s with heap:=h' }):wpAny (model prog w) A (collect (.ref a)) Q E s:=by
 have hal:a<s.heap.objs.size:=IG S.ho
 unfold collect
 refine Jf (LH (Lz entry_proto_collect' ?_))
 show wpAny _ _ (do again (.builtin "list.__iadd__" ⟨[<- newList [],.ref a],[]⟩)) _ _ s
 refine Jf (LV (Jl ⟨LF _ (by decide +kernel),Lz entry_list_iadd' ?_⟩))
 show wpAny _ _ (Builtin.List.listExtendWith (.ref s.heap.objs.size) (.ref a) (.ref s.heap.objs.size)) _ _ { s with heap:=s.heap.push (seqObj "list" #[] 0) }
 have S1:dP w (s.heap.push (seqObj "list" #[] 0)) a ps o es ep t Z:=⟨Jn _ S.ho,S.ex,S.hd,S.tab,S.plain,S.led,S.big,S.perm⟩
 unfold Builtin.List.listExtendWith
 refine Jf (J1 (gu (s:={ s with heap:=s.heap.push (seqObj "list" #[] 0) }) S1) ?_)
 have hsame:Builtin.List.listSameRef (.ref s.heap.objs.size) (.ref a)=false:=by
  show (s.heap.objs.size == a)=false
  simpa using Jk hal
 rw [hsame,IE (by decide)]
 refine Jf (zB (s:={ s with heap:=s.heap.push (seqObj "list" #[] 0) }) S1 ?_)
 dsimp only
 generalize hH:(s.heap.push (seqObj "list" #[] 0)).push { cls:=.type "set_iterator",data:=.fields #[.int ((0:Nat):Int) 0,.int ((0:Nat):Int) 0,.ref a,.int (Z.length:Int) 0,.int (ep:Int) 0] }=H2
 have eI:(s.heap.push (seqObj "list" #[] 0)).objs.size=s.heap.objs.size+1:=by rw [LW]
 have hk2:∀ b u,s.heap.get? b=some u->H2.get? b=some u:=fun b u q=>by rw [<- hH];exact Jn _ (Jn _ q)
 have S2:dP w H2 a ps o es ep t Z:=⟨hk2 a o S.ho,S.ex,S.hd,S.tab,S.plain,S.led,S.big,S.perm⟩
 have hL2:H2.get? s.heap.objs.size=some (seqObj "list" #[] 0):=by rw [<- hH];exact Jn _ (Jo _ rfl)
 have hI2:H2.get? (s.heap.objs.size+1)=some { cls:=.type "set_iterator",data:=.fields #[.int ((0:Nat):Int) 0,.int ((0:Nat):Int) 0,.ref a,.int (Z.length:Int) 0,.int (ep:Int) 0] }:=by
  rw [<- hH,<- eI];exact Jo _ rfl
 rw [eI]
 refine Jf (Jg (uC (s:={ s with heap:=H2 }) S2 ?_))
 rw [ID (by rfl)]
 refine Jf (Kx ?_)
 refine Jf ?_
 unfold Builtin.List.listTouch
 refine Jf (LS (s:={ s with heap:=H2 }) hL2 rfl ?_ (Ky _) (by decide))
 have hL3:=LU hL2 (·.push Value.none)
 refine LS (s:={ s with heap:=H2.update s.heap.objs.size (Obj.mapSeq (·.push Value.none)) }) hL3 rfl ?_ (by decide) (by decide)
 have hL4:=LU hL3 (·.pop)
 have sb3:=KF H2 s.heap.objs.size (Obj.mapSeq (·.push Value.none))
 have sb4:=(sb3.trans (KF (H2.update s.heap.objs.size (Obj.mapSeq (·.push Value.none))) s.heap.objs.size (Obj.mapSeq (·.pop))))
 generalize hH4:(H2.update s.heap.objs.size (Obj.mapSeq (·.push Value.none))).update s.heap.objs.size (Obj.mapSeq (·.pop))=H4 at hL4 sb4
 have neL:a≠s.heap.objs.size:=IJ hal
 have neI:s.heap.objs.size+1≠s.heap.objs.size:=Nat.succ_ne_self _
 refine Jl ⟨LF _ (by decide +kernel),?_⟩
 refine uD (by simpa using hh) (Jk (Ks hal)) neI (IU neL) hz (Z.length - 0) 0 _ { s with heap:=H4 } (by omega) (Ky _)
  ⟨(sb4.2 a neL).trans S2.ho,S.ex,S.hd,S.tab,S.plain,S.led,S.big,S.perm⟩ ?_ (by rw [List.take_zero];exact hL4) fun h' m kk hm=>?_
 ·unfold dF
  have e0:dn w Z 0=0:=by unfold dn;split <;> simp
  rw [e0]
  exact (sb4.2 _ neI).trans hI2
 ·dsimp only
  refine Jf (Jm hm ?_)
  refine Jl ?_
  have hp:(dJ w a ep es).Perm ps:=kh.trans (by rw [S.tab.ents];exact S.perm)
  have fin:=h (dJ w a ep es) hp h' fun b u q=>by
   have hb:b<s.heap.objs.size:=IG q
   exact kk b u (IJ (Ks hb)) (IJ hb) ((sb4.2 b (IJ hb)).trans (hk2 b u q))
  exact fin (IP (IG hm))
theorem uE {a:Addr}{ps:List KP}{Q:List Value->Shared->Prop} (hh:A.handled=none) (S:bR w s.heap a ps)
  (h:∀ qs:List KP,qs.Perm ps->∀ h',(∀ b u,s.heap.get? b=some u->h'.get? b=some u)->s.heap.objs.size<=h'.objs.size->Q (aS qs) { s with heap:=h' }):wpAny (model prog w) A (collect (.ref a)) Q E s:=by
 obtain ⟨o,es,ep,t,Z,S,hk,hn⟩:=S
 have h15:=kF hk hn
 refine ny hh S (by rw [S.len,JI];omega) fun qs hq h' k1 k2=>?_
 obtain ⟨rs,q1,q2⟩:=mn hq ps rfl
 have q3:qs.map (·.2)=aS rs:=by rw [q2,KO];rfl
 rw [q3]
 exact h rs q1 h' k1 k2
theorem xi {x:Value}{ps:List KP}{Q:Value->Shared->Prop} (hk:∀ p∈ps,p.1∈prs) (hn:(ps.map (·.1)).Nodup) (hT:∀ p∈ps,Tk prog w s.heap p.1 p.2)
  (hcol:∀ Q':List Value->Shared->Prop,(∀ qs:List KP,qs.Perm ps->∀ h',(∀ b u,s.heap.get? b=some u->h'.get? b=some u)->s.heap.objs.size<=h'.objs.size->Q' (aS qs) { s with heap:=h' })->wpAny (model prog w) A.in1 (collect x) Q' E s)
  (h:∀ out:List KP,out.Perm ps->ik out->∀ h' D,s.heap.objs.size<=D->(∀ b u,s.heap.get? b=some u->h'.get? b=some u)->(∃ n,h'.get? D=some (seqObj "list" (aS out).toArray n))->Q (.ref D) { s with heap:=h' }) :
  wpAny (model prog w) A (call (.builtin "sorted") [x]) Q E s:=by
 refine L6 kind_sorted plain_sorted entry_sorted (args_sorted1 _) ?_
 unfold Builtin.«sorted»
 refine Jf (m:=checkCount "sorted" 1 1 _) (Jl ?_)
 refine Jf (hcol _ fun qs hqs h1 k1 hsz=>?_)
 have hkq:∀ p∈qs,p.1∈prs:=fun p hp=>hk p (hqs.mem_iff.mp hp)
 have hnq:(qs.map (·.1)).Nodup:=(hqs.map _).nodup_iff.mpr hn
 have hlen:=kF hkq hnq
 have hvl:(aS qs).length<=15:=by unfold aS;rw [JI];exact hlen
 refine Jf (LV ?_ (IM hvl (by decide)))
 have hoL:(h1.push (seqObj "list" (aS qs).toArray 0)).get? h1.objs.size=some (seqObj "list" (aS qs).toArray 0):=Jo _ rfl
 have hnn:∀ b u,h1.get? b=some u->b≠h1.objs.size:=fun b u q=>IJ (IG q)
 refine Jf (Jg (JY slot_list_sort (s:={ s with heap:=h1.push (seqObj "list" (aS qs).toArray 0) }) ⟨_,hoL,rfl⟩ L7 ?body (args_list_sort _)))
 case body=>
  refine vf (s:={ s with heap:=h1.push (seqObj "list" (aS qs).toArray 0) }) hoL hkq hnq (fun p hp=>?_) fun out h2 h3=>?_
  ·obtain ⟨o, its, n, ho, rest⟩ := hT p (hqs.mem_iff.mp hp)
   exact ⟨o,its,n,Jn _ (k1 _ _ ho),rest⟩
  ·refine ⟨_, rfl, Jl ⟨_, rfl, h out (h2.trans hqs) h3 _ h1.objs.size hsz (fun b u q => ?_) ?_⟩⟩
   ·have hb := hnn b u (k1 b u q)
    unfold sortedHeap
    rw [LY _ _ _ _ hb]
    refine Jn _ (Jn _ ?_)
    rw [LY _ _ _ _ hb]
    exact Jn _ (k1 b u q)
   ·unfold sortedHeap
    have g1:=LU hoL (fun _=>#[])
    have g2:=Jn (seqObj "list" #[] 0) (Jn (seqObj "tuple" (aS qs).toArray 0) g1)
    exact ⟨_,LU g2 (fun _=>(aS out).toArray)⟩
theorem ve {a:Addr}{ps:List KP}{Q:Value->Shared->Prop} (hh:A.handled=none) (S:bR w s.heap a ps) (hT:∀ p∈ps,Tk prog w s.heap p.1 p.2)
  (h:∀ out:List KP,out.Perm ps->ik out->∀ h' D,s.heap.objs.size<=D->(∀ b u,s.heap.get? b=some u->h'.get? b=some u)->(∃ n,h'.get? D=some (seqObj "list" (aS out).toArray n))->Q (.ref D) { s with heap:=h' }) :
  wpAny (model prog w) A (call (.builtin "sorted") [.ref a]) Q E s:=by
 obtain ⟨o,es,ep,t,Z,S0,hk,hn⟩:=id S
 exact xi hk hn hT (fun Q' hq=>uE (by simpa using hh) S hq) h
end
end RS
namespace RS
open PySem PySem.W PyProof.Rows
theorem qg.free {t:SetTable}{es:Array (Int × Value)}{Z:List (Nat × Int × Value)} (T:qg t es Z) {h:Int} (cov:∀ j,j<=t.mask->j∈cG t.mask h) (hz:Z.length<=t.mask) (hA:Nat->Int) (hne:∀ i,hA i≠h) :
  ∃ j pre post,t.probe hA h (t.probeStart h)=some (.empty j none)/\j<=t.mask/\j ∉ Z.map (·.1)/\cG t.mask h=pre++j::post/\∀ k∈pre,k∈Z.map (·.1):=by
 obtain ⟨j0,hj0,hn0⟩:=qP (m:=t.mask) (l:=Z.map (·.1)) (by rw [JI];exact hz)
 obtain ⟨pre,j,post,e,hs,hp⟩:=jE (fun j=>j ∉ Z.map (·.1)) (cG t.mask h) ⟨j0,cov j0 hj0,hn0⟩
 have el:(wN t.mask (SetTable.turns t.mask) (SetTable.bits h % (t.mask+1)) (SetTable.bits h)).length=pre.length+1+post.length:=by
  show (cG t.mask h).length=_
  rw [e,JH,Kq];omega
 have hw:ic t (pre.length+1+post.length) (t.probeStart h)=pre++j::post:=by
  have q:=oy t (SetTable.turns t.mask) (SetTable.bits h % (t.mask+1)) (SetTable.bits h) none
  rw [el] at q
  exact q.trans e
 have hlen:pre.length<10 * SetTable.turns t.mask:=by
  have q:=rV t.mask (SetTable.turns t.mask) (SetTable.bits h % (t.mask+1)) (SetTable.bits h)
  omega
 have occ:∀ k∈pre,k∈Z.map (·.1):=fun k hk=>K2 fun q=>hp k hk q
 have hpre:∀ k∈pre,∃ i,t.slot k=.live i/\hA i≠h:=fun k hk=>by
  obtain ⟨z,hzm,ez⟩:=K1.mp (occ k hk)
  obtain ⟨i,hi⟩:=K4 hzm
  exact ⟨i,ez ▸ T.slot_live hi,hne i⟩
 obtain ⟨g1,g2⟩:=r8 t hA h pre j post (10 * SetTable.turns t.mask) (t.probeStart h) hw hlen rfl hpre
 exact ⟨j,pre,post,g1 (T.slot_empty hs),jj (h:=h) (by rw [e];simp),hs,e,occ⟩
abbrev KI:=Int × Tok
def yy (p:KI):Int × Value:=(hashInt p.1,Value.int p.1 p.2)
def ins:List Int:=[0,1,2,3,4,5]
theorem Cy {i:Int}:i∈ins↔0<=i/\i<6:=by
 unfold ins
 simp only [IT,KJ,KL]
 omega
def Dt (mask:Nat):Bool:=ins.all fun k=>(List.range (mask+1)).all fun j=>(cG mask (hashInt k)).contains j
theorem G3:Dt 7=true:=by decide +kernel
theorem zi:Dt 31=true:=by decide +kernel
theorem r9 {mask:Nat} (h:Dt mask=true) {k:Int} (hk:k∈ins):∀ j,j<=mask->j∈cG mask (hashInt k):=fun j hj=>by
 have a:=Lk.mp h k hk
 have b:=Lk.mp a j (IL.mpr (by omega))
 simpa using b
theorem qM {a b:Int} (ha:a∈ins) (hb:b∈ins) (e:hashInt a=hashInt b):a=b:=by
 have key:∀ x∈ins,∀ y∈ins,hashInt x=hashInt y->x=y:=by decide +kernel
 exact key a ha b hb e
def c9 (w:World) (h:Heap) (a:Addr) (ps:List KI):Prop:=∃ o es ep t Z,dP w h a (ps.map yy) o es ep t Z/\(∀ p∈ps,p.1∈ins)/\(ps.map (·.1)).Nodup
theorem ki {ps:List KI} (hk:∀ p∈ps,p.1∈ins) (hn:(ps.map (·.1)).Nodup):ps.length<=6:=by
 have:=jd hn (l2:=ins) (fun x hx=>by obtain ⟨p,hp,e⟩:=K1.mp hx;rw [<- e];exact hk p hp)
 rw [JI] at this
 exact this
theorem c9.keeps {w:World}{h h':Heap}{a:Addr}{ps:List KI} (S:c9 w h a ps) (k:∀ o,h.get? a=some o->h'.get? a=some o):c9 w h' a ps:=by
 obtain ⟨o,es,ep,t,Z,S,hk,hn⟩:=S
 exact ⟨o,es,ep,t,Z,⟨k o S.ho,S.ex,S.hd,S.tab,S.plain,S.led,S.big,S.perm⟩,hk,hn⟩
theorem HM {w:World}{h:Heap}{a:Addr}{ps:List (Int × Value)}{o es ep t Z} (S:dP w h a ps o es ep t Z) {k:Int} (hk:k∈ins):∀ j,j<=t.mask->j∈cG t.mask (hashInt k):=by
 rcases S.big with ⟨h1,h2⟩ | ⟨h1,h2⟩ <;> rw [h1]
 ·exact r9 G3 hk
 ·exact r9 zi hk
def sR (ps:List KI) (k:Int) (t:Tok):List KI:=if k∈ps.map (·.1) then ps else ps++[(k,t)]
section
variable {prog:Program}{w:World}{A:Around}{E:Value->Shared->Prop}{s:Shared}
theorem qA {a:Addr}{k:Int}{tk:Tok}{ps0:List (Int × Value)}{o es ep t Z} (S:dP w s.heap a ps0 o es ep t Z) {Q:ScanMet->Shared->Prop} :
  ∀ (l:List (Int × Value)) (n:Nat),(∀ e∈l,∃ p:KI,e=yy p/\p.1∈ins)->k∈ins->((∃ e∈l,e.1=hashInt k)->∀ i,Q (.found i) s)->((∀ e∈l,e.1≠hashInt k)->Q .absent s)->wpAny (model prog w) A (setScanFrom a (.int k tk) (hashInt k) true l n) Q E s
 | [],n,_,_,h1,h2=>by
  unfold setScanFrom
  exact Jl (h2 fun e he=>by simp at he)
 | e::l,n,hl,hk,h1,h2=>by
  obtain ⟨p,rfl,hp⟩:=hl e IR
  show wpAny _ _ (setScanFrom a _ _ true ((hashInt p.1,Value.int p.1 p.2)::l) n) _ _ _
  unfold setScanFrom
  by_cases he:hashInt p.1=hashInt k
  ·rw [ID (by simpa using he)]
   have ek:=qM hp hk he
   refine Jf (m:=setEpoch a) (wpAny_setEpoch_of S.ho S.hd S.fits ?_)
   refine Jf (IC ?_)
   rw [ek]
   simp only [Kn,Lp,JQ]
   exact Jl (h1 ⟨_,IR,he⟩ _)
  ·rw [IE (by simpa using he)]
   refine qA S l (n+1) (fun x hx=>hl x (IS _ hx)) hk (fun ⟨x,hx,ex⟩=>h1 ⟨x,IS _ hx,ex⟩) fun hx=>h2 fun x hxm=>?_
   rcases IT.mp hxm with z | z
   ·rw [z];exact he
   ·exact hx x z
theorem CQ {a:Addr}{k:Int}{tk:Tok}{ps:List KI}{Q:Bool->Shared->Prop} (S:c9 w s.heap a ps) (hk:k∈ins)
  (h:∀ b h',Heap.SameBut a s.heap h'->c9 w h' a (sR ps k tk)->Q b { s with heap:=h' }):wpAny (model prog w) A (setAddHashed a (.int k tk) (hashInt k)) Q E s:=by
 obtain ⟨o,es,ep,t,Z,S,hk0,hn0⟩:=S
 have hent:∀ e∈es.toList,∃ p∈ps,e=yy p:=fun e he=>by
  rw [S.tab.ents] at he
  obtain ⟨p,hp,q⟩:=K1.mp (S.perm.mem_iff.mp he)
  exact ⟨p,hp,q.symm⟩
 have hto:∀ p∈ps,yy p∈es.toList:=fun p hp=>by
  rw [S.tab.ents]
  exact S.perm.mem_iff.mpr (K5 hp)
 have hlen6:=ki hk0 hn0
 have hZl:Z.length=ps.length:=by rw [S.len,JI]
 have hesz0:es.size=ps.length:=by rw [S.tab.size.2,hZl]
 have hz:Z.length<=t.mask:=by rcases S.big with ⟨q,q2⟩ | ⟨q,q2⟩ <;> omega
 unfold setAddHashed setAddHashedIn
 refine Jg (Jf (Lo S.ho S.hd S.fits ?_))
 dsimp only
 have hsc:byScan (Value.int k tk) es=true:=by
  unfold byScan
  have h1:decide (es.size<scanBound)=true:=Kk (by rw [hesz0];unfold scanBound;omega)
  have h2:es.all (fun x=>x.2.scannable)=true:=by
   rw [<- Array.all_toList,Lk]
   intro e he
   obtain ⟨p,_,rfl⟩:=hent e he
   rfl
  rw [h1,h2];rfl
 rw [hsc]
 simp only [JQ]
 refine Jf ?_
 unfold setAddByScan
 refine Jf (Kx ?_)
 refine Jf ?_
 show wpAny _ _ (setScanFrom a (.int k tk) (hashInt k) true es.toList 0) _ _ _
 refine qA S es.toList 0 (fun e he=>by obtain ⟨p,hp,e'⟩:=hent e he;exact ⟨p,e',hk0 p hp⟩) hk (fun hex i=>?_) fun hno=>?_
 ·obtain ⟨e, he, q⟩ := hex
  obtain ⟨p,hp,rfl⟩:=hent e he
  have ek:p.1=k:=qM (hk0 p hp) hk q
  refine Jl (Jl ?_)
  have q:=h false s.heap (Heap.SameBut.refl a s.heap) (by
   unfold sR;rw [ID (by rw [<- ek];exact K5 hp)];exact ⟨o,es,ep,t,Z,S,hk0,hn0⟩)
  cases s;exact q
 ·have hin:k ∉ ps.map (·.1):=fun hx=>by
   obtain ⟨p,hp,e⟩:=K1.mp hx
   exact hno _ (hto p hp) (by rw [<- e];rfl)
  dsimp only
  obtain ⟨j,pre,post,epr,hj,hn,e,hp⟩:=S.tab.free (HM S hk) hz (fun _=>hashInt k+1) (fun _=>by omega)
  obtain ⟨Z',T',hperm,et⟩:=S.tab.put (x:=Value.int k tk) hj hn e hp
  have hfree:t.freeSlot (hashInt k)=some (j,false):=by
   unfold SetTable.freeSlot;rw [epr];rfl
  have hpl:(t.put j).1.plain=true:=by rw [et];exact S.plain
  have hled:(t.put j).1.led=t.led:=by rw [et]
  have hmask:(t.put j).1.mask=t.mask:=by rw [et]
  have hperm':(Z'.map (·.2)).Perm ((ps++[(k,tk)]).map yy):=by
   refine (hperm.map (·.2)).trans ?_
   rw [J5,K8]
   refine List.Perm.trans (List.Perm.cons _ S.perm) ?_
   exact (List.perm_append_singleton _ _).symm
  have hkeys:∀ p∈ps++[(k,tk)],p.1∈ins:=fun p hp'=>by
   rcases IV.mp hp' with q | q
   ·exact hk0 p q
   ·rw [KA] at q;rw [q];exact hk
  have hnd:((ps++[(k,tk)]).map (·.1)).Nodup:=by
   rw [K8]
   refine Lr.mpr ⟨hn0,by simp,fun x hx y hy=>?_⟩
   simp at hy
   rw [hy];rintro rfl;exact hin hx
  have hlen:=ki hkeys hnd
  have hZ':Z'.length=ps.length+1:=by rw [hperm.length_eq,Kq,hZl]
  have hesz:(SetTable.insertAt es (t.put j).2 (hashInt k,Value.int k tk)).size=Z'.length:=T'.size.2
  have hadd:sR ps k tk=ps++[(k,tk)]:=by unfold sR;rw [IE hin]
  rw [hadd] at h
  rw [JH,Kh] at hlen
  have hfit:(t.put j).1.fits (SetTable.insertAt es (t.put j).2 (hashInt k,Value.int k tk)).size=true:=by
   unfold SetTable.fits
   rw [T'.fill,T'.size.1,hesz,hmask]
   rcases S.big with ⟨q,q2⟩ | ⟨q,q2⟩ <;> simp [q] <;> omega
  have hlay:layNew t es (hashInt k) (.int k tk)=(SetTable.insertAt es (t.put j).2 (hashInt k,Value.int k tk),(t.put j).1,false,false):=by
   unfold layNew
   rw [hfree]
   dsimp only
   unfold SetTable.orStandIn
   rw [hfit];rfl
  rw [hlay]
  dsimp only
  generalize ht1:(t.put j).1=t1 at *
  generalize hes1:SetTable.insertAt es (t.put j).2 (hashInt k,Value.int k tk)=es1 at *
  have hline:es1.size<=sizeLine:=by rw [hesz,hZ'];exact IM hlen (by decide)
  refine Jf (Jl ?_)
  refine Jf (Jl ?_)
  rw [hpl]
  simp only [JQ]
  refine Jf (m:=hashByValue 8 (.int k tk)) (Jl ?_)
  simp only [JQ]
  refine Jf (Ls S.ho S.hd ?_ hline)
  have hg:(s.heap.update a (Obj.putSet es1 t1)).get? a=some { o with data:=.set es1 (ep+1) t1 }:=by
   have:=J8 (Obj.putSet es1 t1) S.ho (by rw [Lu es1 t1 S.hd];rfl)
   rw [Lu es1 t1 S.hd] at this;exact this
  have hsb1:=KF s.heap a (Obj.putSet es1 t1)
  have hfill:t1.fill=ps.length+1:=by rw [T'.fill,hZ']
  by_cases hfull:t1.tooFull=true
  ·simp only [hfull, Lx, Lp, JQ]
   have hm7:t.mask=7/\ps.length=4:=by
    unfold SetTable.tooFull at hfull
    rw [hfill,hmask] at hfull
    have hf:(ps.length+1) * 5 ≥ t.mask * 3:=by simpa using hfull
    rcases S.big with ⟨q,q2⟩ | ⟨q,q2⟩
    ·rw [q] at hf;exact ⟨q,by omega⟩
    ·rw [q] at hf;omega
   have hsz1:es1.size=5:=by rw [hesz,hZ',hm7.2]
   have hgr:SetTable.grown es1.size=20:=by rw [hsz1];rfl
   rw [hgr]
   obtain ⟨t2,order,Z2,er,T2,hp2,hm2,hl2,hpl2,hord⟩:=o9 (t:=t1) (es:=es1) (wanted:=20) (mask:=31) (by rfl) (by rw [hsz1];decide) (fun e' he'=>by
    rw [T'.ents] at he'
    obtain ⟨p,hp',q⟩:=K1.mp (hperm'.mem_iff.mp he')
    rw [<- q]
    exact r9 zi (hkeys p hp'))
   have hZ2:Z2.length=5:=by
    have:=hp2.length_eq
    simp at this
    omega
   have hes2:(order.filterMap (es1[·]?)).size=5:=by rw [T2.size.2,hZ2]
   have hrel:relayAll t1 es1 20=(order.filterMap (es1[·]?),t2,false):=by
    unfold relayAll
    rw [er]
    dsimp only
    have c1:coversAll order es1.size=true:=by
     unfold coversAll
     exact List.isPerm_iff.mpr hord
    have c2:t2.fits (order.filterMap (es1[·]?)).size=true:=by
     unfold SetTable.fits
     rw [T2.fill,T2.size.1,hes2,hm2,hZ2];rfl
    rw [c1,c2];rfl
   rw [hrel]
   dsimp only
   refine Jf (Jf (Jl (Jl ?_)))
   refine Jf (Ls hg rfl ?_ (by rw [hes2];decide))
   have hg2:((s.heap.update a (Obj.putSet es1 t1)).update a (Obj.putSet (order.filterMap (es1[·]?)) t2)).get? a=some { o with data:=.set (order.filterMap (es1[·]?)) (ep+1+1) t2 }:=by
    have:=J8 (Obj.putSet (order.filterMap (es1[·]?)) t2) hg (by rw [Lu _ t2 rfl];rfl)
    rw [Lu _ t2 rfl] at this;exact this
   refine Jl (Jl ?_)
   refine h true _ (hsb1.trans (KF _ a _)) ⟨_,_,_,t2,Z2,⟨hg2,S.ex,rfl,T2,by rw [hpl2];exact hpl,by rw [hl2,hled];exact S.led,.inr ⟨hm2,by omega⟩,?_⟩,hkeys,hnd⟩
   refine hp2.trans ?_
   rw [T'.ents];exact hperm'
  ·have hf : t1.tooFull = false := by simpa using hfull
   simp only [hf,Bool.and_false,Ko,JP]
   refine Jl (Jl ?_)
   refine h true _ hsb1 ⟨_,_,_,t1,Z',⟨hg,S.ex,rfl,T',hpl,by rw [hled];exact S.led,?_,hperm'⟩,hkeys,hnd⟩
   unfold SetTable.tooFull at hf
   rw [hfill,hmask] at hf
   have hf':¬ ((ps.length+1) * 5 ≥ t.mask * 3):=by simpa using hf
   rw [hmask,hZ']
   rcases S.big with ⟨q,q2⟩ | ⟨q,q2⟩
   ·rw [q] at hf' ⊢;exact .inl ⟨rfl,by omega⟩
   ·rw [q] at hf' ⊢;exact .inr ⟨rfl,by omega⟩
end
end RS
namespace L2
open PySem PySem.Spec PyProof.Rows RS
inductive D where
 | non | bl (b:Bool) | int (i:Int) | str (x:Str) | tup (xs:List D) | frz (xs:List D) | obj (n:Nat)
inductive O where
 | lst (xs:List D) | set (ks:List (List Int)) | iset (ks:List Int) | dic
abbrev aA:=List O
abbrev Ro:=List (Option D)
def CT (K:W.Frag) (H:Hp) (a:Addr) (xs:List V):Prop:=
 (∃ o, H a = some (.frz o (.lst xs))) \/
  ∃ (o:Obj) (its:Array Value) (n:Nat),K.lookup a=some o/\o.cls=.type "list" /\ o.dict=none/\o.data=.seq its n/\its.size<=sizeLine/\ba xs its.toList
theorem CT.sq {K:W.Frag}{H:Hp}{a:Addr}{xs:List V} (h:CT K H a xs):f7 K H a xs:=by
 rcases h with ⟨o,h⟩ | h
 ·exact .inl (.inr ⟨o,h⟩)
 ·exact .inr h
section
variable (K:W.Frag) (H:Hp) (α:List Addr)
mutual
def aK:D->V->Prop
 | .non,v=>v=.non
 | .bl b,v=>v=.bl b
 | .int i,v=>v=.int i
 | .str x,v=>v=.str x
 | .tup xs,v=>∃ a vs,v=.ref a/\fB K H a vs/\Reps xs vs
 | .frz xs,v=>∃ a vs,v=.ref a/\CT K H a vs/\Reps xs vs
 | .obj n,v=>∃ a,v=.ref a/\α[n]?=some a
def Reps:List D->List V->Prop
 | [],vs=>vs=[]
 | x::xs,vs=>∃ v r,vs=v::r/\aK x v/\Reps xs r
end
end
structure lx (K:W.Frag) (H H':Hp) (α α':List Addr):Prop where
 tup:∀ a xs,fB K H a xs->fB K H' a xs
 frz:∀ a xs,CT K H a xs->CT K H' a xs
 pre:∀ (n:Nat) a,α[n]?=some a->α'[n]?=some a
section
variable {K:W.Frag}{H H' H1 H2:Hp}{α α' α1 α2:List Addr}
theorem lx.refl:lx K H H α α:=⟨fun _ _ h=>h,fun _ _ h=>h,fun _ _ h=>h⟩
theorem lx.trans (a:lx K H H1 α α1) (b:lx K H1 H2 α1 α2):lx K H H2 α α2:=
 ⟨fun c xs h=>b.tup c xs (a.tup c xs h),fun c xs h=>b.frz c xs (a.frz c xs h),fun n c h=>b.pre n c (a.pre n c h)⟩
mutual
theorem aK.mono (e:lx K H H' α α'):∀ {d:D}{v:V},aK K H α d v->aK K H' α' d v
 | .non,_,h=>by simp only [aK] at h ⊢;exact h
 | .bl _,_,h=>by simp only [aK] at h ⊢;exact h
 | .int _,_,h=>by simp only [aK] at h ⊢;exact h
 | .str _,_,h=>by simp only [aK] at h ⊢;exact h
 | .tup xs,_,h=>by
  simp only [aK] at h ⊢
  obtain ⟨a,vs,rfl,h1,h2⟩:=h
  exact ⟨a,vs,rfl,e.tup a vs h1,Reps.mono e h2⟩
 | .frz xs,_,h=>by
  simp only [aK] at h ⊢
  obtain ⟨a,vs,rfl,h1,h2⟩:=h
  exact ⟨a,vs,rfl,e.frz a vs h1,Reps.mono e h2⟩
 | .obj n,_,h=>by
  simp only [aK] at h ⊢
  obtain ⟨a,rfl,h1⟩:=h
  exact ⟨a,rfl,e.pre n a h1⟩
theorem Reps.mono (e:lx K H H' α α'):∀ {ds:List D}{vs:List V},Reps K H α ds vs->Reps K H' α' ds vs
 | [],_,h=>by simp only [Reps] at h ⊢;exact h
 | d::ds,_,h=>by
  simp only [Reps] at h ⊢
  obtain ⟨v,r,rfl,h1,h2⟩:=h
  exact ⟨v,r,rfl,aK.mono e h1,Reps.mono e h2⟩
end
theorem Reps.nil:Reps K H α [] []:=by simp only [Reps]
theorem Reps.cons {d:D}{ds:List D}{v:V}{vs:List V} (h1:aK K H α d v) (h2:Reps K H α ds vs):Reps K H α (d::ds) (v::vs):=by
 simp only [Reps];exact ⟨v,vs,rfl,h1,h2⟩
theorem Reps.length:∀ {ds:List D}{vs:List V},Reps K H α ds vs->vs.length=ds.length
 | [],vs,h=>by simp only [Reps] at h;rw [h];rfl
 | d::ds,vs,h=>by
  simp only [Reps] at h
  obtain ⟨v,r,rfl,h1,h2⟩:=h
  simp [Reps.length h2]
theorem Reps.get:∀ {ds:List D}{vs:List V}{i:Nat}{d:D},Reps K H α ds vs->ds[i]?=some d->∃ v,vs[i]?=some v/\aK K H α d v
 | [],_,_,_,_,e=>by simp at e
 | d::ds,vs,i,x,h,e=>by
  simp only [Reps] at h
  obtain ⟨v,r,rfl,h1,h2⟩:=h
  cases i with
  | zero=>simp at e;subst e;exact ⟨v,rfl,h1⟩
  | succ i=>exact Reps.get (i:=i) h2 (by simpa using e)
theorem Reps.append:∀ {ds es:List D}{vs ws:List V},Reps K H α ds vs->Reps K H α es ws->Reps K H α (ds++es) (vs++ws)
 | [],_,vs,_,h,g=>by simp only [Reps] at h;subst h;exact g
 | d::ds,_,vs,_,h,g=>by
  simp only [Reps] at h
  obtain ⟨v,r,rfl,h1,h2⟩:=h
  exact Reps.cons h1 (Reps.append h2 g)
theorem Reps.take:∀ {ds:List D}{vs:List V} (n:Nat),Reps K H α ds vs->Reps K H α (ds.take n) (vs.take n)
 | [],vs,n,h=>by simp only [Reps] at h;subst h;simpa using Reps.nil
 | d::ds,vs,n,h=>by
  simp only [Reps] at h
  obtain ⟨v,r,rfl,h1,h2⟩:=h
  cases n with
  | zero=>exact Reps.nil
  | succ n=>exact Reps.cons h1 (Reps.take n h2)
theorem Reps.drop:∀ {ds:List D}{vs:List V} (n:Nat),Reps K H α ds vs->Reps K H α (ds.drop n) (vs.drop n)
 | [],vs,n,h=>by simp only [Reps] at h;subst h;simpa using Reps.nil
 | d::ds,vs,n,h=>by
  cases n with
  | zero=>exact h
  | succ n=>
   simp only [Reps] at h
   obtain ⟨v,r,rfl,h1,h2⟩:=h
   exact Reps.drop n h2
theorem Reps.set {d:D}{v:V} (q:aK K H α d v):∀ {ds:List D}{vs:List V} (n:Nat),Reps K H α ds vs->Reps K H α (ds.set n d) (vs.set n v)
 | [],vs,n,h=>by simp only [Reps] at h;subst h;simpa using Reps.nil
 | e::ds,vs,n,h=>by
  simp only [Reps] at h
  obtain ⟨v',r,rfl,h1,h2⟩:=h
  cases n with
  | zero=>exact Reps.cons q h2
  | succ n=>exact Reps.cons h1 (Reps.set q n h2)
theorem Reps.eraseIdx:∀ {ds:List D}{vs:List V} (n:Nat),Reps K H α ds vs->Reps K H α (ds.eraseIdx n) (vs.eraseIdx n)
 | [],vs,n,h=>by simp only [Reps] at h;subst h;simpa using Reps.nil
 | e::ds,vs,n,h=>by
  simp only [Reps] at h
  obtain ⟨v',r,rfl,h1,h2⟩:=h
  cases n with
  | zero=>exact h2
  | succ n=>exact Reps.cons h1 (Reps.eraseIdx n h2)
theorem Reps.reverse:∀ {ds:List D}{vs:List V},Reps K H α ds vs->Reps K H α ds.reverse vs.reverse
 | [],vs,h=>by simp only [Reps] at h;subst h;exact Reps.nil
 | d::ds,vs,h=>by
  simp only [Reps] at h
  obtain ⟨v,r,rfl,h1,h2⟩:=h
  rw [Ka,Ka]
  exact Reps.append (Reps.reverse h2) (Reps.cons h1 Reps.nil)
theorem Reps.one {d:D}{vs:List V} (h:Reps K H α [d] vs):∃ v,vs=[v]/\aK K H α d v:=by
 simp only [Reps] at h
 obtain ⟨v,r,rfl,h1,rfl⟩:=h
 exact ⟨v,rfl,h1⟩
theorem Reps.two {d e:D}{vs:List V} (h:Reps K H α [d,e] vs):∃ v u,vs=[v,u]/\aK K H α d v/\aK K H α e u:=by
 simp only [Reps] at h
 obtain ⟨v,r,rfl,h1,u,r',rfl,h2,rfl⟩:=h
 exact ⟨v,u,rfl,h1,h2⟩
theorem Reps.snoc {d:D}{ds:List D}{v:V}{vs:List V} (h:Reps K H α ds vs) (q:aK K H α d v):Reps K H α (ds++[d]) (vs++[v]):=h.append (Reps.cons q Reps.nil)
theorem Reps.ints:∀ {ns:List Int}{vs:List V},Reps K H α (ns.map D.int) vs->vs=ns.map V.int
 | [],vs,h=>by simp only [J4,Reps] at h;exact h
 | n::ns,vs,h=>by
  simp only [J5,Reps] at h
  obtain ⟨v,r,rfl,h1,h2⟩:=h
  simp only [aK] at h1
  rw [h1,Reps.ints h2];rfl
theorem iV:∀ (ns:List Int),Reps K H α (ns.map D.int) (ns.map V.int)
 | []=>Reps.nil
 | n::ns=>Reps.cons (by simp only [aK]) (iV ns)
theorem aE {xs:List D}{v:V}:aK K H α (.tup xs) v↔∃ a vs,v=.ref a/\fB K H a vs/\Reps K H α xs vs:=by simp only [aK]
theorem bA {xs:List D}{v:V}:aK K H α (.frz xs) v↔∃ a vs,v=.ref a/\CT K H a vs/\Reps K H α xs vs:=by simp only [aK]
theorem aQ {n:Nat}{v:V}:aK K H α (.obj n) v↔∃ a,v=.ref a/\α[n]?=some a:=by simp only [aK]
theorem aq {n:Int}{v:V}:aK K H α (.int n) v↔v=.int n:=by simp only [aK]
theorem bc {n:Bool}{v:V}:aK K H α (.bl n) v↔v=.bl n:=by simp only [aK]
theorem dk {n:Str}{v:V}:aK K H α (.str n) v↔v=.str n:=by simp only [aK]
theorem cL {v:V}:aK K H α .non v↔v=.non:=by simp only [aK]
end
def pX (K:W.Frag) (w:World) (H:Hp) (α:List Addr):O->Addr->Prop
 | .lst xs,a=>∃ vs,H a=some (.lst vs)/\Reps K H α xs vs
 | .set ks,a=>∃ ps:List KP,ps.map (·.1)=ks/\H a=some (.ext fun h=>bR w h a ps)/\(∀ p∈ps,p.1∈prs)/\(ps.map (·.1)).Nodup/\∀ p∈ps,fB K H p.2 (p.1.map V.int)
 | .iset ks,a=>∃ ps:List KI,ps.map (·.1)=ks/\H a=some (.ext fun h=>c9 w h a ps)/\ks.length<=6
 | .dic,a=>H a=some (.dK [])
structure gh (K:W.Frag) (w:World) (H:Hp) (α:List Addr) (μ:aA):Prop where
 len:α.length=μ.length
 nd:α.Nodup
 ob:∀ (n:Nat) o a,μ[n]?=some o->α[n]?=some a->pX K w H α o a
section
variable {K:W.Frag}{w:World}{H H':Hp}{α α':List Addr}{μ:aA}
theorem pX.live {o:O}{a:Addr} (h:pX K w H α o a):H a≠none:=by
 cases o with
 | lst xs=>obtain ⟨vs,e,_⟩:=h;rw [e];exact fun z=>by cases z
 | set ks=>obtain ⟨ps,_,e,_⟩:=h;rw [e];exact fun z=>by cases z
 | iset ks=>obtain ⟨ps,_,e,_⟩:=h;rw [e];exact fun z=>by cases z
 | dic=>have e:H a=some (.dK []):=h;rw [e];exact fun z=>by cases z
theorem pX.mono {o:O}{a:Addr} (h:pX K w H α o a) (e:lx K H H' α α') (ha:H' a=H a):pX K w H' α' o a:=by
 cases o with
 | lst xs=>obtain ⟨vs,q,r⟩:=h;exact ⟨vs,ha.trans q,r.mono e⟩
 | set ks=>obtain ⟨ps,h1,q,h2,h3,h4⟩:=h;exact ⟨ps,h1,ha.trans q,h2,h3,fun p hp=>e.tup _ _ (h4 p hp)⟩
 | iset ks=>obtain ⟨ps,h1,q,h2⟩:=h;exact ⟨ps,h1,ha.trans q,h2⟩
 | dic=>exact ha.trans h
theorem gh.at (S:gh K w H α μ) {n:Nat}{o:O} (e:μ[n]?=some o):∃ a,α[n]?=some a/\pX K w H α o a:=by
 have hn:n<μ.length:=(IX.mp e).1
 have hn':n<α.length:=by rw [S.len];exact hn
 exact ⟨α[n],L1 hn',S.ob n o _ e (L1 hn')⟩
theorem gh.live (S:gh K w H α μ) {a:Addr} (h:a∈α):H a≠none:=by
 obtain ⟨n,hn,e⟩:=L8 h
 have hm:n<μ.length:=by rw [<- S.len];exact hn
 exact (S.ob n _ a (L1 hm) (by rw [<- e];exact L1 hn)).live
theorem gh.fresh (S:gh K w H α μ) {p:Addr} (h:H p=none):p ∉ α:=fun z=>S.live z h
theorem gh.same (S:gh K w H α μ) (e:lx K H H' α α) (h:∀ a,H a≠none->H' a=H a):gh K w H' α μ:=
 ⟨S.len,S.nd,fun n o a h1 h2=>(S.ob n o a h1 h2).mono e (h a (S.ob n o a h1 h2).live)⟩
theorem bN {p:Addr}{o:HO} (h:H p=none):lx K H (cq H p o) α α:=by
 refine ⟨fun a xs q=>?_,fun a xs q=>?_,fun _ _ z=>z⟩
 ·rcases q with (q | ⟨x, q⟩) | q
  ·exact .inl (.inl (by rw [bE (dU q h)];exact q))
  ·exact .inl (.inr ⟨x,by rw [bE (dU q h)];exact q⟩)
  ·exact .inr q
 ·rcases q with ⟨x, q⟩ | q
  ·exact .inl ⟨x,by rw [bE (dU q h)];exact q⟩
  ·exact .inr q
theorem iN {p:Addr}{vs:List V}{o:HO} (h:H p=some (.lst vs)):lx K H (cq H p o) α α:=by
 refine ⟨fun a xs q=>?_,fun a xs q=>?_,fun _ _ z=>z⟩
 ·rcases q with (q | ⟨x, q⟩) | q
  ·exact .inl (.inl (by rw [bE (qo q h (by intro z;cases z))];exact q))
  ·exact .inl (.inr ⟨x,by rw [bE (qo q h (by intro z;cases z))];exact q⟩)
  ·exact .inr q
 ·rcases q with ⟨x, q⟩ | q
  ·exact .inl ⟨x,by rw [bE (qo q h (by intro z;cases z))];exact q⟩
  ·exact .inr q
theorem kl (β:List Addr):lx K H H α (α++β):=⟨fun _ _ h=>h,fun _ _ h=>h,fun n a h=>by rw [JE (IX.mp h).1];exact h⟩
theorem gh.tuple (S:gh K w H α μ) {p:Addr}{vs:List V} (h:H p=none):gh K w (cq H p (.tup vs)) α μ:=
 S.same (bN h) fun a ha=>bE fun z=>ha (by rw [z];exact h)
theorem gh.more (S:gh K w H α μ) {p:Addr}{o:O}{ho:HO} (h:H p=none) (q:pX K w (cq H p ho) (α++[p]) o p):gh K w (cq H p ho) (α++[p]) (μ++[o]):=by
 refine ⟨by simp [S.len],?_,fun n o' a h1 h2=>?_⟩
 ·rw [Lr]
  exact ⟨S.nd,by simp,fun x hx y hy z=>by simp at hy;subst hy;subst z;exact S.fresh h hx⟩
 ·by_cases hn : n < μ.length
  ·rw [JE hn] at h1
   rw [JE (by rw [S.len];exact hn)] at h2
   exact (S.ob n o' a h1 h2).mono ((bN h).trans (kl [p])) (bE fun z=>(S.ob n o' a h1 h2).live (by rw [z];exact h))
  ·have hn':n=μ.length:=by
    have:=(IX.mp h1).1
    simp at this;omega
   subst hn'
   rw [JD (Jp _)] at h1
   rw [JD (by rw [S.len];exact Jp _),S.len] at h2
   simp at h1 h2
   subst h1;subst h2
   exact q
theorem gh.put (S:gh K w H α μ) {n:Nat}{a:Addr}{xs ys:List D}{us vs:List V} (h1:μ[n]?=some (.lst xs)) (h2:α[n]?=some a) (h3:H a=some (.lst us)) (q:Reps K H α ys vs):gh K w (cq H a (.lst vs)) α (μ.set n (.lst ys)):=by
 have e:=iN (K:=K) (α:=α) (o:=.lst vs) h3
 refine ⟨by simp [S.len],S.nd,fun m o b g1 g2=>?_⟩
 have hn:n<μ.length:=(IX.mp h1).1
 by_cases hm:m=n
 ·subst hm
  rw [IZ hn] at g1
  cases g1
  rw [h2] at g2;cases g2
  exact ⟨vs,b9,q.mono e⟩
 ·rw [I0 (fun z => hm z.symm)] at g1
  refine (S.ob m o b g1 g2).mono e (bE fun z=>hm ?_)
  subst z
  have i1:=(IX.mp g2)
  have i2:=(IX.mp h2)
  obtain ⟨l1,e1⟩:=i1
  obtain ⟨l2,e2⟩:=i2
  exact (IY S.nd).mp (e1.trans e2.symm)
end
structure cZ (K:W.Frag) (H:Hp) (α:List Addr) (ρ:Ro) (σ:St):Prop where
 len:ρ.length=σ.length
 at':∀ (i:Nat) d,ρ[i]?=some (some d)->∃ v,σ[i]?=some (some v)/\aK K H α d v
theorem cZ.mono {K:W.Frag}{H H':Hp}{α α':List Addr}{ρ:Ro}{σ:St} (e:lx K H H' α α') (R:cZ K H α ρ σ):cZ K H' α' ρ σ:=
 ⟨R.len,fun i d h=>let ⟨v,h1,h2⟩:=R.at' i d h;⟨v,h1,h2.mono e⟩⟩
theorem cZ.set {K:W.Frag}{H:Hp}{α:List Addr}{ρ:Ro}{σ:St}{d:D}{v:V} (R:cZ K H α ρ σ) (i:Nat) (q:aK K H α d v):cZ K H α (ρ.set i (some d)) (σ.set i (some v)):=by
 refine ⟨by simp [R.len],fun j d' h=>?_⟩
 by_cases hj:j=i
 ·subst hj
  have hl:j<ρ.length:=by have:=(IX.mp h).1;simpa using this
  rw [IZ hl] at h
  cases h
  exact ⟨v,by rw [IZ (by rw [<- R.len];exact hl)],q⟩
 ·rw [I0 (fun z => hj z.symm)] at h ⊢
  exact R.at' j d' h
structure DX where
 cls:Str
 args:List D
inductive ak (β:Type) where
 | ok (a:β) (μ:aA) | exc (x:DX) (μ:aA) | bad
def ak.bind {β γ:Type} (o:ak β) (g:β->aA->ak γ):ak γ:=match o with
 | .ok a μ=>g a μ
 | .exc x μ=>.exc x μ
 | .bad=>.bad
@[simp] theorem aa {β γ:Type}{a:β}{μ:aA}{g:β->aA->ak γ}:(ak.ok a μ).bind g=g a μ:=L9 (Ma _)
inductive SO where
 | next (ρ:Ro) (μ:aA) | ret (d:D) (μ:aA) | brk (ρ:Ro) (μ:aA) | cnt (ρ:Ro) (μ:aA) | exc (x:DX) (μ:aA) | bad
def ak.bindS {β:Type} (o:ak β) (g:β->aA->SO):SO:=match o with
 | .ok a μ=>g a μ
 | .exc x μ=>.exc x μ
 | .bad=>.bad
@[simp] theorem ab {β:Type}{a:β}{μ:aA}{g:β->aA->SO}:(ak.ok a μ).bindS g=g a μ:=L9 (Ma _)
def SO.bind (o:SO) (g:Ro->aA->SO):SO:=match o with
 | .next ρ μ=>g ρ μ
 | o=>o
structure Pa where
 K:W.Frag
 w:World
 xw:DX->aA->Prop
abbrev Pa.S (p:Pa):=gh p.K p.w
abbrev Pa.X (p:Pa):=lx p.K
abbrev Pa.R (p:Pa):=aK p.K
abbrev Pa.Rs (p:Pa):=Reps p.K
def aD {β:Type} (p:Pa) (H:Hp) (α:List Addr) (o:ak β) (R:β->aA->Hp->List Addr->Prop):Prop:=match o with
 | .ok a μ'=>∀ H' α',p.X H H' α α'->p.S H' α' μ'->R a μ' H' α'
 | .exc x μ'=>p.xw x μ'
 | .bad=>False
def fu (p:Pa) (H:Hp) (α:List Addr) (o:SO) (D:n8):Prop:=match o with
 | .next ρ' μ'=>∀ H' α' σ',p.X H H' α α'->p.S H' α' μ'->cZ p.K H' α' ρ' σ'->D.nx σ' H'
 | .brk ρ' μ'=>∀ H' α' σ',p.X H H' α α'->p.S H' α' μ'->cZ p.K H' α' ρ' σ'->D.bk σ' H'
 | .cnt ρ' μ'=>∀ H' α' σ',p.X H H' α α'->p.S H' α' μ'->cZ p.K H' α' ρ' σ'->D.ct σ' H'
 | .ret d μ'=>∀ H' α' v,p.X H H' α α'->p.S H' α' μ'->p.R H' α' d v->D.rt v H'
 | .exc x μ'=>p.xw x μ'
 | .bad=>False
section
variable {p:Pa}{H H1:Hp}{α α1:List Addr}{β γ:Type}
theorem aD.imp {o:ak β}{R R':β->aA->Hp->List Addr->Prop} (h:aD p H α o R) (k:∀ a μ' H' α',p.X H H' α α'->p.S H' α' μ'->R a μ' H' α'->R' a μ' H' α'):aD p H α o R':=by
 cases o with
 | ok a μ=>exact fun H' α' e s=>k a μ H' α' e s (h H' α' e s)
 | exc x μ=>exact h
 | bad=>exact h
theorem aD.from {o:ak β}{R:β->aA->Hp->List Addr->Prop} (e:p.X H H1 α α1) (h:aD p H α o R):aD p H1 α1 o R:=by
 cases o with
 | ok a μ=>exact fun H' α' e' s=>h H' α' (e.trans e') s
 | exc x μ=>exact h
 | bad=>exact h
theorem aD.bind {o:ak β}{g:β->aA->ak γ}{R:γ->aA->Hp->List Addr->Prop} (h:aD p H α (o.bind g) R):aD p H α o (fun a μ1 H1 α1=>aD p H1 α1 (g a μ1) R):=by
 cases o with
 | ok a μ=>exact fun H' α' e s=>aD.from e h
 | exc x μ=>exact h
 | bad=>exact h
theorem aD.now {a:β}{μ:aA}{R:β->aA->Hp->List Addr->Prop} (h:aD p H α (.ok a μ) R) (s:p.S H α μ):R a μ H α:=h H α lx.refl s
theorem fu.from {o:SO}{D:n8} (e:p.X H H1 α α1) (h:fu p H α o D):fu p H1 α1 o D:=by
 cases o with
 | next ρ μ=>exact fun H' α' σ' e' s r=>h H' α' σ' (e.trans e') s r
 | brk ρ μ=>exact fun H' α' σ' e' s r=>h H' α' σ' (e.trans e') s r
 | cnt ρ μ=>exact fun H' α' σ' e' s r=>h H' α' σ' (e.trans e') s r
 | ret d μ=>exact fun H' α' v e' s r=>h H' α' v (e.trans e') s r
 | exc x μ=>exact h
 | bad=>exact h
theorem aD.bindS {o:ak β}{g:β->aA->SO}{D:n8} (h:fu p H α (o.bindS g) D):aD p H α o (fun a μ1 H1 α1=>fu p H1 α1 (g a μ1) D):=by
 cases o with
 | ok a μ=>exact fun H' α' e s=>fu.from e h
 | exc x μ=>exact h
 | bad=>exact h
end
abbrev ME:=Ro->aA->ak D
abbrev MT:=Ro->aA->ak Bool
abbrev MA:=Ro->aA->ak (List D)
abbrev MS:=Ro->aA->SO
abbrev MG:=D->Ro->aA->ak Ro
abbrev RV (p:Pa) (Q:VK):D->aA->Hp->List Addr->Prop:=fun d _ H' α'=>∀ v,p.R H' α' d v->Q v H'
def tD (p:Pa) (f:ME):TE:=fun σ H Q=>∃ α ρ μ,p.S H α μ/\cZ p.K H α ρ σ/\aD p H α (f ρ μ) (RV p Q)
def iH (p:Pa) (f:MT):TT:=fun σ H Q=>∃ α ρ μ,p.S H α μ/\cZ p.K H α ρ σ/\aD p H α (f ρ μ) (fun b _ H' _=>Q b H')
def nH (p:Pa) (f:MA):TA:=fun σ H Q=>∃ α ρ μ,p.S H α μ/\cZ p.K H α ρ σ/\aD p H α (f ρ μ) (fun ds _ H' α'=>∀ vs,p.Rs H' α' ds vs->Q vs H')
def iE (p:Pa) (f:MS):TS:=fun D σ H=>∃ α ρ μ,p.S H α μ/\cZ p.K H α ρ σ/\fu p H α (f ρ μ) D
def pU (p:Pa) (g:MG):TG:=fun v σ H Q=>∃ α ρ μ d,p.S H α μ/\cZ p.K H α ρ σ/\p.R H α d v/\aD p H α (g d ρ μ) (fun ρ' _ H' α'=>∀ σ',cZ p.K H' α' ρ' σ'->Q σ' H')
theorem PE.weak {X:Cx}{e:Expr}{t t':TE} (h:PE X e t) (k:∀ σ H Q,t' σ H Q->t σ H Q):PE X e t':=fun pins s σ H Q I q=>h pins s σ H Q I (k σ H Q q)
theorem PT.weak {X:Cx}{e:Expr}{t t':TT} (h:PT X e t) (k:∀ σ H Q,t' σ H Q->t σ H Q):PT X e t':=fun pins s σ H Q I q=>h pins s σ H Q I (k σ H Q q)
theorem PW.weak {X:Cx}{e:Expr}{t t':TT} (h:PW X e t) (k:∀ σ H Q,t' σ H Q->t σ H Q):PW X e t':=fun wh pins s σ H Q I q=>h wh pins s σ H Q I (k σ H Q q)
theorem PA.weak {X:Cx}{e:List Expr}{t t':TA} (h:PA X e t) (k:∀ σ H Q,t' σ H Q->t σ H Q):PA X e t':=fun pos pins s σ H Q I q=>h pos pins s σ H Q I (k σ H Q q)
theorem PS.weak {X:Cx}{e:Stmt}{t t':TS} (h:PS X e t) (k:∀ D σ H,t' D σ H->t D σ H):PS X e t':=fun pins s σ H Q I q=>h pins s σ H Q I (k Q σ H q)
theorem jZ.weak {X:Cx}{e:List Stmt}{t t':TS} (h:jZ X e t) (k:∀ D σ H,t' D σ H->t D σ H):jZ X e t':=fun pins s σ H Q I q=>h pins s σ H Q I (k Q σ H q)
def af (i:Nat):ME:=fun ρ μ=>match ρ[i]? with
 | some (some d)=>.ok d μ
 | _=>.bad
def cC (d:D):ME:=fun _ μ=>.ok d μ
def au (op:D->D->aA->ak D) (fa fb:ME):ME:=fun ρ μ=>(fa ρ μ).bind fun a μ1=>(fb ρ μ1).bind fun b μ2=>op a b μ2
def yi (op:D->aA->ak D) (fa:ME):ME:=fun ρ μ=>(fa ρ μ).bind fun a μ1=>op a μ1
def aw:MA:=fun _ μ=>.ok [] μ
def ae (fa:ME) (fr:MA):MA:=fun ρ μ=>(fa ρ μ).bind fun a μ1=>(fr ρ μ1).bind fun r μ2=>.ok (a::r) μ2
def ax (f:List D->aA->ak D) (fa:MA):ME:=fun ρ μ=>(fa ρ μ).bind f
def d6 (fa:MA):ME:=ax (fun ds μ=>if ds.length<=sizeLine then .ok (.tup ds) μ else .bad) fa
def i8 (fa:MA):ME:=ax (fun ds μ=>if ds.length<=sizeLine then .ok (.obj μ.length) (μ++[.lst ds]) else .bad) fa
def AB:D->aA->ak Bool
 | .bl b,μ=>.ok b μ
 | _,_=>.bad
def f6 (f:ME):MT:=fun ρ μ=>(f ρ μ).bind AB
def jK (f g:MT):MT:=fun ρ μ=>(f ρ μ).bind fun b μ1=>if b=true then g ρ μ1 else .ok false μ1
def rF (f g:MT):MT:=fun ρ μ=>(f ρ μ).bind fun b μ1=>if b=true then .ok true μ1 else g ρ μ1
def jb (f:MT):MT:=fun ρ μ=>(f ρ μ).bind fun b μ1=>.ok (!b) μ1
def iM (f g:ME):ME:=fun ρ μ=>(f ρ μ).bind fun a μ1=>(AB a μ1).bind fun b μ2=>if b=true then g ρ μ2 else .ok (.bl false) μ2
def vX (f:ME):ME:=fun ρ μ=>(f ρ μ).bind fun a μ1=>(AB a μ1).bind fun b μ2=>.ok (.bl (!b)) μ2
def qh (p:Pa) (op:D->D->aA->ak D) (r:R2):Prop:=∀ a b v y H α μ Q,p.S H α μ->p.R H α a v->p.R H α b y->aD p H α (op a b μ) (RV p Q)->r v y H Q
def HY (p:Pa) (op:D->aA->ak D) (r:V->Hp->VK->Prop):Prop:=∀ a v H α μ Q,p.S H α μ->p.R H α a v->aD p H α (op a μ) (RV p Q)->r v H Q
def vS (p:Pa) (f:List D->aA->ak D) (r:List V->Hp->VK->Prop):Prop:=∀ ds vs H α μ Q,p.S H α μ->p.Rs H α ds vs->aD p H α (f ds μ) (RV p Q)->r vs H Q
section
variable {p:Pa}
theorem rR {d:D}{μ:aA}{H:Hp}{α:List Addr}{R:Bool->aA->Hp->List Addr->Prop}{v:V} (h:aD p H α (AB d μ) R) (r:p.R H α d v) (s:p.S H α μ):∃ b,d=.bl b/\v=.bl b/\R b μ H α:=by
 cases d with
 | bl b=>exact ⟨b,rfl,bc.mp r,h.now s⟩
 | non=>exact h.elim
 | int i=>exact h.elim
 | str x=>exact h.elim
 | tup xs=>exact h.elim
 | frz xs=>exact h.elim
 | obj n=>exact h.elim
variable {X:Cx}{a b c:Expr}{es:List Expr}{fa fb fc:ME}{pos:Pos}
theorem D6 {i:Nat}{x:Str} (h:PE X (.Name x pos) (FL i)):PE X (.Name x pos) (tD p (af i)):=h.weak fun σ H Q ⟨α,ρ,μ,S,R,P⟩=>by
 unfold af at P
 cases e:ρ[i]? with
 | none=>rw [e] at P;exact P.elim
 | some o=>
  rw [e] at P
  cases o with
  | none=>exact P.elim
  | some d=>
   obtain ⟨v,h1,h2⟩:=R.at' i d e
   exact ⟨v,h1,P.now S v h2⟩
theorem AN {e:Expr}{v:V}{d:D} (h:PE X e (tC v)) (r:∀ H α,p.R H α d v):PE X e (tD p (cC d)):=h.weak fun σ H Q ⟨α,ρ,μ,S,R,P⟩=>P.now S v (r H α)
theorem mM {op:Operator}{o:D->D->aA->ak D}{r:R2} (ho:jQ X (binaryOp op) r) (hd:qh p o r) (ha:PE X a (tD p fa)) (hb:PE X b (tD p fb)):PE X (.BinOp a op b pos) (tD p (au o fa fb)):=
 (GN ho ha hb).weak fun σ H Q ⟨α,ρ,μ,S,R,P⟩=>⟨α,ρ,μ,S,R,P.bind.imp fun x μ1 H1 α1 X1 S1 P1 v rv=>⟨α1,ρ,μ1,S1,R.mono X1,P1.bind.imp fun y μ2 H2 α2 X2 S2 P2 u ru=>hd x y v u H2 α2 μ2 Q S2 (rv.mono X2) ru P2⟩⟩
theorem Eb {op:CmpOp}{o:D->D->aA->ak D}{r:R2} (ho:jQ X (compareOp op) r) (hd:qh p o r) (ha:PE X a (tD p fa)) (hb:PE X b (tD p fb)) (hm:behindInMarks op b=false):PE X (.Compare a [op] [b] pos) (tD p (au o fa fb)):=
 (BW ho ha hb hm).weak fun σ H Q ⟨α,ρ,μ,S,R,P⟩=>⟨α,ρ,μ,S,R,P.bind.imp fun x μ1 H1 α1 X1 S1 P1 v rv=>⟨α1,ρ,μ1,S1,R.mono X1,P1.bind.imp fun y μ2 H2 α2 X2 S2 P2 u ru=>hd x y v u H2 α2 μ2 Q S2 (rv.mono X2) ru P2⟩⟩
theorem DN {op:CmpOp}{o:D->D->aA->ak D}{r:R2} (ho:jQ X (compareOp op) r) (hd:qh p o r) (ha:PE X a (tD p fa)) (hb:PE X b (tD p fb)) (hm:behindInMarks op b=false):PT X (.Compare a [op] [b] pos) (iH p (f6 (au o fa fb))):=
 (BI ho ha hb hm).weak fun σ H Q ⟨α, ρ, μ, S, R, P⟩ => ⟨α, ρ, μ, S, R, P.bind.bind.imp fun x μ1 H1 α1 X1 S1 P1 v rv => ⟨α1, ρ, μ1, S1, R.mono X1, P1.bind.imp fun y μ2 H2 α2 X2 S2 P2 u ru =>
  hd x y v u H2 α2 μ2 _ S2 (rv.mono X2) ru (P2.imp fun d μ3 H3 α3 X3 S3 P3 z rz=>by
   obtain ⟨k,_,e,q⟩:=rR P3 rz S3
   exact ⟨k,e,q⟩)⟩⟩
theorem GD {op:UnaryOp}{o:D->aA->ak D}{r:V->Hp->VK->Prop} (ho:He X (unaryOp op) r) (hd:HY p o r) (ha:PE X a (tD p fa)):PE X (.UnaryOp op a pos) (tD p (yi o fa)):=
 (GM ho ha).weak fun σ H Q ⟨α,ρ,μ,S,R,P⟩=>⟨α,ρ,μ,S,R,P.bind.imp fun x μ1 H1 α1 X1 S1 P1 v rv=>hd x v H1 α1 μ1 Q S1 rv P1⟩
theorem Ed:PA X [] (nH p aw):=uX.weak fun σ H Q ⟨α,ρ,μ,S,R,P⟩=>P.now S [] Reps.nil
theorem By {fr:MA} (ha:PE X a (tD p fa)) (hr:PA X es (nH p fr)) (hs:starEach (a::es) X.env=(false,eval a X.env)::starEach es X.env):PA X (a::es) (nH p (ae fa fr)):=
 (nR ha hr hs).weak fun σ H Q ⟨α,ρ,μ,S,R,P⟩=>⟨α,ρ,μ,S,R,P.bind.imp fun x μ1 H1 α1 X1 S1 P1 v rv=>⟨α1,ρ,μ1,S1,R.mono X1,P1.bind.imp fun y μ2 H2 α2 X2 S2 P2 us ru=>P2.now S2 _ (Reps.cons (rv.mono X2) ru)⟩⟩
theorem D7 {k:Nat}{fr:MA} (h:PA X es (nH p fr)):PE X (.Tuple es k pos) (tD p (d6 fr)):=
 (Ey h).weak fun σ H Q ⟨α, ρ, μ, S, R, P⟩ => ⟨α, ρ, μ, S, R, P.bind.imp fun ds μ1 H1 α1 X1 S1 P1 vs rv => by
  by_cases hl:ds.length<=sizeLine
  ·rw [ID hl] at P1
   refine ⟨by rw [rv.length];exact hl,fun q hq=>?_⟩
   exact P1 _ _ (bN hq) (S1.tuple hq) _ (aE.mpr ⟨q,vs,rfl,fB.of b9,rv.mono (bN hq)⟩)
  ·rw [IE hl] at P1
   exact P1.elim⟩
theorem eH {H:Hp}{α:List Addr}{μ:aA}{ds:List D}{vs:List V}{q:Addr} (S:p.S H α μ) (hq:H q=none) (rv:p.Rs H α ds vs) :
  p.X H (cq H q (.lst vs)) α (α++[q])/\p.S (cq H q (.lst vs)) (α++[q]) (μ++[.lst ds])/\p.R (cq H q (.lst vs)) (α++[q]) (.obj μ.length) (.ref q):=by
 have X1:p.X H (cq H q (.lst vs)) α (α++[q]):=(bN hq).trans (kl [q])
 exact ⟨X1,S.more hq ⟨vs,b9,rv.mono X1⟩,aQ.mpr ⟨q,rfl,by rw [<- S.len];simp⟩⟩
theorem D9 {fr:MA} (h:PA X es (nH p fr)):PE X (.List es pos) (tD p (i8 fr)):=
 (EC h).weak fun σ H Q ⟨α, ρ, μ, S, R, P⟩ => ⟨α, ρ, μ, S, R, P.bind.imp fun ds μ1 H1 α1 X1 S1 P1 vs rv => by
  by_cases hl:ds.length<=sizeLine
  ·rw [ID hl] at P1
   refine ⟨by rw [rv.length];exact hl,fun q hq=>?_⟩
   obtain ⟨x1,x2,x3⟩:=eH S1 hq rv
   exact P1 _ _ x1 x2 _ x3
  ·rw [IE hl] at P1
   exact P1.elim⟩
variable {ft gt:MT}{rest:List Expr}
theorem DJ (ha:PT X a (iH p ft)) (hb:PW X (.BoolOp .And (b::rest) pos) (iH p gt)):PW X (.BoolOp .And (a::b::rest) pos) (iH p (jK ft gt)):=
 (El ha hb).weak fun σ H Q ⟨α, ρ, μ, S, R, P⟩ => ⟨α, ρ, μ, S, R, P.bind.imp fun k μ1 H1 α1 X1 S1 P1 => by
  cases k with
  | true=>rw [ID rfl] at P1 ⊢;exact ⟨α1,ρ,μ1,S1,R.mono X1,P1⟩
  | false=>rw [IE Jj] at P1 ⊢;exact P1.now S1⟩
theorem Gx (ha:PT X a (iH p ft)) (hb:PW X (.BoolOp .Or (b::rest) pos) (iH p gt)):PW X (.BoolOp .Or (a::b::rest) pos) (iH p (rF ft gt)):=
 (GK ha hb).weak fun σ H Q ⟨α, ρ, μ, S, R, P⟩ => ⟨α, ρ, μ, S, R, P.bind.imp fun k μ1 H1 α1 X1 S1 P1 => by
  cases k with
  | true=>rw [ID rfl] at P1 ⊢;exact P1.now S1
  | false=>rw [IE Jj] at P1 ⊢;exact ⟨α1,ρ,μ1,S1,R.mono X1,P1⟩⟩
theorem DM (ha:PT X a (iH p ft)):PT X (.UnaryOp .Not a pos) (iH p (jb ft)):=
 (Em ha).weak fun σ H Q ⟨α,ρ,μ,S,R,P⟩=>⟨α,ρ,μ,S,R,P.bind.imp fun k μ1 H1 α1 X1 S1 P1=>P1.now S1⟩
theorem Ec (ha:PE X a (tD p fa)) (hb:PE X (.BoolOp .And (b::rest) pos) (tD p fb)):PE X (.BoolOp .And (a::b::rest) pos) (tD p (iM fa fb)):=
 (EE ha hb).weak fun σ H Q ⟨α, ρ, μ, S, R, P⟩ => ⟨α, ρ, μ, S, R, P.bind.imp fun d μ1 H1 α1 X1 S1 P1 v rv => by
  obtain ⟨k,_,e,q⟩:=rR P1.bind rv S1
  refine ⟨k,e,?_⟩
  cases k with
  | true=>rw [ID rfl] at q ⊢;exact ⟨α1,ρ,μ1,S1,R.mono X1,q⟩
  | false=>rw [IE Jj] at q ⊢;exact q.now S1 _ (bc.mpr rfl)⟩
theorem D8 (ha:PE X a (tD p fa)):PE X (.UnaryOp .Not a pos) (tD p (vX fa)):=
 (EA ha).weak fun σ H Q ⟨α, ρ, μ, S, R, P⟩ => ⟨α, ρ, μ, S, R, P.bind.imp fun d μ1 H1 α1 X1 S1 P1 v rv => by
  obtain ⟨k,_,e,q⟩:=rR P1.bind rv S1
  exact ⟨k,e,q.now S1 _ (bc.mpr rfl)⟩⟩
theorem zH {id:String}{x:Str}{px:Pos}{f:List D->aA->ak D}{fr:MA}{r:List V->Hp->VK->Prop} (hc:dj X (.builtin id) r) (hd:vS p f r) (hg:Gl X x) (hm:X.mg x=none) (hv:bootBuiltins x=some (.builtin id)) (ha:PA X (a::es) (nH p fr))
  (hn:x ≠ "__name__") (hdb:(x == ("__debug__" : Str))=false) (he:starEach (a::es) X.env=(false,eval a X.env)::starEach es X.env) (hpl:(backTo pos (starEach es X.env)).any (·.1)=false):PE X (.Call (.Name x px) (a::es) [] pos) (tD p (ax f fr)):=
 (tN hc hg hm hv ha hn hdb he hpl).weak fun σ H Q ⟨α,ρ,μ,S,R,P⟩=>⟨α,ρ,μ,S,R,P.bind.imp fun ds μ1 H1 α1 X1 S1 P1 vs rv=>hd ds vs H1 α1 μ1 Q S1 rv P1⟩
theorem xn {T:String}{x:Str}{px:Pos}{f:List D->aA->ak D}{fr:MA}{r:List V->Hp->VK->Prop} (hc:dj X (.type T) r) (hd:vS p f r) (hg:Gl X x) (hm:X.mg x=none) (hv:bootBuiltins x=some (.type T)) (ha:PA X (a::es) (nH p fr))
  (hn:x ≠ "__name__") (hdb:(x == ("__debug__" : Str))=false) (he:starEach (a::es) X.env=(false,eval a X.env)::starEach es X.env) (hpl:(backTo pos (starEach es X.env)).any (·.1)=false):PE X (.Call (.Name x px) (a::es) [] pos) (tD p (ax f fr)):=
 (qE hc hg hm hv ha hn hdb he hpl).weak fun σ H Q ⟨α,ρ,μ,S,R,P⟩=>⟨α,ρ,μ,S,R,P.bind.imp fun ds μ1 H1 α1 X1 S1 P1 vs rv=>hd ds vs H1 α1 μ1 Q S1 rv P1⟩
end
def bZ (f:ME):MS:=fun ρ μ=>(f ρ μ).bindS fun d μ'=>.ret d μ'
def dC:MS:=fun ρ μ=>.next ρ μ
def uO:MS:=fun _ _=>.bad
def br (f g:MS):MS:=fun ρ μ=>(f ρ μ).bind g
def jY (c:MT) (f g:MS):MS:=fun ρ μ=>(c ρ μ).bindS fun b μ1=>if b=true then f ρ μ1 else g ρ μ1
def bw (f:ME) (g:MG):MS:=fun ρ μ=>(f ρ μ).bindS fun d μ1=>(g d ρ μ1).bindS fun ρ' μ2=>.next ρ' μ2
def qm (f:ME):MS:=fun ρ μ=>(f ρ μ).bindS fun _ μ1=>.next ρ μ1
def rB (i:Nat) (op:D->D->aA->ak D) (f:ME):MS:=fun ρ μ=>(af i ρ μ).bindS fun a μ0=>(f ρ μ0).bindS fun b μ1=>(op a b μ1).bindS fun c μ2=>.next (ρ.set i (some c)) μ2
def ag (i:Nat):MG:=fun d ρ μ=>.ok (ρ.set i (some d)) μ
abbrev AJ:=List D->Ro->aA->ak Ro
def cX:AJ:=fun ds ρ μ=>match ds with
 | []=>.ok ρ μ
 | _::_=>.bad
def aL (g:MG) (u:AJ):AJ:=fun ds ρ μ=>match ds with
 | []=>.bad
 | d::r=>(g d ρ μ).bind fun ρ' μ'=>u r ρ' μ'
def cW (n:Nat) (u:AJ):MG:=fun d ρ μ=>match d with
 | .tup xs=>if xs.length=n then u xs ρ μ else .bad
 | _=>.bad
def uN (o i v:D) (μ:aA):ak Unit:=match o,i with
 | .obj n,.int k=>match μ[n]? with
  | some (.lst xs)=>match vR xs.length k with
   | some j=>.ok () (μ.set n (.lst (xs.set j v)))
   | none=>.bad
  | _=>.bad
 | _,_=>.bad
def k9 (fo fi:ME):MG:=fun d ρ μ=>(fo ρ μ).bind fun o μ1=>(fi ρ μ1).bind fun i μ2=>(uN o i d μ2).bind fun _ μ3=>.ok ρ μ3
def sL (p:Pa) (g:AJ):AF:=fun vs σ H Q=>∃ α ρ μ ds,p.S H α μ/\cZ p.K H α ρ σ/\p.Rs H α ds vs/\aD p H α (g ds ρ μ) (fun ρ' _ H' α'=>∀ σ',cZ p.K H' α' ρ' σ'->Q σ' H')
theorem PG.weak {X:Cx}{e:Expr}{t t':TG} (h:PG X e t) (k:∀ v σ H Q,t' v σ H Q->t v σ H Q):PG X e t':=fun pins s σ H v u Q I r q=>h pins s σ H v u Q I r (k v σ H Q q)
theorem uM.weak {X:Cx}{e:List Expr}{t t':AF} (h:uM X e t) (k:∀ v σ H Q,t' v σ H Q->t v σ H Q):uM X e t':=fun pins s σ H v u Q I r q=>h pins s σ H v u Q I r (k v σ H Q q)
theorem PI.weak {X:Cx}{tg e:Expr}{t t':TI} (h:PI X tg e t) (k:∀ σ H R,t' σ H R->t σ H R):PI X tg e t':=fun pins s σ H Q I q=>h pins s σ H Q I (k σ H Q q)
section
variable {p:Pa}{X:Cx}{a b c e tg:Expr}{es:List Expr}{f:ME}{g:MG}{u:AJ}{pos:Pos}{st:Stmt}{sts:List Stmt}{fs gs:MS}{ft:MT}
theorem DS:jZ X [] (iE p dC):=BK.weak fun D σ H ⟨α,ρ,μ,S,R,P⟩=>P H α σ lx.refl S R
theorem zD {t u:TS}{D:n8}{σ:St}{H:Hp}{α:List Addr}{o:SO}{k:MS} (h:fu p H α (o.bind k) D)
  (hk:∀ D σ H,iE p k D σ H->u D σ H):fu p H α o { D with nx:=u D }:=by
 cases o with
 | next ρ μ=>exact fun H' α' σ' e s r=>hk _ _ _ ⟨α',ρ,μ,s,r,fu.from e h⟩
 | brk ρ μ=>exact h
 | cnt ρ μ=>exact h
 | ret d μ=>exact h
 | exc x μ=>exact h
 | bad=>exact h
theorem Bd (h1:PS X st (iE p fs)) (h2:jZ X sts (iE p gs)):jZ X (st::sts) (iE p (br fs gs)):=
 (zO h1 h2).weak fun D σ H ⟨α,ρ,μ,S,R,P⟩=>⟨α,ρ,μ,S,R,zD (t:=iE p fs) (σ:=σ) P fun _ _ _ z=>z⟩
theorem DR (h1:PS X st (iE p fs)):jZ X [st] (iE p fs):=BJ h1
theorem DQ (h:PE X e (tD p f)):PS X (.Return (some e) pos) (iE p (bZ f)):=
 (Eo h).weak fun D σ H ⟨α,ρ,μ,S,R,P⟩=>⟨α,ρ,μ,S,R,(aD.bindS P).imp fun d μ1 H1 α1 X1 S1 P1 v rv=>P1 H1 α1 v lx.refl S1 rv⟩
theorem zq:PS X st (iE p uO):=zR.weak fun D σ H ⟨α,ρ,μ,S,R,P⟩=>P
theorem Gz {A B:List Stmt} (hc:PT X c (iH p ft)) (ha:jZ X A (iE p fs)) (hb:jZ X B (iE p gs)):PS X (.If c A B pos) (iE p (jY ft fs gs)):=
 (GL hc ha hb).weak fun D σ H ⟨α, ρ, μ, S, R, P⟩ => ⟨α, ρ, μ, S, R, (aD.bindS P).imp fun k μ1 H1 α1 X1 S1 P1 => by
  cases k with
  | true=>rw [ID rfl] at P1 ⊢;exact ⟨α1,ρ,μ1,S1,R.mono X1,P1⟩
  | false=>rw [IE Jj] at P1 ⊢;exact ⟨α1,ρ,μ1,S1,R.mono X1,P1⟩⟩
theorem ub {D:n8}{σ:St}{H:Hp} (h:iE p (bw f g) D σ H):yt (tD p f) (pU p g) D σ H:=by
 obtain ⟨α,ρ,μ,S,R,P⟩:=h
 exact ⟨α,ρ,μ,S,R,(aD.bindS P).imp fun d μ1 H1 α1 X1 S1 P1 v rv=>⟨α1,ρ,μ1,d,S1,R.mono X1,rv,(aD.bindS P1).imp fun ρ' μ2 H2 α2 X2 S2 P2 σ' r'=>P2 H2 α2 σ' lx.refl S2 r'⟩⟩
theorem DV (he:PE X e (tD p f)) (hg:PG X tg (pU p g)) (hs:swapsWithSole [tg] e pos.line X.env=pure false) (hw:swappedStores [tg] e X.env=pure none)
  (h1:(assignEach [tg] X.env).map (·.2)=[assign tg X.env]):PS X (.Assign [tg] e pos) (iE p (bw f g)):=(Es he hg hs hw h1).weak fun D σ H h=>ub h
theorem pd {i:Nat}{v:V}{σ:St}{H:Hp}{Q:St->Hp->Prop} (h:pU p (ag i) v σ H Q):sY i v σ H Q:=by
 obtain ⟨α,ρ,μ,d,S,R,r,P⟩:=h
 exact P.now S _ (R.set i r)
theorem Br {i:Nat}{x:Str} (hN:X.N.Nodup) (hi:X.N[i]?=some x) (hx:yn X.env.scope x) (hf:X.fn x=true\/X.env.scope.names.lookup x=some .local):PG X (.Name x pos) (pU p (ag i)):=
 (BR hN hi hx hf).weak fun v σ H Q h=>pd h
theorem DP {i:Nat}{x:Str}{pos':Pos} (hN:X.N.Nodup) (hi:X.N[i]?=some x) (hx:yn X.env.scope x) (he:PE X e (tD p f)) (hs:swapsWith e (some (.Name x pos')) pos.line X.env=pure false) (hf:X.fn x=true\/X.env.scope.names.lookup x=some .local) :
  PS X (.Assign [.Name x pos'] e pos) (iE p (bw f (ag i))):=(En hN hi hx he hs hf).weak fun D σ H h=>by
 obtain ⟨α,ρ,μ,S,R,P⟩:=ub h
 exact ⟨α,ρ,μ,S,R,P.imp fun d μ1 H1 α1 X1 S1 P1 v rv=>pd (P1 v rv)⟩
theorem Bc (he:PE X e (tD p f)) (hs:swapsWith e none pos.line X.env=pure false):PS X (.Expr e pos) (iE p (qm f)):=
 (BM he hs).weak fun D σ H ⟨α,ρ,μ,S,R,P⟩=>⟨α,ρ,μ,S,R,(aD.bindS P).imp fun d μ1 H1 α1 X1 S1 P1 v rv=>P1 H1 α1 σ lx.refl S1 (R.mono X1)⟩
theorem Bq:uM X [] (sL p cX):=BQ.weak fun vs σ H Q ⟨α,ρ,μ,ds,S,R,r,P⟩=>by
 cases ds with
 | nil=>simp only [Reps] at r;exact ⟨r,P.now S σ R⟩
 | cons d ds=>exact P.elim
theorem zz (h1:PG X e (pU p g)) (h2:uM X es (sL p u)) (hs:(assignEach (e::es) X.env).map (·.2)=assign e X.env::(assignEach es X.env).map (·.2)):uM X (e::es) (sL p (aL g u)):=
 (zT h1 h2 hs).weak fun vs σ H Q ⟨α, ρ, μ, ds, S, R, r, P⟩ => by
  cases ds with
  | nil=>exact P.elim
  | cons d ds=>
   simp only [Reps] at r
   obtain ⟨v,vr,rfl,r1,r2⟩:=r
   refine ⟨v,vr,rfl,α,ρ,μ,d,S,R,r1,?_⟩
   exact (aD.bind (o:=g d ρ μ) P).imp fun ρ' μ1 H1 α1 X1 S1 P1 σ' r'=>⟨α1,ρ',μ1,ds,S1,r',r2.mono X1,P1⟩
theorem D4 {k n:Nat} (hK:X.K=p.K) (hc:X.calm=true) (h:uM X es (sL p u)) (hn:(assignEach es X.env).length=n) (hst:(assignEach es X.env).findIdx? (·.1)=none):PG X (.Tuple es k pos) (pU p (cW n u)):=
 (Eu hc h hn hst).weak fun v σ H Q ⟨α, ρ, μ, d, S, R, r, P⟩ => by
  cases d with
  | tup xs=>
   obtain ⟨a,vs,rfl,h1,h2⟩:=aE.mp r
   have P':aD p H α (if xs.length=n then u xs ρ μ else .bad) _:=P
   by_cases hl:xs.length=n
   ·rw [ID hl] at P'
    exact ⟨a,vs,rfl,by rw [hK];exact h1,by rw [h2.length];exact hl,α,ρ,μ,xs,S,R,h2,P'⟩
   ·rw [IE hl] at P';exact P'.elim
  | non=>exact P.elim
  | bl b=>exact P.elim
  | int i=>exact P.elim
  | str x=>exact P.elim
  | frz xs=>exact P.elim
  | obj n=>exact P.elim
theorem Bt {o i d:D}{μ:aA}{H:Hp}{α:List Addr}{R:Unit->aA->Hp->List Addr->Prop}{vo vi v:V} (S:p.S H α μ) (ro:p.R H α o vo) (ri:p.R H α i vi) (rv:p.R H α d v) (P:aD p H α (uN o i d μ) R) :
  CY vo vi v H fun H'=>∃ μ',p.X H H' α α/\p.S H' α μ'/\R () μ' H' α:=by
 unfold uN at P
 split at P
 ·rename_i n k
  split at P
  ·rename_i xs hx
   split at P
   ·rename_i j hj
    obtain ⟨a,ea,us,hH,rr⟩:=S.at hx
    obtain ⟨a',rfl,ea'⟩:=aQ.mp ro
    rw [ea] at ea';cases ea'
    rw [aq.mp ri]
    have q:=rr.set rv j
    refine ⟨a,us,k,j,rfl,rfl,hH,by rw [rr.length];exact hj,_,iN hH,S.put hx ea hH q,?_⟩
    exact P _ _ (iN hH) (S.put hx ea hH q)
   ·exact P.elim
  ·exact P.elim
 ·exact P.elim
theorem D5 {o i:Expr}{fo fi:ME} (ho:PE X o (tD p fo)) (hi:PE X i (tD p fi))
  (ha : ∀ v, assign (.Subscript o i pos) X.env v = (do
   let ov <- holding [v] (eval o X.env)
   let iv <- holding [v,ov] (eval i X.env)
   standAt pos
   holding [v,ov,iv] (setItem ov iv v)
   release [v,ov,iv] [])):PG X (.Subscript o i pos) (pU p (k9 fo fi)):=
 (Ew ho hi zA ha).weak fun v σ H Q ⟨α, ρ, μ, d, S, R, r, P⟩ => ⟨α, ρ, μ, S, R, (aD.bind P).imp fun od μ1 H1 α1 X1 S1 P1 vo ro => ⟨α1, ρ, μ1, S1, R.mono X1, (aD.bind P1).imp fun id μ2 H2 α2 X2 S2 P2 vi ri => by
  obtain ⟨pp,xs,k,j,e1,e2,e3,e4,μ3,x3,s3,q⟩:=Bt S2 (ro.mono X2) ri ((r.mono X1).mono X2) (aD.bind P2)
  exact ⟨pp,xs,k,j,e1,e2,e3,e4,q.now s3 σ (((R.mono X1).mono X2).mono x3)⟩⟩⟩
theorem DU {i:Nat}{x:Str}{op:Operator}{o:D->D->aA->ak D}{r:R2}{pos':Pos} (hN:X.N.Nodup) (hi:X.N[i]?=some x) (hx:yn X.env.scope x) (he:PE X e (tD p f)) (ho:Hf X op r) (hd:qh p o r) (hf:X.fn x=true\/X.env.scope.names.lookup x=some .local) :
  PS X (.AugAssign (.Name x pos') op e pos) (iE p (rB i o f)):=(Er hN hi hx he ho hf).weak fun D σ H ⟨α,ρ,μ,S,R,P⟩=>by
 unfold rB af at P
 cases er:ρ[i]? with
 | none=>rw [er] at P;exact P.elim
 | some oo=>
  rw [er] at P
  cases oo with
  | none=>exact P.elim
  | some d=>
   obtain ⟨v,h1,h2⟩:=R.at' i d er
   have P':fu p H α ((f ρ μ).bindS fun b μ1=>(o d b μ1).bindS fun c μ2=>.next (ρ.set i (some c)) μ2) D:=P
   refine ⟨v,h1,α,ρ,μ,S,R,(aD.bindS P').imp fun y μ1 H1 α1 X1 S1 P1 u ru=>?_⟩
   exact hd d y v u H1 α1 μ1 _ S1 (h2.mono X1) ru ((aD.bindS P1).imp fun z μ2 H2 α2 X2 S2 P2 t rt=>P2 H2 α2 _ lx.refl S2 (((R.mono X1).mono X2).set i rt))
end
inductive mC where
 | fix (xs:List D) | own (n:Nat) (xs:List D) | eno (n:Nat) (xs:List D)
def iL:Nat->List D->List D
 | _,[]=>[]
 | i,x::r=>.tup [.int i,x]::iL (i+1) r
theorem qU:∀ {xs:List D}{k i:Nat},(iL k xs)[i]?=(xs[i]?).map fun x=>D.tup [.int ((k+i:Nat):Int),x]
 | [],_,_=>by simp [iL]
 | x::r,k,0=>by simp [iL]
 | x::r,k,i+1=>by
  simp only [iL,List.getElem?_cons_succ]
  rw [qU (xs:=r) (k:=k+1) (i:=i)]
  congr 1
  funext y
  congr 4
  omega
theorem qT:∀ {xs:List D}{k:Nat},(iL k xs).length=xs.length
 | [],_=>rfl
 | x::r,k=>by simp [iL,qT (xs:=r)]
def mC.items:mC->List D
 | .fix xs=>xs
 | .own _ xs=>xs
 | .eno _ xs=>iL 0 xs
def di:mC->aA->Prop
 | .fix _,_=>True
 | .own n xs,μ=>μ[n]?=some (.lst xs)
 | .eno n xs,μ=>μ[n]?=some (.lst xs)
def uS (p:Pa) (J:It) (src:mC) (H0:Hp) (α0:List Addr):Prop:=
 ∀ H2 α2 μ2,p.X H0 H2 α0 α2->p.S H2 α2 μ2->di src μ2 ->
  (∀ (i:Nat) d,src.items[i]?=some d->J.go i H2/\∀ x H3,J.yld i H2 x H3->p.X H2 H3 α2 α2/\p.S H3 α2 μ2/\p.R H3 α2 d x)/\J.stop src.items.length H2
abbrev MI:=Ro->aA->ak mC
def sI (p:Pa) (f:MI):TI:=fun σ H R=>∃ α ρ μ,p.S H α μ/\cZ p.K H α ρ σ/\aD p H α (f ρ μ) (fun src μ' H' α'=>∀ J,di src μ'->uS p J src H' α'->R J H')
def SO.loop (o:SO) (k:Ro->aA->SO):SO:=match o with
 | .next ρ μ=>k ρ μ
 | .cnt ρ μ=>k ρ μ
 | .brk ρ μ=>.next ρ μ
 | .ret d μ=>.ret d μ
 | .exc x μ=>.exc x μ
 | .bad=>.bad
open Classical in
noncomputable def lA (src:mC) (g:MG) (fb:MS):List D->Ro->aA->SO
 | [],ρ,μ=>if di src μ then .next ρ μ else .bad
 | d::r,ρ,μ=>if di src μ then (g d ρ μ).bindS fun ρ' μ'=>(fb ρ' μ').loop (lA src g fb r) else .bad
noncomputable def j3 (fi:MI) (g:MG) (fb:MS):MS:=fun ρ μ=>(fi ρ μ).bindS fun src μ1=>lA src g fb src.items ρ μ1
def jw (c:MT) (fb:MS):Nat->Ro->aA->SO
 | 0,_,_=>.bad
 | n+1,ρ,μ=>(c ρ μ).bindS fun b μ1=>if b=true then (fb ρ μ1).loop (jw c fb n) else .next ρ μ1
def mN (n:Nat) (c:MT) (fb:MS):MS:=jw c fb n
section
variable {p:Pa}{X:Cx}{tg iter c:Expr}{fi:MI}{g:MG}{fb:MS}{ft:MT}{body:List Stmt}{pos:Pos}
theorem qI {H:Hp}{α:List Addr}{o:SO}{k:Ro->aA->SO}{D:n8}{N:St->Hp->Prop} (h:fu p H α (o.loop k) D)
  (hN:∀ ρ μ H' α' σ',p.X H H' α α'->p.S H' α' μ->cZ p.K H' α' ρ σ'->fu p H' α' (k ρ μ) D->N σ' H'):fu p H α o { D with nx:=N,ct:=N,bk:=D.nx }:=by
 cases o with
 | next ρ μ=>exact fun H' α' σ' e s r=>hN ρ μ H' α' σ' e s r (fu.from e h)
 | cnt ρ μ=>exact fun H' α' σ' e s r=>hN ρ μ H' α' σ' e s r (fu.from e h)
 | brk ρ μ=>exact h
 | ret d μ=>exact h
 | exc x μ=>exact h
 | bad=>exact h
theorem DT (hp:PassesOwn (model X.prog X.w) X.A X.env X.xe) (hc:X.calm=true) (hi:PI X tg iter (sI p fi)) (hg:PG X tg (pU p g)) (hb:jZ X body (iE p fb)) (hs:∀ x,foldedSetIterable iter X.env x=pure x) :
  PS X (.For tg iter body [] pos) (iE p (j3 fi g fb)):=(Ep hp hc hi hg hb hs).weak fun D σ H ⟨α,ρ,μ,S,R,P⟩=>by
 refine ⟨α,ρ,μ,S,R,(aD.bindS P).imp fun src μ1 H1 α1 X1 S1 P1 J hok hJ=>?_⟩
 refine ⟨fun i m σ2 H2=>m=src.items.length - i/\i<=src.items.length/\∃ α2 ρ2 μ2,p.X H1 H2 α1 α2/\p.S H2 α2 μ2/\cZ p.K H2 α2 ρ2 σ2/\fu p H2 α2 (lA src g fb (src.items.drop i) ρ2 μ2) D,
  ⟨_,rfl,Ky _,α1,ρ,μ1,lx.refl,S1,R.mono X1,by simpa using P1⟩,?_⟩
 rintro i m σ2 H2 ⟨rfl,hi,α2,ρ2,μ2,X2,S2,R2,P2⟩
 by_cases hlt:i<src.items.length
 ·rw [Mb hlt] at P2
  unfold lA at P2
  by_cases ho:di src μ2
  ·rw [ID ho] at P2
   obtain ⟨hgo,hy⟩:=(hJ H2 α2 μ2 X2 S2 ho).1 i _ (L1 hlt)
   refine .inr ⟨hgo,fun σ' H'=>i+1<=src.items.length/\∃ α2 ρ2 μ2,p.X H1 H' α1 α2/\p.S H' α2 μ2/\cZ p.K H' α2 ρ2 σ'/\fu p H' α2 (lA src g fb (src.items.drop (i+1)) ρ2 μ2) D,
    fun σ' H' ⟨h1,h2⟩=>⟨_,by omega,rfl,h1,h2⟩,fun x H3 yx=>?_⟩
   obtain ⟨X3,S3,R3⟩:=hy x H3 yx
   refine ⟨α2,ρ2,μ2,_,S3,R2.mono X3,R3,(aD.from X3 (aD.bindS P2)).imp fun ρ4 μ4 H4 α4 X4 S4 P4 σ4 R4=>⟨α4,ρ4,μ4,S4,R4,qI P4 fun ρ5 μ5 H5 α5 σ5 X5 S5 R5 P5=>⟨hlt,α5,ρ5,μ5,((X2.trans X3).trans X4).trans X5,S5,R5,P5⟩⟩⟩
  ·rw [IE ho] at P2;exact P2.elim
 ·have e : i = src.items.length := by omega
  subst e
  rw [Mc] at P2
  unfold lA at P2
  by_cases ho:di src μ2
  ·rw [ID ho] at P2
   exact .inl ⟨(hJ H2 α2 μ2 X2 S2 ho).2,P2 H2 α2 σ2 lx.refl S2 R2⟩
  ·rw [IE ho] at P2;exact P2.elim
theorem zp {n:Nat} (hp:PassesOwn (model X.prog X.w) X.A X.env X.xe) (hc:PT X c (iH p ft)) (hb:jZ X body (iE p fb)):PS X (.While c body [] pos) (iE p (mN n ft fb)):=
 (zP hp hc hb).weak fun D σ H ⟨α, ρ, μ, S, R, P⟩ => by
  refine ⟨fun m σ2 H2=>∃ α2 ρ2 μ2,p.S H2 α2 μ2/\cZ p.K H2 α2 ρ2 σ2/\fu p H2 α2 (jw ft fb m ρ2 μ2) D,⟨n,α,ρ,μ,S,R,P⟩,?_⟩
  rintro m σ2 H2 ⟨α2,ρ2,μ2,S2,R2,P2⟩
  cases m with
  | zero=>exact P2.elim
  | succ m=>
   unfold jw at P2
   refine ⟨α2,ρ2,μ2,S2,R2,(aD.bindS P2).imp fun k μ3 H3 α3 X3 S3 P3=>?_⟩
   cases k with
   | true=>
    rw [ID rfl] at P3 ⊢
    exact ⟨fun σ' H'=>∃ α2 ρ2 μ2,p.S H' α2 μ2/\cZ p.K H' α2 ρ2 σ'/\fu p H' α2 (jw ft fb m ρ2 μ2) D,fun σ' H' h=>⟨m,Kr _,h⟩,
     α3,ρ2,μ3,S3,R2.mono X3,qI P3 fun ρ5 μ5 H5 α5 σ5 X5 S5 R5 P5=>⟨α5,ρ5,μ5,S5,R5,P5⟩⟩
   | false=>
    rw [IE Jj] at P3 ⊢
    exact P3 H3 α3 σ2 lx.refl S3 (R2.mono X3)
end
section
variable {p:Pa}{X:Cx}{tg iter:Expr}
theorem xN {H:Hp}{α:List Addr}{μ:aA}{n:Nat}{xs:List D}{a:Addr} (S:p.S H α μ) (hn:μ[n]?=some (.lst xs)) (ha:α[n]?=some a):uS p (Hh p.K a) (.own n xs) H α:=by
 intro H2 α2 μ2 X2 S2 ho
 obtain ⟨a',ea,vs,hH,rr⟩:=S2.at ho
 rw [X2.pre n a ha] at ea;cases ea
 refine ⟨fun i d hd=>?_,vs,f7.of hH,by rw [rr.length];exact Jp _⟩
 obtain ⟨v,hv,rv⟩:=rr.get hd
 refine ⟨⟨vs,v,f7.of hH,hv⟩,fun x H3 ⟨e,hx⟩=>?_⟩
 subst e
 have:=hx vs (f7.of hH)
 rw [hv] at this;cases this
 exact ⟨lx.refl,S2,rv⟩
theorem Ah {H:Hp}{α:List Addr}{xs:List D}{vs:List V}{a:Addr} (h:CT p.K H a vs) (r:p.Rs H α xs vs):uS p (Hh p.K a) (.fix xs) H α:=by
 intro H2 α2 μ2 X2 S2 ho
 have h2:=(X2.frz a vs h).sq
 have rr:=r.mono X2
 refine ⟨fun i d hd=>?_,vs,h2,by rw [rr.length];exact Jp _⟩
 obtain ⟨v,hv,rv⟩:=rr.get hd
 refine ⟨⟨vs,v,h2,hv⟩,fun x H3 ⟨e,hx⟩=>?_⟩
 subst e
 have:=hx vs h2
 rw [hv] at this;cases this
 exact ⟨lx.refl,S2,rv⟩
theorem Ag {H:Hp}{α:List Addr}{xs:List D}{vs:List V}{a:Addr} (h:fB p.K H a vs) (r:p.Rs H α xs vs):uS p (Hn p.K a) (.fix xs) H α:=by
 intro H2 α2 μ2 X2 S2 ho
 have h2:=X2.tup a vs h
 have rr:=r.mono X2
 refine ⟨fun i d hd=>?_,vs,h2,by rw [rr.length];exact Jp _⟩
 obtain ⟨v,hv,rv⟩:=rr.get hd
 refine ⟨⟨vs,v,h2,hv⟩,fun x H3 ⟨e,hx⟩=>?_⟩
 subst e
 have:=hx vs h2
 rw [hv] at this;cases this
 exact ⟨lx.refl,S2,rv⟩
def aW (lo:Int) (n:Nat):List D:=(List.range n).map fun (i:Nat)=>D.int (lo+(i:Int))
theorem tX {H:Hp}{α:List Addr} (lo:Int) (n:Nat):uS p (FC lo n) (.fix (aW lo n)) H α:=by
 intro H2 α2 μ2 X2 S2 ho
 refine ⟨fun i d hd=>?_,by simp [mC.items,aW,FC]⟩
 have hd':(aW lo n)[i]?=some d:=hd
 unfold aW at hd'
 rw [JF] at hd'
 by_cases hi:i<n
 ·rw [LP hi] at hd'
  cases hd'
  refine ⟨hi,fun x H3 ⟨e,hx⟩=>?_⟩
  subst e;subst hx
  exact ⟨lx.refl,S2,aq.mpr rfl⟩
 ·rw [LQ (by simpa using hi)] at hd'
  cases hd'
def sM (d:D) (μ:aA):ak mC:=match d with
 | .tup xs=>.ok (.fix xs) μ
 | .frz xs=>.ok (.fix xs) μ
 | .obj n=>match μ[n]? with
  | some (.lst xs)=>.ok (.own n xs) μ
  | _=>.bad
 | _=>.bad
def gK (f:ME):MI:=fun ρ μ=>(f ρ μ).bind sM
def HH (K:W.Frag) (tl:TE):TI:=fun σ H R=>tl σ H fun x H1=>∃ a,x=.ref a/\(((∃ xs,f7 K H1 a xs)/\R (Hh K a) H1)\/((∃ xs,fB K H1 a xs)/\R (Hn K a) H1))
theorem Et {l:Expr}{tl:TE} (hl:PE X l tl):PI X tg l (HH X.K tl):=by
 intro pins s σ H R I h
 refine d3 (hl pins s σ H _ I h) fun v s1 ⟨x,H1,I1,r1,q1⟩=>?_
 obtain ⟨a,e,q⟩:=q1
 subst e
 cases r1
 rcases q with ⟨⟨xs,hq⟩,q⟩ | ⟨⟨xs,hq⟩,q⟩
 ·obtain ⟨its, rv, p, hz⟩ := I1.list hq
  refine LG p.isList ?_
  refine ⟨s1.heap.objs.size,[s1.heap.objs.size],_,_,H1,rfl,I1.kept (t':=s1.toks) fun b o e=>Jn _ e,w6 a _,⟨_,Jo _ rfl,rfl,rfl⟩,fun b hb=>?_,q⟩
  have e:b=s1.heap.objs.size:=by simpa using hb
  subst e
  exact I1.fpOk (Jp _) (I1.hok.fresh (Jp _))
 ·obtain ⟨its, rv, p, hz⟩ := I1.tuple hq
  refine KH (show s1.heap.IsTuple a its.toArray from p) ?_
  refine ⟨s1.heap.objs.size,[s1.heap.objs.size],_,_,H1,rfl,I1.kept (t':=s1.toks) fun b o e=>Jn _ e,va a _,⟨_,Jo _ rfl,rfl,rfl⟩,fun b hb=>?_,q⟩
  have e:b=s1.heap.objs.size:=by simpa using hb
  subst e
  exact I1.fpOk (Jp _) (I1.hok.fresh (Jp _))
theorem D3 {l:Expr}{f:ME} (hK:X.K=p.K) (hl:PE X l (tD p f)):PI X tg l (sI p (gK f)):=(Et hl).weak fun σ H R ⟨α,ρ,μ,S,Rr,P⟩=>by
 refine ⟨α,ρ,μ,S,Rr,(aD.bind P).imp fun d μ1 H1 α1 X1 S1 P1 v rv=>?_⟩
 rw [hK]
 cases d with
 | tup xs=>
  obtain ⟨a,vs,rfl,h1,h2⟩:=aE.mp rv
  exact ⟨a,rfl,.inr ⟨⟨vs,h1⟩,P1.now S1 _ trivial (Ag h1 h2)⟩⟩
 | frz xs=>
  obtain ⟨a,vs,rfl,h1,h2⟩:=bA.mp rv
  exact ⟨a,rfl,.inl ⟨⟨vs,h1.sq⟩,P1.now S1 _ trivial (Ah h1 h2)⟩⟩
 | obj n=>
  obtain ⟨a,rfl,ha⟩:=aQ.mp rv
  unfold sM at P1
  dsimp only at P1
  split at P1
  ·rename_i xs hx
   obtain ⟨a',ea,vs,hH,rr⟩:=S1.at hx
   rw [ha] at ea;cases ea
   exact ⟨a,rfl,.inl ⟨⟨vs,f7.of hH⟩,P1.now S1 _ hx (xN S1 hx ha)⟩⟩
  ·exact P1.elim
 | non=>exact P1.elim
 | bl b=>exact P1.elim
 | int i=>exact P1.elim
 | str x=>exact P1.elim
def jt (ds:List D) (μ:aA):ak mC:=match ds with
 | [.int j]=>if -(2 ^ 62)<=j/\j<2 ^ 62 then .ok (.fix (aW 0 j.toNat)) μ else .bad
 | _=>.bad
def lz (ds:List D) (μ:aA):ak mC:=match ds with
 | [.int i,.int j]=>if -(2 ^ 62)<=i/\i<2 ^ 62/\-(2 ^ 62)<=j/\j<2 ^ 62 then .ok (.fix (aW i (j - i).toNat)) μ else .bad
 | _=>.bad
def eE (f:List D->aA->ak mC) (fa:MA):MI:=fun ρ μ=>(fa ρ μ).bind f
theorem xm {a:Expr}{fa:MA}{px pos:Pos} (hg:Gl X "range") (hm:X.mg "range" = none) (ha:PA X [a] (nH p fa)) (hs:starEach [a] X.env=[(false,eval a X.env)]):PI X tg (.Call (.Name "range" px) [a] [] pos) (sI p (eE jt fa)):=
 (xy hg hm ha hs).weak fun σ H R ⟨α, ρ, μ, S, Rr, P⟩ => ⟨α, ρ, μ, S, Rr, (aD.bind P).imp fun ds μ1 H1 α1 X1 S1 P1 vs rv => by
  unfold jt at P1
  split at P1
  ·rename_i j
   obtain ⟨v,rfl,r1⟩:=rv.one
   rw [aq.mp r1]
   split at P1
   ·rename_i hj
    exact ⟨j,rfl,hj.1,hj.2,P1.now S1 _ trivial (tX 0 _)⟩
   ·exact P1.elim
  ·exact P1.elim⟩
theorem xl {a b:Expr}{fa:MA}{px pos:Pos} (hg:Gl X "range") (hm:X.mg "range" = none) (ha:PA X [a,b] (nH p fa)) (hs:starEach [a,b] X.env=[(false,eval a X.env),(false,eval b X.env)]) (hs2:starEach [b] X.env=[(false,eval b X.env)]):PI X tg (.Call (.Name "range" px) [a,b] [] pos) (sI p (eE lz fa)):=
 (xv hg hm ha hs hs2).weak fun σ H R ⟨α, ρ, μ, S, Rr, P⟩ => ⟨α, ρ, μ, S, Rr, (aD.bind P).imp fun ds μ1 H1 α1 X1 S1 P1 vs rv => by
  unfold lz at P1
  split at P1
  ·rename_i i j
   obtain ⟨v,u,rfl,r1,r2⟩:=rv.two
   rw [aq.mp r1,aq.mp r2]
   split at P1
   ·rename_i hj
    exact ⟨i,j,rfl,hj,P1.now S1 _ trivial (tX i _)⟩
   ·exact P1.elim
  ·exact P1.elim⟩
theorem qK {b:Bool}{src:mC}{xs:List D}{H:Hp}{α:List Addr}{a:Addr} (hi:src.items=iL 0 xs)
  (hs:∀ H2 α2 μ2,p.X H H2 α α2->p.S H2 α2 μ2->di src μ2->∃ vs,Sq b p.K H2 a vs/\p.Rs H2 α2 xs vs ):uS p (Ho b p.K a) src H α:=by
 intro H2 α2 μ2 X2 S2 ho
 obtain ⟨vs,h2,rr⟩:=hs H2 α2 μ2 X2 S2 ho
 rw [hi]
 refine ⟨fun i d hd=>?_,vs,h2,by rw [rr.length,qT]⟩
 rw [qU] at hd
 cases e:xs[i]? with
 | none=>rw [e] at hd;cases hd
 | some y=>
  rw [e] at hd
  cases hd
  obtain ⟨v,hv,rv⟩:=rr.get e
  refine ⟨⟨vs,v,h2,hv⟩,fun x H3 ⟨q,w,e1,hq,e2,hx⟩=>?_⟩
  subst e1 e2
  have:=hx vs h2
  rw [hv] at this;cases this
  refine ⟨bN hq,S2.tuple hq,aE.mpr ⟨q,_,rfl,fB.of b9,?_⟩⟩
  rw [Nat.zero_add]
  exact Reps.cons (aq.mpr rfl) (Reps.cons (rv.mono (bN hq)) Reps.nil)
def qq (ds:List D) (μ:aA):ak mC:=match ds with
 | [.tup xs]=>.ok (.fix (iL 0 xs)) μ
 | [.obj n]=>match μ[n]? with
  | some (.lst xs)=>.ok (.eno n xs) μ
  | _=>.bad
 | _=>.bad
theorem Bp {a:Expr}{fa:MA}{px pos tpos:Pos}{elts:List Expr}{k1:Nat} (hK:X.K=p.K) (hg:Gl X "enumerate") (hm:X.mg "enumerate" = none) (ha:PA X [a] (nH p fa)) (hs:starEach [a] X.env=[(false,eval a X.env)]) :
  PI X (.Tuple elts k1 tpos) (.Call (.Name "enumerate" px) [a] [] pos) (sI p (eE qq fa)):=
 (BP hg hm ha hs).weak fun σ H R ⟨α, ρ, μ, S, Rr, P⟩ => ⟨α, ρ, μ, S, Rr, (aD.bind P).imp fun ds μ1 H1 α1 X1 S1 P1 vs rv => by
  rw [hK]
  unfold qq at P1
  split at P1
  ·rename_i xs
   obtain ⟨v,rfl,r1⟩:=rv.one
   obtain ⟨a,us,rfl,h1,h2⟩:=aE.mp r1
   exact ⟨a,false,rfl,⟨us,h1⟩,P1.now S1 _ trivial (qK (b:=false) rfl fun H2 α2 μ2 X2 S2 _=>⟨us,X2.tup a us h1,h2.mono X2⟩)⟩
  ·rename_i n
   split at P1
   ·rename_i xs hx
    obtain ⟨v,rfl,r1⟩:=rv.one
    obtain ⟨a,rfl,ha⟩:=aQ.mp r1
    obtain ⟨a',ea,us,hH,rr⟩:=S1.at hx
    rw [ha] at ea;cases ea
    refine ⟨a,true,rfl,⟨us,f7.of hH⟩,P1.now S1 _ hx (qK (b:=true) rfl fun H2 α2 μ2 X2 S2 ho=>?_)⟩
    obtain ⟨a2,ea2,us2,hH2,rr2⟩:=S2.at (show μ2[n]?=some (.lst xs) from ho)
    rw [X2.pre n a ha] at ea2;cases ea2
    exact ⟨us2,f7.of hH2,rr2⟩
   ·exact P1.elim
  ·exact P1.elim⟩
end
def ak.nox {β:Type} (o:ak β):ak β:=match o with
 | .exc _ _=>.bad
 | o=>o
@[simp] theorem bP {β:Type}{a:β}{μ:aA}:(ak.ok a μ).nox=.ok a μ:=L9 (Ma _)
abbrev Pa.nx (p:Pa):Pa:=⟨p.K,p.w,fun _ _=>False⟩
theorem eZ {β γ:Type}{p:Pa}{H:Hp}{α:List Addr}{o:ak β}{k:β->aA->ak γ}{R:γ->aA->Hp->List Addr->Prop} (h:aD p H α (o.nox.bind k) R):aD p.nx H α o (fun a μ1 H1 α1=>aD p H1 α1 (k a μ1) R):=by
 cases o with
 | ok a μ=>exact fun H' α' e s=>aD.from e h
 | exc x μ=>exact h
 | bad=>exact h
def d5 (cap:List (Option Nat)) (ρ:Ro):Ro:=cap.map fun o=>o.bind fun j=>(ρ[j]?).join
theorem cZ.cap {K:W.Frag}{H:Hp}{α:List Addr}{ρ:Ro}{σ:St} (R:cZ K H α ρ σ) (cap:List (Option Nat)):cZ K H α (d5 cap ρ) (oh cap σ):=by
 refine ⟨by simp [d5,oh],fun i d h=>?_⟩
 unfold d5 at h
 unfold oh
 rw [JF] at h ⊢
 cases e:cap[i]? with
 | none=>rw [e] at h;cases h
 | some o=>
  rw [e] at h
  cases o with
  | none=>simp at h
  | some j=>
   simp at h ⊢
   obtain ⟨v,h1,h2⟩:=R.at' j d (by
    cases e2:ρ[j]? with
    | none=>rw [e2] at h;simp at h
    | some x=>rw [e2] at h;simp at h;rw [h])
   exact ⟨v,by rw [h1];rfl,h2⟩
def sW (n:Nat) (y:D) (μ:aA):ak Unit:=match μ[n]? with
 | some (.lst ys)=>if ys.length<sizeLine then .ok () (μ.set n (.lst (ys++[y]))) else .bad
 | _=>.bad
open Classical in
noncomputable def compLoop (src:mC) (n:Nat) (g:MG) (t:MT) (e:ME):List D->Ro->aA->ak D
 | [],_,μ=>if di src μ then .ok (.obj n) μ else .bad
 | d::r,ρ,μ=>if di src μ then (g d ρ μ).nox.bind fun ρ1 μ1=>(t ρ1 μ1).nox.bind fun b μ2=>if b=true then (e ρ1 μ2).nox.bind fun y μ3=>(sW n y μ3).bind fun _ μ4=>compLoop src n g t e r ρ1 μ4 else compLoop src n g t e r ρ1 μ2 else .bad
noncomputable def bF (fi:MI) (cap:List (Option Nat)) (g:MG) (t:MT) (e:ME):ME:=fun ρ μ=>(fi ρ μ).bind fun src μ1=>compLoop src μ1.length g t e src.items (d5 cap ρ) (μ1++[.lst []])
def bf:MT:=fun _ μ=>.ok true μ
theorem zM {p:Pa}{n:Nat}{y:D}{μ:aA}{H:Hp}{α:List Addr}{R:Unit->aA->Hp->List Addr->Prop}{v:V}{acc:Addr} (S:p.S H α μ) (ha:α[n]?=some acc) (rv:p.R H α y v) (P:aD p H α (sW n y μ) R) :
  ∃ ys,H acc=some (.lst ys)/\ys.length<sizeLine/\∃ μ',p.X H (cq H acc (.lst (ys++[v]))) α α/\p.S (cq H acc (.lst (ys++[v]))) α μ'/\R () μ' (cq H acc (.lst (ys++[v]))) α:=by
 unfold sW at P
 split at P
 ·rename_i xs hx
  obtain ⟨a,ea,us,hH,rr⟩:=S.at hx
  rw [ha] at ea;cases ea
  split at P
  ·rename_i hl
   have q:=rr.snoc rv
   exact ⟨us,hH,by rw [rr.length];exact hl,_,iN hH,S.put hx ha hH q,P _ _ (iN hH) (S.put hx ha hH q)⟩
  ·exact P.elim
 ·exact P.elim
section
variable {p:Pa}{X:Cx}{tg iter elt:Expr}{ifs:List Expr}{scope:Scope}{Nc:List Str}{cap:List (Option Nat)}{fi:MI}{g:MG}{t:MT}{e:ME}{pos pos':Pos}
theorem qV {σ:St}{H:Hp}{Q:VK} (h:tD p (bF fi cap g t e) σ H Q):yB (sI p fi) cap (pU p.nx g) (iH p.nx t) (tD p.nx e) σ H Q:=by
 obtain ⟨α,ρ,μ,S,R,P⟩:=h
 refine ⟨α,ρ,μ,S,R,(aD.bind P).imp fun src μ1 H1 α1 X1 S1 P1 J hok hJ acc hacc=>?_⟩
 obtain ⟨x1,s1,_⟩:=eH (ds:=[]) (vs:=[]) S1 hacc Reps.nil
 have hn:(α1++[acc])[μ1.length]?=some acc:=by rw [<- S1.len];simp
 refine ⟨fun i m σ2 H2=>m=src.items.length - i/\i<=src.items.length/\∃ α2 ρ2 μ2,p.X H1 H2 α1 α2/\p.S H2 α2 μ2/\cZ p.K H2 α2 ρ2 σ2/\α2[μ1.length]?=some acc/\aD p H2 α2 (compLoop src μ1.length g t e (src.items.drop i) ρ2 μ2) (RV p Q),
  ⟨_,rfl,Ky _,α1++[acc],d5 cap ρ,μ1++[.lst []],x1,s1,((R.mono X1).cap cap).mono x1,hn,by simpa using aD.from x1 P1⟩,?_⟩
 rintro i m σ2 H2 ⟨rfl,hi,α2,ρ2,μ2,X2,S2,R2,a2,P2⟩
 by_cases hlt:i<src.items.length
 ·rw [Mb hlt] at P2
  unfold compLoop at P2
  by_cases ho:di src μ2
  ·rw [ID ho] at P2
   obtain ⟨hgo,hy⟩:=(hJ H2 α2 μ2 X2 S2 ho).1 i _ (L1 hlt)
   refine .inr ⟨hgo,fun σ' H'=>i+1<=src.items.length/\∃ α2 ρ2 μ2,p.X H1 H' α1 α2/\p.S H' α2 μ2/\cZ p.K H' α2 ρ2 σ'/\α2[μ1.length]?=some acc/\aD p H' α2 (compLoop src μ1.length g t e (src.items.drop (i+1)) ρ2 μ2) (RV p Q),
    fun σ' H' ⟨h1,h2⟩=>⟨_,by omega,rfl,h1,h2⟩,fun x H3 yx=>?_⟩
   obtain ⟨X3,S3,R3⟩:=hy x H3 yx
   refine ⟨α2,ρ2,μ2,_,S3,R2.mono X3,R3,(aD.from (p:=p.nx) X3 (eZ P2)).imp fun ρ4 μ4 H4 α4 X4 S4 P4 σ4 R4=>?_⟩
   refine ⟨α4,ρ4,μ4,S4,R4,(eZ P4).imp fun b μ5 H5 α5 X5 S5 P5=>?_⟩
   have xx:p.X H1 H5 α1 α5:=((X2.trans X3).trans X4).trans X5
   have a5:α5[μ1.length]?=some acc:=X5.pre _ _ (X4.pre _ _ (X3.pre _ _ a2))
   cases b with
   | false=>
    rw [IE Jj] at P5
    refine Gb ?_
    exact ⟨hlt,α5,ρ4,μ5,xx,S5,R4.mono X5,a5,P5⟩
   | true=>
    rw [ID rfl] at P5
    refine Ga ?_
    refine ⟨α5,ρ4,μ5,S5,R4.mono X5,(eZ P5).imp fun y μ6 H6 α6 X6 S6 P6 v rv=>?_⟩
    obtain ⟨ys,e1,e2,μ7,x7,s7,q7⟩:=zM (p:=p) S6 (X6.pre _ _ a5) rv (aD.bind P6)
    exact ⟨ys,e1,e2,hlt,α6,ρ4,μ7,(xx.trans X6).trans x7,s7,((R4.mono X5).mono X6).mono x7,X6.pre _ _ a5,q7⟩
  ·rw [IE ho] at P2;exact P2.elim
 ·have e : i = src.items.length := by omega
  subst e
  rw [Mc] at P2
  unfold compLoop at P2
  by_cases ho:di src μ2
  ·rw [ID ho] at P2
   exact .inl ⟨(hJ H2 α2 μ2 X2 S2 ho).2,P2 H2 α2 lx.refl S2 _ (aQ.mpr ⟨acc,rfl,a2⟩)⟩
  ·rw [IE ho] at P2;exact P2.elim
theorem A7 {X:Cx}:sH X [] (iH p bf):=fun pins s σ H Q I h=>by
 obtain ⟨α,ρ,μ,S,R,P⟩:=h
 exact BH pins s σ H Q I (P.now S)
theorem A6 {X:Cx}{c:Expr}{t:MT} (h:PT X c (iH p t)):sH X [c] (iH p t):=BG h
theorem Bu (hc:X.calm=true) (S:bY X.N X.env scope Nc cap) (hi:PI X tg iter (sI p fi))
  (hg:∀ cl C s H fp,PG (i7 X Nc scope cl C s H fp) tg (pU p.nx g)) (ht:∀ cl C s H fp,sH (i7 X Nc scope cl C s H fp) ifs (iH p.nx t)) (he:∀ cl C s H fp,PE (i7 X Nc scope cl C s H fp) elt (tD p.nx e))
  (hs:∀ x,foldedSetIterable iter X.env x=pure x):PE X (.ListComp elt [⟨tg,iter,ifs,0⟩] scope pos) (tD p (bF fi cap g t e)):=
 (BV hc S hi hg ht he hs).weak fun σ H Q h=>qV h
theorem Bb {i:Nat}{x:Str}{pos1:Pos}{pos2:Pos} (hc:X.calm=true) (hN:X.N.Nodup) (hix:X.N[i]?=some x) (hx:X.env.scope.names.lookup x=some .local) (S:bY X.N X.env scope Nc cap) (hi:PI X tg iter (sI p fi))
  (hg:∀ cl C s H fp,PG (i7 X Nc scope cl C s H fp) tg (pU p.nx g)) (ht:∀ cl C s H fp,sH (i7 X Nc scope cl C s H fp) ifs (iH p.nx t)) (he:∀ cl C s H fp,PE (i7 X Nc scope cl C s H fp) elt (tD p.nx e))
  (hsw:swapsWith (.ListComp elt [⟨tg,iter,ifs,0⟩] scope pos) (some (.Name x pos1)) pos2.line X.env=pure true) (hs:∀ x,foldedSetIterable iter X.env x=pure x) :
  PS X (.Assign [.Name x pos1] (.ListComp elt [⟨tg,iter,ifs,0⟩] scope pos) pos2) (iE p (bw (bF fi cap g t e) (ag i))):=
 (BL hc hN hix hx S hi hg ht he hsw hs).weak fun D σ H h => by
  obtain ⟨α,ρ,μ,S,R,P⟩:=h
  refine qV ⟨α,ρ,μ,S,R,(aD.bindS P).imp fun d μ1 H1 α1 X1 S1 P1 v rv=>?_⟩
  exact P1 H1 α1 _ lx.refl S1 ((R.mono X1).set i rv)
end
abbrev MB:=Nat->Ro->aA->ak Ro
open Classical in
noncomputable def j9 (src:mC) (n:Nat) (g:MG) (t:MT) (fb:MB):List D->Ro->aA->ak Ro
 | [],ρ,μ=>if di src μ then .ok ρ μ else .bad
 | d::r,ρ,μ=>if di src μ then (g d ρ μ).nox.bind fun ρ1 μ1=>(t ρ1 μ1).nox.bind fun b μ2=>if b=true then (fb n ρ1 μ2).nox.bind fun ρ2 μ3=>j9 src n g t fb r ρ2 μ3 else j9 src n g t fb r ρ1 μ2 else .bad
section
variable {p:Pa}
def FE (p:Pa) (fb:MB) (acc:Addr):AG:=fun σ H N=>∃ α ρ μ n,p.S H α μ/\cZ p.K H α ρ σ/\α[n]?=some acc/\aD p H α (fb n ρ μ) (fun ρ' _ H' α'=>∀ σ',cZ p.K H' α' ρ' σ'->N σ' H')
theorem vB {src:mC}{n:Nat}{g:MG}{t:MT}{fb:MB}{acc:Addr}{J:It}{H1 H0:Hp}{α1 α0:List Addr}{ρ:Ro}{μ1:aA}{σ:St}{N:St->Hp->Prop} (X0:p.X H0 H1 α0 α1) (S1:p.S H1 α1 μ1) (R:cZ p.K H1 α1 ρ σ) (hn:α1[n]?=some acc) (hJ:uS p J src H0 α0)
  (P1:aD p H1 α1 (j9 src n g t fb src.items ρ μ1) (fun ρ' _ H' α'=>∀ σ',cZ p.K H' α' ρ' σ'->N σ' H')):Hk J (pU p.nx g) (iH p.nx t) (FE p.nx fb acc) N σ H1:=by
 refine ⟨fun i m σ2 H2=>m=src.items.length - i/\i<=src.items.length/\∃ α2 ρ2 μ2,p.X H0 H2 α0 α2/\p.S H2 α2 μ2/\cZ p.K H2 α2 ρ2 σ2/\α2[n]?=some acc/\aD p H2 α2 (j9 src n g t fb (src.items.drop i) ρ2 μ2) (fun ρ' _ H' α'=>∀ σ',cZ p.K H' α' ρ' σ'->N σ' H'),
  ⟨_,rfl,Ky _,α1,ρ,μ1,X0,S1,R,hn,by simpa using P1⟩,?_⟩
 rintro i m σ2 H2 ⟨rfl,hi,α2,ρ2,μ2,X2,S2,R2,a2,P2⟩
 by_cases hlt:i<src.items.length
 ·rw [Mb hlt] at P2
  unfold j9 at P2
  by_cases ho:di src μ2
  ·rw [ID ho] at P2
   obtain ⟨hgo,hy⟩:=(hJ H2 α2 μ2 X2 S2 ho).1 i _ (L1 hlt)
   refine .inr ⟨hgo,fun σ' H'=>i+1<=src.items.length/\∃ α2 ρ2 μ2,p.X H0 H' α0 α2/\p.S H' α2 μ2/\cZ p.K H' α2 ρ2 σ'/\α2[n]?=some acc/\aD p H' α2 (j9 src n g t fb (src.items.drop (i+1)) ρ2 μ2) (fun ρ' _ H' α'=>∀ σ',cZ p.K H' α' ρ' σ'->N σ' H'),
    fun σ' H' ⟨h1,h2⟩=>⟨_,by omega,rfl,h1,h2⟩,fun x H3 yx=>?_⟩
   obtain ⟨X3,S3,R3⟩:=hy x H3 yx
   refine ⟨α2,ρ2,μ2,_,S3,R2.mono X3,R3,(aD.from (p:=p.nx) X3 (eZ P2)).imp fun ρ4 μ4 H4 α4 X4 S4 P4 σ4 R4=>?_⟩
   refine ⟨α4,ρ4,μ4,S4,R4,(eZ P4).imp fun b μ5 H5 α5 X5 S5 P5=>?_⟩
   have xx:p.X H0 H5 α0 α5:=((X2.trans X3).trans X4).trans X5
   have a5:α5[n]?=some acc:=X5.pre _ _ (X4.pre _ _ (X3.pre _ _ a2))
   cases b with
   | false=>
    rw [IE Jj] at P5
    refine Gb ?_
    exact ⟨hlt,α5,ρ4,μ5,xx,S5,R4.mono X5,a5,P5⟩
   | true=>
    rw [ID rfl] at P5
    refine Ga ?_
    refine ⟨α5,ρ4,μ5,n,S5,R4.mono X5,a5,(eZ P5).imp fun ρ6 μ6 H6 α6 X6 S6 P6 σ' r'=>?_⟩
    exact ⟨hlt,α6,ρ6,μ6,xx.trans X6,S6,r',X6.pre _ _ a5,P6⟩
  ·rw [IE ho] at P2;exact P2.elim
 ·have e : i = src.items.length := by omega
  subst e
  rw [Mc] at P2
  unfold j9 at P2
  by_cases ho:di src μ2
  ·rw [ID ho] at P2
   exact .inl ⟨(hJ H2 α2 μ2 X2 S2 ho).2,P2.now S2 _ R2⟩
  ·rw [IE ho] at P2;exact P2.elim
variable {X:Cx}{elt:Expr}{cl0 cl:Comprehension}{rest:List Comprehension}{scope:Scope}{Nc:List Str}{cap:List (Option Nat)}{fi:MI}{g:MG}{t:MT}{fb:MB}{pos:Pos}{e:Expr}{d:Nat}{acc:Addr}
end
mutual
def D.low (n:Nat):D->Prop
 | .tup xs=>D.lows n xs
 | .frz xs=>D.lows n xs
 | .obj m=>m<n
 | _=>True
def D.lows (n:Nat):List D->Prop
 | []=>True
 | x::xs=>x.low n/\D.lows n xs
end
def O.low (n:Nat):O->Prop
 | .lst xs=>D.lows n xs
 | _=>True
section
variable {K:W.Frag}{H:Hp}{α α':List Addr}
mutual
theorem aK.low:∀ {d:D}{v:V},aK K H α d v->d.low α.length
 | .non,_,_=>trivial
 | .bl _,_,_=>trivial
 | .int _,_,_=>trivial
 | .str _,_,_=>trivial
 | .tup xs,_,h=>by
  obtain ⟨a,vs,rfl,h1,h2⟩:=aE.mp h
  simp only [D.low]
  exact Reps.low h2
 | .frz xs,_,h=>by
  obtain ⟨a,vs,rfl,h1,h2⟩:=bA.mp h
  simp only [D.low]
  exact Reps.low h2
 | .obj n,_,h=>by
  obtain ⟨a,rfl,h1⟩:=aQ.mp h
  simp only [D.low]
  exact (IX.mp h1).1
theorem Reps.low:∀ {ds:List D}{vs:List V},Reps K H α ds vs->D.lows α.length ds
 | [],_,_=>trivial
 | d::ds,_,h=>by
  simp only [Reps] at h
  obtain ⟨v,r,rfl,h1,h2⟩:=h
  simp only [D.lows]
  exact ⟨aK.low h1,Reps.low h2⟩
end
mutual
theorem aK.cut {n:Nat} (e:∀ m,m<n->α'[m]?=α[m]?):∀ {d:D}{v:V},aK K H α' d v->d.low n->aK K H α d v
 | .non,_,h,_=>by simp only [aK] at h ⊢;exact h
 | .bl _,_,h,_=>by simp only [aK] at h ⊢;exact h
 | .int _,_,h,_=>by simp only [aK] at h ⊢;exact h
 | .str _,_,h,_=>by simp only [aK] at h ⊢;exact h
 | .tup xs,_,h,b=>by
  obtain ⟨a,vs,rfl,h1,h2⟩:=aE.mp h
  simp only [D.low] at b
  exact aE.mpr ⟨a,vs,rfl,h1,Reps.cut e h2 b⟩
 | .frz xs,_,h,b=>by
  obtain ⟨a,vs,rfl,h1,h2⟩:=bA.mp h
  simp only [D.low] at b
  exact bA.mpr ⟨a,vs,rfl,h1,Reps.cut e h2 b⟩
 | .obj m,_,h,b=>by
  obtain ⟨a,rfl,h1⟩:=aQ.mp h
  simp only [D.low] at b
  exact aQ.mpr ⟨a,rfl,by rw [<- e m b];exact h1⟩
theorem Reps.cut {n:Nat} (e:∀ m,m<n->α'[m]?=α[m]?):∀ {ds:List D}{vs:List V},Reps K H α' ds vs->D.lows n ds->Reps K H α ds vs
 | [],_,h,_=>by simp only [Reps] at h ⊢;exact h
 | d::ds,_,h,b=>by
  simp only [Reps] at h ⊢
  obtain ⟨v,r,rfl,h1,h2⟩:=h
  simp only [D.lows] at b
  exact ⟨v,r,rfl,aK.cut e h1 b.1,Reps.cut e h2 b.2⟩
end
end
def Dr (μ μ':aA) (d:D):Prop:=d.low μ.length/\μ.length<=μ'.length/\∀ (i:Nat) o,i<μ.length->μ'[i]?=some o->μ[i]?=some o\/o.low μ.length
open Classical in
noncomputable def rq (μ:aA) (o:ak D):ak D:=match o with
 | .ok d μ'=>if Dr μ μ' d then .ok d (μ'.take μ.length) else .ok d μ'
 | o=>o
theorem wC {p:Pa}{H:Hp}{α:List Addr}{μ:aA}{o:ak D}{Q:VK} (S:p.S H α μ) (P:aD p H α (rq μ o) (RV p Q)):aD p H α o (RV p Q):=by
 cases o with
 | exc x μ'=>exact P
 | bad=>exact P
 | ok d μ'=>
  unfold rq at P
  dsimp only at P
  by_cases hg:Dr μ μ' d
  ·rw [ID hg] at P
   obtain ⟨g1,g2,g3⟩:=hg
   intro H' α' e s v rv
   have al:∀ m,m<μ.length->α'[m]?=α[m]?:=fun m hm=>by
    have hm':m<α.length:=by rw [S.len];exact hm
    rw [L1 hm']
    exact e.pre m _ (L1 hm')
   refine P H' α ⟨e.tup,e.frz,fun _ _ z=>z⟩ ⟨by rw [JB,S.len];omega,S.nd,fun n o a h1 h2=>?_⟩ v (aK.cut al rv g1)
   have hn:n<μ.length:=by rw [<- S.len];exact (IX.mp h2).1
   rw [List.getElem?_take_of_lt hn] at h1
   have q:=s.ob n o a h1 (e.pre n a h2)
   have ob:o.low μ.length:=by
    rcases g3 n o hn h1 with z | z
    ·have q0 := S.ob n o a z h2
     cases o with
     | lst xs=>obtain ⟨vs,_,r⟩:=q0;have:=r.low;rw [S.len] at this;exact this
     | set ks=>trivial
     | iset ks=>trivial
     | dic=>trivial
    ·exact z
   cases o with
   | lst xs=>obtain ⟨vs,h3,r⟩:=q;exact ⟨vs,h3,Reps.cut al r ob⟩
   | set ks=>exact q
   | iset ks=>exact q
   | dic=>exact q
  ·rw [IE hg] at P
   exact P
def SO.out (o:SO):ak D:=match o with
 | .ret d μ=>.ok d μ
 | .next _ μ=>.ok .non μ
 | .exc x μ=>.exc x μ
 | _=>.bad
noncomputable def iI (n N:Nat) (fb:MS):List D->aA->ak D:=fun ds μ=>if ds.length=n then rq μ (fb (ds.map some++List.replicate (N - n) none) μ).out else .bad
def Dk (p:Pa) (n:Nat) (F:List D->aA->ak D):Sp:=fun vs H Q _=>vs.length=n/\∃ α ds μ,p.S H α μ/\p.Rs H α ds vs/\aD p H α (F ds μ) (RV p Q)
structure cE (P:Program) (w:World) (K:W.Frag) (mg:Str->Option Value) (base:Heap) (p:Pa) (k:Nat) (x:Str) (n:Nat) (F:List D->aA->ak D):Prop where
 len:∀ ds μ,ds.length≠n->F ds μ=.bad
 fn:∃ f fd ps,mg x=some (.ref f)/\W.keepIn K (.ref f)=true/\kc K fd ps []/\pY P w K mg base yp k f fd ps (Dk p n F)
section
variable {p:Pa}{X:Cx}{k n:Nat}{x:Str}{F:List D->aA->ak D}{a:Expr}{es:List Expr}{fr:MA}{pos px:Pos}
theorem Bv (h:cE X.prog X.w X.K X.mg X.base p k x n F) (hr:iG k X.A) (hg:Gl X x) (ha:PA X (a::es) (nH p fr)) (hdb:(x == ("__debug__" : Str))=false) (he:starEach (a::es) X.env=(false,eval a X.env)::starEach es X.env) (hpl:(backTo pos (starEach es X.env)).any (·.1)=false) :
  PE X (.Call (.Name x px) (a::es) [] pos) (tD p (ax F fr)):=by
 obtain ⟨f,fd,ps,h1,h2,h3,h4⟩:=h.fn
 refine (BX (dvs:=[]) (E:=E0) h4 hr hg h1 h2 h3 .nil GR ha hdb he hpl).weak fun σ H Q ⟨α,ρ,μ,S,R,P⟩=>⟨α,ρ,μ,S,R,(aD.bind P).imp fun ds μ1 H1 α1 X1 S1 P1 vs rv=>?_⟩
 show Dk p n F (vs++[]) H1 Q E0
 rw [Jv]
 refine ⟨?_,α1,ds,μ1,S1,rv,P1⟩
 by_cases hl:ds.length=n
 ·rw [rv.length];exact hl
 ·rw [h.len ds μ1 hl] at P1;exact P1.elim
end
theorem pB {K:W.Frag}{H:Hp}{α:List Addr}{ds:List D}{vs:List V} (r:Reps K H α ds vs) (m:Nat):cZ K H α (ds.map some++List.replicate m none) (vs.map some++List.replicate m none):=by
 refine ⟨by simp [r.length],fun i d h=>?_⟩
 by_cases hi:i<ds.length
 ·rw [JE (by simpa using hi), JF] at h
  cases e:ds[i]? with
  | none=>rw [e] at h;cases h
  | some x=>
   rw [e] at h;cases h
   obtain ⟨v,hv,rv⟩:=r.get e
   refine ⟨v,?_,rv⟩
   rw [JE (by simp [r.length,hi]),JF,hv];rfl
 ·rw [JD (by simpa using hi), List.getElem?_replicate] at h
  split at h <;> cases h
theorem Fv {P:Program}{w:World}{K:W.Frag}{mg:Str->Option Value}{base:Heap}{p:Pa}{k n:Nat}{x qual:Str}{st:Stmt}{f:Addr}{fd:FuncData}{N ps:List Str}{fb:MS}
  (F:gW K x qual st f fd) (S:aO N ps (ao st)) (hn:ps.length=n) (hm:mg x=some (.ref f)) (hb:kc K fd ps [])
  (body : ∀ (cdv : Value) (A : Around) (outer : List Env) (s : Shared) (H : Hp) (E : XK), iG k (A.deeper (envOfC qual (ao st) s.heap.objs.size f cdv)) ->
   jZ (rE yp P w K mg base N qual (ao st) f cdv A outer s H E).nox (cI st) (iE p fb)):cE P w K mg base p (k+1) x n (iI n N.length fb):=by
 refine ⟨fun ds μ h=>by unfold iI;rw [IE h],f,fd,ps,hm,F.kp,hb,?_⟩
 refine F.ok S (fun vs H Q E h=>h.1.trans hn.symm) fun cdv A outer s H vs Q E hr h=>?_
 refine ⟨_,body cdv A outer s H E hr,?_⟩
 obtain ⟨hl,α,ds,μ,S1,R1,P1⟩:=h
 unfold iI at P1
 have hd:ds.length=n:=by rw [<- R1.length];exact hl
 rw [ID hd] at P1
 have P2:=wC S1 P1
 unfold start
 rw [hl]
 refine ⟨α,_,μ,S1,pB R1 _,?_⟩
 cases e:fb (ds.map some++List.replicate (N.length - n) none) μ with
 | ret d μ'=>rw [e] at P2;exact fun H' α' v x s r=>P2 H' α' x s v r
 | next ρ μ'=>rw [e] at P2;exact fun H' α' σ' x s r=>P2 H' α' x s .non (cL.mpr rfl)
 | exc x μ'=>rw [e] at P2;exact P2
 | brk ρ μ'=>rw [e] at P2;exact P2.elim
 | cnt ρ μ'=>rw [e] at P2;exact P2.elim
 | bad=>rw [e] at P2;exact P2.elim
end L2
namespace L2
open PySem PySem.Spec PyProof.Rows RS
section
variable (K:W.Frag) (H:Hp)
mutual
def mD:PyData->V->Prop
 | .none,v=>v=.non
 | .bool b,v=>v=.bl b
 | .int i,v=>v=.int i
 | .str x,v=>v=.str x
 | .tuple xs,v=>∃ a vs,v=.ref a/\fB K H a vs/\RdPs xs vs
 | .list xs,v=>∃ a vs,v=.ref a/\f7 K H a vs/\RdPs xs vs
 | .dict _,_=>False
def RdPs:List PyData->List V->Prop
 | [],vs=>vs=[]
 | x::xs,vs=>∃ v r,vs=v::r/\mD x v/\RdPs xs r
end
end
section
variable {X:Cx}{pins:List (Addr × Obj)}{σ:St}{H:Hp}{s:Shared}
mutual
theorem dR (I:aR X pins σ H s):∀ (d:PyData) (x:V) (v:Value),mD X.K H d x->cn x v->∃ as,Reads s.heap v d as
 | .none,_,_,h,r=>by simp only [mD] at h;subst h;cases r;exact ⟨_,.none⟩
 | .bool b,_,_,h,r=>by simp only [mD] at h;subst h;cases r;exact ⟨_,.bool b⟩
 | .int b,_,_,h,r=>by simp only [mD] at h;subst h;obtain ⟨t,rfl⟩:=r;exact ⟨_,.int b t⟩
 | .str b,_,_,h,r=>by simp only [mD] at h;subst h;obtain ⟨t,rfl⟩:=r;exact ⟨_,.str b t⟩
 | .tuple xs,_,_,h,r=>by
  simp only [mD] at h
  obtain ⟨a,vs,rfl,h1,h2⟩:=h
  cases r
  obtain ⟨its,rv,⟨o,e1,e2,n,e3⟩,_⟩:=I.tuple h1
  obtain ⟨as,q⟩:=readsAll_of I xs vs its h2 rv
  exact ⟨_,.tuple e1 e2 e3 (by simpa using q)⟩
 | .list xs,_,_,h,r=>by
  simp only [mD] at h
  obtain ⟨a,vs,rfl,h1,h2⟩:=h
  cases r
  obtain ⟨its,rv,⟨o,n,e1,e2,_,e3⟩,_⟩:=I.list h1
  obtain ⟨as,q⟩:=readsAll_of I xs vs its h2 rv
  exact ⟨_,.list e1 e2 e3 (by simpa using q)⟩
 | .dict _,_,_,h,_=>by simp only [mD] at h
theorem readsAll_of (I:aR X pins σ H s):∀ (ds:List PyData) (xs:List V) (vs:List Value),RdPs X.K H ds xs->ba xs vs->∃ as,ReadsAll s.heap vs ds as
 | [],_,_,h,r=>by simp only [RdPs] at h;subst h;cases r;exact ⟨_,.nil⟩
 | d::ds,_,_,h,r=>by
  simp only [RdPs] at h
  obtain ⟨v,q,rfl,h1,h2⟩:=h
  cases r with
  | cons r rr=>
   obtain ⟨as,g1⟩:=dR I d _ _ h1 r
   obtain ⟨bs,g2⟩:=readsAll_of I ds _ _ h2 rr
   exact ⟨_,.cons g1 g2⟩
end
def gf (d:PyData):Bool:=d.canLay0 && decide (d.depth<=60)
def yv (K:W.Frag) (neg:Bool):R2:=fun x y H Q=>∃ a b,mD K H a x/\mD K H b y/\gf a=true/\gf b=true/\Q (.bl (if neg then !PyData.eqv a b else PyData.eqv a b)) H
theorem mZ {a b:PyData}{A:Around} (ha:gf a=true) (hu:A.units+64<cLine):A.units+min a.depth b.depth<cLine:=by
 unfold gf at ha
 simp only [J2,Md] at ha
 have:=Nat.min_le_left a.depth b.depth
 omega
theorem cw {a:PyData} (ha:gf a=true):a.canLay0=true:=by
 unfold gf at ha
 simp only [J2,Md] at ha
 exact ha.1
theorem pf {a:PyData} (ha:gf a=true):a.depth<=60:=by
 unfold gf at ha
 simp only [J2,Md] at ha
 exact ha.2
theorem EO (hu:X.A.units+64<cLine):jQ X (compareOp .Eq) (yv X.K false):=by
 intro pins s σ H x y v u Q I rx ry h
 obtain ⟨a,b,h1,h2,h3,h4,q⟩:=h
 obtain ⟨as,r1⟩:=dR I a x v h1 rx
 obtain ⟨bs,r2⟩:=dR I b y u h2 ry
 exact SeqAt.compareEq_reads r1 r2 (cw h3) (cw h4) (mZ h3 hu) ⟨.bl _,H,I,rfl,q⟩
theorem EJ (hu:X.A.units+64<cLine):jQ X (compareOp .NotEq) (yv X.K true):=by
 intro pins s σ H x y v u Q I rx ry h
 obtain ⟨a,b,h1,h2,h3,h4,q⟩:=h
 obtain ⟨as,r1⟩:=dR I a x v h1 rx
 obtain ⟨bs,r2⟩:=dR I b y u h2 ry
 exact SeqAt.compareNe_reads r1 r2 (cw h3) (cw h4) (mZ h3 hu) ⟨.bl _,H,I,rfl,q⟩
def yu (K:W.Frag) (neg:Bool):R2:=fun x y H Q=>∃ a b xs,mD K H a x/\mD K H b y/\(b=.list xs\/b=.tuple xs)/\gf a=true/\gf b=true/\Q (.bl (if neg then !(xs.any fun y=>PyData.eqv y a) else xs.any fun y=>PyData.eqv y a)) H
theorem EN (hu:X.A.units+64<cLine):jQ X (compareOp .In) (yu X.K false):=by
 intro pins s σ H x y v u Q I rx ry h
 obtain ⟨a,b,xs,h1,h2,hb,h3,h4,q⟩:=h
 obtain ⟨as,r1⟩:=dR I a x v h1 rx
 obtain ⟨bs,r2⟩:=dR I b y u h2 ry
 have hd:=pf h3
 rcases hb with rfl|rfl
 ·refine SeqAt.in_list_reads r2 r1 (by simpa [PyData.canLay0] using cw h4) (cw h3) ?_ ⟨.bl _, H, I, rfl, q⟩
  have:=JO (PyData.depthAll xs) a.depth
  omega
 ·refine SeqAt.in_tuple_reads r2 r1 (by simpa [PyData.canLay0] using cw h4) (cw h3) ?_ ⟨.bl _, H, I, rfl, q⟩
  have:=JO (PyData.depthAll xs) a.depth
  omega
theorem xD (hu:X.A.units+64<cLine):jQ X (compareOp .NotIn) (yu X.K true):=by
 intro pins s σ H x y v u Q I rx ry h
 obtain ⟨a,b,xs,h1,h2,hb,h3,h4,q⟩:=h
 obtain ⟨as,r1⟩:=dR I a x v h1 rx
 obtain ⟨bs,r2⟩:=dR I b y u h2 ry
 have hd:=pf h3
 rcases hb with rfl|rfl
 ·refine SeqAt.notIn_list_reads r2 r1 (by simpa [PyData.canLay0] using cw h4) (cw h3) ?_ ⟨.bl _, H, I, rfl, q⟩
  have:=JO (PyData.depthAll xs) a.depth
  omega
 ·refine SeqAt.notIn_tuple_reads r2 r1 (by simpa [PyData.canLay0] using cw h4) (cw h3) ?_ ⟨.bl _, H, I, rfl, q⟩
  have:=JO (PyData.depthAll xs) a.depth
  omega
end
mutual
def uK (μ:aA):D->Option PyData
 | .non=>some .none
 | .bl b=>some (.bool b)
 | .int i=>some (.int i)
 | .str x=>some (.str x)
 | .tup xs=>(toPs μ xs).map .tuple
 | .frz xs=>(toPs μ xs).map .list
 | .obj _=>none
def toPs (μ:aA):List D->Option (List PyData)
 | []=>some []
 | x::xs=>(uK μ x).bind fun a=>(toPs μ xs).map fun r=>a::r
end
def yq (μ:aA) (d:D):Option PyData:=match d with
 | .obj n=>match μ[n]? with
  | some (.lst xs)=>(toPs μ xs).map .list
  | _=>none
 | d=>uK μ d
def iK (μ:aA):List D->Option (List PyData)
 | []=>some []
 | x::xs=>(yq μ x).bind fun a=>(iK μ xs).map fun r=>a::r
def lP (μ:aA) (d:D):Option PyData:=match d with
 | .obj n=>match μ[n]? with
  | some (.lst xs)=>(iK μ xs).map .list
  | _=>none
 | .tup xs=>(iK μ xs).map .tuple
 | d=>uK μ d
section
variable {K:W.Frag}{w:World}{H:Hp}{α:List Addr}{μ:aA}
mutual
theorem gQ:∀ {d:D}{q:PyData}{v:V},uK μ d=some q->aK K H α d v->mD K H q v
 | .non,_,_,h,r=>by simp only [uK] at h;cases h;simp only [mD];exact cL.mp r
 | .bl b,_,_,h,r=>by simp only [uK] at h;cases h;simp only [mD];exact bc.mp r
 | .int b,_,_,h,r=>by simp only [uK] at h;cases h;simp only [mD];exact aq.mp r
 | .str b,_,_,h,r=>by simp only [uK] at h;cases h;simp only [mD];exact dk.mp r
 | .tup xs,_,_,h,r=>by
  simp only [uK] at h
  cases e:toPs μ xs with
  | none=>rw [e] at h;cases h
  | some ys=>
   rw [e] at h;cases h
   obtain ⟨a,vs,rfl,h1,h2⟩:=aE.mp r
   simp only [mD]
   exact ⟨a,vs,rfl,h1,toPs_ok e h2⟩
 | .frz xs,_,_,h,r=>by
  simp only [uK] at h
  cases e:toPs μ xs with
  | none=>rw [e] at h;cases h
  | some ys=>
   rw [e] at h;cases h
   obtain ⟨a,vs,rfl,h1,h2⟩:=bA.mp r
   simp only [mD]
   exact ⟨a,vs,rfl,h1.sq,toPs_ok e h2⟩
 | .obj n,_,_,h,r=>by simp only [uK] at h;cases h
theorem toPs_ok:∀ {ds:List D}{qs:List PyData}{vs:List V},toPs μ ds=some qs->Reps K H α ds vs->RdPs K H qs vs
 | [],_,_,h,r=>by simp only [toPs] at h;cases h;simp only [RdPs];simp only [Reps] at r;exact r
 | x::xs,_,_,h,r=>by
  simp only [toPs] at h
  cases e1:uK μ x with
  | none=>rw [e1] at h;cases h
  | some a=>
   cases e2:toPs μ xs with
   | none=>rw [e1,e2] at h;cases h
   | some ys=>
    rw [e1,e2] at h;cases h
    simp only [Reps] at r
    obtain ⟨v,vr,rfl,r1,r2⟩:=r
    simp only [RdPs]
    exact ⟨v,vr,rfl,gQ e1 r1,toPs_ok e2 r2⟩
end
theorem A2 {d:D}{q:PyData}{v:V} (S:gh K w H α μ) (h:yq μ d=some q) (r:aK K H α d v):mD K H q v:=by
 cases d with
 | obj n=>
  unfold yq at h
  dsimp only at h
  split at h
  ·rename_i xs hx
   obtain ⟨a,ea,us,hH,rr⟩:=S.at hx
   obtain ⟨a',rfl,ea'⟩:=aQ.mp r
   rw [ea] at ea';cases ea'
   cases e:toPs μ xs with
   | none=>rw [e] at h;cases h
   | some ys=>
    rw [e] at h;cases h
    simp only [mD]
    exact ⟨a,us,rfl,f7.of hH,toPs_ok e rr⟩
  ·cases h
 | non=>exact gQ h r
 | bl b=>exact gQ h r
 | int i=>exact gQ h r
 | str x=>exact gQ h r
 | tup xs=>exact gQ h r
 | frz xs=>exact gQ h r
theorem oz (S:gh K w H α μ):∀ {ds:List D}{qs:List PyData}{vs:List V},iK μ ds=some qs->Reps K H α ds vs->RdPs K H qs vs
 | [],_,_,h,r=>by simp only [iK] at h;cases h;simp only [RdPs];simp only [Reps] at r;exact r
 | x::xs,_,_,h,r=>by
  simp only [iK] at h
  cases e1:yq μ x with
  | none=>rw [e1] at h;cases h
  | some a=>
   cases e2:iK μ xs with
   | none=>rw [e1,e2] at h;cases h
   | some ys=>
    rw [e1,e2] at h;cases h
    simp only [Reps] at r
    obtain ⟨v,vr,rfl,r1,r2⟩:=r
    simp only [RdPs]
    exact ⟨v,vr,rfl,A2 S e1 r1,oz S e2 r2⟩
theorem mJ {d:D}{q:PyData}{v:V} (S:gh K w H α μ) (h:lP μ d=some q) (r:aK K H α d v):mD K H q v:=by
 cases d with
 | obj n=>
  unfold lP at h
  dsimp only at h
  split at h
  ·rename_i xs hx
   obtain ⟨a,ea,us,hH,rr⟩:=S.at hx
   obtain ⟨a',rfl,ea'⟩:=aQ.mp r
   rw [ea] at ea';cases ea'
   cases e:iK μ xs with
   | none=>rw [e] at h;cases h
   | some ys=>
    rw [e] at h;cases h
    simp only [mD]
    exact ⟨a,us,rfl,f7.of hH,oz S e rr⟩
  ·cases h
 | tup xs=>
  unfold lP at h
  dsimp only at h
  cases e:iK μ xs with
  | none=>rw [e] at h;cases h
  | some ys=>
   rw [e] at h;cases h
   obtain ⟨a,vs,rfl,h1,h2⟩:=aE.mp r
   simp only [mD]
   exact ⟨a,vs,rfl,h1,oz S e h2⟩
 | non=>exact gQ h r
 | bl b=>exact gQ h r
 | int i=>exact gQ h r
 | str x=>exact gQ h r
 | frz xs=>exact gQ h r
end
def d4 (neg:Bool) (a b:D) (μ:aA):ak D:=match lP μ a,lP μ b with
 | some p,some q=>if gf p=true/\gf q=true then .ok (.bl (if neg then !PyData.eqv p q else PyData.eqv p q)) μ else .bad
 | _,_=>.bad
def rN:PyData->Option (List PyData)
 | .list xs=>some xs
 | .tuple xs=>some xs
 | _=>none
def uL (neg:Bool) (a b:D) (μ:aA):ak D:=match lP μ a,lP μ b with
 | some p,some q=>match rN q with
  | some xs=>if gf p=true/\gf q=true then .ok (.bl (if neg then !(xs.any fun y=>PyData.eqv y p) else xs.any fun y=>PyData.eqv y p)) μ else .bad
  | none=>.bad
 | _,_=>.bad
theorem C8 {p:Pa}{neg:Bool}:qh p (d4 neg) (yv p.K neg):=by
 intro a b v y H α μ Q S ra rb P
 unfold d4 at P
 split at P
 ·rename_i x z hx hz
  split at P
  ·rename_i hf
   exact ⟨x,z,mJ S hx ra,mJ S hz rb,hf.1,hf.2,P.now S _ (bc.mpr rfl)⟩
  ·exact P.elim
 ·exact P.elim
theorem C7 {p:Pa}{neg:Bool}:qh p (uL neg) (yu p.K neg):=by
 intro a b v y H α μ Q S ra rb P
 unfold uL at P
 split at P
 ·rename_i x z hx hz
  split at P
  ·rename_i xs hxs
   split at P
   ·rename_i hf
    refine ⟨x,z,xs,mJ S hx ra,mJ S hz rb,?_,hf.1,hf.2,P.now S _ (bc.mpr rfl)⟩
    cases z <;> first | (cases hxs;exact .inl rfl) | (cases hxs;exact .inr rfl) | (cases hxs)
   ·exact P.elim
  ·exact P.elim
 ·exact P.elim
def D.isNon:D->Bool
 | .non=>true
 | _=>false
def rD (neg:Bool) (a b:D) (μ:aA):ak D:=match b with
 | .non=>.ok (.bl (if neg then !a.isNon else a.isNon)) μ
 | _=>.bad
theorem wz {K:W.Frag}{H:Hp}{α:List Addr}{a:D}{v:V} (r:aK K H α a v):decide (v=.non)=a.isNon:=by
 cases a with
 | non=>rw [cL.mp r];rfl
 | bl b=>rw [bc.mp r];rfl
 | int b=>rw [aq.mp r];rfl
 | str b=>rw [dk.mp r];rfl
 | tup xs=>obtain ⟨a,vs,rfl,_⟩:=aE.mp r;rfl
 | frz xs=>obtain ⟨a,vs,rfl,_⟩:=bA.mp r;rfl
 | obj xs=>obtain ⟨a,rfl,_⟩:=aQ.mp r;rfl
theorem E1 {p:Pa}:qh p (rD false) (fun x y H Q=>y=.non/\Q (.bl (decide (x=.non))) H):=by
 intro a b v y H α μ Q S ra rb P
 cases b with
 | non=>exact ⟨cL.mp rb,P.now S _ (bc.mpr (by rw [wz ra];rfl))⟩
 | bl b=>exact P.elim
 | int b=>exact P.elim
 | str b=>exact P.elim
 | tup xs=>exact P.elim
 | frz xs=>exact P.elim
 | obj xs=>exact P.elim
theorem Cb {p:Pa}:qh p (rD true) (fun x y H Q=>y=.non/\Q (.bl (!decide (x=.non))) H):=by
 intro a b v y H α μ Q S ra rb P
 cases b with
 | non=>exact ⟨cL.mp rb,P.now S _ (bc.mpr (by rw [wz ra];cases a <;> rfl))⟩
 | bl b=>exact P.elim
 | int b=>exact P.elim
 | str b=>exact P.elim
 | tup xs=>exact P.elim
 | frz xs=>exact P.elim
 | obj xs=>exact P.elim
end L2
namespace L2
open PySem PySem.Spec PyProof.Rows RS
open PySem.SeqAt
open PySem.AutoSeq1 (wpAny_loadPart')
open PySem.MeetsSeq PySem.MeetsSeq2 PySem.MeetsSeq3
def AU (op:CmpOp) (A:Around) (s:Shared) (y x:Value) (k:Bool):Prop:=∀ (prog:Program) (w:World) (E:Value->Shared->Prop) (Q:Value->Shared->Prop),Q (.bool k) s->wpAny (model prog w) A (richCompare op y x) Q E s
def nZ (t:Bool):List (Bool × Bool)->Bool
 | []=>t
 | (e,k)::r=>if e=true then nZ t r else k
def nJ (op:CmpOp) (A:Around) (s:Shared):List Value->List Value->List (Bool × Bool)->Prop
 | [],_,[]=>True
 | _,[],[]=>True
 | y::ys,x::xs,(e,k)::r=>EqAt A s y x e/\(e=false->AU op A s y x k)/\(e=true->nJ op A s ys xs r)
 | _,_,_=>False
theorem sh (l b:Addr) (items items2:Array Value) (n n2:Nat) (dd dd2:Option Addr) (sl sl2:Array (Option Value)) (eks:List (Bool × Bool)) :
  Meets (Builtin.«tuple.__lt__» ⟨[.ref l,.ref b],[]⟩)
   (fun A R s => s.heap.get? l = some { cls := .type "tuple", dict := dd, data := .seq items n, slots := sl } /\ s.heap.get? b = some { cls := .type "tuple", dict := dd2, data := .seq items2 n2, slots := sl2 } /\
    nJ .Lt A.in1 s items.toList items2.toList eks/\R (.ok (.ret (.bool (nZ (decide (items.size<items2.size)) eks)))) s):=
 .of_wp fun prog w A R s h=>by
  obtain ⟨hp,g,d,tk,os⟩:=s;obtain ⟨hl,hb,hc,h⟩:=h
  have f2:=AutoSeq1.sub_tuple_tuple
  wp_walk using wpAny_loadPart' hl,wpAny_loadPart' hb,Ln _ (fun rest b s'=>b.1=none/\s'=⟨hp,g,d,tk,os⟩/\∃ (vs ws:List Value) (eks':List (Bool × Bool)),rest=vs.zip ws /\
   nJ .Lt A.in1 ⟨hp,g,d,tk,os⟩ vs ws eks'/\R (.ok (.ret (.bool (nZ (decide (items.size<items2.size)) eks')))) ⟨hp,g,d,tk,os⟩) _
  case turn=>
   rintro ⟨y,x⟩ rest b s' ⟨hb',rfl,vs,ws,eks',hz,hci,hR⟩
   cases vs with
   | nil=>rw [List.zip_nil_left] at hz;cases hz
   | cons a vs=>
    cases ws with
    | nil=>rw [List.zip_nil_right] at hz;cases hz
    | cons c ws=>
     rw [Me] at hz
     injection hz with hyx hrest
     injection hyx with hy hx
     subst hy hx
     cases eks' with
     | nil=>simp only [nJ] at hci
     | cons ek eks'=>
      obtain ⟨e,k⟩:=ek
      simp only [nJ] at hci
      obtain ⟨he,hk,hci⟩:=hci
      refine Jf (he prog w _ _ ?_)
      cases e with
      | true=>
       have hR':R (.ok (.ret (.bool (nZ (decide (items.size<items2.size)) eks')))) ⟨hp,g,d,tk,os⟩:=hR
       wp_walk
       exact ⟨rfl,rfl,_,_,_,hrest,hci rfl,hR'⟩
      | false=>
       have hR':R (.ok (.ret (.bool k))) ⟨hp,g,d,tk,os⟩:=hR
       have hri:=hk rfl prog w
       wp_walk using hri
       exact ⟨_,rfl,by simpa using hR'⟩
  case fin=>
   rintro ⟨b1,b2⟩ s' ⟨hb',rfl,vs,ws,eks',hz,hci,hR⟩
   simp only at hb'
   subst hb'
   have hv:eks'=[]:=by
    cases vs with
    | nil=>cases eks' with
     | nil=>rfl
     | cons _ _=>simp only [nJ] at hci
    | cons a vs=>cases ws with
     | nil=>cases eks' with
      | nil=>rfl
      | cons _ _=>simp only [nJ] at hci
     | cons c ws=>rw [Me] at hz;cases hz
   subst hv
   have hR':R (.ok (.ret (.bool (decide (items.size<items2.size))))) ⟨hp,g,d,tk,os⟩:=hR
   wp_walk
   exact ⟨_,rfl,by simpa [Builtin.Tuple.tupleCompareSizes] using hR'⟩
  case h=>
   exact ⟨rfl,rfl,items.toList,items2.toList,eks,rfl,hc,h⟩
theorem E5 {prog:Program}{w:World}{A:Around}{E:Value->Shared->Prop}{s:Shared}{l b:Addr}{items items2:Array Value}{eks:List (Bool × Bool)}{Q:Value->Shared->Prop} (hl:IsTup s.heap l items) (hb:IsTup s.heap b items2) (hc:nJ .Lt A.in1 s items.toList items2.toList eks)
  (hu:A.units<cLine) (h:Q (.bool (nZ (decide (items.size<items2.size)) eks)) s):wpAny (model prog w) A (richCompare .Lt (.ref l) (.ref b)) Q E s:=by
 obtain ⟨⟨cls,dd,data,sl⟩,ho,hc',n,hd⟩:=id hl
 obtain ⟨⟨cls2,dd2,data2,sl2⟩,ho2,hc2,n2,hd2⟩:=id hb
 simp only at hc' hd hc2 hd2
 subst hc' hd hc2 hd2
 exact richCompare_meets_room (op:=.Lt) ⟨_,ho,rfl⟩ ⟨_,ho2,rfl⟩ PySem.F.slot_tuple_lt PySem.F.entry_tuple_lt (PySem.F.args_tuple_lt_2 _ _) (sh l b items items2 n n2 dd dd2 sl sl2 eks)
  ⟨ho,ho2,hc,show Value.bool (nZ (decide (items.size<items2.size)) eks)≠Value.notImplemented/\Q (.bool (nZ (decide (items.size<items2.size)) eks)) s from ⟨(fun x=>nomatch x),h⟩⟩ hu
end L2
namespace L2
open PySem PySem.Spec PyProof.Rows RS
def dh:CmpOp->Int->Int->Bool
 | .Lt,i,j=>decide (i<j)
 | .LtE,i,j=>decide (i<=j)
 | .Gt,i,j=>decide (i > j)
 | .GtE,i,j=>decide (i ≥ j)
 | _,_,_=>false
def AO:CmpOp->Bool
 | .Lt=>true
 | _=>false
mutual
def gZ (op:CmpOp):PyData->PyData->Option Bool
 | .int i,.int j=>some (dh op i j)
 | .tuple xs,.tuple ys=>if AO op=true then cmpPs op xs ys else none
 | _,_=>none
def cmpPs (op:CmpOp):List PyData->List PyData->Option Bool
 | [],ys=>some (dh op 0 ys.length)
 | _::xs,[]=>some (dh op (xs.length+1) 0)
 | x::xs,y::ys=>if PyData.eqv x y=true then cmpPs op xs ys else gZ op x y
end
def sX:CmpOp->Bool
 | .Lt | .LtE | .Gt | .GtE=>true
 | _=>false
theorem GI:∀ {op:CmpOp} (ho:sX op=true) {A:Around}{s:Shared} (a:Int) (t:Tok) (c:Int) (u:Tok),AU op A s (.int a t) (.int c u) (dh op a c)
 | .Lt,_,A,s,a,t,c,u=>fun prog w E Q h=>(PyProof.Rows.lt_int h:wpAny (model prog w) A (compareOp .Lt (.int a t) (.int c u)) Q E s)
 | .LtE,_,A,s,a,t,c,u=>fun prog w E Q h=>(PyProof.Rows.le_int h:wpAny (model prog w) A (compareOp .LtE (.int a t) (.int c u)) Q E s)
 | .Gt,_,A,s,a,t,c,u=>fun prog w E Q h=>(PyProof.Rows.gt_int h:wpAny (model prog w) A (compareOp .Gt (.int a t) (.int c u)) Q E s)
 | .GtE,_,A,s,a,t,c,u=>fun prog w E Q h=>(PyProof.Rows.ge_int h:wpAny (model prog w) A (compareOp .GtE (.int a t) (.int c u)) Q E s)
theorem vI {op:CmpOp} (i j:Nat):dh op ((i+1:Nat):Int) ((j+1:Nat):Int)=dh op (i:Int) (j:Int):=by
 cases op <;> first | rfl | (unfold dh;simp)
theorem GH:∀ {op:CmpOp} (ho:AO op=true) {A:Around}{s:Shared}{l b:Addr}{items items2:Array Value}{eks:List (Bool × Bool)} (hl:IsTup s.heap l items) (hb:IsTup s.heap b items2) (hc:nJ op A.in1 s items.toList items2.toList eks)
  (hu:A.units<cLine),AU op A s (.ref l) (.ref b) (nZ (dh op items.size items2.size) eks)
 | .Lt,_,A,s,l,b,items,items2,eks,hl,hb,hc,hu=>fun prog w E Q h=>E5 hl hb hc hu (by
   have e:decide (items.size<items2.size)=dh .Lt items.size items2.size:=by (unfold dh;simp)
   rw [e];exact h)
mutual
theorem tJ {op:CmpOp} (ho:sX op=true):∀ (da db:PyData) (A:Around) (s:Shared) (a b:Value) (as bs:List Addr) (k:Bool),Reads s.heap a da as->Reads s.heap b db bs->da.canLay0=true->db.canLay0=true ->
  A.units+min da.depth db.depth<cLine->gZ op da db=some k->AU op A s a b k
 | .int i,.int j,A,s,_,_,_,_,k,ra,rb,_,_,hu,hk=>by
  cases ra;cases rb
  simp only [gZ] at hk
  cases hk
  exact GI ho _ _ _ _
 | .tuple xs,.tuple ys,A,s,_,_,_,_,k,ra,rb,ha,hb,hu,hk=>by
  simp only [gZ] at hk
  have hlt:AO op=true:=by
   cases z:AO op with
   | true=>rfl
   | false=>rw [z,IE Jj] at hk;cases hk
  rw [ID hlt] at hk
  cases ra with
  | @tuple l o vs n _ as₁ h1 h2 h3 h4=>
   cases rb with
   | @tuple l' o' vs' n' _ bs₁ k1 k2 k3 k4=>
    have n1:vs.size=xs.length:=by simpa using SeqAt.ReadsAll.length _ _ _ h4
    have n2:vs'.size=ys.length:=by simpa using SeqAt.ReadsAll.length _ _ _ k4
    obtain ⟨eks,e1,e2⟩:=rc_readsAll ho xs ys A.in1 s vs.toList vs'.toList _ _ k h4 k4 (by simpa [PyData.canLay0] using ha) (by simpa [PyData.canLay0] using hb) (SeqAt.room_in hu) hk
    have:=GH hlt (A:=A) (s:=s) (l:=l) (b:=l') (items:=vs) (items2:=vs') (eks:=eks) ⟨_,h1,h2,_,h3⟩ ⟨_,k1,k2,_,k3⟩ e1 (SeqAt.room_here hu)
    rw [n1,n2,e2] at this
    exact this
 | .none,_,_,_,_,_,_,_,_,_,_,_,_,_,hk=>by simp only [gZ] at hk;cases hk
 | .bool _,_,_,_,_,_,_,_,_,_,_,_,_,_,hk=>by simp only [gZ] at hk;cases hk
 | .str _,_,_,_,_,_,_,_,_,_,_,_,_,_,hk=>by simp only [gZ] at hk;cases hk
 | .list _,_,_,_,_,_,_,_,_,_,_,_,_,_,hk=>by simp only [gZ] at hk;cases hk
 | .dict _,_,_,_,_,_,_,_,_,_,_,_,_,_,hk=>by simp only [gZ] at hk;cases hk
 | .int _,.none,_,_,_,_,_,_,_,_,_,_,_,_,hk=>by simp only [gZ] at hk;cases hk
 | .int _,.bool _,_,_,_,_,_,_,_,_,_,_,_,_,hk=>by simp only [gZ] at hk;cases hk
 | .int _,.str _,_,_,_,_,_,_,_,_,_,_,_,_,hk=>by simp only [gZ] at hk;cases hk
 | .int _,.list _,_,_,_,_,_,_,_,_,_,_,_,_,hk=>by simp only [gZ] at hk;cases hk
 | .int _,.tuple _,_,_,_,_,_,_,_,_,_,_,_,_,hk=>by simp only [gZ] at hk;cases hk
 | .int _,.dict _,_,_,_,_,_,_,_,_,_,_,_,_,hk=>by simp only [gZ] at hk;cases hk
 | .tuple _,.none,_,_,_,_,_,_,_,_,_,_,_,_,hk=>by simp only [gZ] at hk;cases hk
 | .tuple _,.bool _,_,_,_,_,_,_,_,_,_,_,_,_,hk=>by simp only [gZ] at hk;cases hk
 | .tuple _,.int _,_,_,_,_,_,_,_,_,_,_,_,_,hk=>by simp only [gZ] at hk;cases hk
 | .tuple _,.str _,_,_,_,_,_,_,_,_,_,_,_,_,hk=>by simp only [gZ] at hk;cases hk
 | .tuple _,.list _,_,_,_,_,_,_,_,_,_,_,_,_,hk=>by simp only [gZ] at hk;cases hk
 | .tuple _,.dict _,_,_,_,_,_,_,_,_,_,_,_,_,hk=>by simp only [gZ] at hk;cases hk
theorem rc_readsAll {op:CmpOp} (ho:sX op=true):∀ (xs ys:List PyData) (A:Around) (s:Shared) (vs ws:List Value) (as bs:List Addr) (k:Bool),ReadsAll s.heap vs xs as->ReadsAll s.heap ws ys bs->PyData.canLayAll0 xs=true->PyData.canLayAll0 ys=true ->
  A.units+min (PyData.depthAll xs) (PyData.depthAll ys)<cLine->cmpPs op xs ys=some k->∃ eks,nJ op A s vs ws eks/\nZ (dh op (xs.length:Nat) (ys.length:Nat)) eks=k
 | [],ys,A,s,_,_,_,_,k,ra,rb,_,_,_,hk=>by
  cases ra
  simp only [cmpPs] at hk
  cases hk
  exact ⟨[],by unfold nJ;trivial,rfl⟩
 | x::xs,[],A,s,_,_,_,_,k,ra,rb,_,_,_,hk=>by
  cases rb
  simp only [cmpPs] at hk
  cases hk
  cases ra
  refine ⟨[],by unfold nJ;trivial,?_⟩
  simp [nZ]
 | x::xs,y::ys,A,s,_,_,_,_,k,ra,rb,ha,hb,hu,hk=>by
  have ha':x.canLay0=true/\PyData.canLayAll0 xs=true:=by simpa [PyData.canLayAll0] using ha
  have hb':y.canLay0=true/\PyData.canLayAll0 ys=true:=by simpa [PyData.canLayAll0] using hb
  cases ra with
  | cons r rs=>
   cases rb with
   | cons r' rs'=>
    have he:=SeqAt.eqAt_reads x y A s _ _ _ _ r r' ha'.1 hb'.1 (SeqAt.room_head hu)
    simp only [cmpPs] at hk
    cases e:PyData.eqv x y with
    | true=>
     rw [ID e] at hk
     rw [e] at he
     obtain ⟨eks,e1,e2⟩:=rc_readsAll ho xs ys A s _ _ _ _ k rs rs' ha'.2 hb'.2 (SeqAt.room_tail hu) hk
     refine ⟨(true,false)::eks,⟨he,fun z=>(by cases z),fun _=>e1⟩,?_⟩
     show nZ (dh op ((xs.length+1:Nat):Int) ((ys.length+1:Nat):Int)) eks=k
     rw [vI];exact e2
    | false=>
     rw [IE (by rw [e];exact Jj)] at hk
     rw [e] at he
     refine ⟨[(false,k)],⟨he,fun _=>tJ ho x y A s _ _ _ _ k r r' ha'.1 hb'.1 (SeqAt.room_head hu) hk,fun z=>(by cases z)⟩,rfl⟩
end
def yH (K:W.Frag) (op:CmpOp):R2:=fun x y H Q=>∃ a b k,mD K H a x/\mD K H b y/\gf a=true/\gf b=true/\gZ op a b=some k/\Q (.bl k) H
theorem B4 {X:Cx} (hu:X.A.units+64<cLine):∀ {op:CmpOp},sX op=true->jQ X (compareOp op) (yH X.K op):=by
 intro op ho pins s σ H x y v u Q I rx ry h
 obtain ⟨a,b,k,h1,h2,h3,h4,h5,q⟩:=h
 obtain ⟨as,r1⟩:=dR I a x v h1 rx
 obtain ⟨bs,r2⟩:=dR I b y u h2 ry
 have:=tJ ho a b X.A s v u as bs k r1 r2 (cw h3) (cw h4) (mZ h3 hu) h5 X.prog X.w X.xe (EP X pins σ Q) ⟨.bl k,H,I,rfl,q⟩
 cases op <;> first
  | exact absurd ho (by decide)
  | exact this
def gL (op:CmpOp) (a b:D) (μ:aA):ak D:=match lP μ a,lP μ b with
 | some p,some q=>if gf p=true/\gf q=true then (match gZ op p q with | some k=>.ok (.bl k) μ | none=>.bad) else .bad
 | _,_=>.bad
theorem E2 {p:Pa}{op:CmpOp}:qh p (gL op) (yH p.K op):=by
 intro a b v y H α μ Q S ra rb P
 unfold gL at P
 split at P
 ·rename_i x z hx hz
  split at P
  ·rename_i hf
   split at P
   ·rename_i k hk
    exact ⟨x,z,k,mJ S hx ra,mJ S hz rb,hf.1,hf.2,hk,P.now S _ (bc.mpr rfl)⟩
   ·exact P.elim
  ·exact P.elim
 ·exact P.elim
def dI (g:Int->Int->D) (a b:D) (μ:aA):ak D:=match a,b with
 | .int i,.int j=>.ok (g i j) μ
 | _,_=>.bad
open Classical in
noncomputable def Dn (C:Int->Int->Prop) (g:Int->Int->D) (a b:D) (μ:aA):ak D:=match a,b with
 | .int i,.int j=>if C i j then .ok (g i j) μ else .bad
 | _,_=>.bad
section
variable {p:Pa}
theorem HE {g:Int->Int->V}{gd:Int->Int->D} (h:∀ i j H α,p.R H α (gd i j) (g i j)):qh p (dI gd) (FF g):=by
 intro a b v y H α μ Q S ra rb P
 unfold dI at P
 split at P
 ·rename_i i j
  exact ⟨i,j,aq.mp ra,aq.mp rb,P.now S _ (h i j H α)⟩
 ·exact P.elim
theorem yJ {C:Int->Int->Prop}{g:Int->Int->V}{gd:Int->Int->D} (h:∀ i j H α,p.R H α (gd i j) (g i j)):qh p (Dn C gd) (rI C g):=by
 intro a b v y H α μ Q S ra rb P
 unfold Dn at P
 split at P
 ·rename_i i j
  split at P
  ·rename_i hc
   exact ⟨i,j,aq.mp ra,aq.mp rb,hc,P.now S _ (h i j H α)⟩
  ·exact P.elim
 ·exact P.elim
def wW (a:D) (μ:aA):ak D:=match a with
 | .int i=>.ok (.int (-i)) μ
 | _=>.bad
theorem E4:HY p wW (rU fun i=>.int (-i)):=by
 intro a v H α μ Q S ra P
 unfold wW at P
 split at P
 ·rename_i i
  exact ⟨i,aq.mp ra,P.now S _ (aq.mpr rfl)⟩
 ·exact P.elim
def C5 (K:W.Frag):R2:=fun x y H Q=>∃ a b xs ys,x=.ref a/\y=.ref b/\fB K H a xs/\fB K H b ys/\xs.length+ys.length<=sizeLine /\
 (xs=[]->Q (.ref b) H)/\(xs≠[]->ys=[]->Q (.ref a) H)/\(xs≠[]->ys≠[]->∀ p,H p=none->Q (.ref p) (cq H p (.tup (xs++ys))))
theorem As {prog:Program}{w:World}{A:Around}{E:Value->Shared->Prop}{s:Shared}{t b:Addr}{ws:List Value}{Q:Value->Shared->Prop} (ht:IsTup s.heap t #[]) (hb:IsTup s.heap b ws.toArray) (h0:Q (.ref b) s):wpAny (model prog w) A (binaryOp .Add (.ref t) (.ref b)) Q E s:=by
 obtain ⟨⟨cls,dd,data,sl⟩,ho,hc,n,hd⟩:=id ht
 obtain ⟨⟨cls2,dd2,data2,sl2⟩,ho2,hc2,n2,hd2⟩:=id hb
 simp only at hc hd hc2 hd2
 subst hc hd hc2 hd2
 exact concat_meets ⟨_,ho,rfl⟩ ⟨_,ho2,rfl⟩ JJ seq_tuple_add JK JL (JM _ _)
  (tuple_addW0 t b #[] ws.toArray n n2 dd dd2 sl sl2 (by simp)) ⟨ho,ho2,h0⟩
theorem B6 {X:Cx}:jQ X (binaryOp .Add) (C5 X.K):=by
 intro pins s σ H x y v u Q I rx ry h
 obtain ⟨a,b,xs,ys,rfl,rfl,ha,hb,hz,q0,q1,q2⟩:=h
 by_cases hx:xs=[]
 ·cases rx
  cases ry
  obtain ⟨its,r1,p1,_⟩:=I.tuple ha
  obtain ⟨its2,r2,p2,_⟩:=I.tuple hb
  subst hx
  cases r1
  exact As p1 p2 ⟨.ref b,H,I,rfl,q0 rfl⟩
 ·exact B5 pins s σ H (.ref a) (.ref b) v u Q I rx ry ⟨a,b,xs,ys,rfl,rfl,ha,hb,hx,hz,q1 hx,q2 hx⟩
def yI (K:W.Frag):R2:=fun x y H Q=>FF (fun i j=>.int (i+j)) x y H Q\/C5 K x y H Q\/FY x y H Q\/(∃ i j,x=.str i/\y=.str j/\i.length+j.length<=sizeLine/\Q (.str (i++j)) H)
theorem B7 {X:Cx}:jQ X (binaryOp .Add) (yI X.K):=ES.or (B6.or (ER.or vt))
def cA (a b:D) (μ:aA):ak D:=match a,b with
 | .int i,.int j=>.ok (.int (i+j)) μ
 | .str x,.str y=>if x.length+y.length<=sizeLine then .ok (.str (x++y)) μ else .bad
 | .tup xs,.tup ys=>if xs.length+ys.length<=sizeLine then .ok (.tup (xs++ys)) μ else .bad
 | .obj m,.obj n=>match μ[m]?,μ[n]? with
  | some (.lst xs),some (.lst ys)=>if xs.length+ys.length<=sizeLine then .ok (.obj μ.length) (μ++[.lst (xs++ys)]) else .bad
  | _,_=>.bad
 | _,_=>.bad
theorem dQ {H:Hp}{α:List Addr}{μ:aA}{n:Nat}{v:V}{xs:List D} (S:p.S H α μ) (r:p.R H α (.obj n) v) (hx:μ[n]?=some (.lst xs)):∃ a us,v=.ref a/\α[n]?=some a/\H a=some (.lst us)/\p.Rs H α xs us:=by
 obtain ⟨a,ea,us,hH,rr⟩:=S.at hx
 obtain ⟨a',rfl,ea'⟩:=aQ.mp r
 rw [ea] at ea';cases ea'
 exact ⟨a,us,rfl,ea,hH,rr⟩
theorem Reps.nil_iff' {K:W.Frag}{H:Hp}{α:List Addr}{xs:List D}{vs:List V} (r:Reps K H α xs vs):vs=[]↔xs=[]:=by
 have:=r.length
 constructor
 ·intro h;subst h;simp at this;exact Mf this.symm
 ·intro h;subst h;simp at this;exact this
theorem E3:qh p cA (yI p.K):=by
 intro a b v y H α μ Q S ra rb P
 unfold cA at P
 split at P
 ·rename_i i j
  exact .inl ⟨i,j,aq.mp ra,aq.mp rb,P.now S _ (aq.mpr rfl)⟩
 ·rename_i i j
  split at P
  ·rename_i hl
   exact .inr (.inr (.inr ⟨i,j,dk.mp ra,dk.mp rb,hl,P.now S _ (dk.mpr rfl)⟩))
  ·exact P.elim
 ·rename_i xs ys
  split at P
  ·rename_i hl
   obtain ⟨a,us,rfl,h1,r1⟩:=aE.mp ra
   obtain ⟨b,ws,rfl,h2,r2⟩:=aE.mp rb
   refine .inr (.inl ⟨a,b,us,ws,rfl,rfl,h1,h2,by rw [r1.length,r2.length];exact hl,fun e=>?_,fun _ e=>?_,fun _ _ q hq=>?_⟩)
   ·have ex := r1.nil_iff'.mp e
    subst ex
    exact P.now S _ (by simpa using rb)
   ·have ey := r2.nil_iff'.mp e
    subst ey
    exact P.now S _ (by simpa using ra)
   ·exact P _ _ (bN hq) (S.tuple hq) _ (aE.mpr ⟨q,_,rfl,fB.of b9,(r1.append r2).mono (bN hq)⟩)
  ·exact P.elim
 ·rename_i m n
  split at P
  ·rename_i xs ys hx hy
   split at P
   ·rename_i hl
    obtain ⟨a,us,rfl,a1,h1,r1⟩:=dQ S ra hx
    obtain ⟨b,ws,rfl,b1,h2,r2⟩:=dQ S rb hy
    refine .inr (.inr (.inl ⟨a,b,us,ws,rfl,rfl,h1,h2,by rw [r1.length,r2.length];exact hl,fun q hq=>?_⟩))
    obtain ⟨x1,x2,x3⟩:=eH S hq (r1.append r2)
    exact P _ _ x1 x2 _ x3
   ·exact P.elim
  ·exact P.elim
 ·exact P.elim
def CZ:R2:=fun x y H Q=>rI sS (fun i j=>.int (i * j)) x y H Q\/FR x y H Q
theorem B2 {X:Cx}:jQ X (binaryOp .Mult) CZ:=EK.or EH
open Classical in
noncomputable def jR (a b:D) (μ:aA):ak D:=match a,b with
 | .int i,.int j=>if sS i j then .ok (.int (i * j)) μ else .bad
 | .obj m,.int k=>match μ[m]? with
  | some (.lst xs)=>if -(2 ^ 63)<=k/\k<2 ^ 63/\xs.length * k.toNat<=sizeLine then .ok (.obj μ.length) (μ++[.lst (List.replicate k.toNat xs).flatten]) else .bad
  | _=>.bad
 | _,_=>.bad
theorem Reps.rep {K:W.Frag}{H:Hp}{α:List Addr}{xs:List D}{vs:List V} (h:Reps K H α xs vs):∀ k:Nat,Reps K H α (List.replicate k xs).flatten (List.replicate k vs).flatten
 | 0=>by simpa using Reps.nil
 | k+1=>by
  rw [Kb,Kb,Kc,Kc]
  exact h.append (Reps.rep h k)
theorem EZ:qh p jR CZ:=by
 intro a b v y H α μ Q S ra rb P
 unfold jR at P
 split at P
 ·rename_i i j
  split at P
  ·rename_i hc
   exact .inl ⟨i,j,aq.mp ra,aq.mp rb,hc,P.now S _ (aq.mpr rfl)⟩
  ·exact P.elim
 ·rename_i m k
  split at P
  ·rename_i xs hx
   split at P
   ·rename_i hl
    obtain ⟨a,us,rfl,a1,h1,r1⟩:=dQ S ra hx
    refine .inr ⟨a,k,us,rfl,aq.mp rb,h1,hl.1,hl.2.1,by rw [r1.length];exact hl.2.2,fun q hq=>?_⟩
    obtain ⟨x1,x2,x3⟩:=eH S hq (r1.rep k.toNat)
    exact P _ _ x1 x2 _ x3
   ·exact P.elim
  ·exact P.elim
 ·exact P.elim
def bW (a b:D) (μ:aA):ak D:=match a,b with
 | .tup xs,.int i=>match atI xs i with
  | some d=>.ok d μ
  | none=>.bad
 | .frz xs,.int i=>match atI xs i with
  | some d=>.ok d μ
  | none=>.bad
 | .obj n,.int i=>match μ[n]? with
  | some (.lst xs)=>match atI xs i with
   | some d=>.ok d μ
   | none=>.bad
  | _=>.bad
 | _,_=>.bad
theorem Reps.atI {K:W.Frag}{H:Hp}{α:List Addr}{xs:List D}{vs:List V}{i:Int}{d:D} (r:Reps K H α xs vs) (h:L2.atI xs i=some d):∃ v,L2.atI vs i=some v/\aK K H α d v:=by
 unfold L2.atI at h ⊢
 rw [r.length]
 cases e:vR xs.length i with
 | none=>rw [e] at h;cases h
 | some j=>rw [e] at h;exact r.get h
theorem GS:qh p bW (HW p.K):=by
 intro a b v y H α μ Q S ra rb P
 unfold bW at P
 split at P
 ·rename_i xs i
  split at P
  ·rename_i d hd
   obtain ⟨a,us,rfl,h1,r1⟩:=aE.mp ra
   obtain ⟨v,hv,rv⟩:=r1.atI hd
   exact .inr (.inl ⟨a,us,i,v,rfl,aq.mp rb,h1,hv,P.now S _ rv⟩)
  ·exact P.elim
 ·rename_i xs i
  split at P
  ·rename_i d hd
   obtain ⟨a,us,rfl,h1,r1⟩:=bA.mp ra
   obtain ⟨v,hv,rv⟩:=r1.atI hd
   exact .inl ⟨a,us,i,v,rfl,aq.mp rb,h1.sq,hv,P.now S _ rv⟩
  ·exact P.elim
 ·rename_i n i
  split at P
  ·rename_i xs hx
   split at P
   ·rename_i d hd
    obtain ⟨a,us,rfl,a1,h1,r1⟩:=dQ S ra hx
    obtain ⟨v,hv,rv⟩:=r1.atI hd
    exact .inl ⟨a,us,i,v,rfl,aq.mp rb,f7.of h1,hv,P.now S _ rv⟩
   ·exact P.elim
  ·exact P.elim
 ·exact P.elim
theorem GE {X:Cx}{a b:Expr}{fa fb:ME}{pos:Pos} (hK:X.K=p.K) (ha:PE X a (tD p fa)) (hb:PE X b (tD p fb)) (hs:sg b):PE X (.Subscript a b pos) (tD p (au bW fa fb)):=
 (GO Fe ha hb hs).weak fun σ H Q ⟨α, ρ, μ, S, R, P⟩ => ⟨α, ρ, μ, S, R, (aD.bind P).imp fun x μ1 H1 α1 X1 S1 P1 v rv => ⟨α1, ρ, μ1, S1, R.mono X1, (aD.bind P1).imp fun y μ2 H2 α2 X2 S2 P2 u ru => by
  rw [hK];exact GS x y v u H2 α2 μ2 Q S2 (rv.mono X2) ru P2⟩⟩
theorem kY {prog:Program}{w:World}{A:Around}{E:Value->Shared->Prop}{s:Shared}{t sl:Addr}{items:Array Value}{vl vu:Value}{lo hi:Option Int}{Q:Value->Shared->Prop} (ht:IsTup s.heap t items) (hs:s.heap.IsSliceOf sl vl vu .none) (pl:IsPart vl lo) (pu:IsPart vu hi)
  (hw:HT.sIx items.size 0 lo=0/\HT.sIx items.size items.size hi=items.size) (h:Q (.ref t) s):wpAny (model prog w) A (getItem (.ref t) (.ref sl)) Q E s:=by
 obtain ⟨os,hos,hcs,hds⟩:=id hs
 have hTs:s.TypeIs (.ref sl) "slice" := ⟨os,hos,hcs⟩
 unfold getItem
 try with_reducible refine Jg ?_
 first | refine Jf (Jl ?_) | skip
 refine Jf (JV ht.typeIs (by decide) ?_)
 refine Jf (JW (name:=Str.ofString "__getitem__") ht.typeIs JX
  (JY JX ht.typeIs JZ ?_ (J0 _ _)))
 show wpAny _ _ (Builtin.Tuple.tupleItemsOf (.ref t) >>= _) _ _ s
 refine Jf (tupleItemsOf_ ht ?_)
 refine Jf (J1 hTs ?_)
 rw [ID (by decide)]
 refine Jf (HT.sliceApplied_gen hs pl pu ?_)
 have hno:(((HT.sIx items.size 0 lo:Nat):Int) == 0 && (1:Int) == 1 && (HT.sIx items.size items.size hi - HT.sIx items.size 0 lo) == items.size)=true:=by
  rw [hw.1,hw.2];simp
 show wpAny _ _ (if (((HT.sIx items.size 0 lo:Nat):Int) == 0 && (1:Int) == 1 && (HT.sIx items.size items.size hi - HT.sIx items.size 0 lo) == items.size)=true then _ else _) _ _ s
 rw [ID hno]
 refine Jf (m:=Builtin.Tuple.tupleIsExact (.ref t)) (Jf (J1 ht.typeIs (Jl ?_)))
 rw [ID (by decide)]
 exact Jf (Kx (Jl ⟨_,rfl,Jl h⟩))
def mH {β:Type} (xs:List β) (lo hi:Option Int):List β:=(xs.drop (HT.sIx xs.length 0 lo)).take (HT.sIx xs.length xs.length hi - HT.sIx xs.length 0 lo)
theorem vF {β:Type} (xs:List β) (lo hi:Option Int) (h:HT.sIx xs.length 0 lo=0/\HT.sIx xs.length xs.length hi=xs.length):mH xs lo hi=xs:=by
 unfold mH
 rw [h.1,h.2];simp
def CW (K:W.Frag):V->Option Int->Option Int->Hp->VK->Prop:=fun x lo hi H Q=>∃ a xs,x=.ref a/\fB K H a xs /\
 (HT.sIx xs.length 0 lo=0/\HT.sIx xs.length xs.length hi=xs.length)/\Q (.ref a) H
theorem Bn {X:Cx}:AH X (CW X.K):=by
 intro pins s σ H x v vl vu lo hi sl Q I rx hs pl pu h
 obtain ⟨a,xs,rfl,hx,hw,q⟩:=h
 cases rx
 obtain ⟨its,r,ht,hz⟩:=I.tuple hx
 have hlen:its.toArray.size=xs.length:=by rw [Ju];exact r.length.symm
 refine ⟨"tuple",_,JX.lookup,ht.typeIs,?_⟩
 exact kY ht hs pl pu (by rw [hlen];exact hw) ⟨.ref a,H,I,rfl,q⟩
def FQ (K:W.Frag):V->Option Int->Option Int->Hp->VK->Prop:=fun x lo hi H Q=>FO K x lo hi H Q\/CW K x lo hi H Q\/FP K x lo hi H Q
theorem HD {X:Cx}:AH X (FQ X.K):=D2.or (Bn.or Bo)
abbrev MO:=Ro->aA->ak (Option Int)
def FG:MO:=fun _ μ=>.ok none μ
def Hc (d:D) (μ:aA):ak (Option Int):=match d with
 | .int i=>.ok (some i) μ
 | _=>.bad
def oa (f:ME):MO:=fun ρ μ=>(f ρ μ).bind Hc
def CS (p:Pa) (f:MO):TO:=fun σ H Q=>∃ α ρ μ,p.S H α μ/\cZ p.K H α ρ σ/\aD p H α (f ρ μ) (fun o _ H' _=>Q o H')
theorem PO.weak {X:Cx}{e:Option Expr}{t t':TO} (h:PO X e t) (k:∀ σ H Q,t' σ H Q->t σ H Q):PO X e t':=fun pins s σ H Q I q=>h pins s σ H Q I (k σ H Q q)
theorem Bm {X:Cx}:PO X none (CS p FG):=BO.weak fun σ H Q ⟨α,ρ,μ,S,R,P⟩=>P.now S
theorem Bl {X:Cx}{e:Expr}{f:ME} (h:PE X e (tD p f)):PO X (some e) (CS p (oa f)):=(BN h).weak fun σ H Q ⟨α,ρ,μ,S,R,P⟩=>⟨α,ρ,μ,S,R,(aD.bind P).imp fun d μ1 H1 α1 X1 S1 P1 v rv=>by
 unfold Hc at P1
 split at P1
 ·rename_i i
  exact ⟨i,aq.mp rv,P1.now S1⟩
 ·exact P1.elim⟩
def AA (a:D) (lo hi:Option Int) (μ:aA):ak D:=match a with
 | .tup xs=>.ok (.tup (mH xs lo hi)) μ
 | .frz xs=>.ok (.obj μ.length) (μ++[.lst (mH xs lo hi)])
 | .obj n=>match μ[n]? with
  | some (.lst xs)=>.ok (.obj μ.length) (μ++[.lst (mH xs lo hi)])
  | _=>.bad
 | _=>.bad
def FB (fa:ME) (fl fh:MO):ME:=fun ρ μ=>(fa ρ μ).bind fun a μ1=>(fl ρ μ1).bind fun lo μ2=>(fh ρ μ2).bind fun hi μ3=>AA a lo hi μ3
theorem Reps.cut' {K:W.Frag}{H:Hp}{α:List Addr}{xs:List D}{vs:List V} (r:Reps K H α xs vs) (lo hi:Option Int):Reps K H α (mH xs lo hi) (sQ vs lo hi):=by
 unfold mH sQ
 rw [r.length]
 exact (r.drop _).take _
theorem GC {a:D}{v:V}{lo hi:Option Int}{H:Hp}{α:List Addr}{μ:aA}{Q:VK} (S:p.S H α μ) (ra:p.R H α a v) (P:aD p H α (AA a lo hi μ) (RV p Q)):FQ p.K v lo hi H Q:=by
 unfold AA at P
 split at P
 ·rename_i xs
  obtain ⟨a,us,rfl,h1,r1⟩:=aE.mp ra
  by_cases hw:HT.sIx us.length 0 lo=0/\HT.sIx us.length us.length hi=us.length
  ·refine .inr (.inl ⟨a, us, rfl, h1, hw, ?_⟩)
   rw [r1.length] at hw
   rw [vF xs lo hi hw] at P
   exact P.now S _ ra
  ·exact .inl ⟨a,us,rfl,h1,hw,fun q hq=>P _ _ (bN hq) (S.tuple hq) _ (aE.mpr ⟨q,_,rfl,fB.of b9,(r1.cut' lo hi).mono (bN hq)⟩)⟩
 ·rename_i xs
  obtain ⟨a,us,rfl,h1,r1⟩:=bA.mp ra
  refine .inr (.inr ⟨a,us,rfl,h1.sq,fun q hq=>?_⟩)
  obtain ⟨x1,x2,x3⟩:=eH S hq (r1.cut' lo hi)
  exact P _ _ x1 x2 _ x3
 ·rename_i n
  split at P
  ·rename_i xs hx
   obtain ⟨a,us,rfl,a1,h1,r1⟩:=dQ S ra hx
   refine .inr (.inr ⟨a,us,rfl,f7.of h1,fun q hq=>?_⟩)
   obtain ⟨x1,x2,x3⟩:=eH S hq (r1.cut' lo hi)
   exact P _ _ x1 x2 _ x3
  ·exact P.elim
 ·exact P.elim
theorem zE {X:Cx}{e:Expr}{lo hi:Option Expr}{fa:ME}{fl fh:MO}{pos p2:Pos} (hK:X.K=p.K) (he:PE X e (tD p fa)) (hl:PO X lo (CS p fl)) (hu:PO X hi (CS p fh)):PE X (.Subscript e (.Slice lo hi none p2) pos) (tD p (FB fa fl fh)):=
 (zU HD he hl hu).weak fun σ H Q ⟨α, ρ, μ, S, R, P⟩ => ⟨α, ρ, μ, S, R, (aD.bind P).imp fun a μ1 H1 α1 X1 S1 P1 v rv => ⟨α1, ρ, μ1, S1, R.mono X1, (aD.bind P1).imp fun l μ2 H2 α2 X2 S2 P2 => ⟨α2, ρ, μ2, S2, (R.mono X1).mono X2, (aD.bind P2).imp fun h μ3 H3 α3 X3 S3 P3 => by
  rw [hK];exact GC S3 ((rv.mono X2).mono X3) P3⟩⟩⟩
theorem kC {β γ:Type}{f:β->Option γ}{g:β->γ}:∀ {l:List β},(∀ m∈l,f m=some (g m))->l.filterMap f=l.map g
 | [],_=>rfl
 | x::r,h=>by rw [IQ,h x IR,J5,kC fun m hm=>h m (IS _ hm)]
theorem tM (xs:Array Value):((List.range xs.size).filterMap fun (m:Nat)=>xs[(((xs.size:Int) - 1)+(m:Int) * (-1)).toNat]?).toArray=xs.toList.reverse.toArray:=by
 congr 1
 apply LO
 intro i
 have hf:∀ m∈List.range xs.size,xs[(((xs.size:Int) - 1)+(m:Int) * (-1)).toNat]?=some (xs.toList.reverse.getD m .none):=by
  intro m hm
  have hm':m<xs.size:=by simpa using hm
  have e:(((xs.size:Int) - 1)+(m:Int) * (-1)).toNat=xs.size - 1 - m:=by omega
  rw [e,LN,List.getElem?_reverse (by simpa using hm')]
  have h2:xs.size - 1 - m<xs.size:=by omega
  rw [Lj h2]
  simp [Jc,h2]
 rw [kC hf]
 by_cases hi:i<xs.size
 ·rw [JF, LP hi]
  simp only [Option.map_some]
  rw [LN,L1 (by simpa using hi)]
  rfl
 ·rw [LQ (by simpa using hi),LQ (by simpa using hi)]
theorem m9 {prog:Program}{w:World}{A:Around}{E:Value->Shared->Prop}{s:Shared}{sl:Addr}{n:Nat}{t:Tok}{Q:Int × Int × Nat->Shared->Prop} (hs:s.heap.IsSliceOf sl .none .none (.int (-1) t))
  (h:Q ((n:Int) - 1,-1,n) s):wpAny (model prog w) A (Builtin.Slice.sliceApplied (.ref sl) (pure (n:Int))) Q E s:=by
 obtain ⟨os,hos,hcs,hds⟩:=id hs
 unfold Builtin.Slice.sliceApplied Builtin.Slice.sliceFields
 refine Jf (Jf (JS hos hds (x:=.none) rfl (Jf (JS hos hds (x:=.none) rfl (Jf (JS hos hds (x:=.int (-1) t) rfl (Jl ?_)))))))
 refine Jf (slicePart_int ?_)
 show wpAny _ _ (if ((-1:Int) == 0)=true then _ else _) _ _ s
 rw [IE (by decide)]
 refine Jf (JR (Jf (JR (Jf (Jl ?_)))))
 show wpAny _ _ (match Builtin.Slice.sliceAdjust none none (-1) (n:Int) with | (lo,hi)=>pure (lo,(-1:Int),Builtin.Slice.slicePlaces lo hi (-1))) _ _ s
 have e:Builtin.Slice.sliceAdjust none none (-1) (n:Int)=((n:Int) - 1,-1):=by unfold Builtin.Slice.sliceAdjust;simp
 rw [e]
 show wpAny _ _ (pure ((n:Int) - 1,(-1:Int),Builtin.Slice.slicePlaces ((n:Int) - 1) (-1) (-1))) _ _ s
 have e2:Builtin.Slice.slicePlaces ((n:Int) - 1) (-1) (-1)=n:=by
  unfold Builtin.Slice.slicePlaces
  rw [IE (by decide)]
  split <;> simp <;> omega
 rw [e2]
 exact Jl h
theorem mB {prog:Program}{w:World}{A:Around}{E:Value->Shared->Prop}{s:Shared}{t sl:Addr}{tk:Tok}{items:Array Value}{Q:Value->Shared->Prop} (ht:IsTup s.heap t items) (hs:s.heap.IsSliceOf sl .none .none (.int (-1) tk))
  (h:Q (.ref s.heap.objs.size) { s with heap:=s.heap.push { cls:=.type "tuple",data:=.seq items.toList.reverse.toArray } }) (hsz:items.size<=sizeLine):wpAny (model prog w) A (getItem (.ref t) (.ref sl)) Q E s:=by
 have htake:sizeOk (.seq items.toList.reverse.toArray):=by
  show items.toList.reverse.toArray.size<=sizeLine
  simpa using hsz
 obtain ⟨os,hos,hcs,hds⟩:=id hs
 have hTs:s.TypeIs (.ref sl) "slice" := ⟨os,hos,hcs⟩
 unfold getItem
 try with_reducible refine Jg ?_
 first | refine Jf (Jl ?_) | skip
 refine Jf (JV ht.typeIs (by decide) ?_)
 refine Jf (JW (name:=Str.ofString "__getitem__") ht.typeIs JX
  (JY JX ht.typeIs JZ ?_ (J0 _ _)))
 show wpAny _ _ (Builtin.Tuple.tupleItemsOf (.ref t) >>= _) _ _ s
 refine Jf (tupleItemsOf_ ht ?_)
 refine Jf (J1 hTs ?_)
 rw [ID (by decide)]
 refine Jf (m9 hs ?_)
 show wpAny _ _ (if (((items.size:Int) - 1) == 0 && (-1:Int) == 1 && items.size == items.size)=true then _ else _) _ _ s
 rw [IE (by simp),tM]
 first
  | exact Jf (m:=Builtin.Tuple.tupleExact _) (J3 (Jl ⟨_,rfl,Jl h⟩) htake)
  | exact Jf (m:=Builtin.Tuple.tupleExact _) (J3 (Jf (Jl (Jl ⟨_,rfl,Jl h⟩))) htake)
  | exact Jf (Jf (m:=Builtin.Tuple.tupleExact _) (J3 (Jl (Jl ⟨_,rfl,Jl h⟩)) htake))
  | exact Jf (Jf (m:=Builtin.Tuple.tupleExact _) (J3 (Jl ⟨_,rfl,Jl h⟩) htake))
end
inductive yj (K:W.Frag) (H:Hp):V->String->Prop where
 | non:yj K H .non "NoneType"
 | bl (x:Bool):yj K H (.bl x) "bool"
 | int (i:Int):yj K H (.int i) "int"
 | str (x:Str):yj K H (.str x) "str"
 | lst {a:Addr}{xs:List V} (e:f7 K H a xs):yj K H (.ref a) "list"
 | tup {a:Addr}{xs:List V} (e:fB K H a xs):yj K H (.ref a) "tuple"
 | dic {a:Addr}{kvs:List (rA × V)} (e:H a=some (.dK kvs)):yj K H (.ref a) "dict"
def Gc (tn T:String):Bool:=tn == T || (tn == "bool" && T == "int")
def rS:List String:=["NoneType", "bool", "int", "str", "list", "tuple", "dict"]
theorem E6 {K:W.Frag}:∀ tn∈rS,∀ T∈["int", "bool", "tuple", "list", "str", "dict"],W.kitOne K (.type tn) (.type T)=some (Gc tn T):=by
 intro tn h1 T h2
 simp only [rS,IT,KJ,KL] at h1 h2
 rcases h1 with rfl|rfl|rfl|rfl|rfl|rfl|rfl <;> rcases h2 with rfl|rfl|rfl|rfl|rfl|rfl <;> rfl
theorem yj.mem {K:W.Frag}{H:Hp}{x:V}{tn:String} (h:yj K H x tn):tn∈rS:=by
 cases h <;> decide
section
variable {X:Cx}
theorem Ff {pins:List (Addr × Obj)}{σ:St}{H:Hp}{s:Shared}{A:Around}{E:Value->Shared->Prop}{Q:Value->Shared->Prop}{c:Value}{b:Bool}{x:V}{u:Value}{tn:String} (I:aR X pins σ H s) (rx:cn x u) (ty:yj X.K H x tn) (e:W.kitOne X.K (.type tn) c=some b) (h:∀ tk,Q (.bool b) { s with toks:=tk }) :
  wpAny (model X.prog X.w) A (call (.builtin "isinstance") [u,c]) Q E s:=by
 cases ty with
 | non=>cases (show u=Value.none from rx);exact W.kia_one W.kitx_none I.kIn True.intro e (fun z=>nomatch z) h
 | bl y=>cases (show u=Value.bool y from rx);exact W.kia_one W.kitx_bool I.kIn True.intro e (fun z=>nomatch z) h
 | int i=>obtain ⟨t,q⟩:=(show ∃ t,u=Value.int i t from rx);cases q;exact W.kia_one W.kitx_int I.kIn True.intro e (fun z=>nomatch z) h
 | str y=>obtain ⟨t,q⟩:=(show ∃ t,u=Value.str y t from rx);cases q;exact W.kia_one W.kitx_str I.kIn True.intro e (fun z=>nomatch z) h
 | @lst a xs ea=>
  cases (show u=Value.ref a from rx)
  obtain ⟨its,_,⟨o,n,h1,h2,_⟩,_⟩:=I.list ea
  exact W.kia_one W.kitx_list I.kIn ⟨o,h1,h2⟩ e (fun z=>nomatch z) h
 | @tup a xs ea=>
  cases (show u=Value.ref a from rx)
  obtain ⟨its,_,⟨o,h1,h2,_⟩,_⟩:=I.tuple ea
  exact W.kia_one W.kitx_tuple I.kIn ⟨o,h1,h2⟩ e (fun z=>nomatch z) h
 | @dic a kvs ea=>
  cases (show u=Value.ref a from rx)
  obtain ⟨_,_,vs,_,p⟩:=(show fv X.prog X.w H s.heap a (.dK kvs) from I.hok a _ ea)
  obtain ⟨o,es,ep,h1,h2,_⟩:=p
  exact W.kia_one W.kitx_dict I.kIn ⟨o,h1,h2.1⟩ e (fun z=>nomatch z) h
def FX (K:W.Frag):List V->Hp->VK->Prop:=fun xs H Q=>∃ x T tn b,xs=[x,.ty T]/\yj K H x tn/\W.kitOne K (.type tn) (.type T)=some b/\Q (.bl b) H
theorem Av:dj X (.builtin "isinstance") (FX X.K):=by
 intro pins s σ H xs us Q I r h
 obtain ⟨x,T,tn,b,rfl,ty,e,q⟩:=h
 obtain ⟨u,u2,rfl,ru,ru2⟩:=yA r
 cases ru2
 exact Ff I ru ty e fun tk=>⟨.bl b,H,I.tok _,rfl,q⟩
end
def Dj (μ:aA):D->Option String
 | .non=>some "NoneType"
 | .bl _=>some "bool"
 | .int _=>some "int"
 | .str _=>some "str"
 | .tup _=>some "tuple"
 | .frz _=>some "list"
 | .obj n=>match μ[n]? with
  | some (.lst _)=>some "list"
  | some .dic=>some "dict"
  | _=>none
theorem DF {p:Pa}{H:Hp}{α:List Addr}{μ:aA}{d:D}{v:V}{tn:String} (S:p.S H α μ) (r:p.R H α d v) (h:Dj μ d=some tn):yj p.K H v tn:=by
 cases d with
 | non=>cases h;rw [cL.mp r];exact .non
 | bl b=>cases h;rw [bc.mp r];exact .bl b
 | int b=>cases h;rw [aq.mp r];exact .int b
 | str b=>cases h;rw [dk.mp r];exact .str b
 | tup xs=>cases h;obtain ⟨a,vs,rfl,h1,_⟩:=aE.mp r;exact .tup h1
 | frz xs=>cases h;obtain ⟨a,vs,rfl,h1,_⟩:=bA.mp r;exact .lst h1.sq
 | obj n=>
  unfold Dj at h
  dsimp only at h
  split at h
  ·rename_i xs hx
   cases h
   obtain ⟨a,us,rfl,a1,h1,_⟩:=dQ S r hx
   exact .lst (f7.of h1)
  ·rename_i hx
   cases h
   obtain ⟨a,ea,q⟩:=S.at hx
   obtain ⟨a',rfl,ea'⟩:=aQ.mp r
   rw [ea] at ea';cases ea'
   exact .dic q
  ·cases h
def kN (T:String) (d:D) (μ:aA):ak D:=match Dj μ d with
 | some tn=>.ok (.bl (Gc tn T)) μ
 | none=>.bad
theorem Ea {p:Pa}{X:Cx}{a:Expr}{fa:ME}{T:String}{xT:Str}{px pt pos:Pos} (hK:X.K=p.K) (hT:T∈["int", "bool", "tuple", "list", "str", "dict"]) (hg:Gl X "isinstance") (hm:X.mg "isinstance" = none) (hgT:Gl X xT) (hmT:X.mg xT=none) (hbT:bootBuiltins xT=some (.type T)) (ha:PE X a (tD p fa))
  (hnT:xT ≠ "__name__") (hdT:(xT == ("__debug__" : Str))=false) (hs1:starEach [a,.Name xT pt] X.env=(false,eval a X.env)::starEach [.Name xT pt] X.env) :
  PE X (.Call (.Name "isinstance" px) [a,.Name xT pt] [] pos) (tD p (yi (kN T) fa)):=by
 have hb:PE X (.Name xT pt) (tC (.ty T)):=BY hgT hmT hbT rfl hnT hdT
 refine (tN Av hg hm boot_isinstance (nR ha (nR hb uX rfl) hs1) (by decide) (by decide) hs1 rfl).weak fun σ H Q ⟨α,ρ,μ,S,R,P⟩=>⟨α,ρ,μ,S,R,(aD.bind P).imp fun d μ1 H1 α1 X1 S1 P1 v rv=>?_⟩
 show FX X.K [v,.ty T] H1 Q
 unfold kN at P1
 split at P1
 ·rename_i tn htn
  have ty:=DF S1 rv htn
  rw [hK]
  exact ⟨v,T,tn,_,rfl,ty,E6 tn ty.mem T hT,P1.now S1 _ (bc.mpr rfl)⟩
 ·exact P1.elim
def lE:List D->Option (List Bool)
 | []=>some []
 | .bl b::r=>(lE r).map (b::·)
 | _::_=>none
theorem pj:∀ {ds:List D}{bs:List Bool},lE ds=some bs->ds=bs.map D.bl
 | [],bs,h=>by cases h;rfl
 | .bl b::r,bs,h=>by
  unfold lE at h
  cases e:lE r with
  | none=>rw [e] at h;cases h
  | some cs=>rw [e] at h;cases h;rw [pj e];rfl
 | .non::r,bs,h=>by cases h
 | .int _::r,bs,h=>by cases h
 | .str _::r,bs,h=>by cases h
 | .tup _::r,bs,h=>by cases h
 | .frz _::r,bs,h=>by cases h
 | .obj _::r,bs,h=>by cases h
theorem yd (bs:List Bool):lE (bs.map D.bl)=some bs:=by
 induction bs with
 | nil=>rfl
 | cons b r ih=>simp only [J5,lE,ih];rfl
theorem Reps.bools {K:W.Frag}{H:Hp}{α:List Addr}:∀ {bs:List Bool}{vs:List V},Reps K H α (bs.map D.bl) vs->vs=bs.map V.bl
 | [],vs,h=>by simp only [J4,Reps] at h;exact h
 | n::ns,vs,h=>by
  simp only [J5,Reps] at h
  obtain ⟨v,r,rfl,h1,h2⟩:=h
  rw [bc.mp h1,Reps.bools h2];rfl
theorem u9 {bs:List Bool}{us:List Value} (h:ba (bs.map V.bl) us):us=bs.map Value.bool:=by
 induction bs generalizing us with
 | nil=>cases h;rfl
 | cons b r ih=>
  cases h with
  | cons h1 h2=>cases h1;rw [ih h2];rfl
theorem yf {bs:List Bool}:(List.range bs.length).all (fun i=>bs.getD i false)=bs.all id:=by
 induction bs with
 | nil=>rfl
 | cons b r ih=>
  rw [Kq,KN,List.all_cons,Mg,List.all_cons]
  congr 1
section
variable {X:Cx}
def FZ (K:W.Frag):List V->Hp->VK->Prop:=fun xs H Q=>∃ (a:Addr) (bs:List Bool),xs=[.ref a]/\f7 K H a (bs.map V.bl)/\Q (.bl (bs.all id)) H
theorem aR.fresh_it {pins:List (Addr × Obj)}{σ:St}{H:Hp}{s:Shared} (I:aR X pins σ H s) {o:Obj}{h':Heap}{tk:Nat} (hk:∀ b ob,b ∉ [s.heap.objs.size]->(s.heap.push o).get? b=some ob->h'.get? b=some ob):aR X pins σ H { s with heap:=h',toks:=tk }:=
 I.kept fun b ob e=>hk b ob (fun hm=>by
  have:b=s.heap.objs.size:=by simpa using hm
  subst this
  exact absurd (IG e) (II _)) (Jn _ e)
theorem yc (hc:X.calm=true):dj X (.builtin "all") (FZ X.K):=by
 intro pins s σ H xs us Q I r h
 obtain ⟨a,bs,rfl,ha,q⟩:=h
 obtain ⟨u,rfl,ru⟩:=gX r
 cases ru
 obtain ⟨its,rv,pl,hz⟩:=I.list ha
 have hi:its=bs.map Value.bool:=u9 rv
 have hne:a≠s.heap.objs.size:=by
  obtain ⟨o,n,e,_⟩:=pl
  exact IJ (IG e)
 refine call_all_walk (LG pl.isList ?_)
 refine ⟨s.heap.objs.size,[s.heap.objs.size,a],[s.heap.objs.size],_,_,_,fun i=>bs.getD i false,rfl,Walks.list (A:=X.A.in1) (show X.A.in1.handled=none from I.ok.hd hc) _ a hne its.toArray,⟨⟨_,Jo _ rfl,rfl,rfl⟩,pl.isList.at fun o e=>Jn _ e⟩,?_,?_⟩
 ·intro i v s' Q' E' hP hQ
  subst hi
  have hv:(bs.map Value.bool)[i]?=some v:=by simpa using hP
  rw [JF] at hv
  cases e:bs[i]? with
  | none=>rw [e] at hv;cases hv
  | some b=>
   rw [e] at hv;cases hv
   have:bs.getD i false=b:=by rw [LN,e];rfl
   dsimp only at hQ
   rw [this] at hQ
   exact Jb hQ
 ·intro h' tk hk
  have e2:its.toArray.size=bs.length:=by subst hi;simp
  rw [e2,yf]
  exact ⟨.bl _,H,I.fresh_it hk,rfl,q⟩
end
def n5 (ds:List D) (μ:aA):ak D:=match ds with
 | [.obj n]=>match μ[n]? with
  | some (.lst xs)=>match lE xs with
   | some bs=>.ok (.bl (bs.all id)) μ
   | none=>.bad
  | _=>.bad
 | _=>.bad
theorem EY {p:Pa}:vS p n5 (FZ p.K):=by
 intro ds vs H α μ Q S r P
 unfold n5 at P
 split at P
 ·rename_i n
  split at P
  ·rename_i xs hx
   split at P
   ·rename_i bs hb
    obtain ⟨v,rfl,r1⟩:=r.one
    obtain ⟨a,us,rfl,a1,h1,rr⟩:=dQ S r1 hx
    rw [pj hb] at rr
    exact ⟨a,bs,rfl,by rw [<- rr.bools];exact f7.of h1,P.now S _ (bc.mpr rfl)⟩
   ·exact P.elim
  ·exact P.elim
 ·exact P.elim
def sZ (ds:List D) (μ:aA):ak D:=match ds with
 | [.tup xs]=>.ok (.int xs.length) μ
 | [.frz xs]=>.ok (.int xs.length) μ
 | [.str x]=>if x.length<=sizeLine then .ok (.int x.length) μ else .bad
 | [.obj n]=>match μ[n]? with
  | some (.lst xs)=>.ok (.int xs.length) μ
  | _=>.bad
 | _=>.bad
theorem wt {p:Pa}:vS p sZ (fun xs H Q=>∃ x n,xs=[x]/\Dy p.K x H n/\Q (.int n) H):=by
 intro ds vs H α μ Q S r P
 unfold sZ at P
 split at P
 ·rename_i xs
  obtain ⟨v,rfl,r1⟩:=r.one
  obtain ⟨a,us,rfl,h1,rr⟩:=aE.mp r1
  exact ⟨_,xs.length,rfl,.inr ⟨us,h1,rr.length.symm⟩,P.now S _ (aq.mpr rfl)⟩
 ·rename_i xs
  obtain ⟨v,rfl,r1⟩:=r.one
  obtain ⟨a,us,rfl,h1,rr⟩:=bA.mp r1
  exact ⟨_,xs.length,rfl,.inl ⟨us,h1.sq,rr.length.symm⟩,P.now S _ (aq.mpr rfl)⟩
 ·rename_i x
  obtain ⟨v,rfl,r1⟩:=r.one
  split at P
  ·rename_i hl
   exact ⟨v,x.length,rfl,by rw [dk.mp r1];exact ⟨hl,rfl⟩,P.now S _ (aq.mpr rfl)⟩
  ·exact P.elim
 ·rename_i n
  split at P
  ·rename_i xs hx
   obtain ⟨v,rfl,r1⟩:=r.one
   obtain ⟨a,us,rfl,a1,h1,rr⟩:=dQ S r1 hx
   exact ⟨_,xs.length,rfl,.inl ⟨us,f7.of h1,rr.length.symm⟩,P.now S _ (aq.mpr rfl)⟩
  ·exact P.elim
 ·exact P.elim
def eD (ds:List D) (μ:aA):ak D:=match ds with
 | [.tup xs]=>.ok (.tup xs) μ
 | [.frz xs]=>.ok (.tup xs) μ
 | [.obj n]=>match μ[n]? with
  | some (.lst xs)=>.ok (.tup xs) μ
  | _=>.bad
 | _=>.bad
theorem z7 {p:Pa}:vS p eD (fun xs H Q=>∃ q ys,xs=[.ref q]/\((f7 p.K H q ys/\∀ l,H l=none->Q (.ref l) (cq H l (.tup ys)))\/(fB p.K H q ys/\Q (.ref q) H))):=by
 intro ds vs H α μ Q S r P
 unfold eD at P
 split at P
 ·rename_i xs
  obtain ⟨v,rfl,r1⟩:=r.one
  obtain ⟨a,us,rfl,h1,rr⟩:=aE.mp r1
  exact ⟨a,us,rfl,.inr ⟨h1,P.now S _ r1⟩⟩
 ·rename_i xs
  obtain ⟨v,rfl,r1⟩:=r.one
  obtain ⟨a,us,rfl,h1,rr⟩:=bA.mp r1
  exact ⟨a,us,rfl,.inl ⟨h1.sq,fun q hq=>P _ _ (bN hq) (S.tuple hq) _ (aE.mpr ⟨q,us,rfl,fB.of b9,rr.mono (bN hq)⟩)⟩⟩
 ·rename_i n
  split at P
  ·rename_i xs hx
   obtain ⟨v,rfl,r1⟩:=r.one
   obtain ⟨a,us,rfl,a1,h1,rr⟩:=dQ S r1 hx
   exact ⟨a,us,rfl,.inl ⟨f7.of h1,fun q hq=>P _ _ (bN hq) (S.tuple hq) _ (aE.mpr ⟨q,us,rfl,fB.of b9,rr.mono (bN hq)⟩)⟩⟩
  ·exact P.elim
 ·exact P.elim
def nr (ds:List D) (μ:aA):ak D:=match ds with
 | [.int i]=>.ok (.int i) μ
 | [.bl k]=>.ok (.int (if k then 1 else 0)) μ
 | _=>.bad
theorem EX {p:Pa}:vS p nr (fun xs H Q=>(∃ i,xs=[.int i]/\Q (.int i) H)\/∃ k,xs=[.bl k]/\Q (.int (if k then 1 else 0)) H):=by
 intro ds vs H α μ Q S r P
 unfold nr at P
 split at P
 ·rename_i i
  obtain ⟨v,rfl,r1⟩:=r.one
  exact .inl ⟨i,by rw [aq.mp r1],P.now S _ (aq.mpr rfl)⟩
 ·rename_i i
  obtain ⟨v,rfl,r1⟩:=r.one
  exact .inr ⟨i,by rw [bc.mp r1],P.now S _ (aq.mpr rfl)⟩
 ·exact P.elim
def yM (ds:List D) (μ:aA):ak D:=match ds with
 | [.int i,.int j]=>.ok (.int (if j > i then j else i)) μ
 | _=>.bad
def yL (ds:List D) (μ:aA):ak D:=match ds with
 | [.int i,.int j]=>.ok (.int (if j<i then j else i)) μ
 | _=>.bad
theorem B9 {p:Pa}:vS p yM (fun xs H Q=>∃ i j,xs=[.int i,.int j]/\Q (.int (if j > i then j else i)) H):=by
 intro ds vs H α μ Q S r P
 unfold yM at P
 split at P
 ·rename_i i j
  obtain ⟨v,u,rfl,r1,r2⟩:=r.two
  exact ⟨i,j,by rw [aq.mp r1,aq.mp r2],P.now S _ (aq.mpr rfl)⟩
 ·exact P.elim
theorem B8 {p:Pa}:vS p yL (fun xs H Q=>∃ i j,xs=[.int i,.int j]/\Q (.int (if j<i then j else i)) H):=by
 intro ds vs H α μ Q S r P
 unfold yL at P
 split at P
 ·rename_i i j
  obtain ⟨v,u,rfl,r1,r2⟩:=r.two
  exact ⟨i,j,by rw [aq.mp r1,aq.mp r2],P.now S _ (aq.mpr rfl)⟩
 ·exact P.elim
end L2
namespace L2
open PySem PySem.Spec PyProof.Rows RS
section
variable {prog:Program}{w:World}{A:Around}{E:Value->Shared->Prop}{s:Shared}
theorem uF {T:String} (hT:T = "list" \/ T = "tuple") {l:Addr}{vs:List Value}{Q:List Value->Shared->Prop}{o:Obj}{n:Nat} (ho:s.heap.get? l=some o) (hc:o.cls=.type T) (hd:o.data=.seq vs.toArray n)
  (h:Q vs { s with heap:=(s.heap.push (seqObj "list" #[] 0)).update s.heap.objs.size (Obj.mapSeq (·++vs.toArray)) }) (hsz:vs.length<=sizeLine) :
  wpAny (model prog w) A (collect (.ref l)) Q E s:=by
 unfold collect
 refine Jf (LH (Lz entry_proto_collect' ?_))
 show wpAny _ _ (do again (.builtin "list.__iadd__" ⟨[<- newList [],.ref l],[]⟩)) _ _ s
 refine Jf (LV (Jl ⟨LF _ (by decide +kernel),Lz entry_list_iadd' ?_⟩))
 show wpAny _ _ (Builtin.List.listExtendWith (.ref s.heap.objs.size) (.ref l) (.ref s.heap.objs.size)) _ _ { s with heap:=s.heap.push (seqObj "list" #[] 0) }
 unfold Builtin.List.listExtendWith
 have ho':(s.heap.push (seqObj "list" #[] 0)).get? l=some o:=Jn _ ho
 refine Jf (J1 (T:=T) ⟨o,ho',hc⟩ ?_)
 have h1:(Value.type "list" == Value.type "list")=true:=by rfl
 have h2:(Value.type "tuple" == Value.type "tuple")=true:=by rfl
 rw [ID (by rcases hT with rfl|rfl <;> simp [h1,h2])]
 refine Jf (listItems_at ho' hd ?_)
 refine Jf (listItems_at (xs:=#[]) (n:=0) (Jo _ rfl) rfl ?_)
 rw [IE (by simp)]
 refine Jf (LS (xs:=#[]) (n:=0) (Jo _ rfl) rfl ?_ (Ky _) (by show (#[]++vs.toArray).size<=sizeLine+1;simp only [Array.size_append,Ju,KS];omega))
 refine Jl ?_
 show wpAny (model prog w) A (do
   let o <- load s.heap.objs.size
   match o.data with
   | .seq xs _=>pure xs.toList
   | _=>unsupported "internal:collect") Q E { s with heap:=(s.heap.push (seqObj "list" #[] 0)).update s.heap.objs.size (Obj.mapSeq (·++vs.toArray)) }
 refine Jf (Jm (LU (Jo _ rfl) _) ?_)
 show wpAny _ _ (pure ((#[]:Array Value)++vs.toArray).toList) Q E _
 rw [show ((#[]:Array Value)++vs.toArray).toList=vs by simp]
 exact Jl h
theorem si {T:String} (hT:T = "list" \/ T = "tuple") {l:Addr}{vs:List Value}{ns:List Int}{Q:Value->Shared->Prop}{o:Obj}{n:Nat} (ho:s.heap.get? l=some o) (hc:o.cls=.type T) (hd:o.data=.seq vs.toArray n) (hI:IntsAre vs ns) (h64:vs.length<64)
  (h:∀ (out:Array Value) (ns':List Int),IntsAre out.toList ns'->ns'.Perm ns->ns'.Pairwise (·<=·)->Q (.ref (s.heap.objs.size+1)) { s with heap:=sortedAll s.heap vs out }) :
  wpAny (model prog w) A (call (.builtin "sorted") [.ref l]) Q E s:=by
 have hsz0:vs.length<=sizeLine:=IM (IP h64) (by decide)
 refine L6 kind_sorted plain_sorted entry_sorted (args_sorted1 _) ?_
 unfold Builtin.«sorted»
 refine Jf (m:=checkCount "sorted" 1 1 _) (Jl ?_)
 refine Jf (uF hT ho hc hd ?_ hsz0)
 refine Jf (LV ?_ hsz0)
 have hsz:((s.heap.push (seqObj "list" #[] 0)).update s.heap.objs.size (Obj.mapSeq (·++vs.toArray))).objs.size=s.heap.objs.size+1:=by
  rw [LX,LW]
 have hoL:(((s.heap.push (seqObj "list" #[] 0)).update s.heap.objs.size (Obj.mapSeq (·++vs.toArray))).push (seqObj "list" vs.toArray 0)).get? (s.heap.objs.size+1)=some (seqObj "list" vs.toArray 0):=by
  rw [<- hsz];exact Jo _ rfl
 show wpAny _ _ _ _ _ { s with heap:=((s.heap.push (seqObj "list" #[] 0)).update s.heap.objs.size (Obj.mapSeq (·++vs.toArray))).push (seqObj "list" vs.toArray 0) }
 rw [hsz]
 refine Jf (Jg (JY slot_list_sort ⟨_,hoL,rfl⟩ L7 (list_sort_tree hoL hI h64 fun out ns' a1 a2 a3=>⟨_,rfl,?_⟩) (args_list_sort _)))
 exact Jl ⟨_,rfl,h out ns' a1 a2 a3⟩
end
theorem pZ {h:Heap}{vs:List Value}{out:Array Value}{b:Addr}{u:Obj} (e:h.get? b=some u):(sortedAll h vs out).get? b=some u:=by
 have hb:=IG e
 have n1:b≠h.objs.size:=IJ hb
 have n2:b≠h.objs.size+1:=IJ (Ks hb)
 unfold sortedAll sortedHeap
 rw [LY _ _ _ _ n2]
 refine Jn _ (Jn _ ?_)
 rw [LY _ _ _ _ n2]
 refine Jn _ ?_
 rw [LY _ _ _ _ n1]
 exact Jn _ e
theorem p4 {h:Heap}{vs:List Value}{out:Array Value}:∃ n,(sortedAll h vs out).get? (h.objs.size+1)=some (seqObj "list" out n):=by
 unfold sortedAll sortedHeap
 have hsz:((h.push (seqObj "list" #[] 0)).update h.objs.size (Obj.mapSeq (·++vs.toArray))).objs.size=h.objs.size+1:=by
  rw [LX,LW]
 have hoL:(((h.push (seqObj "list" #[] 0)).update h.objs.size (Obj.mapSeq (·++vs.toArray))).push (seqObj "list" vs.toArray 0)).get? (h.objs.size+1)=some (seqObj "list" vs.toArray 0):=by
  rw [<- hsz];exact Jo _ rfl
 have g1:=LU hoL (fun _=>#[])
 have g2:=Jn (seqObj "list" #[] 0) (Jn (seqObj "tuple" vs.toArray 0) g1)
 exact ⟨_,LU g2 (fun _=>out)⟩
theorem ma {us:List Value}{ns:List Int} (h:IntsAre us ns):ba (ns.map V.int) us:=by
 induction h with
 | nil=>exact .nil
 | cons n t _ ih=>exact .cons ⟨t,rfl⟩ ih
section
variable {X:Cx}
def y6 (K:W.Frag):List V->Hp->VK->Prop:=fun xs H Q=>∃ (a:Addr) (ns:List Int),xs=[.ref a]/\(f7 K H a (ns.map V.int)\/fB K H a (ns.map V.int))/\ns.length<64 /\
 ∀ ns':List Int,ns'.Perm ns->ns'.Pairwise (·<=·)->∀ l,H l=none->Q (.ref l) (cq H l (.lst (ns'.map V.int)))
theorem vN:dj X (.builtin "sorted") (y6 X.K):=by
 intro pins s σ H xs us Q I r h
 obtain ⟨a,ns,rfl,ha,hl,q⟩:=h
 obtain ⟨u,rfl,ru⟩:=gX r
 cases ru
 have core:∀ (T:String),T = "list" \/ T = "tuple" -> ∀ (its:List Value) (o:Obj) (n:Nat),s.heap.get? a=some o->o.cls=.type T->o.data=.seq its.toArray n->ba (ns.map V.int) its->wpAny (model X.prog X.w) X.A (call (.builtin "sorted") [.ref a]) (EP X pins σ Q) X.xe s:=by
  intro T hT its o n e1 e2 e3 rv
  have hI:IntsAre its ns:=eY rv
  refine si hT e1 e2 e3 hI (by rw [hI.length];exact hl) fun out ns' h1 h2 h3=>?_
  refine ⟨.ref (s.heap.objs.size+1),cq H (s.heap.objs.size+1) (.lst (ns'.map V.int)),I.laid (t':=s.toks) (fun b ob e=>pZ e) (Kd _) ?_,rfl,q ns' h2 h3 _ (I.hok.fresh (Kd _))⟩
  obtain ⟨m,e⟩:=p4 (h:=s.heap) (vs:=its) (out:=out)
  refine ⟨?_,out.toList,m,ma h1,by simpa using e⟩
  rw [JI,h2.length_eq]
  exact IM (IP hl) (by decide)
 rcases ha with ha | ha
 ·obtain ⟨its, rv, ⟨o, n, e1, e2, _, e3⟩, hz⟩ := I.list ha
  exact core "list" (.inl rfl) its o n e1 e2 e3 rv
 ·obtain ⟨its, rv, ⟨o, e1, e2, n, e3⟩, hz⟩ := I.tuple ha
  exact core "tuple" (.inr rfl) its o n e1 e2 e3 rv
theorem qk {pins:List (Addr × Obj)}{σ:St}{H:Hp}{s:Shared}{r:Addr}{k:List Int} (I:aR X pins σ H s) (h:fB X.K H r (k.map V.int)):Tk X.prog X.w s.heap k r:=by
 obtain ⟨its,rv,⟨o,e1,e2,n,e3⟩,_⟩:=I.tuple h
 refine ⟨o,its.toArray,n,e1,e2,e3,?_⟩
 have core:∀ (k:List Int) (its:List Value),ba (k.map V.int) its->PySem.ItemsAre (intKind X.prog X.w) k its:=by
  intro k
  induction k with
  | nil=>intro its h;cases h;exact .nil
  | cons i r ih=>
   intro its h
   cases h with
   | cons h1 h2=>
    obtain ⟨t,rfl⟩:=h1
    exact .cons (by simp [intKind,Value.isInt]) (ih _ h2)
 simpa using core k its rv
def j8 (qs:List KP):List V:=qs.map fun p=>V.ref p.2
theorem mS:∀ {qs:List KP}{its:List Value},ba (j8 qs) its->its=qs.map fun p=>Value.ref p.2
 | [],its,h=>by cases h;rfl
 | q::qs,its,h=>by
  cases h with
  | cons h1 h2=>cases h1;rw [mS h2];rfl
theorem nu:∀ (qs:List KP),ba (j8 qs) (aS qs)
 | []=>.nil
 | q::qs=>.cons rfl (nu qs)
def yF (K:W.Frag) (w:World):List V->Hp->VK->Prop:=fun xs H Q=>∃ (a:Addr) (qs:List KP),xs=[.ref a]/\(f7 K H a (j8 qs)\/fB K H a (j8 qs))/\(∀ p∈qs,p.1∈prs/\fB K H p.2 (p.1.map V.int)) /\
 ∀ l,H l=none->Q (.ref l) (cq H l (.ext fun h=>bR w h l (eX qs)))
theorem xY (hc:X.calm=true) (hu:X.A.units+64<cLine):dj X (.type "set") (yF X.K X.w):=by
 intro pins s σ H xs us Q I r h
 obtain ⟨a,qs,rfl,ha,hq,q⟩:=h
 obtain ⟨u,rfl,ru⟩:=gX r
 cases ru
 have fin:∀ (h':Heap) (tk:Nat),bR X.w h' s.heap.objs.size (eX qs)->(∀ b o,b<s.heap.objs.size->s.heap.get? b=some o->h'.get? b=some o)->EP X pins σ Q (.ref s.heap.objs.size) { s with heap:=h',toks:=tk }:=by
  intro h' tk hS hk
  refine ⟨.ref s.heap.objs.size,cq H s.heap.objs.size (.ext fun h=>bR X.w h s.heap.objs.size (eX qs)),I.laid (t':=tk) (fun b ob e=>hk b ob (IG e) e) (Jp _) ?_,rfl,q _ (I.hok.fresh (Jp _))⟩
  refine ⟨hS,?_,fun h1 h2 g k=>g.keeps k⟩
  obtain ⟨o,es,ep,t,Z,S0,_⟩:=hS
  exact ⟨o,S0.ho⟩
 rcases ha with ha | ha
 ·obtain ⟨its, rv, pl, hz⟩ := I.list ha
  exact uj (I.ok.hd hc) pl.isList (by simpa using mS rv) (fun p hp=>(hq p hp).1) (fun p hp=>qk I (hq p hp).2) (by omega) fin
 ·obtain ⟨its, rv, pl, hz⟩ := I.tuple ha
  exact sk (I.ok.hd hc) pl (by simpa using mS rv) (fun p hp=>(hq p hp).1) (fun p hp=>qk I (hq p hp).2) (by omega) fin
def y0 (K:W.Frag) (w:World):List V->Hp->VK->Prop:=fun xs H Q=>∃ (a:Addr) (ps:List KP),xs=[.ref a]/\H a=some (.ext fun h=>bR w h a ps)/\(∀ p∈ps,fB K H p.2 (p.1.map V.int)) /\
 ∀ out:List KP,out.Perm ps->ik out->∀ l,H l=none->Q (.ref l) (cq H l (.lst (j8 out)))
theorem vM (hc:X.calm=true):dj X (.builtin "sorted") (y0 X.K X.w):=by
 intro pins s σ H xs us Q I r h
 obtain ⟨a,ps,rfl,ha,hT,q⟩:=h
 obtain ⟨u,rfl,ru⟩:=gX r
 cases ru
 obtain ⟨hS,_⟩:=(show fv X.prog X.w H s.heap a (.ext fun h=>bR X.w h a ps) from I.hok a _ ha)
 refine ve (I.ok.hd hc) hS (fun p hp=>qk I (hT p hp)) fun out hp hr h' D hD hk hn=>?_
 refine ⟨.ref D,cq H D (.lst (j8 out)),I.laid (t':=s.toks) (fun b ob e=>hk b ob e) hD ?_,rfl,q out hp hr _ (I.hok.fresh hD)⟩
 obtain ⟨n,e⟩:=hn
 refine ⟨?_,aS out,n,nu out,e⟩
 have hl:out.length<=15:=by
  rw [hp.length_eq]
  obtain ⟨o,es,ep,t,Z,S0,hk,hn⟩:=hS
  exact kF hk hn
 unfold j8
 rw [JI]
 exact IM hl (by decide)
end
end L2
namespace L2
open PySem PySem.Spec PyProof.Rows RS
def g8 (qs:List KI):List KI:=qs.foldl (fun ps p=>sR ps p.1 p.2) []
theorem sG (qs:List KI) (p:KI):g8 (qs++[p])=sR (g8 qs) p.1 p.2:=by unfold g8;rw [Ly];rfl
def fG (ns:List Int):List Int:=ns.foldl (fun acc k=>if k∈acc then acc else acc++[k]) []
theorem mv:∀ (qs ps:List KI),(qs.foldl (fun ps p=>sR ps p.1 p.2) ps).map (·.1)=(qs.map (·.1)).foldl (fun acc k=>if k∈acc then acc else acc++[k]) (ps.map (·.1))
 | [],ps=>rfl
 | q::qs,ps=>by
  rw [Kf,mv qs,J5,Kf]
  congr 1
  unfold sR
  split
  ·rfl
  ·rw [K8];rfl
theorem uJ (qs:List KI):(g8 qs).map (·.1)=fG (qs.map (·.1)):=mv qs []
theorem mf {w:World}{h:Heap}{a:Addr} (e:h.get? a=some { cls:=.type "set",dict:=none,data:=.set #[] 0 (.fresh 0 0 (k7 w)) }):c9 w h a []:=
 ⟨_,_,_,_,[],⟨e,⟨rfl,rfl,rfl⟩,rfl,⟨rfl,rfl,List.Pairwise.nil,fun z hz=>by simp at hz,rfl,fun z hz=>by simp at hz⟩,rfl,rfl,.inl ⟨rfl,by decide⟩,List.Perm.nil⟩,fun p hp=>by simp at hp,Lg⟩
def mG (p:KI):Value:=Value.int p.1 p.2
section
variable {prog:Program}{w:World}{A:Around}{E:Value->Shared->Prop}{s:Shared}
theorem q5 {qs:List KI}{S:Addr}{u:Nat} (hk:∀ p∈qs,p.1∈ins):yz prog w u S (qs.map mG) (fun i h=>c9 w h S (g8 (qs.take i))):=by
 refine ⟨fun i h h' hk' j1=>j1.keeps fun o e=>hk' S o (Jp _) e,fun A i v s E Q hA hv j1 hQ=>?_⟩
 rw [JF] at hv
 cases e:qs[i]? with
 | none=>rw [e] at hv;cases hv
 | some p=>
  rw [e] at hv
  cases hv
  have hpm:p∈qs:=JG e
  unfold setAdd mG
  refine Jg ?_
  refine Jf (wpAny_pyHash_int ?_)
  refine CQ (s:={ s with toks:=s.toks+1 }) j1 (hk p hpm) fun b h' hsb hS2=>?_
  have etk:qs.take (i+1)=qs.take i++[p]:=by rw [LI,e];rfl
  refine hQ b h' _ (LJ _ _) hsb (by rw [etk,sG];exact hS2)
theorem qL:∀ (qs:List KI),IntsAre (qs.map mG) (qs.map (·.1))
 | []=>.nil
 | p::qs=>.cons p.1 p.2 (qL qs)
theorem tY {vs:List Value}{ns:List Int} (h:IntsAre vs ns):∃ qs:List KI,vs=qs.map mG/\qs.map (·.1)=ns:=by
 induction h with
 | nil=>exact ⟨[],rfl,rfl⟩
 | cons n t _ ih=>
  obtain ⟨qs,e1,e2⟩:=ih
  exact ⟨(n,t)::qs,by rw [e1];rfl,by rw [<- e2];rfl⟩
theorem ui {a:Addr}{ps:List KI}{Q:Value->Shared->Prop} (hh:A.handled=none) (S:c9 w s.heap a ps)
  (h:∀ (out:List Value) (ns':List Int),IntsAre out ns'->ns'.Perm (ps.map (·.1))->ns'.Pairwise (·<=·)->∀ h' D,s.heap.objs.size<=D->(∀ b u,s.heap.get? b=some u->h'.get? b=some u)->(∃ n,h'.get? D=some (seqObj "list" out.toArray n))->Q (.ref D) { s with heap:=h' }) :
  wpAny (model prog w) A (call (.builtin "sorted") [.ref a]) Q E s:=by
 obtain ⟨o,es,ep,t,Z,S,hk,hn⟩:=S
 have h6:=ki hk hn
 refine L6 kind_sorted plain_sorted entry_sorted (args_sorted1 _) ?_
 unfold Builtin.«sorted»
 refine Jf (m:=checkCount "sorted" 1 1 _) (Jl ?_)
 refine Jf (ny (by simpa using hh) S (by rw [S.len,JI];omega) fun qs hqs h1 k1 hsz=>?_)
 obtain ⟨rs,q1,q2⟩:=mn hqs ps rfl
 have q3:qs.map (·.2)=rs.map mG:=by rw [q2,KO];rfl
 rw [q3]
 have hvl:(rs.map mG).length<=6:=by rw [JI,q1.length_eq];exact h6
 refine Jf (LV ?_ (IM hvl (by decide)))
 have hoL:(h1.push (seqObj "list" (rs.map mG).toArray 0)).get? h1.objs.size=some (seqObj "list" (rs.map mG).toArray 0):=Jo _ rfl
 have hnn:∀ b u,h1.get? b=some u->b≠h1.objs.size:=fun b u q=>IJ (IG q)
 refine Jf (Jg (JY slot_list_sort (s:={ s with heap:=h1.push (seqObj "list" (rs.map mG).toArray 0) }) ⟨_,hoL,rfl⟩ L7 ?body (args_list_sort _)))
 case body=>
  refine list_sort_tree (s:={ s with heap:=h1.push (seqObj "list" (rs.map mG).toArray 0) }) hoL (qL rs) (by omega) fun out ns' a1 a2 a3=>⟨_,rfl,?_⟩
  refine Jl ⟨_,rfl,h out.toList ns' a1 (a2.trans (q1.map _)) a3 _ h1.objs.size hsz (fun b u q=>?_) ?_⟩
  ·have hb := hnn b u (k1 b u q)
   unfold sortedHeap
   rw [LY _ _ _ _ hb]
   refine Jn _ (Jn _ ?_)
   rw [LY _ _ _ _ hb]
   exact Jn _ (k1 b u q)
  ·unfold sortedHeap
   have g1:=LU hoL (fun _=>#[])
   have g2:=Jn (seqObj "list" #[] 0) (Jn (seqObj "tuple" (rs.map mG).toArray 0) g1)
   exact ⟨_,LU g2 (fun _=>out)⟩
end
section
variable {X:Cx}
def yG (K:W.Frag) (w:World):List V->Hp->VK->Prop:=fun xs H Q=>∃ (a:Addr) (ns:List Int),xs=[.ref a]/\(f7 K H a (ns.map V.int)\/fB K H a (ns.map V.int))/\(∀ n∈ns,n∈ins) /\
 ∀ l,H l=none->∀ ps:List KI,ps.map (·.1)=fG ns->(∀ p∈ps,p.1∈ins)->(ps.map (·.1)).Nodup->Q (.ref l) (cq H l (.ext fun h=>c9 w h l ps))
theorem xZ (hc:X.calm=true) (hu:X.A.units+64<cLine):dj X (.type "set") (yG X.K X.w):=by
 intro pins s σ H xs us Q I r h
 obtain ⟨a,ns,rfl,ha,hq,q⟩:=h
 obtain ⟨u,rfl,ru⟩:=gX r
 cases ru
 have fin:∀ (qs:List KI),qs.map (·.1)=ns->∀ (h':Heap) (tk:Nat),c9 X.w h' s.heap.objs.size (g8 qs)->(∀ b o,b<s.heap.objs.size->s.heap.get? b=some o->h'.get? b=some o)->EP X pins σ Q (.ref s.heap.objs.size) { s with heap:=h',toks:=tk }:=by
  intro qs eq h' tk hS hk
  obtain ⟨o,es,ep,t,Z,S0,k1,k2⟩:=id hS
  refine ⟨.ref s.heap.objs.size,cq H s.heap.objs.size (.ext fun h=>c9 X.w h s.heap.objs.size (g8 qs)),I.laid (t':=tk) (fun b ob e=>hk b ob (IG e) e) (Jp _) ?_,rfl,q _ (I.hok.fresh (Jp _)) _ (by rw [uJ,eq]) k1 k2⟩
  exact ⟨hS,⟨o,S0.ho⟩,fun h1 h2 g k=>g.keeps k⟩
 rcases ha with ha | ha
 ·obtain ⟨its, rv, pl, hz⟩ := I.list ha
  obtain ⟨qs,e1,e2⟩:=tY (eY rv)
  subst e1
  have hsz:(qs.map mG).toArray.size=qs.length:=by rw [Ju,JI]
  refine me (I.ok.hd hc) pl.isList (J:=fun i h=>c9 X.w h s.heap.objs.size (g8 (qs.take i))) ?_ (fun h' k e=>mf e) fun h' tk j1=>fin qs e2 h' tk ?_
  ·exact q5 fun p hp=>hq _ (by rw [<- e2];exact K5 hp)
  ·rw [hsz,LK] at j1;exact j1
 ·obtain ⟨its, rv, pl, hz⟩ := I.tuple ha
  obtain ⟨qs,e1,e2⟩:=tY (eY rv)
  subst e1
  have hsz:(qs.map mG).toArray.size=qs.length:=by rw [Ju,JI]
  refine la (I.ok.hd hc) pl (J:=fun i h=>c9 X.w h s.heap.objs.size (g8 (qs.take i))) ?_ (fun h' k e=>mf e) fun h' tk j1=>fin qs e2 h' tk ?_
  ·exact q5 fun p hp=>hq _ (by rw [<- e2];exact K5 hp)
  ·rw [hsz,LK] at j1;exact j1
def yZ (w:World):List V->Hp->VK->Prop:=fun xs H Q=>∃ (a:Addr) (ps:List KI),xs=[.ref a]/\H a=some (.ext fun h=>c9 w h a ps) /\
 ∀ ns':List Int,ns'.Perm (ps.map (·.1))->ns'.Pairwise (·<=·)->∀ l,H l=none->Q (.ref l) (cq H l (.lst (ns'.map V.int)))
theorem vL (hc:X.calm=true):dj X (.builtin "sorted") (yZ X.w):=by
 intro pins s σ H xs us Q I r h
 obtain ⟨a,ps,rfl,ha,q⟩:=h
 obtain ⟨u,rfl,ru⟩:=gX r
 cases ru
 obtain ⟨hS,_⟩:=(show fv X.prog X.w H s.heap a (.ext fun h=>c9 X.w h a ps) from I.hok a _ ha)
 obtain ⟨o,es,ep,t,Z,S0,k1,k2⟩:=id hS
 have h6:=ki k1 k2
 refine ui (I.ok.hd hc) hS fun out ns' a1 a2 a3 h' D hD hk hn=>?_
 refine ⟨.ref D,cq H D (.lst (ns'.map V.int)),I.laid (t':=s.toks) (fun b ob e=>hk b ob e) hD ?_,rfl,q ns' a2 a3 _ (I.hok.fresh hD)⟩
 obtain ⟨n,e⟩:=hn
 refine ⟨?_,out,n,ma a1,e⟩
 rw [JI,a2.length_eq,JI]
 exact IM h6 (by decide)
def C2 (w:World):List V->Hp->VK->Prop:=fun xs H Q=>∃ (a:Addr) (ps:List KI),xs=[.ref a]/\H a=some (.ext fun h=>c9 w h a ps)/\Q (.int ps.length) H
theorem x9:dj X (.builtin "len") (C2 X.w):=by
 intro pins s σ H xs us Q I r h
 obtain ⟨a,ps,rfl,ha,q⟩:=h
 obtain ⟨u,rfl,ru⟩:=gX r
 cases ru
 obtain ⟨hS,_⟩:=(show fv X.prog X.w H s.heap a (.ext fun h=>c9 X.w h a ps) from I.hok a _ ha)
 obtain ⟨o,es,ep,t,Z,S0,k1,k2⟩:=id hS
 have h6:=ki k1 k2
 have hsz:es.size=ps.length:=by rw [S0.tab.size.2,S0.len,JI]
 refine PySem.call_len_set S0.ho S0.ex S0.hd S0.fits (by rw [hsz];omega) ⟨.int ps.length,H,?_,⟨_,by rw [hsz]⟩,q⟩
 exact I.tok _
def C3 (w:World):List V->Hp->VK->Prop:=fun xs H Q=>∃ (a:Addr) (ps:List KP),xs=[.ref a]/\H a=some (.ext fun h=>bR w h a ps)/\Q (.int ps.length) H
theorem ya:dj X (.builtin "len") (C3 X.w):=by
 intro pins s σ H xs us Q I r h
 obtain ⟨a,ps,rfl,ha,q⟩:=h
 obtain ⟨u,rfl,ru⟩:=gX r
 cases ru
 obtain ⟨hS,_⟩:=(show fv X.prog X.w H s.heap a (.ext fun h=>bR X.w h a ps) from I.hok a _ ha)
 obtain ⟨o,es,ep,t,Z,S0,k1,k2⟩:=id hS
 have h6:=kF k1 k2
 have hsz:es.size=ps.length:=by rw [S0.tab.size.2,S0.len,JI]
 refine PySem.call_len_set S0.ho S0.ex S0.hd S0.fits (by rw [hsz];omega) ⟨.int ps.length,H,?_,⟨_,by rw [hsz]⟩,q⟩
 exact I.tok _
end
end L2
namespace L2
open PySem PySem.Spec PyProof.Rows RS
def aj (k:List Int):D:=.tup (k.map D.int)
def wV:D->Option (List Int)
 | .tup [.int a,.int b]=>if 0<=a/\a<b/\b<6 then some [a,b] else none
 | _=>none
def k8:List D->Option (List (List Int))
 | []=>some []
 | d::r=>match wV d,k8 r with
  | some k,some ks=>some (k::ks)
  | _,_=>none
theorem Ct {d:D}{k:List Int} (h:wV d=some k):d=aj k/\k∈prs:=by
 unfold wV at h
 split at h
 ·split at h
  ·rename_i hc
   cases h
   exact ⟨rfl,rY hc.1 hc.2.1 hc.2.2⟩
  ·cases h
 ·cases h
theorem xM {a b:Int} (h:0<=a/\a<b/\b<6):wV (.tup [.int a,.int b])=some [a,b]:=by
 simp only [wV,ID h]
theorem tW:∀ {ds:List D}{ks:List (List Int)},k8 ds=some ks->ds=ks.map aj/\∀ k∈ks,k∈prs
 | [],ks,h=>by cases h;exact ⟨rfl,fun k hk=>by simp at hk⟩
 | d::r,ks,h=>by
  unfold k8 at h
  split at h
  ·rename_i k ks' h1 h2
   cases h
   obtain ⟨e1,e2⟩:=Ct h1
   obtain ⟨f1,f2⟩:=tW h2
   refine ⟨by rw [e1,f1];rfl,fun k' hk=>?_⟩
   rcases IT.mp hk with z | z
   ·rw [z];exact e2
   ·exact f2 k' z
  ·cases h
theorem oK:∀ {ks:List (List Int)},(∀ k∈ks,k∈prs)->k8 (ks.map aj)=some ks
 | [],_=>rfl
 | k::ks,h=>by
  obtain ⟨a,b,rfl,h1,h2,h3⟩:=fw (h k IR)
  simp only [J5,k8,oK fun k' hk=>h k' (IS _ hk)]
  have:wV (aj [a,b])=some [a,b]:=xM ⟨h1,h2,h3⟩
  rw [this]
def lC (ks:List (List Int)) (k:List Int):List (List Int):=if k∈ks then ks else ks++[k]
def dv (ks:List (List Int)):List (List Int):=ks.foldl lC []
def fE (ks:List (List Int)):List (List Int):=prs.filter fun k=>decide (k∈ks)
theorem pA:∀ (qs ps:List KP),(qs.foldl (fun ps p=>ia ps p.1 p.2) ps).map (·.1)=(qs.map (·.1)).foldl lC (ps.map (·.1))
 | [],ps=>rfl
 | q::qs,ps=>by
  rw [Kf,J5,Kf,pA qs]
  congr 1
  unfold ia lC
  split <;> simp
theorem xV (qs:List KP):(eX qs).map (·.1)=dv (qs.map (·.1)):=pA qs []
theorem xU {ks:List (List Int)}{k:List Int}:k∈dv ks↔k∈ks:=by
 have core:∀ (ks acc:List (List Int)),k∈ks.foldl lC acc↔k∈acc\/k∈ks:=by
  intro ks
  induction ks with
  | nil=>intro acc;simp
  | cons x r ih=>
   intro acc
   rw [Kf,ih]
   unfold lC
   split
   ·rename_i hx
    constructor
    ·rintro (h | h)
     ·exact .inl h
     ·exact .inr (IS _ h)
    ·rintro (h | h)
     ·exact .inl h
     ·rcases IT.mp h with z | z
      ·exact .inl (by rw [z];exact hx)
      ·exact .inr z
   ·simp [or_assoc]
 unfold dv
 rw [core]
 simp
theorem lG:prs.Pairwise fun a b=>nj a<nj b:=by decide +kernel
theorem Ao {l m:List (List Int)} (hl:l.Pairwise fun a b=>nj a<nj b) (hm:m.Pairwise fun a b=>nj a<nj b) (h:∀ k,k∈l↔k∈m):l=m:=by
 have nl:l.Nodup:=hl.imp fun h e=>by subst e;omega
 have nm:m.Nodup:=hm.imp fun h e=>by subst e;omega
 have hp:l.Perm m:=(Li nl nm).mpr h
 refine hp.eq_of_pairwise (le:=fun a b=>nj a<nj b) (fun a b _ _ h1 h2=>by omega) hl hm
theorem zy {out:List KP}{ps:List KP} (hk:∀ p∈ps,p.1∈prs) (hp:out.Perm ps) (hr:ik out):out.map (·.1)=fE (ps.map (·.1)):=by
 refine Ao ?_ (lG.filter _) fun k=>?_
 ·unfold ik at hr
  rw [LR]
  exact hr
 ·have h1 : k ∈ out.map (·.1) ↔ k ∈ ps.map (·.1) := (hp.map _).mem_iff
  rw [h1]
  unfold fE
  rw [IK,Md]
  constructor
  ·intro h
   refine ⟨?_,h⟩
   obtain ⟨p,hp',rfl⟩:=K1.mp h
   exact hk p hp'
  ·exact fun h=>h.2
theorem kq (ks:List (List Int)):fE (dv ks)=fE ks:=by
 unfold fE
 apply List.filter_congr
 intro k _
 simp only [xU]
theorem Reps.keys {K:W.Frag}{H:Hp}{α:List Addr}:∀ {ks:List (List Int)}{vs:List V},Reps K H α (ks.map aj) vs->∃ qs:List KP,qs.map (·.1)=ks/\vs=j8 qs/\∀ p∈qs,fB K H p.2 (p.1.map V.int)
 | [],vs,h=>by simp only [J4,Reps] at h;exact ⟨[],rfl,h,fun p hp=>by simp at hp⟩
 | k::ks,vs,h=>by
  simp only [J5,Reps] at h
  obtain ⟨v,r,rfl,h1,h2⟩:=h
  obtain ⟨a,us,rfl,h3,h4⟩:=aE.mp h1
  obtain ⟨qs,e1,e2,e3⟩:=Reps.keys h2
  refine ⟨(k,a)::qs,by rw [J5,e1],by rw [e2];rfl,fun p hp=>?_⟩
  rcases IT.mp hp with z | z
  ·subst z
   rw [<- h4.ints];exact h3
  ·exact e3 p z
theorem nA {K:W.Frag}{H:Hp}{α:List Addr}:∀ {qs:List KP},(∀ p∈qs,fB K H p.2 (p.1.map V.int))->Reps K H α ((qs.map (·.1)).map aj) (j8 qs)
 | [],_=>Reps.nil
 | q::qs,h=>by
  refine Reps.cons (aE.mpr ⟨q.2,_,rfl,h q IR,iV _⟩) (nA fun p hp=>h p (IS _ hp))
def ja:List D->Option (List Int)
 | []=>some []
 | .int i::r=>(ja r).map (i::·)
 | _::_=>none
theorem gp:∀ {ds:List D}{ns:List Int},ja ds=some ns->ds=ns.map D.int
 | [],bs,h=>by cases h;rfl
 | .int b::r,bs,h=>by
  unfold ja at h
  cases e:ja r with
  | none=>rw [e] at h;cases h
  | some cs=>rw [e] at h;cases h;rw [gp e];rfl
 | .non::r,bs,h=>by cases h
 | .bl _::r,bs,h=>by cases h
 | .str _::r,bs,h=>by cases h
 | .tup _::r,bs,h=>by cases h
 | .frz _::r,bs,h=>by cases h
 | .obj _::r,bs,h=>by cases h
theorem vE {ns:List Int} (h:∀ n∈ns,n∈ins):(fG ns).length<=6:=by
 have core:∀ (l acc:List Int),(∀ n∈l,n∈ins)->(∀ n∈acc,n∈ins)->acc.Nodup->(l.foldl (fun acc k=>if k∈acc then acc else acc++[k]) acc).length<=6:=by
  intro l
  induction l with
  | nil=>
   intro acc _ h2 h3
   have:=jd h3 (l2:=ins) h2
   exact this
  | cons x l ih=>
   intro acc h1 h2 h3
   rw [Kf]
   have hx:=h1 x IR
   split
   ·exact ih acc (fun n hn=>h1 n (IS _ hn)) h2 h3
   ·rename_i hxa
    refine ih (acc++[x]) (fun n hn=>h1 n (IS _ hn)) (fun n hn=>?_) ?_
    ·rcases IV.mp hn with z | z
     ·exact h2 n z
     ·rw [KA.mp z];exact hx
    ·refine Lr.mpr ⟨h3, by simp, fun u hu v hv e => ?_⟩
     rw [KA.mp hv] at e
     exact hxa (e ▸ hu)
 exact core ns [] h (fun n hn=>by simp at hn) Lg
def yw (xs:List D):Option (List Int):=match ja xs with
 | some ns=>if ns.all (fun n=>decide (0<=n/\n<6))=true then some ns else none
 | none=>none
theorem Cz {xs:List D}{ns:List Int} (h:yw xs=some ns):xs=ns.map D.int/\∀ n∈ns,n∈ins:=by
 unfold yw at h
 split at h
 ·rename_i ms hm
  split at h
  ·rename_i ha
   cases h
   refine ⟨gp hm,fun n hn=>Cy.mpr ?_⟩
   simpa using Lk.mp ha n hn
  ·cases h
 ·cases h
def nq (xs:List D) (μ:aA):ak D:=match k8 xs with
 | some ks=>.ok (.obj μ.length) (μ++[.set (dv ks)])
 | none=>match yw xs with
  | some ns=>.ok (.obj μ.length) (μ++[.iset (fG ns)])
  | none=>.bad
def lB (ds:List D) (μ:aA):ak D:=match ds with
 | [.tup xs]=>nq xs μ
 | [.obj n]=>match μ[n]? with
  | some (.lst xs)=>nq xs μ
  | _=>.bad
 | _=>.bad
section
variable {p:Pa}
theorem Cf {H:Hp}{α:List Addr}{μ:aA}{ks:List (List Int)}{vs:List V}{Q:VK} (S:p.S H α μ) (hk:∀ k∈ks,k∈prs) (r:p.Rs H α (ks.map aj) vs) (P:aD p H α (.ok (.obj μ.length) (μ++[.set (dv ks)])) (RV p Q)) :
  ∃ qs:List KP,vs=j8 qs/\(∀ q∈qs,q.1∈prs/\fB p.K H q.2 (q.1.map V.int))/\∀ l,H l=none->Q (.ref l) (cq H l (.ext fun h=>bR p.w h l (eX qs))):=by
 obtain ⟨qs,e1,e2,e3⟩:=r.keys
 refine ⟨qs,e2,fun q hq=>⟨hk _ (by rw [<- e1];exact K5 hq),e3 q hq⟩,fun l hl=>?_⟩
 have x1:p.X H (cq H l (.ext fun h=>bR p.w h l (eX qs))) α (α++[l]):=(bN hl).trans (kl [l])
 refine P _ _ x1 (S.more hl ⟨eX qs,by rw [xV,e1],b9,fun q hq=>?_,sF,fun q hq=>?_⟩) _ (aQ.mpr ⟨l,rfl,by rw [<- S.len];simp⟩)
 ·exact hk _ (by rw [<- e1];exact K5 (lK hq))
 ·exact x1.tup _ _ (e3 q (lK hq))
theorem Aa {H:Hp}{α:List Addr}{μ:aA}{ns:List Int}{Q:VK} (S:p.S H α μ) (hk:∀ n∈ns,n∈ins) (P:aD p H α (.ok (.obj μ.length) (μ++[.iset (fG ns)])) (RV p Q)) :
  ∀ l,H l=none->∀ ps:List KI,ps.map (·.1)=fG ns->(∀ p∈ps,p.1∈ins)->(ps.map (·.1)).Nodup->Q (.ref l) (cq H l (.ext fun h=>c9 p.w h l ps)):=fun l hl ps e _ _=>by
 have x1:p.X H (cq H l (.ext fun h=>c9 p.w h l ps)) α (α++[l]):=(bN hl).trans (kl [l])
 exact P _ _ x1 (S.more hl ⟨ps,e,b9,vE hk⟩) _ (aQ.mpr ⟨l,rfl,by rw [<- S.len];simp⟩)
theorem yX {H:Hp}{α:List Addr}{μ:aA}{xs:List D}{us:List V}{a:Addr}{Q:VK} (S:p.S H α μ) (h1:f7 p.K H a us\/fB p.K H a us) (rr:p.Rs H α xs us) (P:aD p H α (nq xs μ) (RV p Q)):yF p.K p.w [.ref a] H Q\/yG p.K p.w [.ref a] H Q:=by
 unfold nq at P
 split at P
 ·rename_i ks hks
  obtain ⟨f1,f2⟩:=tW hks
  rw [f1] at rr
  obtain ⟨qs,e1,e2,e3⟩:=Cf S f2 rr P
  exact .inl ⟨a,qs,rfl,by rw [<- e1];exact h1,e2,e3⟩
 ·split at P
  ·rename_i ns hns
   obtain ⟨f1,f2⟩:=Cz hns
   rw [f1] at rr
   exact .inr ⟨a,ns,rfl,by rw [<- rr.ints];exact h1,f2,Aa S f2 P⟩
  ·exact P.elim
theorem ET:vS p lB (fun xs H Q=>yF p.K p.w xs H Q\/yG p.K p.w xs H Q):=by
 intro ds vs H α μ Q S r P
 unfold lB at P
 split at P
 ·rename_i xs
  obtain ⟨v,rfl,r1⟩:=r.one
  obtain ⟨a,us,rfl,h1,rr⟩:=aE.mp r1
  exact yX S (.inr h1) rr P
 ·rename_i n
  split at P
  ·rename_i xs hx
   obtain ⟨v,rfl,r1⟩:=r.one
   obtain ⟨a,us,rfl,a1,h1,rr⟩:=dQ S r1 hx
   exact yX S (.inl (f7.of h1)) rr P
  ·exact P.elim
 ·exact P.elim
def j7 (ns:List Int):List Int:=ns.mergeSort fun a b=>decide (a<=b)
theorem l7 {ns ns':List Int} (hp:ns'.Perm ns) (hs:ns'.Pairwise (·<=·)):ns'=j7 ns:=by
 have h1:(j7 ns).Perm ns:=List.mergeSort_perm ns _
 have h2:(j7 ns).Pairwise (·<=·):=by
  have:=List.pairwise_mergeSort (le:=fun (a b:Int)=>decide (a<=b)) (fun a b c h1 h2=>by simp at *;omega) (fun a b=>by simp;omega) ns
  exact this.imp fun h=>by simpa using h
 exact (hp.trans h1.symm).eq_of_pairwise (fun a b _ _ h1 h2=>Mh h1 h2) hs h2
def bH (ds:List D) (μ:aA):ak D:=match ds with
 | [.tup xs]=>match ja xs with
  | some ns=>if ns.length<64 then .ok (.obj μ.length) (μ++[.lst ((j7 ns).map D.int)]) else .bad
  | none=>.bad
 | [.obj n]=>match μ[n]? with
  | some (.lst xs)=>match ja xs with
   | some ns=>if ns.length<64 then .ok (.obj μ.length) (μ++[.lst ((j7 ns).map D.int)]) else .bad
   | none=>.bad
  | some (.set ks)=>.ok (.obj μ.length) (μ++[.lst ((fE ks).map aj)])
  | some (.iset ks)=>.ok (.obj μ.length) (μ++[.lst ((j7 ks).map D.int)])
  | _=>.bad
 | _=>.bad
theorem xE:vS p bH (fun xs H Q=>(y6 p.K xs H Q\/y0 p.K p.w xs H Q)\/yZ p.w xs H Q):=by
 intro ds vs H α μ Q S r P
 have fin:∀ {ns:List Int},aD p H α (.ok (.obj μ.length) (μ++[.lst ((j7 ns).map D.int)])) (RV p Q)->∀ ns':List Int,ns'.Perm ns->ns'.Pairwise (·<=·)->∀ l,H l=none->Q (.ref l) (cq H l (.lst (ns'.map V.int))):=by
  intro ns P ns' h1 h2 l hl
  rw [<- l7 h1 h2] at P
  obtain ⟨x1,x2,x3⟩:=eH S hl (iV ns')
  exact P _ _ x1 x2 _ x3
 unfold bH at P
 split at P
 ·rename_i xs
  split at P
  ·rename_i ns hns
   split at P
   ·rename_i hl
    obtain ⟨v,rfl,r1⟩:=r.one
    obtain ⟨a,us,rfl,h1,rr⟩:=aE.mp r1
    rw [gp hns] at rr
    exact .inl (.inl ⟨a,ns,rfl,.inr (by rw [<- rr.ints];exact h1),hl,fin P⟩)
   ·exact P.elim
  ·exact P.elim
 ·rename_i n
  split at P
  ·rename_i xs hx
   split at P
   ·rename_i ns hns
    split at P
    ·rename_i hl
     obtain ⟨v,rfl,r1⟩:=r.one
     obtain ⟨a,us,rfl,a1,h1,rr⟩:=dQ S r1 hx
     rw [gp hns] at rr
     exact .inl (.inl ⟨a,ns,rfl,.inl (by rw [<- rr.ints];exact f7.of h1),hl,fin P⟩)
    ·exact P.elim
   ·exact P.elim
  ·rename_i ks hx
   obtain ⟨v,rfl,r1⟩:=r.one
   obtain ⟨a,ea,ps,e1,e2,e3,e4,e5⟩:=S.at hx
   obtain ⟨a',rfl,ea'⟩:=aQ.mp r1
   rw [ea] at ea';cases ea'
   refine .inl (.inr ⟨a,ps,rfl,e2,e5,fun out hp hr l hl=>?_⟩)
   have rr:p.Rs H α ((out.map (·.1)).map aj) (j8 out):=nA fun q hq=>e5 q (hp.mem_iff.mp hq)
   rw [zy e3 hp hr,e1] at rr
   obtain ⟨x1,x2,x3⟩:=eH S hl rr
   exact P _ _ x1 x2 _ x3
  ·rename_i ks hx
   obtain ⟨v,rfl,r1⟩:=r.one
   obtain ⟨a,ea,ps,e1,e2,e3⟩:=S.at hx
   obtain ⟨a',rfl,ea'⟩:=aQ.mp r1
   rw [ea] at ea';cases ea'
   exact .inr ⟨a,ps,rfl,e2,by rw [e1];exact fin P⟩
  ·exact P.elim
 ·exact P.elim
def j4 (ds:List D) (μ:aA):ak D:=match ds with
 | [.obj n]=>match μ[n]? with
  | some (.iset ks)=>.ok (.int ks.length) μ
  | some (.set ks)=>.ok (.int ks.length) μ
  | _=>sZ [.obj n] μ
 | _=>sZ ds μ
theorem EW:vS p j4 (fun xs H Q=>((∃ x n,xs=[x]/\Dy p.K x H n/\Q (.int n) H)\/C2 p.w xs H Q)\/C3 p.w xs H Q):=by
 intro ds vs H α μ Q S r P
 unfold j4 at P
 split at P
 ·rename_i n
  split at P
  ·rename_i ks hx
   obtain ⟨v,rfl,r1⟩:=r.one
   obtain ⟨a,ea,ps,e1,e2,e3⟩:=S.at hx
   obtain ⟨a',rfl,ea'⟩:=aQ.mp r1
   rw [ea] at ea';cases ea'
   refine .inl (.inr ⟨a,ps,rfl,e2,P.now S _ (aq.mpr ?_)⟩)
   rw [<- e1,JI]
  ·rename_i ks hx
   obtain ⟨v,rfl,r1⟩:=r.one
   obtain ⟨a,ea,ps,e1,e2,e3⟩:=S.at hx
   obtain ⟨a',rfl,ea'⟩:=aQ.mp r1
   rw [ea] at ea';cases ea'
   refine .inr ⟨a,ps,rfl,e2,P.now S _ (aq.mpr ?_)⟩
   rw [<- e1,JI]
  ·exact .inl (.inl (wt _ vs H α μ Q S r P))
 ·exact .inl (.inl (wt _ vs H α μ Q S r P))
end
section
variable {X:Cx}
def C0 (K:W.Frag):List V->Hp->VK->Prop:=fun xs H Q=>∃ (a:Addr) (ns:List Int),xs=[.ref a]/\(f7 K H a (ns.map V.int)\/fB K H a (ns.map V.int))/\ns≠[]/\∀ m∈ns,(∀ j∈ns,m<=j)->Q (.int m) H
def C1 (K:W.Frag):List V->Hp->VK->Prop:=fun xs H Q=>∃ (a:Addr) (ns:List Int),xs=[.ref a]/\(f7 K H a (ns.map V.int)\/fB K H a (ns.map V.int))/\ns≠[]/\∀ m∈ns,(∀ j∈ns,j<=m)->Q (.int m) H
theorem kG {its:List Value}{ns:List Int} (h:IntsAre its ns) {i:Nat}{v:Value} (e:its.toArray[i]?=some v):∃ t,v=.int (ns.getD i 0) t/\i<ns.length:=by
 have e':its[i]?=some v:=by simpa using e
 obtain ⟨n,t,rfl,hn⟩:=h.at i v e'
 have hi:=(IX.mp hn).1
 exact ⟨t,by rw [LN,hn];rfl,hi⟩
theorem tZ {ns:List Int}{i:Nat} (h:i<ns.length):ns.getD i 0∈ns:=by
 rw [LN,L1 h]
 exact L0 h
theorem tU {ns:List Int}{j:Int} (h:j∈ns):∃ i,i<ns.length/\ns.getD i 0=j:=by
 obtain ⟨i,hi,e⟩:=L8 h
 exact ⟨i,hi,by rw [LN,L1 hi];exact e⟩
theorem x5 (hc:X.calm=true):dj X (.builtin "min") (C0 X.K):=by
 intro pins s σ H xs us Q I r h
 obtain ⟨a,ns,rfl,ha,hne,q⟩:=h
 obtain ⟨u,rfl,ru⟩:=gX r
 cases ru
 have hpos:0<ns.length:=Mi.mpr hne
 have core:∀ (its:List Value) (o:Obj),IntsAre its ns->∀ v s',its.toArray[argBest (fun i j=>decide (ns.getD i 0<ns.getD j 0)) (its.toArray.size - 1)]?=some v->Moved [s.heap.objs.size] (fun a b=>b=a) { s with heap:=s.heap.push o } s'->EP X pins σ Q v s':=by
  intro its o hI v s' hv hm
  obtain ⟨t,rfl,hi⟩:=kG hI hv
  have hsz:its.toArray.size - 1=ns.length - 1:=by rw [Ju,hI.length]
  rw [hsz] at hi ⊢
  obtain ⟨b1,b2⟩:=argBest_lt (fun i=>ns.getD i 0) (ns.length - 1)
  obtain ⟨hh,g,d,tk,os⟩:=s'
  have e1:g=s.gens:=hm.gens
  have e2:d=s.drawn:=hm.drawn
  have e3:os=s.os:=hm.os
  subst e1 e2 e3
  refine ⟨.int _,H,I.fresh_it (o:=o) (h':=hh) (tk:=tk) fun b ob hb e=>hm.heap b ob hb e,⟨t,rfl⟩,q _ (tZ hi) fun j hj=>?_⟩
  obtain ⟨i,hi',rfl⟩:=tU hj
  exact b2 i (by omega)
 have cmp:∀ (its:List Value),IntsAre its ns->CmpOf X.prog X.w X.A.in1 .Lt (fun i v=>its.toArray[i]?=some v) (fun i j=>decide (ns.getD i 0<ns.getD j 0)):=by
  intro its hI i j vi vj s' Q' E' h1 h2 hQ
  obtain ⟨t1,rfl,_⟩:=kG hI h1
  obtain ⟨t2,rfl,_⟩:=kG hI h2
  exact (PyProof.Rows.lt_int hQ:wpAny _ _ (compareOp .Lt _ _) _ _ _)
 rcases ha with ha | ha
 ·obtain ⟨its, rv, pl, hz⟩ := I.list ha
  have hI:IntsAre its ns:=eY rv
  have hne:a≠s.heap.objs.size:=by
   obtain ⟨o,n,e,_⟩:=pl
   exact IJ (IG e)
  refine call_min_walkS (LG pl.isList ?_)
  refine ⟨s.heap.objs.size,[s.heap.objs.size,a],[s.heap.objs.size],_,_,_,_,_,rfl,(Walks.list (A:=X.A.in1) (show X.A.in1.handled=none from I.ok.hd hc) _ a hne its.toArray).toS,⟨⟨_,Jo _ rfl,rfl,rfl⟩,pl.isList.at fun o e=>Jn _ e⟩,fun b hb=>?_,by simp [hI.length,hpos],cmp its hI,fun v s' hv hm=>core its _ hI v s' hv hm⟩
  obtain ⟨o,n,e,_⟩:=pl
  have:=IG e
  simp only [IT,KJ,KL] at hb
  show b<(s.heap.push _).objs.size
  rw [LW]
  rcases hb with rfl|rfl
  ·exact Kr _
  ·exact Ks this
 ·obtain ⟨its, rv, pl, hz⟩ := I.tuple ha
  have hI:IntsAre its ns:=eY rv
  have hne:a≠s.heap.objs.size:=by
   obtain ⟨o,e,_⟩:=pl
   exact IJ (IG e)
  refine call_min_walkS (KH (show s.heap.IsTuple a its.toArray from pl) ?_)
  refine ⟨s.heap.objs.size,[s.heap.objs.size,a],[s.heap.objs.size],_,_,_,_,_,rfl,(Walks.tuple (A:=X.A.in1) (show X.A.in1.handled=none from I.ok.hd hc) _ a hne its.toArray).toS,⟨⟨_,Jo _ rfl,rfl,rfl⟩,(show s.heap.IsTuple a its.toArray from pl).at fun o e=>Jn _ e⟩,fun b hb=>?_,by simp [hI.length,hpos],cmp its hI,fun v s' hv hm=>core its _ hI v s' hv hm⟩
  obtain ⟨o,e,_⟩:=pl
  have:=IG e
  simp only [IT,KJ,KL] at hb
  show b<(s.heap.push _).objs.size
  rw [LW]
  rcases hb with rfl|rfl
  ·exact Kr _
  ·exact Ks this
theorem x8 (hc:X.calm=true):dj X (.builtin "max") (C1 X.K):=by
 intro pins s σ H xs us Q I r h
 obtain ⟨a,ns,rfl,ha,hne,q⟩:=h
 obtain ⟨u,rfl,ru⟩:=gX r
 cases ru
 have hpos:0<ns.length:=Mi.mpr hne
 have core:∀ (its:List Value) (o:Obj),IntsAre its ns->∀ v s',its.toArray[argBest (fun i j=>decide (ns.getD i 0 > ns.getD j 0)) (its.toArray.size - 1)]?=some v->Moved [s.heap.objs.size] (fun a b=>b=a) { s with heap:=s.heap.push o } s'->EP X pins σ Q v s':=by
  intro its o hI v s' hv hm
  obtain ⟨t,rfl,hi⟩:=kG hI hv
  have hsz:its.toArray.size - 1=ns.length - 1:=by rw [Ju,hI.length]
  rw [hsz] at hi ⊢
  obtain ⟨b1,b2⟩:=argBest_gt (fun i=>ns.getD i 0) (ns.length - 1)
  obtain ⟨hh,g,d,tk,os⟩:=s'
  have e1:g=s.gens:=hm.gens
  have e2:d=s.drawn:=hm.drawn
  have e3:os=s.os:=hm.os
  subst e1 e2 e3
  refine ⟨.int _,H,I.fresh_it (o:=o) (h':=hh) (tk:=tk) fun b ob hb e=>hm.heap b ob hb e,⟨t,rfl⟩,q _ (tZ hi) fun j hj=>?_⟩
  obtain ⟨i,hi',rfl⟩:=tU hj
  exact b2 i (by omega)
 have cmp:∀ (its:List Value),IntsAre its ns->CmpOf X.prog X.w X.A.in1 .Gt (fun i v=>its.toArray[i]?=some v) (fun i j=>decide (ns.getD i 0 > ns.getD j 0)):=by
  intro its hI i j vi vj s' Q' E' h1 h2 hQ
  obtain ⟨t1,rfl,_⟩:=kG hI h1
  obtain ⟨t2,rfl,_⟩:=kG hI h2
  exact (PyProof.Rows.gt_int hQ:wpAny _ _ (compareOp .Gt _ _) _ _ _)
 rcases ha with ha | ha
 ·obtain ⟨its, rv, pl, hz⟩ := I.list ha
  have hI:IntsAre its ns:=eY rv
  have hne:a≠s.heap.objs.size:=by
   obtain ⟨o,n,e,_⟩:=pl
   exact IJ (IG e)
  refine call_max_walkS (LG pl.isList ?_)
  refine ⟨s.heap.objs.size,[s.heap.objs.size,a],[s.heap.objs.size],_,_,_,_,_,rfl,(Walks.list (A:=X.A.in1) (show X.A.in1.handled=none from I.ok.hd hc) _ a hne its.toArray).toS,⟨⟨_,Jo _ rfl,rfl,rfl⟩,pl.isList.at fun o e=>Jn _ e⟩,fun b hb=>?_,by simp [hI.length,hpos],cmp its hI,fun v s' hv hm=>core its _ hI v s' hv hm⟩
  obtain ⟨o,n,e,_⟩:=pl
  have:=IG e
  simp only [IT,KJ,KL] at hb
  show b<(s.heap.push _).objs.size
  rw [LW]
  rcases hb with rfl|rfl
  ·exact Kr _
  ·exact Ks this
 ·obtain ⟨its, rv, pl, hz⟩ := I.tuple ha
  have hI:IntsAre its ns:=eY rv
  have hne:a≠s.heap.objs.size:=by
   obtain ⟨o,e,_⟩:=pl
   exact IJ (IG e)
  refine call_max_walkS (KH (show s.heap.IsTuple a its.toArray from pl) ?_)
  refine ⟨s.heap.objs.size,[s.heap.objs.size,a],[s.heap.objs.size],_,_,_,_,_,rfl,(Walks.tuple (A:=X.A.in1) (show X.A.in1.handled=none from I.ok.hd hc) _ a hne its.toArray).toS,⟨⟨_,Jo _ rfl,rfl,rfl⟩,(show s.heap.IsTuple a its.toArray from pl).at fun o e=>Jn _ e⟩,fun b hb=>?_,by simp [hI.length,hpos],cmp its hI,fun v s' hv hm=>core its _ hI v s' hv hm⟩
  obtain ⟨o,e,_⟩:=pl
  have:=IG e
  simp only [IT,KJ,KL] at hb
  show b<(s.heap.push _).objs.size
  rw [LW]
  rcases hb with rfl|rfl
  ·exact Kr _
  ·exact Ks this
end
def F6:List Int->Int
 | []=>0
 | x::r=>r.foldl min x
def F8:List Int->Int
 | []=>0
 | x::r=>r.foldl max x
theorem xR (r:List Int):∀ x:Int,(r.foldl min x=x\/r.foldl min x∈r)/\r.foldl min x<=x/\∀ j∈r,r.foldl min x<=j:=by
 induction r with
 | nil=>intro x;exact ⟨.inl rfl,Int.le_refl _,fun j hj=>by simp at hj⟩
 | cons y r ih=>
  intro x
  obtain ⟨h1,h2,h3⟩:=ih (min x y)
  rw [Kf]
  have m1:min x y<=x:=Int.min_le_left _ _
  have m2:min x y<=y:=Int.min_le_right _ _
  refine ⟨?_,by omega,fun j hj=>?_⟩
  ·rcases h1 with h | h
   ·rcases (by omega : min x y = x \/ min x y = y) with e | e
    ·exact .inl (by omega)
    ·exact .inr (by rw [h,e];exact IR)
   ·exact .inr (IS _ h)
  ·rcases IT.mp hj with e | e
   ·rw [e];omega
   ·exact h3 j e
theorem xS (r:List Int):∀ x:Int,(r.foldl max x=x\/r.foldl max x∈r)/\x<=r.foldl max x/\∀ j∈r,j<=r.foldl max x:=by
 induction r with
 | nil=>intro x;exact ⟨.inl rfl,Int.le_refl _,fun j hj=>by simp at hj⟩
 | cons y r ih=>
  intro x
  obtain ⟨h1,h2,h3⟩:=ih (max x y)
  rw [Kf]
  have m1:x<=max x y:=Int.le_max_left _ _
  have m2:y<=max x y:=Int.le_max_right _ _
  refine ⟨?_,by omega,fun j hj=>?_⟩
  ·rcases h1 with h | h
   ·rcases (by omega : max x y = x \/ max x y = y) with e | e
    ·exact .inl (by omega)
    ·exact .inr (by rw [h,e];exact IR)
   ·exact .inr (IS _ h)
  ·rcases IT.mp hj with e | e
   ·rw [e];omega
   ·exact h3 j e
theorem Ck {ns:List Int}{m:Int} (h:m∈ns) (hm:∀ j∈ns,m<=j):m=F6 ns:=by
 cases ns with
 | nil=>simp at h
 | cons x r=>
  obtain ⟨h1,h2,h3⟩:=xR r x
  have a1:m<=r.foldl min x:=by
   rcases h1 with e | e
   ·rw [e];exact hm x IR
   ·exact hm _ (IS _ e)
  have a2:r.foldl min x<=m:=by
   rcases IT.mp h with e | e
   ·rw [e];exact h2
   ·exact h3 m e
  exact Mh a1 a2
theorem Cm {ns:List Int}{m:Int} (h:m∈ns) (hm:∀ j∈ns,j<=m):m=F8 ns:=by
 cases ns with
 | nil=>simp at h
 | cons x r=>
  obtain ⟨h1,h2,h3⟩:=xS r x
  have a1:r.foldl max x<=m:=by
   rcases h1 with e | e
   ·rw [e];exact hm x IR
   ·exact hm _ (IS _ e)
  have a2:m<=r.foldl max x:=by
   rcases IT.mp h with e | e
   ·rw [e];exact h2
   ·exact h3 m e
  exact Mh a2 a1
def AM (d:D) (μ:aA):Option (List Int):=match d with
 | .tup xs=>ja xs
 | .frz xs=>ja xs
 | .obj n=>match μ[n]? with
  | some (.lst xs)=>ja xs
  | _=>none
 | _=>none
theorem wk {p:Pa}{H:Hp}{α:List Addr}{μ:aA}{d:D}{v:V}{ns:List Int} (S:p.S H α μ) (r:p.R H α d v) (h:AM d μ=some ns):∃ a,v=.ref a/\(f7 p.K H a (ns.map V.int)\/fB p.K H a (ns.map V.int)):=by
 unfold AM at h
 split at h
 ·obtain ⟨a, us, rfl, h1, rr⟩ := aE.mp r
  rw [gp h] at rr
  exact ⟨a,rfl,.inr (by rw [<- rr.ints];exact h1)⟩
 ·obtain ⟨a, us, rfl, h1, rr⟩ := bA.mp r
  rw [gp h] at rr
  exact ⟨a,rfl,.inl (by rw [<- rr.ints];exact h1.sq)⟩
 ·split at h
  ·rename_i xs hx
   obtain ⟨a,us,rfl,a1,h1,rr⟩:=dQ S r hx
   rw [gp h] at rr
   exact ⟨a,rfl,.inl (by rw [<- rr.ints];exact f7.of h1)⟩
  ·cases h
 ·cases h
def wX (ds:List D) (μ:aA):ak D:=match ds with
 | [d]=>match AM d μ with
  | some (n::ns)=>.ok (.int (F6 (n::ns))) μ
  | _=>.bad
 | ds=>yL ds μ
def sP (ds:List D) (μ:aA):ak D:=match ds with
 | [d]=>match AM d μ with
  | some (n::ns)=>.ok (.int (F8 (n::ns))) μ
  | _=>.bad
 | ds=>yM ds μ
theorem EU {p:Pa}:vS p wX (fun xs H Q=>C0 p.K xs H Q\/∃ i j,xs=[.int i,.int j]/\Q (.int (if j<i then j else i)) H):=by
 intro ds vs H α μ Q S r P
 unfold wX at P
 split at P
 ·rename_i d
  split at P
  ·rename_i n ns hns
   obtain ⟨v,rfl,r1⟩:=r.one
   obtain ⟨a,rfl,h1⟩:=wk S r1 hns
   refine .inl ⟨a,n::ns,rfl,h1,by simp,fun m hm hj=>?_⟩
   rw [Ck hm hj]
   exact P.now S _ (aq.mpr rfl)
  ·exact P.elim
 ·exact .inr (B8 ds vs H α μ Q S r P)
theorem EV {p:Pa}:vS p sP (fun xs H Q=>C1 p.K xs H Q\/∃ i j,xs=[.int i,.int j]/\Q (.int (if j > i then j else i)) H):=by
 intro ds vs H α μ Q S r P
 unfold sP at P
 split at P
 ·rename_i d
  split at P
  ·rename_i n ns hns
   obtain ⟨v,rfl,r1⟩:=r.one
   obtain ⟨a,rfl,h1⟩:=wk S r1 hns
   refine .inl ⟨a,n::ns,rfl,h1,by simp,fun m hm hj=>?_⟩
   rw [Cm hm hj]
   exact P.now S _ (aq.mpr rfl)
  ·exact P.elim
 ·exact .inr (B9 ds vs H α μ Q S r P)
theorem oW:∀ {xs:List V}{us:List Value},xs.length=us.length->(∀ (i:Nat) x u,xs[i]?=some x->us[i]?=some u->cn x u)->ba xs us
 | [],[],_,_=>.nil
 | [],_::_,h,_=>by simp at h
 | _::_,[],h,_=>by simp at h
 | x::xs,u::us,h,k=>.cons (k 0 x u rfl rfl) (oW (by simpa using h) fun i x' u' h1 h2=>k (i+1) x' u' (by simpa using h1) (by simpa using h2))
section
variable {X:Cx}
def Gm (ta:TA):TE:=fun σ H Q=>ta σ H fun vs H1=>∃ j:Int,vs=[.int j]/\∀ r,H1 r=none->Q (.ref r) (cq H1 r (.rng 0 j))
theorem xA {a:Expr}{ta:TA}{p pos:Pos} (hg:Gl X "range") (hm:X.mg "range" = none) (ha:PA X [a] ta) (hs:starEach [a] X.env=[(false,eval a X.env)]):PE X (.Call (.Name "range" p) [a] [] pos) (Gm ta):=by
 intro pins s σ H Q I h
 refine Call_ (lD I hg hm boot_range (Jq (d3 (ha pos pins s σ H _ I h) fun us s1 ⟨vs,H1,I1,r1,q1⟩=>?_) hs rfl))
 obtain ⟨j,e,q⟩:=q1
 subst e
 cases r1 with
 | cons r rr=>
  cases rr
  obtain ⟨t,rfl⟩:=r
  refine call_range_1 ?_
  refine ⟨.ref s1.heap.objs.size,cq H1 s1.heap.objs.size (.rng 0 j),I1.laid (fun b ob e=>Jn _ e) (Jp _) ⟨_,_,_,Jo _ rfl⟩,rfl,q _ (I1.hok.fresh (Jp _))⟩
def Ei:List V->Hp->VK->Prop:=fun xs H Q=>∃ (r:Addr) (j:Int),xs=[.ref r]/\H r=some (.rng 0 j)/\-(2 ^ 62)<=j/\j<=2 ^ 20/\∀ l,H l=none->Q (.ref l) (cq H l (.lst ((List.range j.toNat).map fun (i:Nat)=>V.int (i:Int))))
theorem vO (hc:X.calm=true):dj X (.type "list") Ei:=by
 intro pins s σ H xs us Q I r h
 obtain ⟨r0,j,rfl,ha,j1,j2,q⟩:=h
 obtain ⟨u,rfl,ru⟩:=gX r
 cases ru
 obtain ⟨t,u,v,hr⟩:=(show fv X.prog X.w H s.heap r0 (.rng 0 j) from I.hok r0 _ ha)
 have hn:Builtin.Range.rangeSize 0 j 1=((j.toNat:Nat):Int):=by rw [rangeSize_one];split <;> omega
 refine call_list_range (n:=j.toNat) (I.ok.hd hc) hr (small_one (by omega) (by omega) (by omega) (by omega)) hn (by omega) fun h' tk acc' c' hk hl hit=>?_
 have hv:ba ((List.range j.toNat).map fun (i:Nat)=>V.int (i:Int)) acc'.toList:=by
  obtain ⟨e1,e2⟩:=hit
  refine oW (by simp [e1]) fun i x u h1 h2=>?_
  rw [JF] at h1
  have hi:i<j.toNat:=by
   have:=(IX.mp h2).1
   simp [e1] at this
   omega
  rw [LP hi] at h1
  cases h1
  obtain ⟨t,rfl⟩:=e2 i u (by simpa using h2)
  exact ⟨t,by simp⟩
 refine ⟨.ref s.heap.objs.size,cq H s.heap.objs.size (.lst ((List.range j.toNat).map fun (i:Nat)=>V.int (i:Int))),I.laid (fun b ob e=>hk b ob e) (Jp _) ⟨?_,acc'.toList,c',hv,by simpa using hl⟩,rfl,q _ (I.hok.fresh (Jp _))⟩
 have:(sizeLine:Nat)=16777216:=Jt
 simp only [JI,KR]
 omega
end
def ou (o1 o2:D->D->aA->ak D) (fa fb fc:ME):ME:=fun ρ μ=>(fa ρ μ).bind fun a μ1=>(fb ρ μ1).bind fun b μ2=>(o1 a b μ2).bind fun z μ3=>(AB z μ3).bind fun k μ4=>
 if k=true then (fc ρ μ4).bind fun c μ5=>o2 b c μ5 else .ok (.bl false) μ4
section
variable {X:Cx}{p:Pa}{a b c d:Expr}{ta tb tc td:TE}{fa fb fc fd:ME}{pos:Pos}{op op' op'':CmpOp}{r r' r'':R2}{o1 o2 o3:D->D->aA->ak D}
theorem vK (hd1:qh p o1 r) (hd2:qh p o2 r') {σ:St}{H:Hp}{Q:VK} (h:tD p (ou o1 o2 fa fb fc) σ H Q):yW r r' (tD p fa) (tD p fb) (tD p fc) σ H Q:=by
 obtain ⟨α,ρ,μ,S,R,P⟩:=h
 refine ⟨α,ρ,μ,S,R,(aD.bind P).imp fun x μ1 H1 α1 X1 S1 P1 v rv=>⟨α1,ρ,μ1,S1,R.mono X1,(aD.bind P1).imp fun y μ2 H2 α2 X2 S2 P2 u ru=>?_⟩⟩
 refine hd1 x y v u H2 α2 μ2 _ S2 (rv.mono X2) ru ((aD.bind P2).imp fun z μ3 H3 α3 X3 S3 P3 w rw'=>?_)
 obtain ⟨k,_,e,q⟩:=rR (aD.bind P3) rw' S3
 refine ⟨k,e,?_⟩
 cases k with
 | true=>
  rw [ID rfl] at q ⊢
  exact ⟨α3,ρ,μ3,S3,((R.mono X1).mono X2).mono X3,(aD.bind q).imp fun c μ5 H5 α5 X5 S5 P5 t rt=>hd2 y c u t H5 α5 μ5 Q S5 ((ru.mono X3).mono X5) rt P5⟩
 | false=>rw [IE Jj] at q ⊢;exact q.now S3 _ (bc.mpr rfl)
theorem zG (ho:jQ X (compareOp op) r) (ho':jQ X (compareOp op') r') (hd1:qh p o1 r) (hd2:qh p o2 r') (ha:PE X a (tD p fa)) (hb:PE X b (tD p fb)) (hc:PE X c (tD p fc))
  (hm:lastMarks [op,op'] [b,c]=false):PE X (.Compare a [op,op'] [b,c] pos) (tD p (ou o1 o2 fa fb fc)):=(zX ho ho' ha hb hc hm).weak fun σ H Q h=>vK hd1 hd2 h
def wR (d:D) (μ:aA):ak Bool:=match d with
 | .non=>.ok false μ
 | .bl b=>.ok b μ
 | .int i=>.ok (i != 0) μ
 | .str x=>if x.length<=sizeLine then .ok ((x.length:Int) != 0) μ else .bad
 | .tup xs=>.ok (!xs.isEmpty) μ
 | .frz xs=>.ok (!xs.isEmpty) μ
 | .obj n=>match μ[n]? with
  | some (.lst xs)=>.ok (!xs.isEmpty) μ
  | _=>.bad
def j5 (f:ME):MT:=fun ρ μ=>(f ρ μ).bind wR
theorem Reps.isEmpty {K:W.Frag}{H:Hp}{α:List Addr}{xs:List D}{vs:List V} (r:Reps K H α xs vs):vs.isEmpty=xs.isEmpty:=by
 have:=r.length
 cases xs with
 | nil=>have h:vs=[]:=Mf (by simpa using this);rw [h];rfl
 | cons x r=>cases vs with
  | nil=>simp at this
  | cons _ _=>rfl
theorem A1 {d:D}{μ:aA}{H:Hp}{α:List Addr}{v:V}{R:Bool->aA->Hp->List Addr->Prop} (S:p.S H α μ) (r:p.R H α d v) (P:aD p H α (wR d μ) R):∃ k,Dw p.K v H k/\R k μ H α:=by
 unfold wR at P
 split at P
 ·rw [cL.mp r];exact ⟨false,rfl,P.now S⟩
 ·rename_i b;rw [bc.mp r];exact ⟨b,rfl,P.now S⟩
 ·rename_i i;rw [aq.mp r];exact ⟨_,rfl,P.now S⟩
 ·rename_i x
  split at P
  ·rename_i hl;rw [dk.mp r];exact ⟨_,⟨hl,rfl⟩,P.now S⟩
  ·exact P.elim
 ·obtain ⟨a, vs, rfl, h1, h2⟩ := aE.mp r
  exact ⟨_,.inr (.inl ⟨vs,h1,by rw [h2.isEmpty]⟩),P.now S⟩
 ·obtain ⟨a, vs, rfl, h1, h2⟩ := bA.mp r
  exact ⟨_,.inl ⟨vs,h1.sq,by rw [h2.isEmpty]⟩,P.now S⟩
 ·split at P
  ·rename_i xs hx
   obtain ⟨a,us,rfl,a1,h1,rr⟩:=dQ S r hx
   exact ⟨_,.inl ⟨us,f7.of h1,by rw [rr.isEmpty]⟩,P.now S⟩
  ·exact P.elim
theorem zl {e:Expr}{f:ME} (hK:X.K=p.K) (h:PE X e (tD p f)) (he:∀ whole,isTrue e X.env whole=(do let v <- whole;standAt e.pos;holding [v] (truthy v))):PT X e (iH p (j5 f)):=
 (zN h he).weak fun σ H Q ⟨α, ρ, μ, S, R, P⟩ => ⟨α, ρ, μ, S, R, (aD.bind P).imp fun d μ1 H1 α1 X1 S1 P1 v rv => by
  rw [hK];exact A1 S1 rv P1⟩
def mR (ds:List D) (μ:aA):ak D:=match ds with
 | [.int j]=>if -(2 ^ 62)<=j/\j<=2 ^ 20 then .ok (.obj μ.length) (μ++[.lst (aW 0 j.toNat)]) else .bad
 | _=>.bad
theorem zK {K:W.Frag}{H:Hp}{α:List Addr} (n:Nat):Reps K H α (aW 0 n) ((List.range n).map fun (i:Nat)=>V.int (i:Int)):=by
 have:aW 0 n=((List.range n).map fun (i:Nat)=>((i:Nat):Int)).map D.int:=by
  unfold aW;rw [KO];apply KQ;intro i _;simp
 rw [this]
 have h2:((List.range n).map fun (i:Nat)=>V.int (i:Int))=((List.range n).map fun (i:Nat)=>((i:Nat):Int)).map V.int:=by rw [KO];rfl
 rw [h2]
 exact iV _
theorem zF {fr:MA}{pl pr pos p1:Pos} (hc:X.calm=true) (hg:Gl X "range") (hm:X.mg "range" = none) (hgl:Gl X "list") (hml:X.mg "list" = none) (ha:PA X [a] (nH p fr)) (hs:starEach [a] X.env=[(false,eval a X.env)]) :
  PE X (.Call (.Name "list" pl) [.Call (.Name "range" pr) [a] [] p1] [] pos) (tD p (ax mR fr)):=by
 refine (qE (T:="list") (vO hc) hgl hml boot_list (nR (xA hg hm ha hs) uX rfl) (by decide) (by decide) rfl rfl).weak fun σ H Q ⟨α,ρ,μ,S,R,P⟩=>⟨α,ρ,μ,S,R,(aD.bind P).imp fun ds μ1 H1 α1 X1 S1 P1 vs rv=>?_⟩
 unfold mR at P1
 split at P1
 ·rename_i j
  obtain ⟨v,rfl,r1⟩:=rv.one
  split at P1
  ·rename_i hj
   refine ⟨j,by rw [aq.mp r1],fun r0 hr=>?_⟩
   refine ⟨r0,j,rfl,b9,hj.1,hj.2,fun l hl=>?_⟩
   have S2:p.S (cq H1 r0 (.rng 0 j)) α1 μ1:=S1.same (bN hr) fun a ha=>bE fun z=>ha (by rw [z];exact hr)
   obtain ⟨x1,x2,x3⟩:=eH S2 hl (zK j.toNat)
   exact P1 _ _ ((bN hr).trans x1) x2 _ x3
  ·exact P1.elim
 ·exact P1.elim
def Ic (p:Pa) (f:D->List D->aA->ak D) (r:V->List V->Hp->VK->Prop):Prop:=∀ d ds v vs H α μ Q,p.S H α μ->p.R H α d v->p.Rs H α ds vs->aD p H α (f d ds μ) (RV p Q)->r v vs H Q
def Dm (d:D) (μ:aA):Bool:=match d with
 | .obj n=>match μ[n]? with
  | some (.lst _)=>true
  | _=>false
 | _=>false
def Hb (f:D->List D->aA->ak D) (fo:ME) (fr:MA):ME:=fun ρ μ=>(fo ρ μ).bind fun o μ1=>if Dm o μ1=true then (fr ρ μ1).bind fun ds μ2=>f o ds μ2 else .bad
theorem Fg {d:D}{μ:aA}{H:Hp}{α:List Addr}{v:V} (S:p.S H α μ) (r:p.R H α d v) (h:Dm d μ=true):Hj p.K "list" v H:=by
 unfold Dm at h
 split at h
 ·split at h
  ·rename_i xs hx
   obtain ⟨a,us,rfl,a1,h1,rr⟩:=dQ S r hx
   exact .inl ⟨rfl,us,f7.of h1⟩
  ·cases h
 ·cases h
theorem GF {o e:Expr}{es:List Expr}{fo:ME}{fr:MA}{name:Str}{apos cpos:Pos}{id:String}{rr:V->List V->Hp->VK->Prop}{f:D->List D->aA->ak D} (hK:X.K=p.K) (slot:Slot "list" name id) (hty:typeOf (.builtin id)=pure (.type "method_descriptor")) (hm:HZ X id rr) (hf:Ic p f rr)
  (ho:PE X o (tD p fo)) (ha:PA X (e::es) (nH p fr)) (hbase:attributeBase o name X.env (eval o X.env)=eval o X.env)
  (hfew : ((backTo cpos (starEach (e :: es) X.env)).all (fun x => !x.1) && (backToKw cpos (keywordEach [] X.env)).all (fun x => x.1.isSome)
   && decide ((e::es).length+([]:List Keyword).length+(if ([]:List Keyword).isEmpty then 0 else 1)<30))=true)
  (hline:(apos.endLine == cpos.line)=true) (hs:starEach (e::es) X.env=(false,eval e X.env)::starEach es X.env) (hplain:(backTo cpos (starEach es X.env)).any (·.1)=false) :
  PE X (.Call (.Attribute o name apos) (e::es) [] cpos) (tD p (Hb f fo fr)):=
 (GP PySem.F.plainAttrs_list slot hty hm ho ha hbase hfew hline hs hplain).weak fun σ H Q ⟨α, ρ, μ, S, R, P⟩ => ⟨α, ρ, μ, S, R, (aD.bind P).imp fun d μ1 H1 α1 X1 S1 P1 v rv => by
  by_cases hl:Dm d μ1=true
  ·rw [ID hl] at P1
   rw [hK]
   exact ⟨Fg S1 rv hl,α1,ρ,μ1,S1,R.mono X1,(aD.bind P1).imp fun ds μ2 H2 α2 X2 S2 P2 vs rs=>hf d ds v vs H2 α2 μ2 Q S2 (rv.mono X2) rs P2⟩
  ·rw [IE hl] at P1;exact P1.elim⟩
def ot (d:D) (ds:List D) (μ:aA):ak D:=match d,ds with
 | .obj n,[.int i]=>match μ[n]? with
  | some (.lst xs)=>match vR xs.length i with
   | some k=>match xs[k]? with
    | some y=>if -(2 ^ 63)<=i/\i<2 ^ 63 then .ok y (μ.set n (.lst (xs.eraseIdx k))) else .bad
    | none=>.bad
   | none=>.bad
  | _=>.bad
 | _,_=>.bad
theorem Ci:Ic p ot y8:=by
 intro d ds v vs H α μ Q S rd rs P
 unfold ot at P
 split at P
 ·rename_i n i
  split at P
  ·rename_i xs hx
   split at P
   ·rename_i k hk
    split at P
    ·rename_i y hy
     split at P
     ·rename_i hb
      obtain ⟨a,us,rfl,a1,h1,rr⟩:=dQ S rd hx
      obtain ⟨w,rfl,rw'⟩:=rs.one
      obtain ⟨z,hz,rz⟩:=rr.get hy
      have hk':=(r6 hk).1
      have q:=rr.eraseIdx k
      refine ⟨a,us,i,k,z,rfl,by rw [aq.mp rw'],h1,hb.1,hb.2,by rw [rr.length];exact hk',hz,?_⟩
      exact P _ _ (iN h1) (S.put hx a1 h1 q) _ (rz.mono (iN h1))
     ·exact P.elim
    ·exact P.elim
   ·exact P.elim
  ·exact P.elim
 ·exact P.elim
end
abbrev cD (K:W.Frag) (w:World):Pa:=⟨K,w,fun _ _=>False⟩
abbrev fC:D->D->aA->ak D:=dI fun i j=>.int (i - j)
noncomputable abbrev tf:D->D->aA->ak D:=Dn AY fun i j=>.int (i / j)
noncomputable abbrev pW:D->D->aA->ak D:=Dn (fun _ j=>0<j) fun i j=>.int (i % j)
noncomputable abbrev Ds:D->D->aA->ak D:=Dn Dz fun i j=>.int (i ^ j.toNat)
def u5 (N:List Str) (sc scope:Scope) (Nc:List Str) (cap:List (Option Nat)):Bool:=
 (scope.kind == .function) && scope.names.all (fun y=>scope.names.lookup y.1 == some y.2) &&
 scope.names.all (fun y=>y.2 != .free || sc.names.lookup y.1 == some .cell || sc.names.lookup y.1 == some .free) && f9 N { scope:=sc,globals:=0,builtins:=0,locals:=0,cells:=[],qual:="",func:=none,code:=.none,frame:=none } scope Nc cap
theorem m8 {N:List Str}{e1 e2:Env}{scope:Scope}:∀ {Nc:List Str}{cap:List (Option Nat)},f9 N e1 scope Nc cap=f9 N e2 scope Nc cap
 | [],[]=>rfl
 | _::_,[]=>rfl
 | [],_::_=>rfl
 | _::Nc,none::cap=>by unfold f9;exact m8
 | x::Nc,some j::cap=>by unfold f9;rw [m8 (Nc:=Nc) (cap:=cap) (e1:=e1) (e2:=e2)]
theorem xW {X:Cx}{N:List Str}{sc scope:Scope}{Nc:List Str}{cap:List (Option Nat)} (hN:X.N=N) (hk:∀ x,(sc.names.lookup x=some .cell\/sc.names.lookup x=some .free)->X.env.kindOf x=some .cell\/X.env.kindOf x=some .free) (h:u5 N sc scope Nc cap=true):bY X.N X.env scope Nc cap:=by
 unfold u5 at h
 simp only [J2] at h
 obtain ⟨⟨⟨h1,h3⟩,h4⟩,h5⟩:=h
 refine ⟨eq_of_beq h1,fun y hy=>?_,fun y hy hf=>?_,?_⟩
 ·exact eq_of_beq (Lk.mp h3 y hy)
 ·have := Lk.mp h4 y hy
  simp only [Mj,hf] at this
  refine hk _ ?_
  rcases this with (z | z) | z
  ·exact absurd z (by decide)
  ·exact .inl (eq_of_beq z)
  ·exact .inr (eq_of_beq z)
 ·rw [hN,m8];exact h5
theorem bt {X:Cx}{N:List Str}{sc scope:Scope}{Nc:List Str}{cap:List (Option Nat)} (hN:X.N=N) (hs:X.env.scope=sc) (h:u5 N sc scope Nc cap=true):bY X.N X.env scope Nc cap:=
 xW hN (fun x hx=>by subst hs;exact hx) h
structure Bx (P:Prop):Prop where
 h:P
section
variable {X:Cx}{p:Pa}{a b c d e:Expr}{es:List Expr}{fa fb fc fd f:ME}{fr:MA}{pos:Pos}{ft gt:MT}
theorem aB (i:Nat) {x:Str} (hN:X.N[i]?=some x:=by rfl) (hv:Hd X.env.scope x:=by first | exact Or.inl rfl | exact Or.inr (Or.inl rfl) | exact Or.inr (Or.inr rfl)) (hd:(x == ("__debug__" : Str))=false:=by decide) (hcd:(x == ("__classdict__" : Str))=false:=by decide):Bx (PE X (.Name x pos) (tD p (af i))):=⟨D6 (Ex hN hv hd hcd)⟩
theorem bB {i j}:Bx (PE X (.Constant (.int i) j pos) (tD p (cC (.int i)))):=⟨AN ED fun _ _=>aq.mpr rfl⟩
theorem yg {i j}:Bx (PE X (.Constant (.bool i) j pos) (tD p (cC (.bl i)))):=⟨AN GQ fun _ _=>bc.mpr rfl⟩
theorem FA {j}:Bx (PE X (.Constant .none j pos) (tD p (cC .non))):=⟨AN EB fun _ _=>cL.mpr rfl⟩
theorem FK {x:Str}{i:Int} (h:∃ t,X.mg x=some (.int i t)) (hg:Gl X x:=by rfl) (hd:(x == ("__debug__" : Str))=false:=by decide):Bx (PE X (.Name x pos) (tD p (cC (.int i)))):=Bx.mk (by
 obtain ⟨t,ht⟩:=h
 exact AN (BU (v:=.int i) hg ht ⟨t,rfl⟩ hd) fun _ _=>aq.mpr rfl)
theorem eC (ha:Bx (PE X a (tD p fa))) (hb:Bx (PE X b (tD p fb))) (hK:X.K=p.K:=by rfl):Bx (PE X (.BinOp a .Add b pos) (tD p (au cA fa fb))):=⟨mM (r:=yI p.K) (hK ▸ B7) E3 ha.h hb.h⟩
theorem jH (ha:Bx (PE X a (tD p fa))) (hb:Bx (PE X b (tD p fb))):Bx (PE X (.BinOp a .Sub b pos) (tD p (au fC fa fb))):=⟨mM EG (HE fun _ _ _ _=>aq.mpr rfl) ha.h hb.h⟩
theorem qi (ha:Bx (PE X a (tD p fa))) (hb:Bx (PE X b (tD p fb))):Bx (PE X (.BinOp a .Mult b pos) (tD p (au jR fa fb))):=⟨mM B2 EZ ha.h hb.h⟩
theorem yT (ha:Bx (PE X a (tD p fa))) (hb:Bx (PE X b (tD p fb))):Bx (PE X (.BinOp a .FloorDiv b pos) (tD p (au tf fa fb))):=⟨mM B3 (yJ fun _ _ _ _=>aq.mpr rfl) ha.h hb.h⟩
theorem qj (ha:Bx (PE X a (tD p fa))) (hb:Bx (PE X b (tD p fb))):Bx (PE X (.BinOp a .Mod b pos) (tD p (au pW fa fb))):=⟨mM EL (yJ fun _ _ _ _=>aq.mpr rfl) ha.h hb.h⟩
theorem Gg (ha:Bx (PE X a (tD p fa))) (hb:Bx (PE X b (tD p fb))):Bx (PE X (.BinOp a .Pow b pos) (tD p (au Ds fa fb))):=⟨mM EI (yJ fun _ _ _ _=>aq.mpr rfl) ha.h hb.h⟩
theorem CU (ha:Bx (PE X a (tD p fa))):Bx (PE X (.UnaryOp .USub a pos) (tD p (yi wW fa))):=⟨GD DD E4 ha.h⟩
structure n9 (X:Cx) (p:Pa) (op:CmpOp) (o:D->D->aA->ak D):Prop where
 ex:∃ r,jQ X (compareOp op) r/\qh p o r
theorem jv (hu:X.A.units+64<cLine) (hK:X.K=p.K:=by rfl):n9 X p .Eq (d4 false):=⟨yv p.K false,hK ▸ EO hu,C8⟩
theorem mF (hu:X.A.units+64<cLine) (hK:X.K=p.K:=by rfl):n9 X p .NotEq (d4 true):=⟨yv p.K true,hK ▸ EJ hu,C8⟩
theorem Dq (hu:X.A.units+64<cLine) (hK:X.K=p.K:=by rfl):n9 X p .In (uL false):=⟨yu p.K false,hK ▸ EN hu,C7⟩
theorem GT (hu:X.A.units+64<cLine) (hK:X.K=p.K:=by rfl):n9 X p .NotIn (uL true):=⟨yu p.K true,hK ▸ xD hu,C7⟩
theorem Da:n9 X p .Is (rD false):=⟨_,EM,E1⟩
theorem zb:n9 X p .IsNot (rD true):=⟨_,B1,Cb⟩
theorem jJ {op:CmpOp} (hu:X.A.units+64<cLine) (ho:sX op=true:=by rfl) (hK:X.K=p.K:=by rfl):n9 X p op (gL op):=⟨yH p.K op,hK ▸ B4 hu ho,E2⟩
variable {op op' op'':CmpOp}{o o' o'':D->D->aA->ak D}
theorem jI (k:n9 X p op o) (ha:Bx (PE X a (tD p fa))) (hb:Bx (PE X b (tD p fb))) (hm:behindInMarks op b=false:=by rfl):Bx (PE X (.Compare a [op] [b] pos) (tD p (au o fa fb))):=Bx.mk (let ⟨_,h1,h2⟩:=k.ex;Eb h1 h2 ha.h hb.h hm)
theorem bK (k:n9 X p op o) (ha:Bx (PE X a (tD p fa))) (hb:Bx (PE X b (tD p fb))) (hm:behindInMarks op b=false:=by rfl):Bx (PT X (.Compare a [op] [b] pos) (iH p (f6 (au o fa fb)))):=Bx.mk (let ⟨_,h1,h2⟩:=k.ex;DN h1 h2 ha.h hb.h hm)
theorem Gi (k:n9 X p op o) (k':n9 X p op' o') (ha:Bx (PE X a (tD p fa))) (hb:Bx (PE X b (tD p fb))) (hc:Bx (PE X c (tD p fc))) (hm:lastMarks [op,op'] [b,c]=false:=by rfl):Bx (PE X (.Compare a [op,op'] [b,c] pos) (tD p (ou o o' fa fb fc))):=Bx.mk (let ⟨_,h1,h2⟩:=k.ex;let ⟨_,h3,h4⟩:=k'.ex;zG h1 h3 h2 h4 ha.h hb.h hc.h hm)
theorem yk (h:Bx (PE X e (tD p f))) (he:∀ whole,isTrue e X.env whole=(do let v <- whole;standAt e.pos;holding [v] (truthy v)):=by intro _;rfl) (hK:X.K=p.K:=by rfl):Bx (PT X e (iH p (j5 f))):=⟨zl hK h.h he⟩
theorem ql {rest:List Expr} (ha:Bx (PT X a (iH p ft))) (hb:Bx (PW X (.BoolOp .And (b::rest) pos) (iH p gt))):Bx (PW X (.BoolOp .And (a::b::rest) pos) (iH p (jK ft gt))):=⟨DJ ha.h hb.h⟩
theorem wU {rest:List Expr} (ha:Bx (PT X a (iH p ft))) (hb:Bx (PW X (.BoolOp .Or (b::rest) pos) (iH p gt))):Bx (PW X (.BoolOp .Or (a::b::rest) pos) (iH p (rF ft gt))):=⟨Gx ha.h hb.h⟩
theorem mK (ha:Bx (PT X a (iH p ft))):Bx (PW X (.BoolOp .And [a] pos) (iH p ft)):=⟨BF ha.h⟩
theorem sU (ha:Bx (PT X a (iH p ft))):Bx (PW X (.BoolOp .Or [a] pos) (iH p ft)):=⟨Ek ha.h⟩
theorem nk {op} (ha:Bx (PE X a (tD p fa))):Bx (PE X (.BoolOp op [a] pos) (tD p fa)):=⟨Ez ha.h⟩
def y9:Expr->Bool
 | .Starred _ _=>false
 | _=>true
theorem xa {a:Expr}{es:List Expr}{env:Env} (h:y9 a=true):starEach (a::es) env=(false,eval a env)::starEach es env:=by
 cases a <;> first | rfl | cases h
theorem aI (ha:Bx (PE X a (tD p fa))) (hr:Bx (PA X es (nH p fr))) (hs:y9 a=true:=by rfl):Bx (PA X (a::es) (nH p (ae fa fr))):=⟨By ha.h hr.h (xa hs)⟩
theorem a8  : Bx (PA X [] (nH p aw)):=⟨Ed⟩
theorem aG {k n:Nat}{x:Str}{F:List D->aA->ak D}{px:Pos} (h:cE X.prog X.w X.K X.mg X.base p k x n F) (hr:iG k X.A) (ha:Bx (PA X (a::es) (nH p fr))) (hg:Gl X x:=by rfl) (hdb:(x == ("__debug__" : Str))=false:=by decide) (he:starEach (a::es) X.env=(false,eval a X.env)::starEach es X.env:=by rfl) (hpl:(backTo pos (starEach es X.env)).any (·.1)=false:=by rfl):Bx (PE X (.Call (.Name x px) (a::es) [] pos) (tD p (ax F fr))):=⟨Bv h hr hg ha.h hdb he hpl⟩
structure rJ (X:Cx) (p:Pa) (x:Str) (F:List D->aA->ak D):Prop where
 ex:∃ (u:Value) (r:List V->Hp->VK->Prop),((∃ id,u=.builtin id)\/∃ T,u=.type T)/\bootBuiltins x=some u/\dj X u r/\vS p F r/\x ≠ "__name__" /\ (x == ("__debug__" : Str))=false
theorem bD {x:Str}{F:List D->aA->ak D}{px:Pos} (k:rJ X p x F) (hm:X.mg x=none) (ha:Bx (PA X (a::es) (nH p fr))) (hg:Gl X x:=by rfl) (he:starEach (a::es) X.env=(false,eval a X.env)::starEach es X.env:=by rfl) (hpl:(backTo pos (starEach es X.env)).any (·.1)=false:=by rfl):Bx (PE X (.Call (.Name x px) (a::es) [] pos) (tD p (ax F fr))):=Bx.mk (by
 obtain ⟨u,r,hu,h1,h2,h3,h4,h5⟩:=k.ex
 rcases hu with ⟨id,rfl⟩ | ⟨T,rfl⟩
 ·exact zH h2 h3 hg hm h1 ha.h h4 h5 he hpl
 ·exact xn h2 h3 hg hm h1 ha.h h4 h5 he hpl)
theorem nt (hK:X.K=p.K:=by rfl) (hw:X.w=p.w:=by rfl):rJ X p "len" j4:=⟨_,_,.inl ⟨_,rfl⟩,PySem.boot_len,(Au.or x9).or ya,by rw [hK,hw];exact EW,by decide,by decide⟩
theorem tj (hc:X.calm=true:=by rfl) (hK:X.K=p.K:=by rfl):rJ X p "all" n5:=⟨_,_,.inl ⟨_,rfl⟩,by decide +kernel,yc hc,hK ▸ EY,by decide,by decide⟩
theorem fJ (hK:X.K=p.K:=by rfl):rJ X p "tuple" eD:=⟨_,_,.inr ⟨_,rfl⟩,by decide +kernel,qe,hK ▸ z7,by decide,by decide⟩
theorem Dg:rJ X p "int" nr:=⟨_,_,.inr ⟨_,rfl⟩,by decide +kernel,yb,EX,by decide,by decide⟩
theorem Df (hc:X.calm=true:=by rfl) (hK:X.K=p.K:=by rfl):rJ X p "min" wX:=⟨_,_,.inl ⟨_,rfl⟩,by decide +kernel,(x5 hc).or (x4 hc),hK ▸ EU,by decide,by decide⟩
theorem yN (hc:X.calm=true:=by rfl) (hK:X.K=p.K:=by rfl):rJ X p "max" sP:=⟨_,_,.inl ⟨_,rfl⟩,by decide +kernel,(x8 hc).or (x6 hc),hK ▸ EV,by decide,by decide⟩
theorem vY (hu:X.A.units+64<cLine) (hc:X.calm=true:=by rfl) (hK:X.K=p.K:=by rfl) (hw:X.w=p.w:=by rfl):rJ X p "set" lB:=⟨_,_,.inr ⟨_,rfl⟩,by decide +kernel,(xY hc hu).or (xZ hc hu),by rw [hK,hw];exact ET,by decide,by decide⟩
theorem jh (hc:X.calm=true:=by rfl) (hK:X.K=p.K:=by rfl) (hw:X.w=p.w:=by rfl):rJ X p "sorted" bH:=⟨_,_,.inl ⟨_,rfl⟩,by decide +kernel,(vN.or (vM hc)).or (vL hc),by rw [hK,hw];exact xE,by decide,by decide⟩
theorem sT {T:String}{xT:Str}{px pt:Pos} (hT:T∈["int", "bool", "tuple", "list", "str", "dict"]) (hbT:bootBuiltins xT=some (.type T)) (hnT:xT ≠ "__name__") (hdT:(xT == ("__debug__" : Str))=false) (hm:X.mg "isinstance" = none) (hmT:X.mg xT=none) (ha:Bx (PE X a (tD p fa))) (hg:Gl X "isinstance" := by rfl) (hgT:Gl X xT:=by rfl) (hs1:starEach [a,.Name xT pt] X.env=(false,eval a X.env)::starEach [.Name xT pt] X.env:=by rfl) (hK:X.K=p.K:=by rfl):Bx (PE X (.Call (.Name "isinstance" px) [a,.Name xT pt] [] pos) (tD p (yi (kN T) fa))):=⟨Ea hK hT hg hm hgT hmT hbT ha.h hnT hdT hs1⟩
theorem Fy:bootBuiltins "int" = some (.type "int"):=by decide +kernel
theorem CN:bootBuiltins "bool" = some (.type "bool"):=by decide +kernel
theorem oS:bootBuiltins "tuple" = some (.type "tuple"):=by decide +kernel
theorem DC {pl pr p1:Pos} (hm:X.mg "range" = none) (hml:X.mg "list" = none) (ha:Bx (PA X [a] (nH p fr))) (hc:X.calm=true:=by rfl) (hg:Gl X "range" := by rfl) (hgl:Gl X "list" := by rfl) (hs:starEach [a] X.env=[(false,eval a X.env)]:=by rfl):Bx (PE X (.Call (.Name "list" pl) [.Call (.Name "range" pr) [a] [] p1] [] pos) (tD p (ax mR fr))):=⟨zF hc hg hm hgl hml ha.h hs⟩
theorem bu (ha:Bx (PE X a (tD p fa))) (hb:Bx (PE X b (tD p fb))) (hs:sg b:=by exact fun _ _=>rfl) (hK:X.K=p.K:=by rfl):Bx (PE X (.Subscript a b pos) (tD p (au bW fa fb))):=⟨GE hK ha.h hb.h hs⟩
theorem Dp {lo hi:Option Expr}{fl fh:MO}{p2:Pos} (he:Bx (PE X e (tD p fa))) (hl:Bx (PO X lo (CS p fl))) (hu:Bx (PO X hi (CS p fh))) (hK:X.K=p.K:=by rfl):Bx (PE X (.Subscript e (.Slice lo hi none p2) pos) (tD p (FB fa fl fh))):=⟨zE hK he.h hl.h hu.h⟩
theorem Gh {fo:ME}{ob:Expr}{apos:Pos} (ho:Bx (PE X ob (tD p fo))) (ha:Bx (PA X [e] (nH p fr))) (hbase:attributeBase ob "pop" X.env (eval ob X.env)=eval ob X.env:=by rfl) (hfew:((backTo pos (starEach [e] X.env)).all (fun x=>!x.1) && (backToKw pos (keywordEach [] X.env)).all (fun x=>x.1.isSome)
   && decide ([e].length+([]:List Keyword).length+(if ([]:List Keyword).isEmpty then 0 else 1)<30))=true:=by rfl) (hline:(apos.endLine == pos.line)=true:=by rfl) (hs:starEach [e] X.env=(false,eval e X.env)::starEach [] X.env:=by rfl) (hpl:(backTo pos (starEach [] X.env)).any (·.1)=false:=by rfl) (hK:X.K=p.K:=by rfl):Bx (PE X (.Call (.Attribute ob "pop" apos) [e] [] pos) (tD p (Hb ot fo fr))):=⟨GF hK PySem.F.slot_list_pop PySem.F.type_list_pop Ad Ci ho.h ha.h hbase hfew hline hs hpl⟩
variable {tg iter elt:Expr}{fi:MI}{g:MG}{u:AJ}
theorem qf (hl:Bx (PE X e (tD p f))) (hK:X.K=p.K:=by rfl):Bx (PI X tg e (sI p (gK f))):=⟨D3 hK hl.h⟩
theorem nI {px:Pos} (hm:X.mg "range" = none) (ha:Bx (PA X [a] (nH p fr))) (hg:Gl X "range" := by rfl) (hs:starEach [a] X.env=[(false,eval a X.env)]:=by rfl):Bx (PI X tg (.Call (.Name "range" px) [a] [] pos) (sI p (eE jt fr))):=⟨xm hg hm ha.h hs⟩
theorem sN {px:Pos} (hm:X.mg "range" = none) (ha:Bx (PA X [a,b] (nH p fr))) (hg:Gl X "range" := by rfl) (hs:starEach [a,b] X.env=[(false,eval a X.env),(false,eval b X.env)]:=by rfl) (hs2:starEach [b] X.env=[(false,eval b X.env)]:=by rfl):Bx (PI X tg (.Call (.Name "range" px) [a,b] [] pos) (sI p (eE lz fr))):=⟨xl hg hm ha.h hs hs2⟩
theorem HG {px tpos:Pos}{elts:List Expr}{k1:Nat} (hm:X.mg "enumerate" = none) (ha:Bx (PA X [a] (nH p fr))) (hg:Gl X "enumerate" := by rfl) (hs:starEach [a] X.env=[(false,eval a X.env)]:=by rfl) (hK:X.K=p.K:=by rfl):Bx (PI X (.Tuple elts k1 tpos) (.Call (.Name "enumerate" px) [a] [] pos) (sI p (eE qq fr))):=⟨Bp hK hg hm ha.h hs⟩
theorem gb (i:Nat) {x:Str} (hN:X.N.Nodup) (hi:X.N[i]?=some x:=by rfl) (hx:yn X.env.scope x:=by first | exact Or.inl rfl | exact Or.inr rfl) (hf:X.fn x=true\/X.env.scope.names.lookup x=some .local:=by first | exact .inl rfl | exact .inr rfl):Bx (PG X (.Name x pos) (pU p (ag i))):=⟨Br hN hi hx hf⟩
theorem kb  : Bx (uM X [] (sL p cX)):=⟨Bq⟩
theorem cB (h1:Bx (PG X e (pU p g))) (h2:Bx (uM X es (sL p u))) (hs:(assignEach (e::es) X.env).map (·.2)=assign e X.env::(assignEach es X.env).map (·.2):=by rfl):Bx (uM X (e::es) (sL p (aL g u))):=⟨zz h1.h h2.h hs⟩
theorem ka {k n:Nat} (h:Bx (uM X es (sL p u))) (hc:X.calm=true:=by rfl) (hn:(assignEach es X.env).length=n:=by rfl) (hst:(assignEach es X.env).findIdx? (·.1)=none:=by rfl) (hK:X.K=p.K:=by rfl):Bx (PG X (.Tuple es k pos) (pU p (cW n u))):=⟨D4 hK hc h.h hn hst⟩
theorem qp {fo fi:ME} (ho:Bx (PE X a (tD p fo))) (hi:Bx (PE X b (tD p fi))) (ha:∀ v,assign (.Subscript a b pos) X.env v=(do
   let ov <- holding [v] (eval a X.env)
   let iv <- holding [v,ov] (eval b X.env)
   standAt pos
   holding [v,ov,iv] (setItem ov iv v)
   release [v,ov,iv] []):=by intro _;rfl):Bx (PG X (.Subscript a b pos) (pU p (k9 fo fi))):=⟨D5 ho.h hi.h ha⟩
variable {ifs:List Expr}{scope:Scope}{Nc:List Str}{cap:List (Option Nat)}{tt:MT}{te:ME}
theorem dH (S:bY X.N X.env scope Nc cap) (hi:Bx (PI X tg iter (sI p fi))) (hg:∀ cl C s H fp,Bx (PG (i7 X Nc scope cl C s H fp) tg (pU p.nx g))) (ht:∀ cl C s H fp,Bx (sH (i7 X Nc scope cl C s H fp) ifs (iH p.nx tt))) (he:∀ cl C s H fp,Bx (PE (i7 X Nc scope cl C s H fp) elt (tD p.nx te))) (hc:X.calm=true:=by rfl) (hs:∀ x,foldedSetIterable iter X.env x=pure x:=by intro _;rfl):Bx (PE X (.ListComp elt [⟨tg,iter,ifs,0⟩] scope pos) (tD p (bF fi cap g tt te))):=⟨Bu hc S hi.h (fun cl C s H fp=>(hg cl C s H fp).h) (fun cl C s H fp=>(ht cl C s H fp).h) (fun cl C s H fp=>(he cl C s H fp).h) hs⟩
def wK (gs:List Comprehension):Bool:=gs.all fun g=>g.is_async == 0
theorem A4 {gs:List Comprehension} (h:wK gs=true):∀ g∈gs,g.is_async=0:=fun g hg=>eq_of_beq (Lk.mp h g hg)
variable {mb:MB}{cl0:Comprehension}{rest:List Comprehension}{d:Nat}{acc:Addr}
variable {fs gs:MS}{st:Stmt}{sts A B body:List Stmt}
theorem cu (i:Nat) {x:Str}{pos':Pos} (hN:X.N.Nodup) (he:Bx (PE X e (tD p f))) (hi:X.N[i]?=some x:=by rfl) (hx:yn X.env.scope x:=by first | exact Or.inl rfl | exact Or.inr rfl) (hs:swapsWith e (some (.Name x pos')) pos.line X.env=pure false:=by rfl) (hf:X.fn x=true\/X.env.scope.names.lookup x=some .local:=by first | exact .inl rfl | exact .inr rfl):Bx (PS X (.Assign [.Name x pos'] e pos) (iE p (bw f (ag i)))):=⟨DP hN hi hx he.h hs hf⟩
theorem jx (i:Nat) {x:Str}{pos1 pos2:Pos} (hN:X.N.Nodup) (S:bY X.N X.env scope Nc cap) (hi:Bx (PI X tg iter (sI p fi))) (hg:∀ cl C s H fp,Bx (PG (i7 X Nc scope cl C s H fp) tg (pU p.nx g))) (ht:∀ cl C s H fp,Bx (sH (i7 X Nc scope cl C s H fp) ifs (iH p.nx tt))) (he:∀ cl C s H fp,Bx (PE (i7 X Nc scope cl C s H fp) elt (tD p.nx te))) (hix:X.N[i]?=some x:=by rfl) (hx:X.env.scope.names.lookup x=some .local:=by rfl) (hc:X.calm=true:=by rfl) (hsw:swapsWith (.ListComp elt [⟨tg,iter,ifs,0⟩] scope pos) (some (.Name x pos1)) pos2.line X.env=pure true:=by rfl) (hs:∀ x,foldedSetIterable iter X.env x=pure x:=by intro _;rfl):Bx (PS X (.Assign [.Name x pos1] (.ListComp elt [⟨tg,iter,ifs,0⟩] scope pos) pos2) (iE p (bw (bF fi cap g tt te) (ag i)))):=⟨Bb hc hN hix hx S hi.h (fun cl C s H fp=>(hg cl C s H fp).h) (fun cl C s H fp=>(ht cl C s H fp).h) (fun cl C s H fp=>(he cl C s H fp).h) hsw hs⟩
theorem lT (he:Bx (PE X e (tD p f))) (hg:Bx (PG X tg (pU p g))) (hs:swapsWithSole [tg] e pos.line X.env=pure false:=by rfl) (hw:swappedStores [tg] e X.env=pure none:=by rfl) (h1:(assignEach [tg] X.env).map (·.2)=[assign tg X.env]:=by rfl):Bx (PS X (.Assign [tg] e pos) (iE p (bw f g))):=⟨DV he.h hg.h hs hw h1⟩
theorem uU (he:Bx (PE X e (tD p f))) (hs:swapsWith e none pos.line X.env=pure false:=by rfl):Bx (PS X (.Expr e pos) (iE p (qm f))):=⟨Bc he.h hs⟩
theorem i9 (hp:PassesOwn (model X.prog X.w) X.A X.env X.xe) (hi:Bx (PI X tg iter (sI p fi))) (hg:Bx (PG X tg (pU p g))) (hb:Bx (jZ X body (iE p fs))) (hc:X.calm=true:=by rfl) (hs:∀ x,foldedSetIterable iter X.env x=pure x:=by intro _;rfl):Bx (PS X (.For tg iter body [] pos) (iE p (j3 fi g fs))):=⟨DT hp hc hi.h hg.h hb.h hs⟩
theorem wm (n:Nat) (hp:PassesOwn (model X.prog X.w) X.A X.env X.xe) (hc:Bx (PT X c (iH p ft))) (hb:Bx (jZ X body (iE p fs))):Bx (PS X (.While c body [] pos) (iE p (mN n ft fs))):=⟨zp hp hc.h hb.h⟩
end
section
variable {X:Cx}{p:Pa}{a b c e:Expr}{es rest:List Expr}{fa fb f:ME}{fr:MA}{ft gt:MT}{pos:Pos}{fs gs:MS}{st:Stmt}{sts A B:List Stmt}
theorem Gf (ha:Bx (PE X a (tD p fa))):Bx (PE X (.UnaryOp .Not a pos) (tD p (vX fa))):=⟨D8 ha.h⟩
theorem j6 (ha:Bx (PE X a (tD p fa))) (hb:Bx (PE X (.BoolOp .And (b::rest) pos) (tD p fb))):Bx (PE X (.BoolOp .And (a::b::rest) pos) (tD p (iM fa fb))):=⟨Ec ha.h hb.h⟩
theorem cF {k:Nat} (h:Bx (PA X es (nH p fr))):Bx (PE X (.Tuple es k pos) (tD p (d6 fr))):=⟨D7 h.h⟩
theorem iJ (h:Bx (PA X es (nH p fr))):Bx (PE X (.List es pos) (tD p (i8 fr))):=⟨D9 h.h⟩
theorem v3:Bx (PO X none (CS p FG)):=⟨Bm⟩
theorem nP (h:Bx (PE X e (tD p f))):Bx (PO X (some e) (CS p (oa f))):=⟨Bl h.h⟩
theorem k6 (ha:Bx (PT X a (iH p ft))):Bx (PT X (.UnaryOp .Not a pos) (iH p (jb ft))):=⟨DM ha.h⟩
theorem nY (h:Bx (PW X e (iH p ft))):Bx (PT X e (iH p ft)):=⟨h.h.pt⟩
theorem fD:Bx (sH X [] (iH p bf)):=⟨A7⟩
theorem lS (h:Bx (PT X c (iH p ft))):Bx (sH X [c] (iH p ft)):=⟨A6 h.h⟩
theorem eF:Bx (jZ X [] (iE p dC)):=⟨DS⟩
theorem aF (h1:Bx (PS X st (iE p fs))) (h2:Bx (jZ X sts (iE p gs))):Bx (jZ X (st::sts) (iE p (br fs gs))):=⟨Bd h1.h h2.h⟩
theorem aJ (h1:Bx (PS X st (iE p fs))):Bx (jZ X [st] (iE p fs)):=⟨DR h1.h⟩
theorem bq (h:Bx (PE X e (tD p f))):Bx (PS X (.Return (some e) pos) (iE p (bZ f))):=⟨DQ h.h⟩
theorem lW:Bx (PS X st (iE p uO)):=⟨zq⟩
theorem gI (hc:Bx (PT X c (iH p ft))) (ha:Bx (jZ X A (iE p fs))) (hb:Bx (jZ X B (iE p gs))):Bx (PS X (.If c A B pos) (iE p (jY ft fs gs))):=⟨Gz hc.h ha.h hb.h⟩
end
theorem bX {P:Program}{w:World}{K:W.Frag}{mg:Str->Option Value}{base:Heap}{p:Pa}{k n:Nat}{x qual:Str}{st:Stmt}{f:Addr}{fd:FuncData}{N ps:List Str}{fb:MS}
  (F:gW K x qual st f fd) (S:aO N ps (ao st)) (hn:ps.length=n) (hm:mg x=some (.ref f)) (hb:kc K fd ps [])
  (body : ∀ (cdv : Value) (A : Around) (outer : List Env) (s : Shared) (H : Hp) (E : XK), iG k (A.deeper (envOfC qual (ao st) s.heap.objs.size f cdv)) ->
   Bx (jZ (rE yp P w K mg base N qual (ao st) f cdv A outer s H E).nox (cI st) (iE p fb))):cE P w K mg base p (k+1) x n (iI n N.length fb):=
 Fv F S hn hm hb fun cdv A outer s H E hr=>(body cdv A outer s H E hr).h
end L2
namespace L2
open PySem RS
section
variable {ρ:Ro}{μ:aA}{fa fb fc fd f:ME}{fr:MA}{ft gt:MT}{op o1 o2 o3:D->D->aA->ak D}{fs gs:MS}{g:MG}
@[simp] theorem ah {d:D}{r:Ro}:af 0 (some d::r) μ=.ok d μ:=L9 (Ma _)
@[simp] theorem ai {i:Nat}{x:Option D}{r:Ro}:af (i+1) (x::r) μ=af i r μ:=L9 (Ma _)
@[simp] theorem aX {d:D}:cC d ρ μ=.ok d μ:=L9 (Ma _)
@[simp] theorem az:au op fa fb ρ μ=(fa ρ μ).bind fun a μ1=>(fb ρ μ1).bind fun b μ2=>op a b μ2:=L9 (Ma _)
@[simp] theorem oe {o:D->aA->ak D}:yi o fa ρ μ=(fa ρ μ).bind fun a μ1=>o a μ1:=L9 (Ma _)
@[simp] theorem ay:aw ρ μ=.ok [] μ:=L9 (Ma _)
@[simp] theorem ar:ae fa fr ρ μ=(fa ρ μ).bind fun a μ1=>(fr ρ μ1).bind fun r μ2=>.ok (a::r) μ2:=L9 (Ma _)
@[simp] theorem aC {F:List D->aA->ak D}:ax F fr ρ μ=(fr ρ μ).bind F:=L9 (Ma _)
@[simp] theorem cv:d6 fr ρ μ=(fr ρ μ).bind fun ds μ=>if ds.length<=sizeLine then .ok (.tup ds) μ else .bad:=L9 (Ma _)
@[simp] theorem gm:i8 fr ρ μ=(fr ρ μ).bind fun ds μ=>if ds.length<=sizeLine then .ok (.obj μ.length) (μ++[.lst ds]) else .bad:=L9 (Ma _)
@[simp] theorem aM {b:Bool}:AB (.bl b) μ=.ok b μ:=L9 (Ma _)
@[simp] theorem bO:f6 f ρ μ=(f ρ μ).bind AB:=L9 (Ma _)
@[simp] theorem gB:jK ft gt ρ μ=(ft ρ μ).bind fun b μ1=>if b=true then gt ρ μ1 else .ok false μ1:=L9 (Ma _)
@[simp] theorem oq:rF ft gt ρ μ=(ft ρ μ).bind fun b μ1=>if b=true then .ok true μ1 else gt ρ μ1:=L9 (Ma _)
@[simp] theorem g6:jb ft ρ μ=(ft ρ μ).bind fun b μ1=>.ok (!b) μ1:=L9 (Ma _)
@[simp] theorem gA:iM fa fb ρ μ=(fa ρ μ).bind fun a μ1=>(AB a μ1).bind fun b μ2=>if b=true then fb ρ μ2 else .ok (.bl false) μ2:=L9 (Ma _)
@[simp] theorem wF:vX f ρ μ=(f ρ μ).bind fun a μ1=>(AB a μ1).bind fun b μ2=>.ok (.bl (!b)) μ2:=L9 (Ma _)
@[simp] theorem t8:ou o1 o2 fa fb fc ρ μ=(fa ρ μ).bind fun a μ1=>(fb ρ μ1).bind fun b μ2=>(o1 a b μ2).bind fun z μ3=>(AB z μ3).bind fun k μ4=>
 if k=true then (fc ρ μ4).bind fun c μ5=>o2 b c μ5 else .ok (.bl false) μ4:=L9 (Ma _)
@[simp] theorem iY:j5 f ρ μ=(f ρ μ).bind wR:=L9 (Ma _)
@[simp] theorem gx {b:Bool}:wR (.bl b) μ=.ok b μ:=L9 (Ma _)
@[simp] theorem Dc {fl fh:MO}:FB fa fl fh ρ μ=(fa ρ μ).bind fun a μ1=>(fl ρ μ1).bind fun lo μ2=>(fh ρ μ2).bind fun hi μ3=>AA a lo hi μ3:=L9 (Ma _)
@[simp] theorem Fn:FG ρ μ=.ok none μ:=L9 (Ma _)
@[simp] theorem t7:oa f ρ μ=(f ρ μ).bind Hc:=L9 (Ma _)
@[simp] theorem zf {i:Int}:Hc (.int i) μ=.ok (some i) μ:=L9 (Ma _)
@[simp] theorem G2 {F:D->List D->aA->ak D}{fo:ME}:Hb F fo fr ρ μ=(fo ρ μ).bind fun o μ1=>if Dm o μ1=true then (fr ρ μ1).bind fun ds μ2=>F o ds μ2 else .bad:=L9 (Ma _)
@[simp] theorem bb:bZ f ρ μ=(f ρ μ).bindS fun d μ'=>.ret d μ':=L9 (Ma _)
@[simp] theorem bG:dC ρ μ=.next ρ μ:=L9 (Ma _)
@[simp] theorem aT:br fs gs ρ μ=(fs ρ μ).bind gs:=L9 (Ma _)
@[simp] theorem bx:jY ft fs gs ρ μ=(ft ρ μ).bindS fun b μ1=>if b=true then fs ρ μ1 else gs ρ μ1:=L9 (Ma _)
@[simp] theorem a9:bw f g ρ μ=(f ρ μ).bindS fun d μ1=>(g d ρ μ1).bindS fun ρ' μ2=>.next ρ' μ2:=L9 (Ma _)
@[simp] theorem wH:qm f ρ μ=(f ρ μ).bindS fun _ μ1=>.next ρ μ1:=L9 (Ma _)
@[simp] theorem aH {g:MS}:(SO.next ρ μ).bind g=g ρ μ:=L9 (Ma _)
@[simp] theorem rL {d:D}{g:MS}:(SO.ret d μ).bind g=.ret d μ:=L9 (Ma _)
@[simp] theorem nT {g:MS}:(SO.next ρ μ).loop g=g ρ μ:=L9 (Ma _)
@[simp] theorem aN {d:D}:(SO.ret d μ).out=.ok d μ:=L9 (Ma _)
@[simp] theorem z5:(SO.next ρ μ).out=.ok .non μ:=L9 (Ma _)
@[simp] theorem cH {i:Nat}{d:D}:ag i d ρ μ=.ok (ρ.set i (some d)) μ:=L9 (Ma _)
@[simp] theorem kH {fo fi:ME}{d:D}:k9 fo fi d ρ μ=(fo ρ μ).bind fun o μ1=>(fi ρ μ1).bind fun i μ2=>(uN o i d μ2).bind fun _ μ3=>.ok ρ μ3:=L9 (Ma _)
@[simp] theorem CJ {n:Nat}{u:AJ}{xs:List D}:cW n u (.tup xs) ρ μ=if xs.length=n then u xs ρ μ else .bad:=L9 (Ma _)
@[simp] theorem CK:cX [] ρ μ=.ok ρ μ:=L9 (Ma _)
@[simp] theorem Am {u:AJ}{d:D}{r:List D}:aL g u (d::r) ρ μ=(g d ρ μ).bind fun ρ' μ'=>u r ρ' μ':=L9 (Ma _)
@[simp] theorem gn {fi:MI}:j3 fi g fs ρ μ=(fi ρ μ).bindS fun src μ1=>lA src g fs src.items ρ μ1:=L9 (Ma _)
@[simp] theorem cg:gK f ρ μ=(f ρ μ).bind sM:=L9 (Ma _)
@[simp] theorem bS {F:List D->aA->ak mC}:eE F fr ρ μ=(fr ρ μ).bind F:=L9 (Ma _)
@[simp] theorem jz {xs:List D}:sM (.tup xs) μ=.ok (.fix xs) μ:=L9 (Ma _)
@[simp] theorem bz {fi:MI}{cap:List (Option Nat)}:bF fi cap g ft f ρ μ=(fi ρ μ).bind fun src μ1=>compLoop src μ1.length g ft f src.items (d5 cap ρ) (μ1++[.lst []]):=L9 (Ma _)
@[simp] theorem aP {xs:List D}:(mC.fix xs).items=xs:=L9 (Ma _)
@[simp] theorem dE {n:Nat}{xs:List D}:(mC.own n xs).items=xs:=L9 (Ma _)
theorem eW {N:Nat}{a:D}:iI 1 N fs [a] μ=rq μ (fs (some a::List.replicate (N - 1) none) μ).out:=ID rfl
theorem dq {N:Nat}{a b:D}:iI 2 N fs [a,b] μ=rq μ (fs (some a::some b::List.replicate (N - 2) none) μ).out:=ID rfl
theorem u3 {N:Nat}{a b c:D}:iI 3 N fs [a,b,c] μ=rq μ (fs (some a::some b::some c::List.replicate (N - 3) none) μ).out:=ID rfl
@[simp] theorem dM {op:CmpOp}{i j:Int}:gL op (.int i) (.int j) μ=.ok (.bl (dh op i j)) μ:=L9 (Ma _)
@[simp] theorem gC {i j:Int}:cA (.int i) (.int j) μ=.ok (.int (i+j)) μ:=L9 (Ma _)
@[simp] theorem Dd {gg:Int->Int->D}{i j:Int}:dI gg (.int i) (.int j) μ=.ok (gg i j) μ:=L9 (Ma _)
@[simp] theorem mQ {C:Int->Int->Prop}{gg:Int->Int->D}{i j:Int} (h:C i j):Dn C gg (.int i) (.int j) μ=.ok (gg i j) μ:=by unfold Dn;simp [h]
@[simp] theorem CG {i j:Int} (h:sS i j):jR (.int i) (.int j) μ=.ok (.int (i * j)) μ:=by unfold jR;simp [h]
@[simp] theorem ze {i:Int}:wW (.int i) μ=.ok (.int (-i)) μ:=L9 (Ma _)
@[simp] theorem du {neg:Bool}{i j:Int}:d4 neg (.int i) (.int j) μ=.ok (.bl (if neg then !(i == j) else i == j)) μ:=L9 (Ma _)
@[simp] theorem Fp {neg:Bool}{i j:Bool}:d4 neg (.bl i) (.bl j) μ=.ok (.bl (if neg then !(i == j) else i == j)) μ:=L9 (Ma _)
@[simp] theorem rO {neg:Bool}{a:D}:rD neg a .non μ=.ok (.bl (if neg then !a.isNon else a.isNon)) μ:=L9 (Ma _)
@[simp] theorem l4 {xs:List D}:j4 [.tup xs] μ=.ok (.int xs.length) μ:=L9 (Ma _)
@[simp] theorem wG {xs:List D}:j4 [.frz xs] μ=.ok (.int xs.length) μ:=L9 (Ma _)
theorem CI {n:Nat}{xs:List D} (h:μ[n]?=some (.lst xs)):j4 [.obj n] μ=.ok (.int xs.length) μ:=by unfold j4 sZ;simp [h]
theorem CH {n:Nat}{ks:List Int} (h:μ[n]?=some (.iset ks)):j4 [.obj n] μ=.ok (.int ks.length) μ:=by unfold j4;simp [h]
theorem fH {n:Nat}{xs:List D} (h:μ[n]?=some (.lst xs)):eD [.obj n] μ=.ok (.tup xs) μ:=by unfold eD;simp [h]
theorem l5 {n:Nat}{bs:List Bool} (h:μ[n]?=some (.lst (bs.map D.bl))):n5 [.obj n] μ=.ok (.bl (bs.all id)) μ:=by unfold n5;simp [h,yd]
theorem iZ {xs:List D}{i:Int}{d:D} (h:atI xs i=some d):bW (.tup xs) (.int i) μ=.ok d μ:=by unfold bW;simp [h]
theorem Fo {xs:List D}{i:Int}{d:D} (h:atI xs i=some d):bW (.frz xs) (.int i) μ=.ok d μ:=by unfold bW;simp [h]
theorem gR {n:Nat}{xs:List D}{i:Int}{d:D} (hm:μ[n]?=some (.lst xs)) (h:atI xs i=some d):bW (.obj n) (.int i) μ=.ok d μ:=by unfold bW;simp [hm,h]
theorem lZ {n j:Nat}{xs:List D}{i:Int}{d:D} (hm:μ[n]?=some (.lst xs)) (h:vR xs.length i=some j):uN (.obj n) (.int i) d μ=.ok () (μ.set n (.lst (xs.set j d))):=by unfold uN;simp [hm,h]
theorem gy {n:Nat}{xs:List D} (hm:μ[n]?=some (.lst xs)):sM (.obj n) μ=.ok (.own n xs) μ:=by unfold sM;simp [hm]
theorem eT {j:Int} (h0:0<=j) (h:j<1000):jt [.int j] μ=.ok (.fix (aW 0 j.toNat)) μ:=by
 unfold jt;dsimp only;rw [ID];omega
theorem iO {i j:Int} (h0:0<=i) (h1:i<1000) (h2:-1000<=j) (h:j<1000):lz [.int i,.int j] μ=.ok (.fix (aW i (j - i).toNat)) μ:=by
 unfold lz;dsimp only;rw [ID];omega
theorem vZ {α:Type}{x:α}{r:List α}:atI (x::r) 0=some x:=by unfold atI vR;simp
theorem yP {α:Type}{x y:α}{r:List α}:atI (x::y::r) 1=some y:=kI (j:=1) rfl
theorem Dh {α:Type}{x y z:α}{r:List α}:atI (x::y::z::r) 2=some z:=kI (j:=2) rfl
@[simp] theorem dw {x:D}{r:List D}:bW (.tup (x::r)) (.int 0) μ=.ok x μ:=iZ vZ
@[simp] theorem g7 {x y:D}{r:List D}:bW (.tup (x::y::r)) (.int 1) μ=.ok y μ:=iZ yP
theorem rQ {α:Type}{xs:List α}{i:Int}{x:α} (h0:0<=i) (h:xs[i.toNat]?=some x):atI xs i=some x:=by
 have:=kI h
 rwa [show ((i.toNat:Nat):Int)=i by omega] at this
theorem mP {n:Nat}{i:Int} (h0:0<=i) (h:i<n):vR n i=some i.toNat:=by unfold vR;simp [h0,h]
end
section
variable {μ g:aA}{d:D}
@[simp] theorem Cq {n:Nat}{i:Int}:(D.int i).low n=True:=by simp [D.low]
@[simp] theorem HS {n:Nat}{i:Bool}:(D.bl i).low n=True:=by simp [D.low]
@[simp] theorem Hi {n:Nat}:D.non.low n=True:=by simp [D.low]
@[simp] theorem Co {n:Nat}{xs:List D}:(D.tup xs).low n=D.lows n xs:=by simp [D.low]
@[simp] theorem Cp {n m:Nat}:(D.obj m).low n=(m<n):=by simp [D.low]
@[simp] theorem G6 {n:Nat}:D.lows n []=True:=by simp [D.lows]
@[simp] theorem FD {n:Nat}{x:D}{xs:List D}:D.lows n (x::xs)=(x.low n/\D.lows n xs):=by simp [D.lows]
theorem il {n:Nat}:∀ {xs:List D},D.lows n xs↔∀ x∈xs,x.low n
 | []=>by simp
 | x::xs=>by simp [il (xs:=xs)]
theorem fF (hd:d.low μ.length):rq μ (.ok d (μ++g))=.ok d μ:=by
 unfold rq
 dsimp only
 rw [ID]
 ·simp
 ·refine ⟨hd, by simp, fun i o hi h => .inl ?_⟩
  rw [JE hi] at h
  exact h
theorem cf (hd:d.low μ.length):rq μ (.ok d μ)=.ok d μ:=by
 have:=fF (μ:=μ) (g:=[]) hd
 simpa using this
theorem uZ {i:Nat}{o:O} (hd:d.low μ.length) (ho:o.low μ.length):rq μ (.ok d (μ.set i o++g))=.ok d (μ.set i o):=by
 unfold rq
 dsimp only
 rw [ID]
 ·congr 1
  rw [List.take_append_of_le_length (by simp)]
  exact K0 (by simp)
 ·refine ⟨hd, by simp, fun j o' hj h => ?_⟩
  rw [JE (by simpa using hj)] at h
  by_cases hij:i=j
  ·subst hij
   rw [IZ hj] at h
   cases h
   exact .inr ho
  ·rw [I0 hij] at h
   exact .inl h
theorem wD {i:Nat}{o:O} (hd:d.low μ.length) (ho:o.low μ.length):rq μ (.ok d (μ.set i o))=.ok d (μ.set i o):=by
 have:=uZ (μ:=μ) (g:=[]) (i:=i) hd ho
 simpa using this
theorem vU {μ':aA} (h:¬ d.low μ.length):rq μ (.ok d μ')=.ok d μ':=by
 unfold rq
 dsimp only
 rw [IE fun z=>h z.1]
theorem Fk {μ':aA}:rq μ (.ok d μ')=.ok d μ'\/(rq μ (.ok d μ')=.ok d (μ'.take μ.length)/\d.low μ.length):=by
 unfold rq
 dsimp only
 by_cases h:Dr μ μ' d
 ·rw [ID h];exact .inr ⟨rfl,h.1⟩
 ·rw [IE h];exact .inl rfl
end
theorem kf {μ1 g:aA}{a b:O}:(μ1++a::g).set μ1.length b=μ1++b::g:=by
 rw [List.set_append_right _ _ (Jp _),Nat.sub_self];rfl
theorem av {μ1 g:aA}{a:O}:(μ1++a::g)[μ1.length]?=some a:=by
 rw [JD (Jp _),Nat.sub_self];rfl
theorem mV {μ1 g:aA}{ys:List D}{y:D} (h:ys.length<sizeLine):sW μ1.length y (μ1++.lst ys::g)=.ok () (μ1++.lst (ys++[y])::g):=by
 unfold sW
 rw [av]
 dsimp only
 rw [ID h,kf]
theorem dc {src:mC}{g:MG}{t:MT}{e:ME}{μ1:aA}{q:D->Bool}{h:D->D} (R:Ro->Prop) (ho:∀ a,di src (μ1++[.lst a])) :
  ∀ {xs acc:List D}{ρ:Ro},R ρ->acc.length+xs.length<=sizeLine->(∀ x∈xs,∀ a ρ,R ρ->∃ ρ1,R ρ1/\g x ρ (μ1++[.lst a])=.ok ρ1 (μ1++[.lst a])/\t ρ1 (μ1++[.lst a])=.ok (q x) (μ1++[.lst a])/\(q x=true->e ρ1 (μ1++[.lst a])=.ok (h x) (μ1++[.lst a]))) ->
   compLoop src μ1.length g t e xs ρ (μ1++[.lst acc])=.ok (.obj μ1.length) (μ1++[.lst (acc++(xs.filter q).map h)])
 | [],acc,ρ,hr,hl,he=>by
  unfold compLoop
  rw [ID (ho acc)]
  simp
 | x::xs,acc,ρ,hr,hl,he=>by
  obtain ⟨ρ1,r1,e1,e2,e3⟩:=he x IR acc ρ hr
  unfold compLoop
  rw [ID (ho acc),e1]
  simp only [bP,aa]
  rw [e2]
  simp only [bP,aa]
  have he':=fun y hy=>he y (IS _ hy)
  simp only [Kq] at hl
  cases hq:q x with
  | false=>
   rw [IE Jj,dc R ho r1 (by omega) he',Ml,hq]
   rfl
  | true=>
   rw [ID rfl,e3 hq]
   simp only [bP,aa]
   rw [mV (by omega)]
   simp only [aa]
   rw [dc R ho r1 (by simp;omega) he',Ml,hq]
   simp
theorem jg {src:mC}{g:MG}{t:MT}{e:ME}{n:Nat} (J:List D->List D->Ro->aA->aA->Prop)
  (fin:∀ ys ρ μ1 s,J [] ys ρ μ1 s->μ1.length=n/\di src (μ1++.lst ys::s))
  (step : ∀ x r ys ρ μ1 s, J (x :: r) ys ρ μ1 s -> μ1.length = n /\ di src (μ1 ++ .lst ys :: s) /\ ∃ ρ1 μa sa b μb sb, g x ρ (μ1 ++ .lst ys :: s) = .ok ρ1 (μa ++ .lst ys :: sa) /\ t ρ1 (μa ++ .lst ys :: sa) = .ok b (μb ++ .lst ys :: sb) /\
   (b=true->∃ y μc sc,e ρ1 (μb++.lst ys::sb)=.ok y (μc++.lst ys::sc)/\ys.length<sizeLine/\μc.length=n/\J r (ys++[y]) ρ1 μc sc)/\(b=false->J r ys ρ1 μb sb)) :
  ∀ {xs ys:List D}{ρ:Ro}{μ1 s:aA},J xs ys ρ μ1 s->∃ ys' ρ' μ1' s',J [] ys' ρ' μ1' s'/\compLoop src n g t e xs ρ (μ1++.lst ys::s)=.ok (.obj n) (μ1'++.lst ys'::s')
 | [],ys,ρ,μ1,s,hJ=>by
  refine ⟨ys,ρ,μ1,s,hJ,?_⟩
  unfold compLoop
  rw [ID (fin ys ρ μ1 s hJ).2]
 | x::xs,ys,ρ,μ1,s,hJ=>by
  obtain ⟨hn,ho,ρ1,μa,sa,b,μb,sb,e1,e2,e3,e4⟩:=step x xs ys ρ μ1 s hJ
  unfold compLoop
  rw [ID ho,e1]
  simp only [bP,aa]
  rw [e2]
  simp only [bP,aa]
  cases b with
  | false=>
   rw [IE Jj]
   exact jg J fin step (e4 rfl)
  | true=>
   obtain ⟨y,μc,sc,f1,f2,f3,f4⟩:=e3 rfl
   rw [ID rfl,f1]
   simp only [bP,aa]
   subst f3
   rw [mV f2]
   simp only [aa]
   exact jg J fin step f4
theorem d7 {src:mC}{g:MG}{fb:MS} (J:List D->Ro->aA->Prop) (fin:∀ ρ μ,J [] ρ μ->di src μ)
  (step:∀ x r ρ μ,J (x::r) ρ μ->di src μ/\∃ ρ1 μ1 ρ2 μ2,g x ρ μ=.ok ρ1 μ1/\fb ρ1 μ1=.next ρ2 μ2/\J r ρ2 μ2) :
  ∀ {xs:List D}{ρ:Ro}{μ:aA},J xs ρ μ->∃ ρ' μ',J [] ρ' μ'/\lA src g fb xs ρ μ=.next ρ' μ'
 | [],ρ,μ,h=>⟨ρ,μ,h,by unfold lA;rw [ID (fin ρ μ h)]⟩
 | x::xs,ρ,μ,h=>by
  obtain ⟨ho,ρ1,μ1,ρ2,μ2,e1,e2,h2⟩:=step x xs ρ μ h
  obtain ⟨ρ',μ',h3,e3⟩:=d7 J fin step h2
  refine ⟨ρ',μ',h3,?_⟩
  unfold lA
  rw [ID ho,e1]
  simp only [ab]
  rw [e2]
  exact e3
end L2
namespace L2
open PySem PySem.Spec PyProof.Rows RS
theorem G0 {P:Program}{w:World}{K:W.Frag}{mg:Str->Option Value}{base:Heap}{p:Pa}{k n:Nat}{x qual:Str}{st:Stmt}{f:Addr}{fd:FuncData}{N ps:List Str}{fb:MS}
  (F:gW K x qual st f fd) (S:aO N ps (ao st)) (hn:ps.length=n)
  (body : ∀ (cdv : Value) (A : Around) (outer : List Env) (s : Shared) (H : Hp) (E : XK), iG k (A.deeper (envOfC qual (ao st) s.heap.objs.size f cdv)) ->
   Bx (jZ (rE yp P w K mg base N qual (ao st) f cdv A outer s H E).nox (cI st) (iE p fb))):pY P w K mg base yp (k+1) f fd ps (Dk p n (iI n N.length fb)):=by
 refine F.ok S (fun vs H Q E h=>h.1.trans hn.symm) fun cdv A outer s H vs Q E hr h=>?_
 refine ⟨_,(body cdv A outer s H E hr).h,?_⟩
 obtain ⟨hl,α,ds,μ,S1,R1,P1⟩:=h
 unfold iI at P1
 have hd:ds.length=n:=by rw [<- R1.length];exact hl
 rw [ID hd] at P1
 have P2:=wC S1 P1
 unfold start
 rw [hl]
 refine ⟨α,_,μ,S1,pB R1 _,?_⟩
 cases e:fb (ds.map some++List.replicate (N.length - n) none) μ with
 | ret d μ'=>rw [e] at P2;exact fun H' α' v x s r=>P2 H' α' x s v r
 | next ρ μ'=>rw [e] at P2;exact fun H' α' σ' x s r=>P2 H' α' x s .non (cL.mpr rfl)
 | exc x μ'=>rw [e] at P2;exact P2
 | brk ρ μ'=>rw [e] at P2;exact P2.elim
 | cnt ρ μ'=>rw [e] at P2;exact P2.elim
 | bad=>rw [e] at P2;exact P2.elim
theorem qC {K:W.Frag}{H:Hp}{α:List Addr}:∀ ns:List Int,Reps K H α (ns.map D.int) (ns.map V.int)
 | []=>by simp only [J4,Reps]
 | n::ns=>by
  simp only [J5,Reps]
  exact ⟨_,_,rfl,aq.mpr rfl,qC ns⟩
theorem Ae {K:W.Frag}{w:World}{F:List D->aA->ak D}{H:Hp}{a:Addr}{ns:List Int}{E:XK} (hF:∃ μ',F [.frz (ns.map D.int)] []=.ok (.bl true) μ') (hO:AV H) (hS:f7 K H a (ns.map V.int)) :
  Dk (cD K w) 1 F [.ref a] H (fun v _=>v=.bl true) E:=by
 obtain ⟨μ',e⟩:=hF
 have fz:CT K H a (ns.map V.int):=by
  rcases hS with (h | h) | h
  ·rcases hO a with z | ⟨o, xs, z⟩
   ·rw [h] at z;cases z
   ·rw [h] at z;cases z
  ·exact .inl h
  ·exact .inr h
 refine ⟨rfl,[],[.frz (ns.map D.int)],[],⟨rfl,Lg,fun n o a h=>by simp at h⟩,?_,?_⟩
 ·simp only [Reps]
  exact ⟨_,_,rfl,bA.mpr ⟨a,_,rfl,fz,qC ns⟩,rfl⟩
 ·rw [e]
  exact fun H' α' x s v r=>bc.mp r
end L2
namespace L2
open PySem PySem.Spec PyProof.Rows RS
section
variable {X:Cx}{p:Pa}
theorem p6:seqSlot? (.type "list") (dunderI "add")=pure (some (.builtin "list.__iadd__")):=PySem.seqSlot_of Mm.lookup (by decide +kernel)
theorem lN {M:Model}{A:Around}{E:Value->Shared->Prop}{s:Shared}{a b:Value}{Q:Value->Shared->Prop} (ha:s.TypeIs a "list") (hb:s.TypeIs b "list")
  (hc:wpAny M A (call (.builtin "list.__iadd__") [a,b]) Q E s):wpAny M A (inplaceOp .Add a b) Q E s:=by
 unfold inplaceOp
 refine Jg ?_
 have hfi:fillsInplaceSlot (.type "list") "add" (Operator.Add == .Add)=pure false:=by
  unfold fillsInplaceSlot
  show (typeLookup (.type "list") (dunderI "add") >>= fun fi=>pure (fi.isSome && !isSeqSlot fi))=pure false
  rw [Mm.lookup]
  rfl
 refine Jf (J1 ha (Jf (KG hfi ?_)))
 show wpAny M A (if false=true then _ else _) Q E s
 rw [IE Jj]
 refine Jf (wpAny_binaryOp1_none (nm:="add") ha hb noFill_list_add ?_)
 refine Jf (KG p6 ?_)
 exact Jf (Kx hc)
def C4:FI:=fun x y H Q=>(∃ i j,x=.int i/\y=.int j/\Q (.int (i+j)) H) \/
 ∃ l b xs zs,x=.ref l/\y=.ref b/\H l=some (.lst xs)/\H b=some (.lst zs)/\xs.length+zs.length<=sizeLine/\Q (.ref l) (cq H l (.lst (xs++zs)))
theorem Cw:Hf X .Add C4:=by
 intro pins s σ H x y v u Q I r1 r2 h
 rcases h with h | h
 ·exact Fh pins s σ H x y v u Q I r1 r2 h
 ·obtain ⟨l, b, xs, zs, rfl, rfl, hH, hB, hz, q⟩ := h
  cases r1
  cases r2
  obtain ⟨z,its,n,r,hl,e⟩:=I.lstM hH
  obtain ⟨z2,its2,n2,r2,hl2,e2⟩:=I.lstM hB
  have hsz:its.toArray.size+its2.toArray.size<=sizeLine:=by rw [Ju,Ju];omega
  have hlong:¬ (!its.toArray.isEmpty && Builtin.List.listTooLong (its.toArray.size+its2.toArray.size))=true:=by
   rw [tR hsz,Bool.and_false]
   exact Jj
  refine lN ⟨_,e,rfl⟩ ⟨_,e2,rfl⟩ ?_
  refine Kg Mm ⟨_,e,rfl⟩ F.entry_list_iadd (F.args_list_iadd_2 _ _)
   (AutoSeq1.list___iadd___list_list_0 l its.toArray n b its2.toArray n2 hlong (by rw [Ju];omega) (by omega)) ⟨e,e2,?_⟩
  refine ⟨.ref l,_,I.lset (its':=its++its2) hH e (by simp) (r.append r2) ?_,rfl,q⟩
  rw [JH]
  omega
def lU (a b:D) (μ:aA):ak D:=match a,b with
 | .int i,.int j=>.ok (.int (i+j)) μ
 | .obj m,.obj n=>match μ[m]?,μ[n]? with
  | some (.lst xs),some (.lst ys)=>if xs.length+ys.length<=sizeLine then .ok (.obj m) (μ.set m (.lst (xs++ys))) else .bad
  | _,_=>.bad
 | _,_=>.bad
theorem Cc:qh p lU C4:=by
 intro a b v y H α μ Q S ra rb P
 unfold lU at P
 split at P
 ·rename_i i j
  obtain rfl:=aq.mp ra
  obtain rfl:=aq.mp rb
  exact .inl ⟨i,j,rfl,rfl,P.now S _ (aq.mpr rfl)⟩
 ·rename_i m n
  split at P
  ·rename_i xs ys hx hy
   split at P
   ·rename_i hb
    obtain ⟨a,us,rfl,a1,h1,rr⟩:=dQ S ra hx
    obtain ⟨a',us',rfl,a1',h1',rr'⟩:=dQ S rb hy
    have q:=rr.append rr'
    exact .inr ⟨a,a',us,us',rfl,rfl,h1,h1',by rw [rr.length,rr'.length];exact hb,P _ _ (iN h1) (S.put hx a1 h1 q) _ (aQ.mpr ⟨a,rfl,a1⟩)⟩
   ·exact P.elim
  ·exact P.elim
 ·exact P.elim
theorem yD {e:Expr}{f:ME}{pos pos':Pos} (i:Nat) {x:Str} (hN:X.N.Nodup) (he:Bx (PE X e (tD p f))) (hi:X.N[i]?=some x:=by rfl) (hx:yn X.env.scope x:=by first | exact Or.inl rfl | exact Or.inr rfl) (hf:X.fn x=true\/X.env.scope.names.lookup x=some .local:=by first | exact .inl rfl | exact .inr rfl) :
  Bx (PS X (.AugAssign (.Name x pos') .Add e pos) (iE p (rB i lU f))):=⟨DU hN hi hx he.h Cw Cc hf⟩
end
end L2
namespace L2
open PySem PySem.W PyProof.Rows RS
section
variable {prog:Program}{w:World}{A:Around}{E:Value->Shared->Prop}
end
section
variable {X:Cx}
end
theorem Ig {α:Type}{P:List α->Prop} (h:∀ a,P [a]):∀ us:List α,us.length=1->P us
 | [a],_=>h a
theorem us2 {α:Type}{P:List α->Prop} (h:∀ a b,P [a,b]):∀ us:List α,us.length=2->P us
 | [a,b],_=>h a b
theorem Ie {α:Type}{P:List α->Prop} (h:∀ a b c,P [a,b,c]):∀ us:List α,us.length=3->P us
 | [a,b,c],_=>h a b c
theorem gW.b1 {K:W.Frag}{x qual:Str}{st:Stmt}{f:Addr}{fd:FuncData}{ps:List Str} (F:gW K x qual st f fd) (hl:ps.length=1) (h:∀ (kV doc pm:Value) (an:Option Addr) (cdv ct a:Value),bindArgs (W.fnOf x qual (d8 st) (cI st) (ao st) .none kV doc pm an cdv ct) ⟨[a],[]⟩=pure (ps.zip [a])):kc K fd ps []:=
 F.binds fun kV doc pm an cdv ct us e=>Ig (P:=fun us=>bindArgs (W.fnOf x qual (d8 st) (cI st) (ao st) .none kV doc pm an cdv ct) ⟨us,[]⟩=pure (ps.zip us)) (fun a=>h kV doc pm an cdv ct a) us (e.trans hl)
theorem gW.b2 {K:W.Frag}{x qual:Str}{st:Stmt}{f:Addr}{fd:FuncData}{ps:List Str} (F:gW K x qual st f fd) (hl:ps.length=2) (h:∀ (kV doc pm:Value) (an:Option Addr) (cdv ct a b:Value),bindArgs (W.fnOf x qual (d8 st) (cI st) (ao st) .none kV doc pm an cdv ct) ⟨[a,b],[]⟩=pure (ps.zip [a,b])):kc K fd ps []:=
 F.binds fun kV doc pm an cdv ct us e=>us2 (P:=fun us=>bindArgs (W.fnOf x qual (d8 st) (cI st) (ao st) .none kV doc pm an cdv ct) ⟨us,[]⟩=pure (ps.zip us)) (fun a b=>h kV doc pm an cdv ct a b) us (e.trans hl)
theorem gW.b3 {K:W.Frag}{x qual:Str}{st:Stmt}{f:Addr}{fd:FuncData}{ps:List Str} (F:gW K x qual st f fd) (hl:ps.length=3) (h:∀ (kV doc pm:Value) (an:Option Addr) (cdv ct a b c:Value),bindArgs (W.fnOf x qual (d8 st) (cI st) (ao st) .none kV doc pm an cdv ct) ⟨[a,b,c],[]⟩=pure (ps.zip [a,b,c])):kc K fd ps []:=
 F.binds fun kV doc pm an cdv ct us e=>Ie (P:=fun us=>bindArgs (W.fnOf x qual (d8 st) (cI st) (ao st) .none kV doc pm an cdv ct) ⟨us,[]⟩=pure (ps.zip us)) (fun a b c=>h kV doc pm an cdv ct a b c) us (e.trans hl)
end L2
namespace L2
open PySem PySem.Spec PyProof.Rows RS
section
variable {X:Cx}{d:Nat}{acc:Addr}
theorem Cj {X:Cx}:Hm X (newSet (.type "set")) (fun a=>.ext fun h=>bR X.w h a []):=fun pins s σ H Q I h=>by
 unfold newSet setsByText
 simp only [bind_assoc,pure_bind]
 refine Jf (Kw ?_)
 try dsimp only
 simp only [newObj]
 refine Jf (wpAny_alloc (Jl ?_))
 have hS:bR X.w (s.heap.push { cls:=.type "set",dict:=none,data:=.set #[] 0 (.fresh 0 0 (k7 X.w)) }) s.heap.objs.size []:=kr (Jo _ rfl)
 refine h _ (I.laid (t':=s.toks) (fun b o e=>Jn _ e) (Jp _) ⟨hS,⟨_,Jo _ rfl⟩,fun h1 h2 g k=>g.keeps k⟩) (fun b o e=>Jn _ e) ?_
 show s.heap.objs.size<(s.heap.push _).objs.size
 rw [Kt];exact Kr _
def yV (K:W.Frag) (w:World) (te:TE) (acc:Addr):AG:=fun σ H N=>te σ H fun y H4=>∃ (r:Addr) (k:List Int) (ps:List KP),y=.ref r/\H4 acc=some (.ext fun h=>bR w h acc ps)/\k∈prs/\fB K H4 r (k.map V.int)/\(∀ p∈ps,fB K H4 p.2 (p.1.map V.int)) /\
 N σ (cq H4 acc (.ext fun h=>bR w h acc (ia ps k r)))
theorem xB {te:TE}{elt:Expr}{gens:List Comprehension}{scope:Scope}{pos:Pos} (hg:gens[d]?=none) (hxe:X.xe=vT) (hu:X.A.units+64<cLine) (hel:PE X elt te):AI X (.SetComp elt gens scope pos) d acc (yV X.K X.w te acc):=by
 intro pins s σ H N I h
 unfold lV
 show (match gens[d]? with | some g=>_ | none=>_:Prop)
 rw [hg]
 show wpAny _ _ (do let v <- eval elt X.env;standAt elt.pos;let _ <- call (.builtin "set.add") [.ref acc,v]) _ _ _
 have z:=hel pins s σ H _ I h
 rw [hxe] at z
 refine Jf (d3 z fun v10 s10 ⟨y,H10,I10,r10,r,k,ps,ey,hacc,hk,hr,hps,nn⟩=>?_)
 subst ey
 cases r10
 refine Jf (Jh (Jf ?_))
 obtain ⟨hS,_⟩:=(show fv X.prog X.w H10 s10.heap acc (.ext fun h=>bR X.w h acc ps) from I10.hok acc _ hacc)
 obtain ⟨o,es,ep,t,Z,S0,k1,k2⟩:=id hS
 have hin:X.A.in1.units<cLine:=by
  have:X.A.in1.units<=X.A.units+1:=by first | exact Kl rfl | exact Kl (units_in1 _) | exact Nat.le_succ_of_le (Kl (units_in1 _))
  omega
 have tps:∀ q∈ps,Tk X.prog X.w s10.heap q.1 q.2:=fun q hq=>qk I10 (hps q hq)
 have tr:Tk X.prog X.w s10.heap k r:=qk I10 hr
 refine JY F.slot_set_add ⟨o,S0.ho,S0.ex.1⟩ F.entry_set_add ?_ (F.args_set_add_2 _ _)
 unfold Builtin.«set.add» Builtin.Frozenset.oneOther
 simp only [List.isEmpty_nil,bind_assoc]
 unfold Builtin.Frozenset.addrOf setAdd
 refine Jf (Jl ?_)
 try dsimp only
 refine Jf (Jl ?_)
 try dsimp only
 refine Jf (Jg ?_)
 refine Jf (wpAny_pyHash_tuple hin (qk I10 hr) ?_)
 rw [zc]
 refine yR (s:={ s10 with toks:=s10.toks+(k.length+1) }) hS hk tr tps hin fun b h' hsb hS2=>?_
 show wpAny _ _ (ret Value.none) _ _ _
 refine Jl ⟨_,rfl,Jl ⟨_,_,?_,nn⟩⟩
 refine I10.write (x:=acc) (e:=acc) (by rw [hacc];exact trivial) (.inl rfl) (fun b' u hb hu=>(hsb.2 b' hb).trans hu) ?_ ⟨hS2,?_,fun h1 h2 g k=>g.keeps k⟩
 ·obtain ⟨o', _, _, _, _, S', _⟩ := hS2
  exact ⟨o',S'.ho⟩
 ·obtain ⟨o', _, _, _, _, S', _⟩ := hS2
  exact ⟨o',S'.ho⟩
variable {e:Expr}{cl0:Comprehension}{rest:List Comprehension}{scope:Scope}{Nc:List Str}{cap:List (Option Nat)}{wi:TI}{g:TG}{tt:TT}{tb:Addr->AG}{elt:Expr}{pos:Pos}
theorem zV (hc:X.calm=true) (hz:∀ g∈cl0::rest,g.is_async=0) (S:bY X.N X.env scope Nc cap) (hi:PI X cl0.target cl0.iter wi)
  (hg:∀ cl C s H fp,PG (i7 X Nc scope cl C s H fp) cl0.target g) (ht:∀ cl C s H fp,sH (i7 X Nc scope cl C s H fp) cl0.ifs tt) (hb:∀ cl C s H fp acc,AI (i7 X Nc scope cl C s H fp) (.SetComp elt (cl0::rest) scope pos) 1 acc (tb acc))
  (hs:∀ x,foldedSetIterable cl0.iter X.env x=pure x):PE X (.SetComp elt (cl0::rest) scope pos) (mL (fun a=>.ext fun h=>bR X.w h a []) wi cap g tt tb):=by
 intro pins s σ H Q I h
 have h0:=hz cl0 IR
 obtain ⟨tg0,it0,if0,as0⟩:=cl0
 have h0':as0=0:=h0
 subst h0'
 rw [arm_eval_SetComp]
 refine m4 (e:=.SetComp elt (_::rest) scope pos) (Q:=Q) rfl hz rfl Cj hc S hi hg ht hb I h (fun C acc s' H' I' hf hn q=>?_) hs
 obtain ⟨m,hn⟩:=hn
 refine ⟨m,hn,fun h' sb=>⟨.ref acc,H',?_,rfl,q⟩⟩
 exact I'.turned (t':=s'.toks) (it:=C) (fun b o hb e=>(sb.2 b hb).trans e) hf.1 hf.2.1 hf.2.2.2.1 hf.2.2.2.2.1 hf.2.2.2.2.2
end
section
variable {K:W.Frag}{w:World}{H:Hp}{α:List Addr}{μ:aA}
theorem t6 {p:Addr}{φ:Heap->Prop}{o:HO} (h:H p=some (.ext φ)):lx K H (cq H p o) α α:=by
 refine ⟨fun a xs q=>?_,fun a xs q=>?_,fun _ _ z=>z⟩
 ·rcases q with (q | ⟨x, q⟩) | q
  ·exact .inl (.inl (by rw [bE (qo q h (by intro z;cases z))];exact q))
  ·exact .inl (.inr ⟨x,by rw [bE (qo q h (by intro z;cases z))];exact q⟩)
  ·exact .inr q
 ·rcases q with ⟨x, q⟩ | q
  ·exact .inl ⟨x,by rw [bE (qo q h (by intro z;cases z))];exact q⟩
  ·exact .inr q
theorem rf (S:gh K w H α μ) {n:Nat}{a:Addr}{ks ks':List (List Int)}{φ:Heap->Prop}{ho:HO} (h1:μ[n]?=some (.set ks)) (h2:α[n]?=some a) (h3:H a=some (.ext φ)) (q:pX K w (cq H a ho) α (.set ks') a):gh K w (cq H a ho) α (μ.set n (.set ks')):=by
 have e:=t6 (K:=K) (α:=α) (o:=ho) h3
 refine ⟨by simp [S.len],S.nd,fun m o b g1 g2=>?_⟩
 have hn:n<μ.length:=(IX.mp h1).1
 by_cases hm:m=n
 ·subst hm
  rw [IZ hn] at g1
  cases g1
  rw [h2] at g2;cases g2
  exact q
 ·rw [I0 (fun z => hm z.symm)] at g1
  refine (S.ob m o b g1 g2).mono e (bE fun z=>hm ?_)
  subst z
  obtain ⟨l1,e1⟩:=IX.mp g2
  obtain ⟨l2,e2⟩:=IX.mp h2
  exact (IY S.nd).mp (e1.trans e2.symm)
end
def AS (n:Nat) (y:D) (μ:aA):ak Unit:=match μ[n]?,y with
 | some (.set ks),.tup [.int a,.int b]=>if [a,b]∈prs then .ok () (μ.set n (.set (lC ks [a,b]))) else .bad
 | _,_=>.bad
theorem Ax {ps:List KP}{k:List Int}{r:Addr}:(ia ps k r).map (·.1)=lC (ps.map (·.1)) k:=by
 unfold ia lC
 split <;> simp
theorem CP {p:Pa}{n:Nat}{y:D}{μ:aA}{H:Hp}{α:List Addr}{R:Unit->aA->Hp->List Addr->Prop}{v:V}{acc:Addr} (S:p.S H α μ) (ha:α[n]?=some acc) (rv:p.R H α y v) (P:aD p H α (AS n y μ) R) :
  ∃ (r:Addr) (k:List Int) (ps:List KP),v=.ref r/\H acc=some (.ext fun h=>bR p.w h acc ps)/\k∈prs/\fB p.K H r (k.map V.int)/\(∀ q∈ps,fB p.K H q.2 (q.1.map V.int)) /\
   ∃ μ',p.X H (cq H acc (.ext fun h=>bR p.w h acc (ia ps k r))) α α/\p.S (cq H acc (.ext fun h=>bR p.w h acc (ia ps k r))) α μ'/\R () μ' (cq H acc (.ext fun h=>bR p.w h acc (ia ps k r))) α:=by
 unfold AS at P
 split at P
 ·rename_i ks a b hx
  split at P
  ·rename_i hk
   obtain ⟨acc',ea,ps,e1,e2,e3,e4,e5⟩:=S.at hx
   rw [ha] at ea;cases ea
   obtain ⟨r,vs,rfl,h1,rr⟩:=aE.mp rv
   have hvs:vs=[a,b].map V.int:=Reps.ints (ns:=[a,b]) rr
   subst hvs
   have x1:p.X H (cq H acc (.ext fun h=>bR p.w h acc (ia ps [a,b] r))) α α:=t6 e2
   have q:pX p.K p.w (cq H acc (.ext fun h=>bR p.w h acc (ia ps [a,b] r))) α (.set (lC ks [a,b])) acc:=by
    refine ⟨ia ps [a,b] r,by rw [Ax,e1],b9,fun q hq=>?_,pq e4,fun q hq=>?_⟩
    ·rcases oV hq with z | z
     ·exact e3 q z
     ·subst z;exact hk
    ·rcases oV hq with z | z
     ·exact x1.tup _ _ (e5 q z)
     ·subst z;exact x1.tup _ _ h1
   exact ⟨r,[a,b],ps,rfl,e2,hk,h1,e5,_,x1,rf S hx ha e2 q,P _ _ x1 (rf S hx ha e2 q)⟩
  ·exact P.elim
 ·exact P.elim
def vV (e:ME):MB:=fun n ρ μ=>(e ρ μ).nox.bind fun y μ1=>(AS n y μ1).bind fun _ μ2=>.ok ρ μ2
noncomputable def rP (fi:MI) (cap:List (Option Nat)) (g:MG) (t:MT) (fb:MB):ME:=fun ρ μ=>(fi ρ μ).bind fun src μ1=>(j9 src μ1.length g t fb src.items (d5 cap ρ) (μ1++[.set []])).bind fun _ μ2=>.ok (.obj μ1.length) μ2
section
variable {p:Pa}
theorem vD {e:ME}{acc:Addr}{σ:St}{H:Hp}{N:St->Hp->Prop} (h:FE p (vV e) acc σ H N):yV p.K p.w (tD p.nx e) acc σ H N:=by
 obtain ⟨α,ρ,μ,n,S,R,a,P⟩:=h
 refine ⟨α,ρ,μ,S,R,(eZ P).imp fun y μ6 H6 α6 X6 S6 P6 v rv=>?_⟩
 obtain ⟨r,k,ps,e1,e2,e3,e4,e5,μ7,x7,s7,q7⟩:=CP (p:=p) S6 (X6.pre _ _ a) rv (aD.bind P6)
 exact ⟨r,k,ps,e1,e2,e3,e4,e5,q7.now s7 σ ((R.mono X6).mono x7)⟩
theorem vH {fi:MI}{cap:List (Option Nat)}{g:MG}{t:MT}{fb:MB}{σ:St}{H:Hp}{Q:VK} (h:tD p (rP fi cap g t fb) σ H Q):mL (fun a=>.ext fun h=>bR p.w h a []) (sI p fi) cap (pU p.nx g) (iH p.nx t) (fun acc=>FE p.nx fb acc) σ H Q:=by
 obtain ⟨α,ρ,μ,S,R,P⟩:=h
 refine ⟨α,ρ,μ,S,R,(aD.bind P).imp fun src μ1 H1 α1 X1 S1 P1 J hok hJ acc hacc=>?_⟩
 have x1:p.X H1 (cq H1 acc (.ext fun h=>bR p.w h acc [])) α1 (α1++[acc]):=(bN hacc).trans (kl [acc])
 have s1:p.S (cq H1 acc (.ext fun h=>bR p.w h acc [])) (α1++[acc]) (μ1++[.set []]):=S1.more hacc ⟨[],rfl,b9,nofun,Lg,nofun⟩
 have hn:(α1++[acc])[μ1.length]?=some acc:=by rw [<- S1.len];simp
 refine vB (p:=p) x1 s1 (((R.mono X1).cap cap).mono x1) hn hJ ((aD.from x1 (aD.bind P1)).imp fun ρ' μ' H' α' X' S' P' σ' r'=>?_)
 exact P'.now S' _ (aQ.mpr ⟨acc,rfl,X'.pre _ _ hn⟩)
variable {X:Cx}{elt tg iter:Expr}{ifs:List Expr}{rest:List Comprehension}{scope:Scope}{Nc:List Str}{cap:List (Option Nat)}{fi:MI}{g:MG}{tt:MT}{te:ME}{mb:MB}{pos:Pos}{d:Nat}{acc:Addr}
theorem G4 {gens:List Comprehension} (hg:gens[d]?=none) (hu:X.A.units+64<cLine) (hel:Bx (PE X elt (tD p.nx te))) (hxe:X.xe=vT:=by rfl) (hK:X.K=p.K:=by rfl) (hw:X.w=p.w:=by rfl):Bx (AI X (.SetComp elt gens scope pos) d acc (FE p.nx (vV te) acc)):=
 ⟨fun pins s σ H N I h=>xB hg hxe hu hel.h pins s σ H N I (by rw [hK,hw];exact vD (p:=p.nx) h)⟩
theorem A0 (S:bY X.N X.env scope Nc cap) (hi:Bx (PI X tg iter (sI p fi))) (hg:∀ cl C s H fp,Bx (PG (i7 X Nc scope cl C s H fp) tg (pU p.nx g))) (ht:∀ cl C s H fp,Bx (sH (i7 X Nc scope cl C s H fp) ifs (iH p.nx tt))) (hb:∀ cl C s H fp acc,Bx (AI (i7 X Nc scope cl C s H fp) (.SetComp elt (⟨tg,iter,ifs,0⟩::rest) scope pos) 1 acc (FE p.nx mb acc))) (hz:wK (⟨tg,iter,ifs,0⟩::rest)=true:=by rfl) (hc:X.calm=true:=by rfl) (hs:∀ x,foldedSetIterable iter X.env x=pure x:=by intro _;rfl) (hw:X.w=p.w:=by rfl):Bx (PE X (.SetComp elt (⟨tg,iter,ifs,0⟩::rest) scope pos) (tD p (rP fi cap g tt mb))):=
 ⟨(zV (cl0:=⟨tg,iter,ifs,0⟩) hc (A4 hz) S hi.h (fun cl C s H fp=>(hg cl C s H fp).h) (fun cl C s H fp=>(ht cl C s H fp).h) (fun cl C s H fp acc=>(hb cl C s H fp acc).h) hs).weak fun σ H Q h=>by rw [hw];exact vH h⟩
end
theorem xu (its:List Value):slicePick its.toArray none none (some (-1))=its.reverse.toArray:=by
 unfold slicePick
 have hb:sliceBounds none none (some (-1)) its.toArray.size=((its.toArray.size:Int) - 1,-1,-1):=by
  simp [sliceBounds]
 rw [hb]
 dsimp only
 have hr:sliceRange ((its.toArray.size:Int) - 1) (-1) (-1)=(List.range its.toArray.size).map fun m:Nat=>(((its.toArray.size:Int) - 1)+(m:Int) * (-1)).toNat:=by
  unfold sliceRange
  have hc:(if (-1:Int) > 0 then if (its.toArray.size:Int) - 1 < -1 then (-1 - ((its.toArray.size:Int) - 1)+-1 - 1) / -1 else 0 else if (its.toArray.size:Int) - 1 > -1 then ((its.toArray.size:Int) - 1 - -1 - -1 - 1) / - -1 else 0)=(its.toArray.size:Int):=by
   rw [IE (by decide)]
   split
   ·rw [show - (-1:Int)=1 from rfl,Int.ediv_one];omega
   ·omega
  simp only [hc,JN]
  apply KQ
  intro m _
  congr 1
  omega
 rw [hr,JT]
 exact tM its.toArray
def Gn (K:W.Frag) (te ts:TE):TE:=fun σ H Q=>te σ H fun x H1=>ts σ H1 fun y H2=>y=.int (-1)/\∃ a xs,x=.ref a /\
 ((fB K H2 a xs/\∀ p,H2 p=none->Q (.ref p) (cq H2 p (.tup xs.reverse)))\/(f7 K H2 a xs/\∀ p,H2 p=none->Q (.ref p) (cq H2 p (.lst xs.reverse))))
theorem BS {X:Cx}{e st:Expr}{te ts:TE}{pos p2:Pos} (he:PE X e te) (hs:PE X st ts):PE X (.Subscript e (.Slice none none (some st) p2) pos) (Gn X.K te ts):=by
 intro pins s σ H Q I h
 refine Subscript_ (d3 (he pins s σ H _ I h) fun v s1 ⟨x,H1,I1,r1,q1⟩=>?_)
 refine wpAny_Slice ?_
 rw [evalPart_none]
 refine Jl (Jl ?_)
 rw [evalPart_some]
 refine d3 (hs pins s1 σ H1 _ I1 q1) fun vs s3 ⟨y,H3,I3,r3,q3⟩=>?_
 obtain ⟨rfl,a,xs,rfl,hq⟩:=q3
 obtain ⟨tk,rfl⟩:=r3
 cases r1
 have I4:aR X pins σ H3 { s3 with heap:=s3.heap.push { cls:=.type "slice",data:=.fields #[.none,.none,.int (-1) tk] } }:=I3.kept (t':=s3.toks) fun b ob q=>Jn _ q
 show wpAny (model X.prog X.w) X.A (subscriptTail e (.Slice none none (some st) p2) (.ref a) (.ref s3.heap.objs.size)) (EP X pins σ Q) X.xe { s3 with heap:=s3.heap.push { cls:=.type "slice",data:=.fields #[.none,.none,.int (-1) tk] } }
 have hsl:=J6 s3.heap .none .none (.int (-1) tk)
 rcases hq with ⟨hx,q⟩ | ⟨hx,q⟩
 ·obtain ⟨its, r, ht, hz⟩ := I4.tuple hx
  refine tail_any (ops:=[.ref a,.ref s3.heap.objs.size]) ht.typeIs JX.lookup ?_ (by with_unfolding_all rfl)
  refine mB ht (J6 ..) ?_ (by rw [Ju,<- r.length];exact hz)
  generalize { s3 with heap:=s3.heap.push { cls:=.type "slice",data:=.fields #[.none,.none,.int (-1) tk] } }=s5 at I4 ht
  refine ⟨.ref s5.heap.objs.size,_,I4.laid (t':=s5.toks) (o:=.tup xs.reverse) (fun b ob q=>Jn _ q) (Jp _) ?_,rfl,q _ (I4.hok.fresh (Jp _))⟩
  exact ⟨by rw [List.length_reverse];exact hz,its.reverse,r.reverse,IsTup.new _ _⟩
 ·obtain ⟨its, r, ht, hz⟩ := I4.list hx
  refine tail_any (ops:=[.ref a,.ref s3.heap.objs.size]) ht.isList.typeIs J7.lookup ?_ (by with_unfolding_all rfl)
  refine wpAny_getItem_list_slice ht.isList (J6 ..) .none .none (.int (-1) tk) (by simp) ?_ (by rw [Ju,<- r.length];exact hz)
  rw [xu]
  generalize { s3 with heap:=s3.heap.push { cls:=.type "slice",data:=.fields #[.none,.none,.int (-1) tk] } }=s5 at I4 ht
  refine ⟨.ref s5.heap.objs.size,_,I4.laid (t':=s5.toks) (o:=.lst xs.reverse) (fun b ob q=>Jn _ q) (Jp _) ?_,rfl,q _ (I4.hok.fresh (Jp _))⟩
  exact ⟨by rw [List.length_reverse];exact hz,its.reverse,0,r.reverse,Jo _ rfl⟩
def og (a b:D) (μ:aA):ak D:=match a,b with
 | .tup xs,.int i=>if i=-1 then .ok (.tup xs.reverse) μ else .bad
 | .obj n,.int i=>match μ[n]? with
  | some (.lst xs)=>if i=-1 then .ok (.obj μ.length) (μ++[.lst xs.reverse]) else .bad
  | _=>.bad
 | _,_=>.bad
theorem yS {p:Pa}{X:Cx}{e st:Expr}{fa fs:ME}{pos p2:Pos} (he:Bx (PE X e (tD p fa))) (hs:Bx (PE X st (tD p fs))) (hK:X.K=p.K:=by rfl):Bx (PE X (.Subscript e (.Slice none none (some st) p2) pos) (tD p (au og fa fs))):=
 ⟨(BS he.h hs.h).weak fun σ H Q ⟨α, ρ, μ, S, R, P⟩ => ⟨α, ρ, μ, S, R, (aD.bind P).imp fun x μ1 H1 α1 X1 S1 P1 v rv => ⟨α1, ρ, μ1, S1, R.mono X1, (aD.bind P1).imp fun y μ2 H2 α2 X2 S2 P2 u ru => by
   rw [hK]
   unfold og at P2
   split at P2
   ·rename_i xs i
    split at P2
    ·rename_i hi
     subst hi
     obtain ⟨a,us,rfl,h1,r1⟩:=aE.mp (rv.mono X2)
     exact ⟨aq.mp ru,a,us,rfl,.inl ⟨h1,fun q hq=>P2 _ _ (bN hq) (S2.tuple hq) _ (aE.mpr ⟨q,_,rfl,fB.of b9,r1.reverse.mono (bN hq)⟩)⟩⟩
    ·exact P2.elim
   ·rename_i n i
    split at P2
    ·rename_i xs hx
     split at P2
     ·rename_i hi
      subst hi
      obtain ⟨a,rfl,h1⟩:=aQ.mp (rv.mono X2)
      obtain ⟨a',ea,vs,hH,rr⟩:=S2.at hx
      have eaa:a=a':=IF (h1.symm.trans ea)
      subst eaa
      refine ⟨aq.mp ru,a,vs,rfl,.inr ⟨.inl (.inl hH),fun q hq=>?_⟩⟩
      obtain ⟨x1,s1,r1⟩:=eH S2 hq rr.reverse
      exact P2 _ _ x1 s1 _ r1
     ·exact P2.elim
    ·exact P2.elim
   ·exact P2.elim⟩⟩⟩
section
variable {p:Pa}{X:Cx}{e:Expr}{fr:MA}{pos:Pos}
end
end L2
namespace Lw
open PySem L2
section
variable {P:Program}{w:World}{K:W.Frag}{mg:Str->Option Value}{base:Heap}
structure Nm (mg:Str->Option Value):Prop where
 all:mg "all" = none
 bool:mg "bool" = none
 enumerate:mg "enumerate" = none
 int:mg "int" = none
 isinstance:mg "isinstance" = none
 len:mg "len" = none
 list:mg "list" = none
 max:mg "max" = none
 min:mg "min" = none
 range:mg "range" = none
 set:mg "set" = none
 sorted:mg "sorted" = none
 tuple:mg "tuple" = none
theorem um:aO ["thing"] ["thing"] (ao iR):=⟨rfl,rfl,rfl,by decide +kernel,rfl,by decide +kernel,by decide +kernel⟩
noncomputable def lM:MS:=bZ (iM (yi (kN "int") (af 0)) (vX (yi (kN "bool") (af 0))))
noncomputable def fe:List D->aA->ak D:=iI 1 1 lM
theorem nc:aO ["thing", "least", "most"] ["thing", "least", "most"] (ao eB):=⟨rfl,rfl,rfl,by decide +kernel,rfl,by decide +kernel,by decide +kernel⟩
noncomputable def gU:MS:=bZ (iM (ax fe (ae (af 0) (aw))) (ou (gL .LtE) (gL .LtE) (af 1) (af 0) (af 2)))
noncomputable def bg:List D->aA->ak D:=iI 3 3 gU
theorem uq:aO ["many", "thing"] ["many", "thing"] (ao iT):=⟨rfl,rfl,rfl,by decide +kernel,rfl,by decide +kernel,by decide +kernel⟩
noncomputable def pG:MS:=bZ (ax bg (ae (af 1) (ae (cC (.int 0)) (ae (au fC (af 0) (cC (.int 1))) (aw)))))
noncomputable def ff:List D->aA->ak D:=iI 2 2 pG
theorem sr:aO ["many", "thing"] ["many", "thing"] (ao fN):=⟨rfl,rfl,rfl,by decide +kernel,rfl,by decide +kernel,by decide +kernel⟩
theorem pS:(["place", "many"]:List Str).Nodup:=by decide +kernel
noncomputable def i6:ME:=ax ff (ae (af 1) (ae (af 0) (aw)))
noncomputable def nE:MS:=bZ (iM (yi (kN "tuple") (af 1)) (ax n5 (ae (bF (gK (af 1)) [none,some 0] (ag 0) (bf) (i6)) (aw))))
noncomputable def cM:List D->aA->ak D:=iI 2 2 nE
theorem sm:aO ["things"] ["things"] (ao fM):=⟨rfl,rfl,rfl,by decide +kernel,rfl,by decide +kernel,by decide +kernel⟩
theorem pR:(["at", "things"]:List Str).Nodup:=by decide +kernel
noncomputable def lh:ME:=au (gL .Lt) (au bW (af 1) (au fC (af 0) (cC (.int 1)))) (au bW (af 1) (af 0))
noncomputable def nD:MS:=bZ (ax n5 (ae (bF (eE lz (ae (cC (.int 1)) (ae (ax j4 (ae (af 0) (aw))) (aw)))) [none,some 0] (ag 0) (bf) (lh)) (aw)))
noncomputable def fy:List D->aA->ak D:=iI 1 1 nD
theorem vm:aO ["thing"] ["thing"] (ao jC):=⟨rfl,rfl,rfl,by decide +kernel,rfl,by decide +kernel,by decide +kernel⟩
noncomputable def rm:MS:=bZ (ax bg (ae (af 0) (ae (cC (.int 1)) (ae (cC (.int 6)) (aw)))))
noncomputable def gr:List D->aA->ak D:=iI 1 1 rm
theorem vk:aO ["many", "thing"] ["many", "thing"] (ao jB):=⟨rfl,rfl,rfl,by decide +kernel,rfl,by decide +kernel,by decide +kernel⟩
noncomputable def rl:MS:=bZ (iM (ax cM (ae (af 0) (ae (af 1) (aw)))) (iM (au (d4 false) (ax j4 (ae (af 1) (aw))) (cC (.int 2))) (au (d4 true) (au bW (af 1) (cC (.int 0))) (au bW (af 1) (cC (.int 1))))))
noncomputable def fx:List D->aA->ak D:=iI 2 2 rl
theorem xp:aO ["many", "thing"] ["many", "thing"] (ao kJ):=⟨rfl,rfl,rfl,by decide +kernel,rfl,by decide +kernel,by decide +kernel⟩
noncomputable def uf:MS:=bZ (iM (ax fx (ae (af 0) (ae (af 1) (aw)))) (au (gL .Lt) (au bW (af 1) (cC (.int 0))) (au bW (af 1) (cC (.int 1)))))
noncomputable def km:List D->aA->ak D:=iI 2 2 uf
theorem vh:aO ["many", "thing"] ["many", "thing"] (ao iu):=⟨rfl,rfl,rfl,by decide +kernel,rfl,by decide +kernel,by decide +kernel⟩
theorem sE:(["tie", "many"]:List Str).Nodup:=by decide +kernel
noncomputable def ky:ME:=ax km (ae (af 1) (ae (af 0) (aw)))
noncomputable def rk:MS:=bZ (iM (yi (kN "tuple") (af 1)) (iM (ax n5 (ae (bF (gK (af 1)) [none,some 0] (ag 0) (bf) (ky)) (aw))) (ax fy (ae (af 1) (aw)))))
noncomputable def jm:List D->aA->ak D:=iI 2 2 rk
theorem ku:aO ["thing", "many", "ties"] ["thing"] (ao iP):=⟨rfl,rfl,rfl,by decide +kernel,rfl,by decide +kernel,by decide +kernel⟩
noncomputable def pD:MS:=br (jY (rF (jb (j5 (yi (kN "tuple") (af 0)))) (f6 (au (d4 true) (ax j4 (ae (af 0) (aw))) (cC (.int 2))))) (bZ (cC (.bl false))) (dC))
 (br (bw (af 0) (cW 2 (aL (ag 1) (aL (ag 2) (cX)))))
 (bZ (iM (ax gr (ae (af 1) (aw))) (ax jm (ae (af 1) (ae (af 2) (aw)))))))
noncomputable def iw:List D->aA->ak D:=iI 1 3 pD
theorem mU:aO ["many", "things", "at", "thing"] ["many", "things"] (ao ji):=⟨rfl,rfl,rfl,by decide +kernel,rfl,by decide +kernel,by decide +kernel⟩
theorem uA:(["pair"]:List Str).Nodup:=by decide +kernel
noncomputable def lL:MS:=jY (jb (j5 (ax fx (ae (af 0) (ae (af 3) (aw)))))) (uO) (dC)
noncomputable def pC:ME:=d6 (ae (ax wX (ae (af 0) (aw))) (ae (ax sP (ae (af 0) (aw))) (aw)))
noncomputable def jF:MB:=vV (pC)
noncomputable def ue:MS:=br (jY (jb (j5 (ax gr (ae (af 0) (aw))))) (uO) (dC))
 (br (j3 (eE qq (ae (af 1) (aw))) (cW 2 (aL (ag 2) (aL (ag 3) (cX)))) lL)
 (bZ (d6 (ae (af 0) (ae (ax eD (ae (ax bH (ae (rP (gK (af 1)) [none] (ag 0) (bf) (jF)) (aw))) (aw))) (aw))))))
noncomputable def gN:List D->aA->ak D:=iI 2 4 ue
theorem pK:aO ["web", "thing"] ["web", "thing"] (ao fS):=⟨rfl,rfl,rfl,by decide +kernel,rfl,by decide +kernel,by decide +kernel⟩
noncomputable def lq:MS:=jY (jb (j5 (ax ff (ae (au bW (af 0) (cC (.int 0))) (ae (af 1) (aw)))))) (uO) (dC)
noncomputable def ck:List D->aA->ak D:=iI 2 2 lq
theorem pI:aO ["ties", "front"] ["ties", "front"] (ao de):=⟨rfl,rfl,rfl,by decide +kernel,rfl,by decide +kernel,by decide +kernel⟩
theorem jq:(["a", "b", "front"]:List Str).Nodup:=by decide +kernel
theorem jo:(["a", "b", "front"]:List Str).Nodup:=by decide +kernel
noncomputable def jO:ME:=af 1
noncomputable def gT:MT:=f6 (au (uL false) (af 0) (af 2))
noncomputable def jN:ME:=af 0
noncomputable def gS:MT:=f6 (au (uL false) (af 1) (af 2))
noncomputable def ll:MS:=bZ (au cA (bF (gK (af 0)) [none,none,some 1] (cW 2 (aL (ag 0) (aL (ag 1) (cX)))) (gT) (jO)) (bF (gK (af 0)) [none,none,some 1] (cW 2 (aL (ag 0) (aL (ag 1) (cX)))) (gS) (jN)))
noncomputable def cV:List D->aA->ak D:=iI 2 2 ll
theorem cj:aO ["web", "start", "many", "ties", "fars", "far", "front", "place"] ["web", "start"] (ao fO):=⟨rfl,rfl,rfl,by decide +kernel,rfl,by decide +kernel,by decide +kernel⟩
theorem pT:(["place", "fars"]:List Str).Nodup:=by decide +kernel
noncomputable def lj:ME:=af 0
noncomputable def i4:MT:=f6 (au (rD false) (au bW (af 1) (af 0)) (cC .non))
noncomputable def eP:MS:=bw (af 5) (k9 (af 4) (af 7))
noncomputable def eO:MS:=br (rB 5 lU (cC (.int 1)))
 (br (bw (bF (gK (ax cV (ae (af 3) (ae (af 6) (aw))))) [none,some 4] (ag 0) (i4) (lj)) (ag 6))
 (j3 (gK (af 6)) (ag 7) eP))
noncomputable def nF:MS:=br (bw (af 0) (cW 2 (aL (ag 2) (aL (ag 3) (cX)))))
 (br (bw (au jR (i8 (ae (cC .non) (aw))) (af 2)) (ag 4))
 (br (bw (cC (.int 0)) (k9 (af 4) (af 1)))
 (br (bw (cC (.int 0)) (ag 5))
 (br (bw (i8 (ae (af 1) (aw))) (ag 6))
 (br (mN 100 (j5 (af 6)) eO)
 (bZ (af 4)))))))
noncomputable def dm:List D->aA->ak D:=iI 2 8 nF
theorem xq:aO ["web", "one", "other"] ["web", "one", "other"] (ao kK):=⟨rfl,rfl,rfl,by decide +kernel,rfl,by decide +kernel,by decide +kernel⟩
noncomputable def ug:MS:=br (qm (ax ck (ae (af 0) (ae (af 1) (aw)))))
 (br (qm (ax ck (ae (af 0) (ae (af 2) (aw)))))
 (bZ (au bW (ax dm (ae (af 0) (ae (af 1) (aw)))) (af 2))))
noncomputable def kn:List D->aA->ak D:=iI 3 3 ug
theorem vg:aO ["web", "place"] ["web", "place"] (ao jA):=⟨rfl,rfl,rfl,by decide +kernel,rfl,by decide +kernel,by decide +kernel⟩
noncomputable def rh:MS:=br (qm (ax ck (ae (af 0) (ae (af 1) (aw)))))
 (bZ (ax eD (ae (ax bH (ae (ax lB (ae (au cA (i8 (ae (af 1) (aw))) (ax cV (ae (au bW (af 0) (cC (.int 1))) (ae (i8 (ae (af 1) (aw))) (aw))))) (aw))) (aw))) (aw))))
noncomputable def gq:List D->aA->ak D:=iI 2 2 rh
theorem eA:aO ["web", "k", "many", "ties", "one", "fars"] ["web", "k"] (ao fL):=⟨rfl,rfl,rfl,by decide +kernel,rfl,by decide +kernel,by decide +kernel⟩
theorem pQ:(["other", "one", "k", "fars"]:List Str).Nodup:=by decide +kernel
noncomputable def gG:ME:=d6 (ae (af 1) (ae (af 0) (aw)))
noncomputable def gE:MT:=jK (f6 (au (rD true) (au bW (af 3) (af 0)) (cC .non))) (f6 (au (gL .LtE) (au bW (af 3) (af 0)) (af 2)))
noncomputable def gF:MS:=br (bw (ax dm (ae (af 0) (ae (af 4) (aw)))) (ag 5))
 (rB 3 lU (bF (eE lz (ae (au cA (af 4) (cC (.int 1))) (ae (af 2) (aw)))) [none,some 4,some 1,some 5] (ag 0) (gE) (gG)))
noncomputable def nC:MS:=br (jY (jb (j5 (ax bg (ae (af 1) (ae (cC (.int 1)) (ae (cC (.int 6)) (aw))))))) (uO) (dC))
 (br (bw (au bW (af 0) (cC (.int 0))) (ag 2))
 (br (bw (i8 (aw)) (ag 3))
 (br (j3 (eE jt (ae (af 2) (aw))) (ag 4) gF)
 (bZ (d6 (ae (af 2) (ae (ax eD (ae (af 3) (aw))) (aw))))))))
noncomputable def bh:List D->aA->ak D:=iI 2 6 nC
theorem uk:aO ["web"] ["web"] (ao iQ):=⟨rfl,rfl,rfl,by decide +kernel,rfl,by decide +kernel,by decide +kernel⟩
noncomputable def pE:MS:=bZ (ax bh (ae (af 0) (ae (cC (.int 2)) (aw))))
noncomputable def cU:List D->aA->ak D:=iI 1 1 pE
theorem i3:aO ["web", "k"] ["web"] (ao gD):=⟨rfl,rfl,rfl,by decide +kernel,rfl,by decide +kernel,by decide +kernel⟩
noncomputable def fV:MS:=rB 1 lU (cC (.int 1))
noncomputable def mw:MS:=br (bw (cC (.int 1)) (ag 1))
 (br (mN 100 (f6 (au (d4 true) (ax bh (ae (af 0) (ae (af 1) (aw)))) (ax bh (ae (af 0) (ae (au cA (af 1) (cC (.int 1))) (aw)))))) fV)
 (bZ (af 1)))
noncomputable def cN:List D->aA->ak D:=iI 1 2 mw
theorem uo:aO ["web"] ["web"] (ao iS):=⟨rfl,rfl,rfl,by decide +kernel,rfl,by decide +kernel,by decide +kernel⟩
noncomputable def pF:MS:=bZ (au (d4 false) (ax cU (ae (af 0) (aw))) (af 0))
noncomputable def iy:List D->aA->ak D:=iI 1 1 pF
theorem pJ:aO ["many", "thing"] ["many", "thing"] (ao fR):=⟨rfl,rfl,rfl,by decide +kernel,rfl,by decide +kernel,by decide +kernel⟩
noncomputable def lp:MS:=bZ (iM (ax cM (ae (af 0) (ae (af 1) (aw)))) (iM (au (d4 false) (ax j4 (ae (af 1) (aw))) (af 0)) (au (d4 false) (ax j4 (ae (ax lB (ae (af 1) (aw))) (aw))) (af 0))))
noncomputable def eQ:List D->aA->ak D:=iI 2 2 lp
theorem lF:aO ["web", "names", "many", "ties"] ["web", "names"] (ao ir):=⟨rfl,rfl,rfl,by decide +kernel,rfl,by decide +kernel,by decide +kernel⟩
theorem mq:(["a", "b", "names"]:List Str).Nodup:=by decide +kernel
noncomputable def kx:ME:=d6 (ae (au bW (af 2) (af 0)) (ae (au bW (af 2) (af 1)) (aw)))
noncomputable def rj:MS:=br (bw (af 0) (cW 2 (aL (ag 2) (aL (ag 3) (cX)))))
 (br (jY (jb (j5 (ax eQ (ae (af 2) (ae (af 1) (aw)))))) (uO) (dC))
 (bZ (ax gN (ae (af 2) (ae (bF (gK (af 3)) [none,none,some 1] (cW 2 (aL (ag 0) (aL (ag 1) (cX)))) (bf) (kx)) (aw))))))
noncomputable def h9:List D->aA->ak D:=iI 2 4 rj
theorem nK:aO ["_law_script", "_law_k"] ["_law_script", "_law_k"] (ao eU):=⟨rfl,rfl,rfl,by decide +kernel,rfl,by decide +kernel,by decide +kernel⟩
noncomputable def iA:MS:=br (jY (f6 (au (gL .Lt) (af 1) (ax j4 (ae (af 0) (aw))))) (bZ (au bW (af 0) (af 1))) (dC))
 (bZ (cC (.int 0)))
noncomputable def dX:List D->aA->ak D:=iI 2 2 iA
theorem mh:aO ["_law_seed"] ["_law_seed"] (ao g9):=⟨rfl,rfl,rfl,by decide +kernel,rfl,by decide +kernel,by decide +kernel⟩
noncomputable def nG:MS:=br (bw (au pW (au cA (af 0) (cC (.int 7919))) (cC (.int 2147483647))) (ag 0))
 (bZ (au pW (au cA (au cA (au jR (af 0) (af 0)) (au jR (cC (.int 48271)) (af 0))) (cC (.int 12345))) (cC (.int 2147483629))))
noncomputable def fA:List D->aA->ak D:=iI 1 1 nG
theorem kA:aO ["_law_cell", "_law_left"] ["_law_cell"] (ao fU):=⟨rfl,rfl,rfl,by decide +kernel,rfl,by decide +kernel,by decide +kernel⟩
noncomputable def lu:MS:=br (bw (ax sP (ae (af 0) (ae (au fC (cC (.int 0)) (af 0)) (aw)))) (ag 1))
 (bZ (i8 (ae (af 1) (ae (ax nr (ae (au (gL .GtE) (af 1) (au Ds (cC (.int 10)) (cC (.int 18)))) (aw))) (ae (au pW (af 1) (cC (.int 1000003))) (aw))))))
noncomputable def eS:List D->aA->ak D:=iI 1 2 lu
theorem mj:aO ["_law_pen", "_law_many", "_law_found"] ["_law_pen", "_law_many"] (ao hV):=⟨rfl,rfl,rfl,by decide +kernel,rfl,by decide +kernel,by decide +kernel⟩
noncomputable def kz:MS:=br (jY (f6 (au (d4 false) (au bW (af 0) (cC (.int 1))) (cC (.int 1)))) (br (bw (au pW (au bW (af 0) (cC (.int 0))) (af 1)) (ag 2))
 (br (bw (au tf (au bW (af 0) (cC (.int 0))) (af 1)) (k9 (af 0) (cC (.int 0))))
 (bZ (af 2)))) (dC))
 (br (bw (ax fA (ae (au cA (ax fA (ae (au bW (af 0) (cC (.int 2))) (aw))) (cC (.int 7))) (aw))) (k9 (af 0) (cC (.int 2))))
 (bZ (au pW (au tf (au bW (af 0) (cC (.int 2))) (cC (.int 64))) (af 1))))
noncomputable def aY:List D->aA->ak D:=iI 2 3 kz
theorem lb:aO ["_law_web", "_law_names", "_law_ties"] ["_law_web", "_law_names"] (ao dG):=⟨rfl,rfl,rfl,by decide +kernel,rfl,by decide +kernel,by decide +kernel⟩
theorem jL:(["_law_one", "_law_other", "_law_names"]:List Str).Nodup:=by decide +kernel
theorem nN:(["_law_tie"]:List Str).Nodup:=by decide +kernel
noncomputable def fZ:ME:=d6 (ae (au bW (af 2) (af 0)) (ae (au bW (af 2) (af 1)) (aw)))
noncomputable def fY:ME:=d6 (ae (ax wX (ae (af 0) (aw))) (ae (ax sP (ae (af 0) (aw))) (aw)))
noncomputable def my:MS:=br (bw (bF (gK (au bW (af 0) (cC (.int 1)))) [none,none,some 1] (cW 2 (aL (ag 0) (aL (ag 1) (cX)))) (bf) (fZ)) (ag 2))
 (bZ (d6 (ae (au bW (af 0) (cC (.int 0))) (ae (ax eD (ae (ax bH (ae (ax lB (ae (bF (gK (af 2)) [none] (ag 0) (bf) (fY)) (aw))) (aw))) (aw))) (aw)))))
noncomputable def fP:List D->aA->ak D:=iI 2 3 my
theorem jn:aO ["_law_pen", "_law_many", "_law_left"] ["_law_pen", "_law_many"] (ao df):=⟨rfl,rfl,rfl,by decide +kernel,rfl,by decide +kernel,by decide +kernel⟩
theorem lO:(["_law_place", "_law_left", "_law_pen"]:List Str).Nodup:=by decide +kernel
noncomputable def dN:ME:=Hb ot (af 1) (ae (ax aY (ae (af 2) (ae (ax j4 (ae (af 1) (aw))) (aw)))) (aw))
noncomputable def jP:MS:=br (bw (ax mR (ae (af 1) (aw))) (ag 2))
 (bZ (ax eD (ae (bF (eE jt (ae (af 1) (aw))) [none,some 2,some 0] (ag 0) (bf) (dN)) (aw))))
noncomputable def b8:List D->aA->ak D:=iI 2 3 jP
theorem cJ:aO ["_law_web", "_law_many", "_law_far_here", "_law_place", "_law_size", "_law_one", "_law_other", "_law_a", "_law_b"] ["_law_web"] (ao gO):=⟨rfl,rfl,rfl,by decide +kernel,rfl,by decide +kernel,by decide +kernel⟩
theorem qc:(["_law_place", "_law_many"]:List Str).Nodup:=by decide +kernel
noncomputable def fQ:ME:=au jR (i8 (ae (cC .non) (aw))) (af 1)
noncomputable def jG:MS:=jY (jK (f6 (au (d4 false) (au bW (au bW (af 2) (af 3)) (af 7)) (au fC (af 4) (cC (.int 1))))) (f6 (au (rD false) (au bW (au bW (af 2) (af 3)) (af 8)) (cC .non)))) (bw (af 4) (k9 (au bW (af 2) (af 3)) (af 8))) (dC)
noncomputable def h7:MS:=j3 (gK (i8 (ae (d6 (ae (af 5) (ae (af 6) (aw)))) (ae (d6 (ae (af 6) (ae (af 5) (aw)))) (aw))))) (cW 2 (aL (ag 7) (aL (ag 8) (cX)))) jG
noncomputable def hZ:MS:=j3 (gK (au bW (af 0) (cC (.int 1)))) (cW 2 (aL (ag 5) (aL (ag 6) (cX)))) h7
noncomputable def hX:MS:=br (bw (cC (.int 0)) (k9 (au bW (af 2) (af 3)) (af 3)))
 (j3 (eE lz (ae (cC (.int 1)) (ae (af 1) (aw)))) (ag 4) hZ)
noncomputable def pH:MS:=br (bw (au bW (af 0) (cC (.int 0))) (ag 1))
 (br (bw (bF (eE jt (ae (af 1) (aw))) [none,some 1] (ag 0) (bf) (fQ)) (ag 2))
 (br (j3 (eE jt (ae (af 1) (aw))) (ag 3) hX)
 (bZ (af 2))))
noncomputable def iz:List D->aA->ak D:=iI 1 9 pH
theorem eK:aO ["_law_web", "_law_k", "_law_far_here", "_law_ties", "_law_one"] ["_law_web", "_law_k"] (ao eJ):=⟨rfl,rfl,rfl,by decide +kernel,rfl,by decide +kernel,by decide +kernel⟩
theorem nM:(["_law_b", "_law_one", "_law_k", "_law_far_here"]:List Str).Nodup:=by decide +kernel
noncomputable def fX:ME:=d6 (ae (af 1) (ae (af 0) (aw)))
noncomputable def dW:MT:=jK (f6 (au (rD true) (au bW (au bW (af 3) (af 1)) (af 0)) (cC .non))) (f6 (au (gL .LtE) (au bW (au bW (af 3) (af 1)) (af 0)) (af 2)))
noncomputable def fW:MS:=bw (au cA (af 3) (bF (eE lz (ae (au cA (af 4) (cC (.int 1))) (ae (au bW (af 0) (cC (.int 0))) (aw)))) [none,some 4,some 1,some 2] (ag 0) (dW) (fX))) (ag 3)
noncomputable def mx:MS:=br (bw (ax iz (ae (af 0) (aw))) (ag 2))
 (br (bw (i8 (aw)) (ag 3))
 (br (j3 (eE jt (ae (au bW (af 0) (cC (.int 0))) (aw))) (ag 4) fW)
 (bZ (d6 (ae (au bW (af 0) (cC (.int 0))) (ae (ax eD (ae (af 3) (aw))) (aw)))))))
noncomputable def dy:List D->aA->ak D:=iI 2 5 mx
theorem aU:aO ["_law_pen", "_law_way", "_law_many", "_law_every", "_law_other", "_law_ties"] ["_law_pen"] (ao aZ):=⟨rfl,rfl,rfl,by decide +kernel,rfl,by decide +kernel,by decide +kernel⟩
theorem kX:(["_law_one", "_law_other"]:List Str).Nodup:=by decide +kernel
theorem kW:(["_law_pair", "_law_pen"]:List Str).Nodup:=by decide +kernel
theorem kU:(["_law_pair", "_law_pen"]:List Str).Nodup:=by decide +kernel
theorem kT:(["_law_place"]:List Str).Nodup:=by decide +kernel
theorem kS:(["_law_place"]:List Str).Nodup:=by decide +kernel
theorem kR:(["_law_place"]:List Str).Nodup:=by decide +kernel
theorem kQ:(["_law_place", "_law_pen"]:List Str).Nodup:=by decide +kernel
noncomputable def iB:ME:=d6 (ae (af 0) (ae (af 1) (aw)))
noncomputable def dz:MS:=bw (au cA (af 3) (bF (eE jt (ae (af 4) (aw))) [none,some 4] (ag 0) (bf) (iB))) (ag 3)
noncomputable def fq:ME:=af 0
noncomputable def fj:MT:=f6 (au (d4 false) (ax aY (ae (af 1) (ae (cC (.int 2)) (aw)))) (cC (.int 0)))
noncomputable def fm:ME:=af 0
noncomputable def fg:MT:=f6 (au (d4 false) (ax aY (ae (af 1) (ae (cC (.int 3)) (aw)))) (cC (.int 0)))
noncomputable def dB:ME:=d6 (ae (af 0) (ae (au cA (af 0) (cC (.int 1))) (aw)))
noncomputable def fk:ME:=d6 (ae (af 0) (ae (au cA (af 0) (cC (.int 1))) (aw)))
noncomputable def dA:ME:=d6 (ae (cC (.int 0)) (ae (af 0) (aw)))
noncomputable def cb:ME:=d6 (ae (ax aY (ae (af 1) (ae (af 0) (aw)))) (ae (af 0) (aw)))
noncomputable def jr:MS:=br (bw (ax aY (ae (af 0) (ae (cC (.int 7)) (aw)))) (ag 1))
 (br (bw (au cA (cC (.int 1)) (ax aY (ae (af 0) (ae (cC (.int 6)) (aw))))) (ag 2))
 (br (bw (i8 (aw)) (ag 3))
 (br (j3 (eE jt (ae (af 2) (aw))) (ag 4) dz)
 (br (jY (f6 (au (d4 false) (af 1) (cC (.int 0)))) (bw (bF (gK (af 3)) [none,some 0] (ag 0) (fj) (fq)) (ag 5)) (jY (f6 (au (d4 false) (af 1) (cC (.int 1)))) (bw (bF (gK (af 3)) [none,some 0] (ag 0) (fg) (fm)) (ag 5)) (jY (f6 (au (d4 false) (af 1) (cC (.int 2)))) (bw (au cA (bF (eE jt (ae (au fC (af 2) (cC (.int 1))) (aw))) [none] (ag 0) (bf) (dB)) (au jR (i8 (ae (d6 (ae (cC (.int 0)) (ae (au fC (af 2) (cC (.int 1))) (aw)))) (aw))) (ax nr (ae (au (gL .Gt) (af 2) (cC (.int 2))) (aw))))) (ag 5)) (jY (f6 (au (d4 false) (af 1) (cC (.int 3)))) (bw (bF (eE jt (ae (au fC (af 2) (cC (.int 1))) (aw))) [none] (ag 0) (bf) (fk)) (ag 5)) (jY (f6 (au (d4 false) (af 1) (cC (.int 4)))) (bw (bF (eE lz (ae (cC (.int 1)) (ae (af 2) (aw)))) [none] (ag 0) (bf) (dA)) (ag 5)) (bw (bF (eE lz (ae (cC (.int 1)) (ae (af 2) (aw)))) [none,some 0] (ag 0) (bf) (cb)) (ag 5)))))))
 (bZ (ax fP (ae (d6 (ae (af 2) (ae (ax eD (ae (af 5) (aw))) (aw)))) (ae (ax b8 (ae (af 0) (ae (af 2) (aw)))) (aw)))))))))
noncomputable def dg:List D->aA->ak D:=iI 1 6 jr
theorem cx:aO ["_law_pen", "_law_web", "_law_way", "_law_spot", "_law_one", "_law_pair"] ["_law_pen"] (ao fT):=⟨rfl,rfl,rfl,by decide +kernel,rfl,by decide +kernel,by decide +kernel⟩
noncomputable def gH:MS:=br (bw (ax dg (ae (af 0) (aw))) (ag 1))
 (br (bw (ax aY (ae (af 0) (ae (cC (.int 6)) (aw)))) (ag 2))
 (br (jY (f6 (au (gL .Lt) (af 2) (cC (.int 3)))) (bw (ax dy (ae (af 1) (ae (cC (.int 2)) (aw)))) (ag 1)) (dC))
 (br (jY (jK (f6 (au (d4 false) (af 2) (cC (.int 0)))) (f6 (au (d4 true) (au bW (af 1) (cC (.int 1))) (d6 (aw))))) (br (bw (ax aY (ae (af 0) (ae (ax j4 (ae (au bW (af 1) (cC (.int 1))) (aw))) (aw)))) (ag 3))
 (bZ (d6 (ae (au bW (af 1) (cC (.int 0))) (ae (au cA (FB (au bW (af 1) (cC (.int 1))) (FG) (oa (af 3))) (FB (au bW (af 1) (cC (.int 1))) (oa (au cA (af 3) (cC (.int 1)))) (FG))) (aw)))))) (dC))
 (br (jY (jK (f6 (au (d4 false) (af 2) (cC (.int 1)))) (f6 (au (gL .Gt) (au bW (af 1) (cC (.int 0))) (cC (.int 1))))) (br (bw (ax aY (ae (af 0) (ae (au bW (af 1) (cC (.int 0))) (aw)))) (ag 4))
 (br (bw (ax eD (ae (ax bH (ae (d6 (ae (af 4) (ae (au pW (au cA (au cA (af 4) (cC (.int 1))) (ax aY (ae (af 0) (ae (au fC (au bW (af 1) (cC (.int 0))) (cC (.int 1))) (aw))))) (au bW (af 1) (cC (.int 0)))) (aw)))) (aw))) (aw))) (ag 5))
 (bZ (d6 (ae (au bW (af 1) (cC (.int 0))) (ae (ax eD (ae (ax bH (ae (ax lB (ae (au cA (au bW (af 1) (cC (.int 1))) (d6 (ae (af 5) (aw)))) (aw))) (aw))) (aw))) (aw))))))) (dC))
 (bZ (af 1))))))
noncomputable def eR:List D->aA->ak D:=iI 1 6 gH
theorem bJ:aO ["_law_web", "_law_found", "_law_k", "_law_j", "_law_least"] ["_law_web"] (ao bj):=⟨rfl,rfl,rfl,by decide +kernel,rfl,by decide +kernel,by decide +kernel⟩
theorem jV:(["_law_k", "_law_web"]:List Str).Nodup:=by decide +kernel
theorem jU:(["_law_one"]:List Str).Nodup:=by decide +kernel
theorem jT:(["_law_tie", "_law_found", "_law_k"]:List Str).Nodup:=by decide +kernel
theorem jS:(["_law_k", "_law_found"]:List Str).Nodup:=by decide +kernel
noncomputable def cS:ME:=ax bh (ae (af 1) (ae (af 0) (aw)))
noncomputable def cR:ME:=ax iw (ae (af 0) (aw))
noncomputable def gP:ME:=af 0
noncomputable def dY:MT:=f6 (au (uL true) (af 0) (au bW (au bW (af 1) (au cA (af 2) (cC (.int 1)))) (cC (.int 1))))
noncomputable def bV:MS:=jY (f6 (au (d4 true) (bF (gK (au bW (au bW (af 1) (af 2)) (cC (.int 1)))) [none,some 1,some 2] (ag 0) (dY) (gP)) (i8 (aw)))) (bZ (cC (.bl false))) (dC)
noncomputable def bU:MS:=jY (f6 (au (d4 true) (ax bh (ae (au bW (af 1) (au fC (af 3) (cC (.int 1)))) (ae (af 2) (aw)))) (au bW (af 1) (au fC (au jR (af 3) (af 2)) (cC (.int 1)))))) (bZ (cC (.bl false))) (dC)
noncomputable def cQ:ME:=au (d4 false) (au bW (af 1) (af 0)) (au bW (af 1) (cC (.int 5)))
noncomputable def iC:MS:=br (bw (bF (eE lz (ae (cC (.int 1)) (ae (cC (.int 7)) (aw)))) [none,some 0] (ag 0) (bf) (cS)) (ag 1))
 (br (jY (rF (f6 (au (d4 true) (au bW (af 1) (cC (.int 0))) (af 0))) (rF (f6 (au (d4 true) (au bW (af 1) (cC (.int 1))) (ax cU (ae (af 0) (aw))))) (jb (j5 (ax n5 (ae (bF (gK (af 1)) [none] (ag 0) (bf) (cR)) (aw))))))) (bZ (cC (.bl false))) (dC))
 (br (j3 (eE jt (ae (cC (.int 5)) (aw))) (ag 2) bV)
 (br (j3 (gK (i8 (ae (d6 (ae (cC (.int 2)) (ae (cC (.int 2)) (aw)))) (ae (d6 (ae (cC (.int 2)) (ae (cC (.int 3)) (aw)))) (ae (d6 (ae (cC (.int 3)) (ae (cC (.int 2)) (aw)))) (ae (d6 (ae (cC (.int 1)) (ae (cC (.int 4)) (aw)))) (aw))))))) (cW 2 (aL (ag 3) (aL (ag 2) (cX)))) bU)
 (br (bw (ax cN (ae (af 0) (aw))) (ag 4))
 (br (jY (rF (jb (j5 (ax n5 (ae (bF (eE lz (ae (au fC (af 4) (cC (.int 1))) (ae (cC (.int 6)) (aw)))) [none,some 1] (ag 0) (bf) (cQ)) (aw))))) (jK (f6 (au (gL .Gt) (af 4) (cC (.int 1)))) (f6 (au (d4 false) (au bW (af 1) (au fC (af 4) (cC (.int 2)))) (au bW (af 1) (cC (.int 5))))))) (bZ (cC (.bl false))) (dC))
 (bZ (au (d4 false) (ax iy (ae (af 0) (aw))) (au (d4 false) (au bW (af 1) (cC (.int 1))) (af 0)))))))))
noncomputable def cy:List D->aA->ak D:=iI 1 5 iC
theorem cY:aO ["_law_web", "_law_names", "_law_other", "_law_place", "_law_near"] ["_law_web", "_law_names"] (ao bI):=⟨rfl,rfl,rfl,by decide +kernel,rfl,by decide +kernel,by decide +kernel⟩
theorem jX:(["_law_one", "_law_names"]:List Str).Nodup:=by decide +kernel
theorem jW:(["_law_one", "_law_web", "_law_place"]:List Str).Nodup:=by decide +kernel
noncomputable def dZ:ME:=au bW (af 1) (af 0)
noncomputable def cT:ME:=af 0
noncomputable def cO:MT:=f6 (au (uL false) (ax kn (ae (af 1) (ae (af 2) (ae (af 0) (aw))))) (d6 (ae (cC (.int 0)) (ae (cC (.int 1)) (aw)))))
noncomputable def cP:MS:=br (jY (f6 (au (d4 true) (ax eD (ae (ax bH (ae (bF (gK (ax gq (ae (af 0) (ae (af 3) (aw))))) [none,some 1] (ag 0) (bf) (dZ)) (aw))) (aw))) (ax gq (ae (af 2) (ae (au bW (af 1) (af 3)) (aw)))))) (bZ (cC (.bl false))) (dC))
 (br (bw (bF (eE jt (ae (au bW (af 0) (cC (.int 0))) (aw))) [none,some 0,some 3] (ag 0) (cO) (cT)) (ag 4))
 (jY (f6 (au (d4 true) (ax gq (ae (af 0) (ae (af 3) (aw)))) (ax eD (ae (af 4) (aw))))) (bZ (cC (.bl false))) (dC)))
noncomputable def iD:MS:=br (bw (ax h9 (ae (af 0) (ae (af 1) (aw)))) (ag 2))
 (br (jY (rF (f6 (au (d4 true) (ax cU (ae (af 2) (aw))) (ax h9 (ae (ax cU (ae (af 0) (aw))) (ae (af 1) (aw)))))) (f6 (au (d4 true) (ax cN (ae (af 2) (aw))) (ax cN (ae (af 0) (aw)))))) (bZ (cC (.bl false))) (dC))
 (br (j3 (eE jt (ae (au bW (af 0) (cC (.int 0))) (aw))) (ag 3) cP)
 (bZ (cC (.bl true)))))
noncomputable def bQ:List D->aA->ak D:=iI 2 5 iD
theorem rM:aO ["_law_script", "_law_cell", "_law_pen", "_law_web"] ["_law_script"] (ao ke):=⟨rfl,rfl,rfl,by decide +kernel,rfl,by decide +kernel,by decide +kernel⟩
theorem Ac:(["_law_tie"]:List Str).Nodup:=by decide +kernel
noncomputable def nV:ME:=au og (af 0) (yi wW (cC (.int 1)))
noncomputable def nU:MS:=br (bw (ax eS (ae (af 1) (aw))) (ag 2))
 (br (bw (ax eR (ae (af 2) (aw))) (ag 3))
 (br (jY (f6 (au (d4 true) (ax gN (ae (au bW (af 3) (cC (.int 0))) (ae (au og (bF (gK (au bW (af 3) (cC (.int 1)))) [none] (ag 0) (bf) (nV)) (yi wW (cC (.int 1)))) (aw)))) (af 3))) (bZ (cC (.bl false))) (dC))
 (jY (rF (jb (j5 (ax cy (ae (af 3) (aw))))) (jb (j5 (ax bQ (ae (af 3) (ae (ax b8 (ae (af 2) (ae (au bW (af 3) (cC (.int 0))) (aw)))) (aw))))))) (bZ (cC (.bl false))) (dC))))
noncomputable def Di:MS:=br (j3 (gK (au cA (i8 (ae (ax dX (ae (af 0) (ae (cC (.int 0)) (aw)))) (aw))) (FB (af 0) (oa (cC (.int 1))) (oa (cC (.int 4)))))) (ag 1) nU)
 (bZ (cC (.bl true)))
noncomputable def tp:List D->aA->ak D:=iI 1 4 Di
theorem uw (nm:Nm mg) {f:Addr}{fd:FuncData} (F:gW K "is_whole" "is_whole" iR f fd) (hm:mg "is_whole" = some (.ref f)):cE P w K mg base (cD K w) 1 "is_whole" 1 fe:=
 bX F um rfl hm (F.b1 (by rfl) fun _ _ _ _ _ _ _=>by rfl) fun cdv A outer s H E hr=>
 aJ (bq (j6 (sT (T:="int") (by decide) Fy (by decide) (by decide) nm.isinstance nm.int (aB 0)) (nk (Gf (sT (T:="bool") (by decide) CN (by decide) (by decide) nm.isinstance nm.bool (aB 0))))))
theorem ng (nm:Nm mg) {f:Addr}{fd:FuncData} (F:gW K "is_whole_from" "is_whole_from" eB f fd) (hm:mg "is_whole_from" = some (.ref f)) (d_is_whole:cE P w K mg base (cD K w) 1 "is_whole" 1 fe):cE P w K mg base (cD K w) 2 "is_whole_from" 3 bg:=
 bX F nc rfl hm (F.b3 (by rfl) fun _ _ _ _ _ _ _ _ _=>by rfl) fun cdv A outer s H E hr=>
 aJ (bq (j6 (aG d_is_whole (hr.mono (by decide)) (aI (aB 0) (a8))) (nk (Gi (jJ (op:=.LtE) hr.units) (jJ (op:=.LtE) hr.units) (aB 1) (aB 0) (aB 2)))))
theorem uy (nm:Nm mg) {f:Addr}{fd:FuncData} (F:gW K "is_place" "is_place" iT f fd) (hm:mg "is_place" = some (.ref f)) (d_is_whole_from:cE P w K mg base (cD K w) 2 "is_whole_from" 3 bg):cE P w K mg base (cD K w) 3 "is_place" 2 ff:=
 bX F uq rfl hm (F.b2 (by rfl) fun _ _ _ _ _ _ _ _=>by rfl) fun cdv A outer s H E hr=>
 aJ (bq (aG d_is_whole_from (hr.mono (by decide)) (aI (aB 1) (aI (bB) (aI (jH (aB 0) (bB)) (a8))))))
theorem sx (nm:Nm mg) {f:Addr}{fd:FuncData} (F:gW K "is_places" "is_places" fN f fd) (hm:mg "is_places" = some (.ref f)) (d_is_place:cE P w K mg base (cD K w) 3 "is_place" 2 ff):cE P w K mg base (cD K w) 4 "is_places" 2 cM:=
 bX F sr rfl hm (F.b2 (by rfl) fun _ _ _ _ _ _ _ _=>by rfl) fun cdv A outer s H E hr=>
 aJ (bq (j6 (sT (T:="tuple") (by decide) oS (by decide) (by decide) nm.isinstance nm.tuple (aB 1)) (nk (bD tj nm.all (aI (dH (bt (N:=["many", "thing"]) (sc:=ao fN) (Nc:=["place", "many"]) (cap:=[none,some 0]) rfl rfl (by decide +kernel)) (qf (aB 1)) (fun _ _ _ _ _=>gb 0 pS) (fun _ _ _ _ _=>fD) (fun _ _ _ _ _=>aG d_is_place (hr.mono (by decide)) (aI (aB 1) (aI (aB 0) (a8))))) (a8))))))
theorem sv (nm:Nm mg) {f:Addr}{fd:FuncData} (F:gW K "is_rising" "is_rising" fM f fd) (hm:mg "is_rising" = some (.ref f)):cE P w K mg base (cD K w) 1 "is_rising" 1 fy:=
 bX F sm rfl hm (F.b1 (by rfl) fun _ _ _ _ _ _ _=>by rfl) fun cdv A outer s H E hr=>
 aJ (bq (bD tj nm.all (aI (dH (bt (N:=["things"]) (sc:=ao fM) (Nc:=["at", "things"]) (cap:=[none,some 0]) rfl rfl (by decide +kernel)) (sN nm.range (aI (bB) (aI (bD nt nm.len (aI (aB 0) (a8))) (a8)))) (fun _ _ _ _ _=>gb 0 pR) (fun _ _ _ _ _=>fD) (fun _ _ _ _ _=>jI (jJ (op:=.Lt) hr.units) (bu (aB 1) (jH (aB 0) (bB))) (bu (aB 1) (aB 0)))) (a8))))
theorem vz (nm:Nm mg) {f:Addr}{fd:FuncData} (F:gW K "is_many" "is_many" jC f fd) (hm:mg "is_many" = some (.ref f)) (c_MOST_PLACES:∃ t,mg "MOST_PLACES" = some (.int 6 t)) (d_is_whole_from:cE P w K mg base (cD K w) 2 "is_whole_from" 3 bg):cE P w K mg base (cD K w) 3 "is_many" 1 gr:=
 bX F vm rfl hm (F.b1 (by rfl) fun _ _ _ _ _ _ _=>by rfl) fun cdv A outer s H E hr=>
 aJ (bq (aG d_is_whole_from (hr.mono (by decide)) (aI (aB 0) (aI (bB) (aI (FK c_MOST_PLACES) (a8))))))
theorem vy (nm:Nm mg) {f:Addr}{fd:FuncData} (F:gW K "is_pair" "is_pair" jB f fd) (hm:mg "is_pair" = some (.ref f)) (d_is_places:cE P w K mg base (cD K w) 4 "is_places" 2 cM):cE P w K mg base (cD K w) 5 "is_pair" 2 fx:=
 bX F vk rfl hm (F.b2 (by rfl) fun _ _ _ _ _ _ _ _=>by rfl) fun cdv A outer s H E hr=>
 aJ (bq (j6 (aG d_is_places (hr.mono (by decide)) (aI (aB 0) (aI (aB 1) (a8)))) (j6 (jI (jv hr.units) (bD nt nm.len (aI (aB 1) (a8))) (bB)) (nk (jI (mF hr.units) (bu (aB 1) (bB)) (bu (aB 1) (bB)))))))
theorem xG (nm:Nm mg) {f:Addr}{fd:FuncData} (F:gW K "is_tie" "is_tie" kJ f fd) (hm:mg "is_tie" = some (.ref f)) (d_is_pair:cE P w K mg base (cD K w) 5 "is_pair" 2 fx):cE P w K mg base (cD K w) 6 "is_tie" 2 km:=
 bX F xp rfl hm (F.b2 (by rfl) fun _ _ _ _ _ _ _ _=>by rfl) fun cdv A outer s H E hr=>
 aJ (bq (j6 (aG d_is_pair (hr.mono (by decide)) (aI (aB 0) (aI (aB 1) (a8)))) (nk (jI (jJ (op:=.Lt) hr.units) (bu (aB 1) (bB)) (bu (aB 1) (bB))))))
theorem vx (nm:Nm mg) {f:Addr}{fd:FuncData} (F:gW K "is_ties" "is_ties" iu f fd) (hm:mg "is_ties" = some (.ref f)) (d_is_tie:cE P w K mg base (cD K w) 6 "is_tie" 2 km) (d_is_rising:cE P w K mg base (cD K w) 1 "is_rising" 1 fy):cE P w K mg base (cD K w) 7 "is_ties" 2 jm:=
 bX F vh rfl hm (F.b2 (by rfl) fun _ _ _ _ _ _ _ _=>by rfl) fun cdv A outer s H E hr=>
 aJ (bq (j6 (sT (T:="tuple") (by decide) oS (by decide) (by decide) nm.isinstance nm.tuple (aB 1)) (j6 (bD tj nm.all (aI (dH (bt (N:=["many", "thing"]) (sc:=ao iu) (Nc:=["tie", "many"]) (cap:=[none,some 0]) rfl rfl (by decide +kernel)) (qf (aB 1)) (fun _ _ _ _ _=>gb 0 sE) (fun _ _ _ _ _=>fD) (fun _ _ _ _ _=>aG d_is_tie (hr.mono (by decide)) (aI (aB 1) (aI (aB 0) (a8))))) (a8))) (nk (aG d_is_rising (hr.mono (by decide)) (aI (aB 1) (a8)))))))
theorem ur (nm:Nm mg) {f:Addr}{fd:FuncData} (F:gW K "web_good" "web_good" iP f fd) (hm:mg "web_good" = some (.ref f)) (d_is_many:cE P w K mg base (cD K w) 3 "is_many" 1 gr) (d_is_ties:cE P w K mg base (cD K w) 7 "is_ties" 2 jm):cE P w K mg base (cD K w) 8 "web_good" 1 iw:=
 bX F ku rfl hm (F.b1 (by rfl) fun _ _ _ _ _ _ _=>by rfl) fun cdv A outer s H E hr=>
 aF (gI (nY (wU (k6 (yk (sT (T:="tuple") (by decide) oS (by decide) (by decide) nm.isinstance nm.tuple (aB 0)))) (sU (bK (mF hr.units) (bD nt nm.len (aI (aB 0) (a8))) (bB))))) (aJ (bq (yg))) (eF))
 (aF (lT (aB 0) (ka (cB (gb 1 ku.nd) (cB (gb 2 ku.nd) (kb)))))
 (aJ (bq (j6 (aG d_is_many (hr.mono (by decide)) (aI (aB 1) (a8))) (nk (aG d_is_ties (hr.mono (by decide)) (aI (aB 1) (aI (aB 2) (a8)))))))))
theorem xF (nm:Nm mg) {f:Addr}{fd:FuncData} (F:gW K "web_of" "web_of" ji f fd) (hm:mg "web_of" = some (.ref f)) (d_is_many:cE P w K mg base (cD K w) 3 "is_many" 1 gr) (d_is_pair:cE P w K mg base (cD K w) 5 "is_pair" 2 fx):cE P w K mg base (cD K w) 6 "web_of" 2 gN:=
 bX F mU rfl hm (F.b2 (by rfl) fun _ _ _ _ _ _ _ _=>by rfl) fun cdv A outer s H E hr=>
 aF (gI (k6 (yk (aG d_is_many (hr.mono (by decide)) (aI (aB 0) (a8))))) (aJ (lW)) (eF))
 (aF (i9 Mn (HG nm.enumerate (aI (aB 1) (a8))) (ka (cB (gb 2 mU.nd) (cB (gb 3 mU.nd) (kb)))) (aJ (gI (k6 (yk (aG d_is_pair (hr.mono (by decide)) (aI (aB 0) (aI (aB 3) (a8)))))) (aJ (lW)) (eF))))
 (aJ (bq (cF (aI (aB 0) (aI (bD fJ nm.tuple (aI (bD jh nm.sorted (aI (A0 (bt (N:=["many", "things", "at", "thing"]) (sc:=ao ji) (Nc:=["pair"]) (cap:=[none]) rfl rfl (by decide +kernel)) (qf (aB 1)) (fun _ _ _ _ _=>gb 0 uA) (fun _ _ _ _ _=>fD) (fun _ _ _ _ _ _=>G4 rfl hr.units (cF (aI (bD Df nm.min (aI (aB 0) (a8))) (aI (bD yN nm.max (aI (aB 0) (a8))) (a8)))))) (a8))) (a8))) (a8)))))))
theorem pN (nm:Nm mg) {f:Addr}{fd:FuncData} (F:gW K "check_place" "check_place" fS f fd) (hm:mg "check_place" = some (.ref f)) (d_is_place:cE P w K mg base (cD K w) 3 "is_place" 2 ff):cE P w K mg base (cD K w) 4 "check_place" 2 ck:=
 bX F pK rfl hm (F.b2 (by rfl) fun _ _ _ _ _ _ _ _=>by rfl) fun cdv A outer s H E hr=>
 aJ (gI (k6 (yk (aG d_is_place (hr.mono (by decide)) (aI (bu (aB 0) (bB)) (aI (aB 1) (a8)))))) (aJ (lW)) (eF))
theorem pL (nm:Nm mg) {f:Addr}{fd:FuncData} (F:gW K "next_places" "next_places" de f fd) (hm:mg "next_places" = some (.ref f)):cE P w K mg base (cD K w) 1 "next_places" 2 cV:=
 bX F pI rfl hm (F.b2 (by rfl) fun _ _ _ _ _ _ _ _=>by rfl) fun cdv A outer s H E hr=>
 aJ (bq (eC (dH (bt (N:=["ties", "front"]) (sc:=ao de) (Nc:=["a", "b", "front"]) (cap:=[none,none,some 1]) rfl rfl (by decide +kernel)) (qf (aB 0)) (fun _ _ _ _ _=>ka (cB (gb 0 jq) (cB (gb 1 jq) (kb)))) (fun _ _ _ _ _=>lS (bK (Dq hr.units) (aB 0) (aB 2))) (fun _ _ _ _ _=>aB 1)) (dH (bt (N:=["ties", "front"]) (sc:=ao de) (Nc:=["a", "b", "front"]) (cap:=[none,none,some 1]) rfl rfl (by decide +kernel)) (qf (aB 0)) (fun _ _ _ _ _=>ka (cB (gb 0 jo) (cB (gb 1 jo) (kb)))) (fun _ _ _ _ _=>lS (bK (Dq hr.units) (aB 1) (aB 2))) (fun _ _ _ _ _=>aB 0))))
theorem sy (nm:Nm mg) {f:Addr}{fd:FuncData} (F:gW K "fars_from" "fars_from" fO f fd) (hm:mg "fars_from" = some (.ref f)) (d_next_places:cE P w K mg base (cD K w) 1 "next_places" 2 cV):cE P w K mg base (cD K w) 2 "fars_from" 2 dm:=
 bX F cj rfl hm (F.b2 (by rfl) fun _ _ _ _ _ _ _ _=>by rfl) fun cdv A outer s H E hr=>
 aF (lT (aB 0) (ka (cB (gb 2 cj.nd) (cB (gb 3 cj.nd) (kb)))))
 (aF (cu 4 cj.nd (qi (iJ (aI (FA) (a8))) (aB 2)))
 (aF (lT (bB) (qp (aB 4) (aB 1)))
 (aF (cu 5 cj.nd (bB))
 (aF (cu 6 cj.nd (iJ (aI (aB 1) (a8))))
 (aF (wm 100 Mn (yk (aB 6)) (aF (yD 5 cj.nd (bB))
 (aF (jx 6 cj.nd (bt (N:=["web", "start", "many", "ties", "fars", "far", "front", "place"]) (sc:=ao fO) (Nc:=["place", "fars"]) (cap:=[none,some 4]) rfl rfl (by decide +kernel)) (qf (aG d_next_places (hr.mono (by decide)) (aI (aB 3) (aI (aB 6) (a8))))) (fun _ _ _ _ _=>gb 0 pT) (fun _ _ _ _ _=>lS (bK (Da) (bu (aB 1) (aB 0)) (FA))) (fun _ _ _ _ _=>aB 0))
 (aJ (i9 Mn (qf (aB 6)) (gb 7 cj.nd) (aJ (lT (aB 5) (qp (aB 4) (aB 7)))))))))
 (aJ (bq (aB 4))))))))
theorem xH (nm:Nm mg) {f:Addr}{fd:FuncData} (F:gW K "far_of" "far_of" kK f fd) (hm:mg "far_of" = some (.ref f)) (d_check_place:cE P w K mg base (cD K w) 4 "check_place" 2 ck) (d_fars_from:cE P w K mg base (cD K w) 2 "fars_from" 2 dm):cE P w K mg base (cD K w) 5 "far_of" 3 kn:=
 bX F xq rfl hm (F.b3 (by rfl) fun _ _ _ _ _ _ _ _ _=>by rfl) fun cdv A outer s H E hr=>
 aF (uU (aG d_check_place (hr.mono (by decide)) (aI (aB 0) (aI (aB 1) (a8)))))
 (aF (uU (aG d_check_place (hr.mono (by decide)) (aI (aB 0) (aI (aB 2) (a8)))))
 (aJ (bq (bu (aG d_fars_from (hr.mono (by decide)) (aI (aB 0) (aI (aB 1) (a8)))) (aB 2)))))
theorem vv (nm:Nm mg) {f:Addr}{fd:FuncData} (F:gW K "star_of" "star_of" jA f fd) (hm:mg "star_of" = some (.ref f)) (d_check_place:cE P w K mg base (cD K w) 4 "check_place" 2 ck) (d_next_places:cE P w K mg base (cD K w) 1 "next_places" 2 cV):cE P w K mg base (cD K w) 5 "star_of" 2 gq:=
 bX F vg rfl hm (F.b2 (by rfl) fun _ _ _ _ _ _ _ _=>by rfl) fun cdv A outer s H E hr=>
 aF (uU (aG d_check_place (hr.mono (by decide)) (aI (aB 0) (aI (aB 1) (a8)))))
 (aJ (bq (bD fJ nm.tuple (aI (bD jh nm.sorted (aI (bD (vY hr.units) nm.set (aI (eC (iJ (aI (aB 1) (a8))) (aG d_next_places (hr.mono (by decide)) (aI (bu (aB 0) (bB)) (aI (iJ (aI (aB 1) (a8))) (a8))))) (a8))) (a8))) (a8)))))
theorem su (nm:Nm mg) {f:Addr}{fd:FuncData} (F:gW K "steps_web" "steps_web" fL f fd) (hm:mg "steps_web" = some (.ref f)) (c_MOST_STEPS:∃ t,mg "MOST_STEPS" = some (.int 6 t)) (d_is_whole_from:cE P w K mg base (cD K w) 2 "is_whole_from" 3 bg) (d_fars_from:cE P w K mg base (cD K w) 2 "fars_from" 2 dm):cE P w K mg base (cD K w) 3 "steps_web" 2 bh:=
 bX F eA rfl hm (F.b2 (by rfl) fun _ _ _ _ _ _ _ _=>by rfl) fun cdv A outer s H E hr=>
 aF (gI (k6 (yk (aG d_is_whole_from (hr.mono (by decide)) (aI (aB 1) (aI (bB) (aI (FK c_MOST_STEPS) (a8))))))) (aJ (lW)) (eF))
 (aF (cu 2 eA.nd (bu (aB 0) (bB)))
 (aF (cu 3 eA.nd (iJ (a8)))
 (aF (i9 Mn (nI nm.range (aI (aB 2) (a8))) (gb 4 eA.nd) (aF (cu 5 eA.nd (aG d_fars_from (hr.mono (by decide)) (aI (aB 0) (aI (aB 4) (a8)))))
 (aJ (yD 3 eA.nd (dH (bt (N:=["web", "k", "many", "ties", "one", "fars"]) (sc:=ao fL) (Nc:=["other", "one", "k", "fars"]) (cap:=[none,some 4,some 1,some 5]) rfl rfl (by decide +kernel)) (sN nm.range (aI (eC (aB 4) (bB)) (aI (aB 2) (a8)))) (fun _ _ _ _ _=>gb 0 pQ) (fun _ _ _ _ _=>lS (nY (ql (bK (zb) (bu (aB 3) (aB 0)) (FA)) (mK (bK (jJ (op:=.LtE) hr.units) (bu (aB 3) (aB 0)) (aB 2)))))) (fun _ _ _ _ _=>cF (aI (aB 1) (aI (aB 0) (a8)))))))))
 (aJ (bq (cF (aI (aB 2) (aI (bD fJ nm.tuple (aI (aB 3) (a8))) (a8)))))))))
theorem uu (nm:Nm mg) {f:Addr}{fd:FuncData} (F:gW K "two_step" "two_step" iQ f fd) (hm:mg "two_step" = some (.ref f)) (d_steps_web:cE P w K mg base (cD K w) 3 "steps_web" 2 bh):cE P w K mg base (cD K w) 4 "two_step" 1 cU:=
 bX F uk rfl hm (F.b1 (by rfl) fun _ _ _ _ _ _ _=>by rfl) fun cdv A outer s H E hr=>
 aJ (bq (aG d_steps_web (hr.mono (by decide)) (aI (aB 0) (aI (bB) (a8)))))
theorem p7 (nm:Nm mg) {f:Addr}{fd:FuncData} (F:gW K "still_from" "still_from" gD f fd) (hm:mg "still_from" = some (.ref f)) (d_steps_web:cE P w K mg base (cD K w) 3 "steps_web" 2 bh):cE P w K mg base (cD K w) 4 "still_from" 1 cN:=
 bX F i3 rfl hm (F.b1 (by rfl) fun _ _ _ _ _ _ _=>by rfl) fun cdv A outer s H E hr=>
 aF (cu 1 i3.nd (bB))
 (aF (wm 100 Mn (bK (mF hr.units) (aG d_steps_web (hr.mono (by decide)) (aI (aB 0) (aI (aB 1) (a8)))) (aG d_steps_web (hr.mono (by decide)) (aI (aB 0) (aI (eC (aB 1) (bB)) (a8))))) (aJ (yD 1 i3.nd (bB))))
 (aJ (bq (aB 1))))
theorem ux (nm:Nm mg) {f:Addr}{fd:FuncData} (F:gW K "is_still" "is_still" iS f fd) (hm:mg "is_still" = some (.ref f)) (d_two_step:cE P w K mg base (cD K w) 4 "two_step" 1 cU):cE P w K mg base (cD K w) 5 "is_still" 1 iy:=
 bX F uo rfl hm (F.b1 (by rfl) fun _ _ _ _ _ _ _=>by rfl) fun cdv A outer s H E hr=>
 aJ (bq (jI (jv hr.units) (aG d_two_step (hr.mono (by decide)) (aI (aB 0) (a8))) (aB 0)))
theorem pM (nm:Nm mg) {f:Addr}{fd:FuncData} (F:gW K "is_renaming" "is_renaming" fR f fd) (hm:mg "is_renaming" = some (.ref f)) (d_is_places:cE P w K mg base (cD K w) 4 "is_places" 2 cM):cE P w K mg base (cD K w) 5 "is_renaming" 2 eQ:=
 bX F pJ rfl hm (F.b2 (by rfl) fun _ _ _ _ _ _ _ _=>by rfl) fun cdv A outer s H E hr=>
 aJ (bq (j6 (aG d_is_places (hr.mono (by decide)) (aI (aB 0) (aI (aB 1) (a8)))) (j6 (jI (jv hr.units) (bD nt nm.len (aI (aB 1) (a8))) (aB 0)) (nk (jI (jv hr.units) (bD nt nm.len (aI (bD (vY hr.units) nm.set (aI (aB 1) (a8))) (a8))) (aB 0))))))
theorem vw (nm:Nm mg) {f:Addr}{fd:FuncData} (F:gW K "renamed" "renamed" ir f fd) (hm:mg "renamed" = some (.ref f)) (d_is_renaming:cE P w K mg base (cD K w) 5 "is_renaming" 2 eQ) (d_web_of:cE P w K mg base (cD K w) 6 "web_of" 2 gN):cE P w K mg base (cD K w) 7 "renamed" 2 h9:=
 bX F lF rfl hm (F.b2 (by rfl) fun _ _ _ _ _ _ _ _=>by rfl) fun cdv A outer s H E hr=>
 aF (lT (aB 0) (ka (cB (gb 2 lF.nd) (cB (gb 3 lF.nd) (kb)))))
 (aF (gI (k6 (yk (aG d_is_renaming (hr.mono (by decide)) (aI (aB 2) (aI (aB 1) (a8)))))) (aJ (lW)) (eF))
 (aJ (bq (aG d_web_of (hr.mono (by decide)) (aI (aB 2) (aI (dH (bt (N:=["web", "names", "many", "ties"]) (sc:=ao ir) (Nc:=["a", "b", "names"]) (cap:=[none,none,some 1]) rfl rfl (by decide +kernel)) (qf (aB 3)) (fun _ _ _ _ _=>ka (cB (gb 0 mq) (cB (gb 1 mq) (kb)))) (fun _ _ _ _ _=>fD) (fun _ _ _ _ _=>cF (aI (bu (aB 2) (aB 0)) (aI (bu (aB 2) (aB 1)) (a8))))) (a8)))))))
theorem nL (nm:Nm mg) {f:Addr}{fd:FuncData} (F:gW K "_law_cell_at" "_law_cell_at" eU f fd) (hm:mg "_law_cell_at" = some (.ref f)):cE P w K mg base (cD K w) 1 "_law_cell_at" 2 dX:=
 bX F nK rfl hm (F.b2 (by rfl) fun _ _ _ _ _ _ _ _=>by rfl) fun cdv A outer s H E hr=>
 aF (gI (bK (jJ (op:=.Lt) hr.units) (aB 1) (bD nt nm.len (aI (aB 0) (a8)))) (aJ (bq (bu (aB 0) (aB 1)))) (eF))
 (aJ (bq (bB)))
theorem sA (nm:Nm mg) {f:Addr}{fd:FuncData} (F:gW K "_law_next" "_law_next" g9 f fd) (hm:mg "_law_next" = some (.ref f)):cE P w K mg base (cD K w) 1 "_law_next" 1 fA:=
 bX F mh rfl hm (F.b1 (by rfl) fun _ _ _ _ _ _ _=>by rfl) fun cdv A outer s H E hr=>
 aF (cu 0 mh.nd (qj (eC (aB 0) (bB)) (bB)))
 (aJ (bq (qj (eC (eC (qi (aB 0) (aB 0)) (qi (bB) (aB 0))) (bB)) (bB))))
theorem pP (nm:Nm mg) {f:Addr}{fd:FuncData} (F:gW K "_law_pen_of" "_law_pen_of" fU f fd) (hm:mg "_law_pen_of" = some (.ref f)):cE P w K mg base (cD K w) 1 "_law_pen_of" 1 eS:=
 bX F kA rfl hm (F.b1 (by rfl) fun _ _ _ _ _ _ _=>by rfl) fun cdv A outer s H E hr=>
 aF (cu 1 kA.nd (bD yN nm.max (aI (aB 0) (aI (jH (bB) (aB 0)) (a8)))))
 (aJ (bq (iJ (aI (aB 1) (aI (bD Dg nm.int (aI (jI (jJ (op:=.GtE) hr.units) (aB 1) (Gg (bB) (bB))) (a8))) (aI (qj (aB 1) (bB)) (a8)))))))
theorem sC (nm:Nm mg) {f:Addr}{fd:FuncData} (F:gW K "_law_draw" "_law_draw" hV f fd) (hm:mg "_law_draw" = some (.ref f)) (d__law_next:cE P w K mg base (cD K w) 1 "_law_next" 1 fA):cE P w K mg base (cD K w) 2 "_law_draw" 2 aY:=
 bX F mj rfl hm (F.b2 (by rfl) fun _ _ _ _ _ _ _ _=>by rfl) fun cdv A outer s H E hr=>
 aF (gI (bK (jv hr.units) (bu (aB 0) (bB)) (bB)) (aF (cu 2 mj.nd (qj (bu (aB 0) (bB)) (aB 1)))
 (aF (lT (yT (bu (aB 0) (bB)) (aB 1)) (qp (aB 0) (bB)))
 (aJ (bq (aB 2))))) (eF))
 (aF (lT (aG d__law_next (hr.mono (by decide)) (aI (eC (aG d__law_next (hr.mono (by decide)) (aI (bu (aB 0) (bB)) (a8))) (bB)) (a8))) (qp (aB 0) (bB)))
 (aJ (bq (qj (yT (bu (aB 0) (bB)) (bB)) (aB 1)))))
theorem p9 (nm:Nm mg) {f:Addr}{fd:FuncData} (F:gW K "_law_named" "_law_named" dG f fd) (hm:mg "_law_named" = some (.ref f)):cE P w K mg base (cD K w) 1 "_law_named" 2 fP:=
 bX F lb rfl hm (F.b2 (by rfl) fun _ _ _ _ _ _ _ _=>by rfl) fun cdv A outer s H E hr=>
 aF (jx 2 lb.nd (bt (N:=["_law_web", "_law_names", "_law_ties"]) (sc:=ao dG) (Nc:=["_law_one", "_law_other", "_law_names"]) (cap:=[none,none,some 1]) rfl rfl (by decide +kernel)) (qf (bu (aB 0) (bB))) (fun _ _ _ _ _=>ka (cB (gb 0 jL) (cB (gb 1 jL) (kb)))) (fun _ _ _ _ _=>fD) (fun _ _ _ _ _=>cF (aI (bu (aB 2) (aB 0)) (aI (bu (aB 2) (aB 1)) (a8)))))
 (aJ (bq (cF (aI (bu (aB 0) (bB)) (aI (bD fJ nm.tuple (aI (bD jh nm.sorted (aI (bD (vY hr.units) nm.set (aI (dH (bt (N:=["_law_web", "_law_names", "_law_ties"]) (sc:=ao dG) (Nc:=["_law_tie"]) (cap:=[none]) rfl rfl (by decide +kernel)) (qf (aB 2)) (fun _ _ _ _ _=>gb 0 nN) (fun _ _ _ _ _=>fD) (fun _ _ _ _ _=>cF (aI (bD Df nm.min (aI (aB 0) (a8))) (aI (bD yN nm.max (aI (aB 0) (a8))) (a8))))) (a8))) (a8))) (a8))) (a8))))))
theorem nh (nm:Nm mg) {f:Addr}{fd:FuncData} (F:gW K "_law_names_by" "_law_names_by" df f fd) (hm:mg "_law_names_by" = some (.ref f)) (d__law_draw:cE P w K mg base (cD K w) 2 "_law_draw" 2 aY):cE P w K mg base (cD K w) 3 "_law_names_by" 2 b8:=
 bX F jn rfl hm (F.b2 (by rfl) fun _ _ _ _ _ _ _ _=>by rfl) fun cdv A outer s H E hr=>
 aF (cu 2 jn.nd (DC nm.range nm.list (aI (aB 1) (a8))))
 (aJ (bq (bD fJ nm.tuple (aI (dH (bt (N:=["_law_pen", "_law_many", "_law_left"]) (sc:=ao df) (Nc:=["_law_place", "_law_left", "_law_pen"]) (cap:=[none,some 2,some 0]) rfl rfl (by decide +kernel)) (nI nm.range (aI (aB 1) (a8))) (fun _ _ _ _ _=>gb 0 lO) (fun _ _ _ _ _=>fD) (fun _ _ _ _ _=>Gh (aB 1) (aI (aG d__law_draw (hr.mono (by decide)) (aI (aB 2) (aI (bD nt nm.len (aI (aB 1) (a8))) (a8)))) (a8)))) (a8)))))
theorem uz (nm:Nm mg) {f:Addr}{fd:FuncData} (F:gW K "_law_far" "_law_far" gO f fd) (hm:mg "_law_far" = some (.ref f)):cE P w K mg base (cD K w) 1 "_law_far" 1 iz:=
 bX F cJ rfl hm (F.b1 (by rfl) fun _ _ _ _ _ _ _=>by rfl) fun cdv A outer s H E hr=>
 aF (cu 1 cJ.nd (bu (aB 0) (bB)))
 (aF (jx 2 cJ.nd (bt (N:=["_law_web", "_law_many", "_law_far_here", "_law_place", "_law_size", "_law_one", "_law_other", "_law_a", "_law_b"]) (sc:=ao gO) (Nc:=["_law_place", "_law_many"]) (cap:=[none,some 1]) rfl rfl (by decide +kernel)) (nI nm.range (aI (aB 1) (a8))) (fun _ _ _ _ _=>gb 0 qc) (fun _ _ _ _ _=>fD) (fun _ _ _ _ _=>qi (iJ (aI (FA) (a8))) (aB 1)))
 (aF (i9 Mn (nI nm.range (aI (aB 1) (a8))) (gb 3 cJ.nd) (aF (lT (bB) (qp (bu (aB 2) (aB 3)) (aB 3)))
 (aJ (i9 Mn (sN nm.range (aI (bB) (aI (aB 1) (a8)))) (gb 4 cJ.nd) (aJ (i9 Mn (qf (bu (aB 0) (bB))) (ka (cB (gb 5 cJ.nd) (cB (gb 6 cJ.nd) (kb)))) (aJ (i9 Mn (qf (iJ (aI (cF (aI (aB 5) (aI (aB 6) (a8)))) (aI (cF (aI (aB 6) (aI (aB 5) (a8)))) (a8))))) (ka (cB (gb 7 cJ.nd) (cB (gb 8 cJ.nd) (kb)))) (aJ (gI (nY (ql (bK (jv hr.units) (bu (bu (aB 2) (aB 3)) (aB 7)) (jH (aB 4) (bB))) (mK (bK (Da) (bu (bu (aB 2) (aB 3)) (aB 8)) (FA))))) (aJ (lT (aB 4) (qp (bu (aB 2) (aB 3)) (aB 8)))) (eF)))))))))))
 (aJ (bq (aB 2)))))
theorem p8 (nm:Nm mg) {f:Addr}{fd:FuncData} (F:gW K "_law_steps" "_law_steps" eJ f fd) (hm:mg "_law_steps" = some (.ref f)) (d__law_far:cE P w K mg base (cD K w) 1 "_law_far" 1 iz):cE P w K mg base (cD K w) 2 "_law_steps" 2 dy:=
 bX F eK rfl hm (F.b2 (by rfl) fun _ _ _ _ _ _ _ _=>by rfl) fun cdv A outer s H E hr=>
 aF (cu 2 eK.nd (aG d__law_far (hr.mono (by decide)) (aI (aB 0) (a8))))
 (aF (cu 3 eK.nd (iJ (a8)))
 (aF (i9 Mn (nI nm.range (aI (bu (aB 0) (bB)) (a8))) (gb 4 eK.nd) (aJ (cu 3 eK.nd (eC (aB 3) (dH (bt (N:=["_law_web", "_law_k", "_law_far_here", "_law_ties", "_law_one"]) (sc:=ao eJ) (Nc:=["_law_b", "_law_one", "_law_k", "_law_far_here"]) (cap:=[none,some 4,some 1,some 2]) rfl rfl (by decide +kernel)) (sN nm.range (aI (eC (aB 4) (bB)) (aI (bu (aB 0) (bB)) (a8)))) (fun _ _ _ _ _=>gb 0 nM) (fun _ _ _ _ _=>lS (nY (ql (bK (zb) (bu (bu (aB 3) (aB 1)) (aB 0)) (FA)) (mK (bK (jJ (op:=.LtE) hr.units) (bu (bu (aB 3) (aB 1)) (aB 0)) (aB 2)))))) (fun _ _ _ _ _=>cF (aI (aB 1) (aI (aB 0) (a8)))))))))
 (aJ (bq (cF (aI (bu (aB 0) (bB)) (aI (bD fJ nm.tuple (aI (aB 3) (a8))) (a8))))))))
theorem mz (nm:Nm mg) {f:Addr}{fd:FuncData} (F:gW K "_law_sparse_by" "_law_sparse_by" aZ f fd) (hm:mg "_law_sparse_by" = some (.ref f)) (d__law_draw:cE P w K mg base (cD K w) 2 "_law_draw" 2 aY) (d__law_named:cE P w K mg base (cD K w) 1 "_law_named" 2 fP) (d__law_names_by:cE P w K mg base (cD K w) 3 "_law_names_by" 2 b8):cE P w K mg base (cD K w) 4 "_law_sparse_by" 1 dg:=
 bX F aU rfl hm (F.b1 (by rfl) fun _ _ _ _ _ _ _=>by rfl) fun cdv A outer s H E hr=>
 aF (cu 1 aU.nd (aG d__law_draw (hr.mono (by decide)) (aI (aB 0) (aI (bB) (a8)))))
 (aF (cu 2 aU.nd (eC (bB) (aG d__law_draw (hr.mono (by decide)) (aI (aB 0) (aI (bB) (a8))))))
 (aF (cu 3 aU.nd (iJ (a8)))
 (aF (i9 Mn (nI nm.range (aI (aB 2) (a8))) (gb 4 aU.nd) (aJ (cu 3 aU.nd (eC (aB 3) (dH (bt (N:=["_law_pen", "_law_way", "_law_many", "_law_every", "_law_other", "_law_ties"]) (sc:=ao aZ) (Nc:=["_law_one", "_law_other"]) (cap:=[none,some 4]) rfl rfl (by decide +kernel)) (nI nm.range (aI (aB 4) (a8))) (fun _ _ _ _ _=>gb 0 kX) (fun _ _ _ _ _=>fD) (fun _ _ _ _ _=>cF (aI (aB 0) (aI (aB 1) (a8)))))))))
 (aF (gI (bK (jv hr.units) (aB 1) (bB)) (aJ (jx 5 aU.nd (bt (N:=["_law_pen", "_law_way", "_law_many", "_law_every", "_law_other", "_law_ties"]) (sc:=ao aZ) (Nc:=["_law_pair", "_law_pen"]) (cap:=[none,some 0]) rfl rfl (by decide +kernel)) (qf (aB 3)) (fun _ _ _ _ _=>gb 0 kW) (fun _ _ _ _ _=>lS (bK (jv hr.units) (aG d__law_draw (hr.mono (by decide)) (aI (aB 1) (aI (bB) (a8)))) (bB))) (fun _ _ _ _ _=>aB 0))) (aJ (gI (bK (jv hr.units) (aB 1) (bB)) (aJ (jx 5 aU.nd (bt (N:=["_law_pen", "_law_way", "_law_many", "_law_every", "_law_other", "_law_ties"]) (sc:=ao aZ) (Nc:=["_law_pair", "_law_pen"]) (cap:=[none,some 0]) rfl rfl (by decide +kernel)) (qf (aB 3)) (fun _ _ _ _ _=>gb 0 kU) (fun _ _ _ _ _=>lS (bK (jv hr.units) (aG d__law_draw (hr.mono (by decide)) (aI (aB 1) (aI (bB) (a8)))) (bB))) (fun _ _ _ _ _=>aB 0))) (aJ (gI (bK (jv hr.units) (aB 1) (bB)) (aJ (cu 5 aU.nd (eC (dH (bt (N:=["_law_pen", "_law_way", "_law_many", "_law_every", "_law_other", "_law_ties"]) (sc:=ao aZ) (Nc:=["_law_place"]) (cap:=[none]) rfl rfl (by decide +kernel)) (nI nm.range (aI (jH (aB 2) (bB)) (a8))) (fun _ _ _ _ _=>gb 0 kT) (fun _ _ _ _ _=>fD) (fun _ _ _ _ _=>cF (aI (aB 0) (aI (eC (aB 0) (bB)) (a8))))) (qi (iJ (aI (cF (aI (bB) (aI (jH (aB 2) (bB)) (a8)))) (a8))) (bD Dg nm.int (aI (jI (jJ (op:=.Gt) hr.units) (aB 2) (bB)) (a8))))))) (aJ (gI (bK (jv hr.units) (aB 1) (bB)) (aJ (jx 5 aU.nd (bt (N:=["_law_pen", "_law_way", "_law_many", "_law_every", "_law_other", "_law_ties"]) (sc:=ao aZ) (Nc:=["_law_place"]) (cap:=[none]) rfl rfl (by decide +kernel)) (nI nm.range (aI (jH (aB 2) (bB)) (a8))) (fun _ _ _ _ _=>gb 0 kS) (fun _ _ _ _ _=>fD) (fun _ _ _ _ _=>cF (aI (aB 0) (aI (eC (aB 0) (bB)) (a8)))))) (aJ (gI (bK (jv hr.units) (aB 1) (bB)) (aJ (jx 5 aU.nd (bt (N:=["_law_pen", "_law_way", "_law_many", "_law_every", "_law_other", "_law_ties"]) (sc:=ao aZ) (Nc:=["_law_place"]) (cap:=[none]) rfl rfl (by decide +kernel)) (sN nm.range (aI (bB) (aI (aB 2) (a8)))) (fun _ _ _ _ _=>gb 0 kR) (fun _ _ _ _ _=>fD) (fun _ _ _ _ _=>cF (aI (bB) (aI (aB 0) (a8)))))) (aJ (jx 5 aU.nd (bt (N:=["_law_pen", "_law_way", "_law_many", "_law_every", "_law_other", "_law_ties"]) (sc:=ao aZ) (Nc:=["_law_place", "_law_pen"]) (cap:=[none,some 0]) rfl rfl (by decide +kernel)) (sN nm.range (aI (bB) (aI (aB 2) (a8)))) (fun _ _ _ _ _=>gb 0 kQ) (fun _ _ _ _ _=>fD) (fun _ _ _ _ _=>cF (aI (aG d__law_draw (hr.mono (by decide)) (aI (aB 1) (aI (aB 0) (a8)))) (aI (aB 0) (a8)))))))))))))))
 (aJ (bq (aG d__law_named (hr.mono (by decide)) (aI (cF (aI (aB 2) (aI (bD fJ nm.tuple (aI (aB 5) (a8))) (a8)))) (aI (aG d__law_names_by (hr.mono (by decide)) (aI (aB 0) (aI (aB 2) (a8)))) (a8))))))))))
theorem pO (nm:Nm mg) {f:Addr}{fd:FuncData} (F:gW K "_law_web_by" "_law_web_by" fT f fd) (hm:mg "_law_web_by" = some (.ref f)) (d__law_sparse_by:cE P w K mg base (cD K w) 4 "_law_sparse_by" 1 dg) (d__law_draw:cE P w K mg base (cD K w) 2 "_law_draw" 2 aY) (d__law_steps:cE P w K mg base (cD K w) 2 "_law_steps" 2 dy):cE P w K mg base (cD K w) 5 "_law_web_by" 1 eR:=
 bX F cx rfl hm (F.b1 (by rfl) fun _ _ _ _ _ _ _=>by rfl) fun cdv A outer s H E hr=>
 aF (cu 1 cx.nd (aG d__law_sparse_by (hr.mono (by decide)) (aI (aB 0) (a8))))
 (aF (cu 2 cx.nd (aG d__law_draw (hr.mono (by decide)) (aI (aB 0) (aI (bB) (a8)))))
 (aF (gI (bK (jJ (op:=.Lt) hr.units) (aB 2) (bB)) (aJ (cu 1 cx.nd (aG d__law_steps (hr.mono (by decide)) (aI (aB 1) (aI (bB) (a8)))))) (eF))
 (aF (gI (nY (ql (bK (jv hr.units) (aB 2) (bB)) (mK (bK (mF hr.units) (bu (aB 1) (bB)) (cF (a8)))))) (aF (cu 3 cx.nd (aG d__law_draw (hr.mono (by decide)) (aI (aB 0) (aI (bD nt nm.len (aI (bu (aB 1) (bB)) (a8))) (a8)))))
 (aJ (bq (cF (aI (bu (aB 1) (bB)) (aI (eC (Dp (bu (aB 1) (bB)) (v3) (nP (aB 3))) (Dp (bu (aB 1) (bB)) (nP (eC (aB 3) (bB))) (v3))) (a8))))))) (eF))
 (aF (gI (nY (ql (bK (jv hr.units) (aB 2) (bB)) (mK (bK (jJ (op:=.Gt) hr.units) (bu (aB 1) (bB)) (bB))))) (aF (cu 4 cx.nd (aG d__law_draw (hr.mono (by decide)) (aI (aB 0) (aI (bu (aB 1) (bB)) (a8)))))
 (aF (cu 5 cx.nd (bD fJ nm.tuple (aI (bD jh nm.sorted (aI (cF (aI (aB 4) (aI (qj (eC (eC (aB 4) (bB)) (aG d__law_draw (hr.mono (by decide)) (aI (aB 0) (aI (jH (bu (aB 1) (bB)) (bB)) (a8))))) (bu (aB 1) (bB))) (a8)))) (a8))) (a8))))
 (aJ (bq (cF (aI (bu (aB 1) (bB)) (aI (bD fJ nm.tuple (aI (bD jh nm.sorted (aI (bD (vY hr.units) nm.set (aI (eC (bu (aB 1) (bB)) (cF (aI (aB 5) (a8)))) (a8))) (a8))) (a8))) (a8)))))))) (eF))
 (aJ (bq (aB 1)))))))
theorem kO (nm:Nm mg) {f:Addr}{fd:FuncData} (F:gW K "_law_steps_right" "_law_steps_right" bj f fd) (hm:mg "_law_steps_right" = some (.ref f)) (d_steps_web:cE P w K mg base (cD K w) 3 "steps_web" 2 bh) (d_two_step:cE P w K mg base (cD K w) 4 "two_step" 1 cU) (d_web_good:cE P w K mg base (cD K w) 8 "web_good" 1 iw) (d_still_from:cE P w K mg base (cD K w) 4 "still_from" 1 cN) (d_is_still:cE P w K mg base (cD K w) 5 "is_still" 1 iy):cE P w K mg base (cD K w) 9 "_law_steps_right" 1 cy:=
 bX F bJ rfl hm (F.b1 (by rfl) fun _ _ _ _ _ _ _=>by rfl) fun cdv A outer s H E hr=>
 aF (cu 1 bJ.nd (dH (bt (N:=["_law_web", "_law_found", "_law_k", "_law_j", "_law_least"]) (sc:=ao bj) (Nc:=["_law_k", "_law_web"]) (cap:=[none,some 0]) rfl rfl (by decide +kernel)) (sN nm.range (aI (bB) (aI (bB) (a8)))) (fun _ _ _ _ _=>gb 0 jV) (fun _ _ _ _ _=>fD) (fun _ _ _ _ _=>aG d_steps_web (hr.mono (by decide)) (aI (aB 1) (aI (aB 0) (a8))))))
 (aF (gI (nY (wU (bK (mF hr.units) (bu (aB 1) (bB)) (aB 0)) (wU (bK (mF hr.units) (bu (aB 1) (bB)) (aG d_two_step (hr.mono (by decide)) (aI (aB 0) (a8)))) (sU (k6 (yk (bD tj nm.all (aI (dH (bt (N:=["_law_web", "_law_found", "_law_k", "_law_j", "_law_least"]) (sc:=ao bj) (Nc:=["_law_one"]) (cap:=[none]) rfl rfl (by decide +kernel)) (qf (aB 1)) (fun _ _ _ _ _=>gb 0 jU) (fun _ _ _ _ _=>fD) (fun _ _ _ _ _=>aG d_web_good (hr.mono (by decide)) (aI (aB 0) (a8)))) (a8))))))))) (aJ (bq (yg))) (eF))
 (aF (i9 Mn (nI nm.range (aI (bB) (a8))) (gb 2 bJ.nd) (aJ (gI (bK (mF hr.units) (dH (bt (N:=["_law_web", "_law_found", "_law_k", "_law_j", "_law_least"]) (sc:=ao bj) (Nc:=["_law_tie", "_law_found", "_law_k"]) (cap:=[none,some 1,some 2]) rfl rfl (by decide +kernel)) (qf (bu (bu (aB 1) (aB 2)) (bB))) (fun _ _ _ _ _=>gb 0 jT) (fun _ _ _ _ _=>lS (bK (GT hr.units) (aB 0) (bu (bu (aB 1) (eC (aB 2) (bB))) (bB)))) (fun _ _ _ _ _=>aB 0)) (iJ (a8))) (aJ (bq (yg))) (eF))))
 (aF (i9 Mn (qf (iJ (aI (cF (aI (bB) (aI (bB) (a8)))) (aI (cF (aI (bB) (aI (bB) (a8)))) (aI (cF (aI (bB) (aI (bB) (a8)))) (aI (cF (aI (bB) (aI (bB) (a8)))) (a8))))))) (ka (cB (gb 3 bJ.nd) (cB (gb 2 bJ.nd) (kb)))) (aJ (gI (bK (mF hr.units) (aG d_steps_web (hr.mono (by decide)) (aI (bu (aB 1) (jH (aB 3) (bB))) (aI (aB 2) (a8)))) (bu (aB 1) (jH (qi (aB 3) (aB 2)) (bB)))) (aJ (bq (yg))) (eF))))
 (aF (cu 4 bJ.nd (aG d_still_from (hr.mono (by decide)) (aI (aB 0) (a8))))
 (aF (gI (nY (wU (k6 (yk (bD tj nm.all (aI (dH (bt (N:=["_law_web", "_law_found", "_law_k", "_law_j", "_law_least"]) (sc:=ao bj) (Nc:=["_law_k", "_law_found"]) (cap:=[none,some 1]) rfl rfl (by decide +kernel)) (sN nm.range (aI (jH (aB 4) (bB)) (aI (bB) (a8)))) (fun _ _ _ _ _=>gb 0 jS) (fun _ _ _ _ _=>fD) (fun _ _ _ _ _=>jI (jv hr.units) (bu (aB 1) (aB 0)) (bu (aB 1) (bB)))) (a8))))) (sU (nY (ql (bK (jJ (op:=.Gt) hr.units) (aB 4) (bB)) (mK (bK (jv hr.units) (bu (aB 1) (jH (aB 4) (bB))) (bu (aB 1) (bB))))))))) (aJ (bq (yg))) (eF))
 (aJ (bq (jI (jv hr.units) (aG d_is_still (hr.mono (by decide)) (aI (aB 0) (a8))) (jI (jv hr.units) (bu (aB 1) (bB)) (aB 0))))))))))
theorem kP (nm:Nm mg) {f:Addr}{fd:FuncData} (F:gW K "_law_named_right" "_law_named_right" bI f fd) (hm:mg "_law_named_right" = some (.ref f)) (d_renamed:cE P w K mg base (cD K w) 7 "renamed" 2 h9) (d_two_step:cE P w K mg base (cD K w) 4 "two_step" 1 cU) (d_still_from:cE P w K mg base (cD K w) 4 "still_from" 1 cN) (d_star_of:cE P w K mg base (cD K w) 5 "star_of" 2 gq) (d_far_of:cE P w K mg base (cD K w) 5 "far_of" 3 kn):cE P w K mg base (cD K w) 8 "_law_named_right" 2 bQ:=
 bX F cY rfl hm (F.b2 (by rfl) fun _ _ _ _ _ _ _ _=>by rfl) fun cdv A outer s H E hr=>
 aF (cu 2 cY.nd (aG d_renamed (hr.mono (by decide)) (aI (aB 0) (aI (aB 1) (a8)))))
 (aF (gI (nY (wU (bK (mF hr.units) (aG d_two_step (hr.mono (by decide)) (aI (aB 2) (a8))) (aG d_renamed (hr.mono (by decide)) (aI (aG d_two_step (hr.mono (by decide)) (aI (aB 0) (a8))) (aI (aB 1) (a8))))) (sU (bK (mF hr.units) (aG d_still_from (hr.mono (by decide)) (aI (aB 2) (a8))) (aG d_still_from (hr.mono (by decide)) (aI (aB 0) (a8))))))) (aJ (bq (yg))) (eF))
 (aF (i9 Mn (nI nm.range (aI (bu (aB 0) (bB)) (a8))) (gb 3 cY.nd) (aF (gI (bK (mF hr.units) (bD fJ nm.tuple (aI (bD jh nm.sorted (aI (dH (bt (N:=["_law_web", "_law_names", "_law_other", "_law_place", "_law_near"]) (sc:=ao bI) (Nc:=["_law_one", "_law_names"]) (cap:=[none,some 1]) rfl rfl (by decide +kernel)) (qf (aG d_star_of (hr.mono (by decide)) (aI (aB 0) (aI (aB 3) (a8))))) (fun _ _ _ _ _=>gb 0 jX) (fun _ _ _ _ _=>fD) (fun _ _ _ _ _=>bu (aB 1) (aB 0))) (a8))) (a8))) (aG d_star_of (hr.mono (by decide)) (aI (aB 2) (aI (bu (aB 1) (aB 3)) (a8))))) (aJ (bq (yg))) (eF))
 (aF (jx 4 cY.nd (bt (N:=["_law_web", "_law_names", "_law_other", "_law_place", "_law_near"]) (sc:=ao bI) (Nc:=["_law_one", "_law_web", "_law_place"]) (cap:=[none,some 0,some 3]) rfl rfl (by decide +kernel)) (nI nm.range (aI (bu (aB 0) (bB)) (a8))) (fun _ _ _ _ _=>gb 0 jW) (fun _ _ _ _ _=>lS (bK (Dq hr.units) (aG d_far_of (hr.mono (by decide)) (aI (aB 1) (aI (aB 2) (aI (aB 0) (a8))))) (cF (aI (bB) (aI (bB) (a8)))))) (fun _ _ _ _ _=>aB 0))
 (aJ (gI (bK (mF hr.units) (aG d_star_of (hr.mono (by decide)) (aI (aB 0) (aI (aB 3) (a8)))) (bD fJ nm.tuple (aI (aB 4) (a8)))) (aJ (bq (yg))) (eF))))))
 (aJ (bq (yg)))))
theorem Fm (nm:Nm mg) {f:Addr}{fd:FuncData} (F:gW K "law" "law" ke f fd) (d__law_cell_at:cE P w K mg base (cD K w) 1 "_law_cell_at" 2 dX) (d__law_pen_of:cE P w K mg base (cD K w) 1 "_law_pen_of" 1 eS) (d__law_web_by:cE P w K mg base (cD K w) 5 "_law_web_by" 1 eR) (d_web_of:cE P w K mg base (cD K w) 6 "web_of" 2 gN) (d__law_steps_right:cE P w K mg base (cD K w) 9 "_law_steps_right" 1 cy) (d__law_named_right:cE P w K mg base (cD K w) 8 "_law_named_right" 2 bQ) (d__law_names_by:cE P w K mg base (cD K w) 3 "_law_names_by" 2 b8):pY P w K mg base yp 10 f fd ["_law_script"] (Dk (cD K w) 1 tp):=
 G0 F rM rfl fun cdv A outer s H E hr=>
 aF (i9 Mn (qf (eC (iJ (aI (aG d__law_cell_at (hr.mono (by decide)) (aI (aB 0) (aI (bB) (a8)))) (a8))) (Dp (aB 0) (nP (bB)) (nP (bB))))) (gb 1 rM.nd) (aF (cu 2 rM.nd (aG d__law_pen_of (hr.mono (by decide)) (aI (aB 1) (a8))))
 (aF (cu 3 rM.nd (aG d__law_web_by (hr.mono (by decide)) (aI (aB 2) (a8))))
 (aF (gI (bK (mF hr.units) (aG d_web_of (hr.mono (by decide)) (aI (bu (aB 3) (bB)) (aI (yS (dH (bt (N:=["_law_script", "_law_cell", "_law_pen", "_law_web"]) (sc:=ao ke) (Nc:=["_law_tie"]) (cap:=[none]) rfl rfl (by decide +kernel)) (qf (bu (aB 3) (bB))) (fun _ _ _ _ _=>gb 0 Ac) (fun _ _ _ _ _=>fD) (fun _ _ _ _ _=>yS (aB 0) (CU (bB)))) (CU (bB))) (a8)))) (aB 3)) (aJ (bq (yg))) (eF))
 (aJ (gI (nY (wU (k6 (yk (aG d__law_steps_right (hr.mono (by decide)) (aI (aB 3) (a8))))) (sU (k6 (yk (aG d__law_named_right (hr.mono (by decide)) (aI (aB 3) (aI (aG d__law_names_by (hr.mono (by decide)) (aI (aB 2) (aI (bu (aB 3) (bB)) (a8)))) (a8))))))))) (aJ (bq (yg))) (eF)))))))
 (aJ (bq (yg)))
end
end Lw
namespace Lv
variable {adj:Int->Int->Prop}{p:Int}
def R (adj:Int->Int->Prop) (p:Int):Nat->Int->Prop
 | 0,q=>q=p
 | n+1,q=>R adj p n q\/∃ r,adj r q/\R adj p n r
def pV (adj:Int->Int->Prop) (p:Int):Nat->Int->Prop
 | 0,q=>q=p
 | n+1,q=>R adj p (n+1) q/\¬ R adj p n q
theorem R.up {n:Nat}{q:Int} (h:R adj p n q):R adj p (n+1) q:=.inl h
theorem R.mono {n m:Nat}{q:Int} (h:R adj p n q) (hm:n<=m):R adj p m q:=by
 induction hm with
 | refl=>exact h
 | step _ ih=>exact ih.up
theorem pV.r {n:Nat}{q:Int} (h:pV adj p n q):R adj p n q:=by
 cases n with
 | zero=>exact h
 | succ n=>exact h.1
theorem R.lev {n:Nat}{q:Int} (h:R adj p n q):∃ j,j<=n/\pV adj p j q:=by
 induction n with
 | zero=>exact ⟨0,Jp _,h⟩
 | succ n ih=>
  by_cases hr:R adj p n q
  ·obtain ⟨j, hj, hl⟩ := ih hr
   exact ⟨j,by omega,hl⟩
  ·exact ⟨n+1,Jp _,h,hr⟩
theorem pV.low {n j:Nat}{q:Int} (h:pV adj p n q) (hj:j<n):¬ R adj p j q:=by
 cases n with
 | zero=>omega
 | succ n=>exact fun hr=>h.2 (hr.mono (by omega))
theorem pV.one {n m:Nat}{q:Int} (h:pV adj p n q) (h':pV adj p m q):n=m:=by
 rcases Nat.lt_trichotomy n m with z | z | z
 ·exact absurd h.r (h'.low z)
 ·exact z
 ·exact absurd h'.r (h.low z)
theorem je {n:Nat}{q:Int}:pV adj p (n+1) q↔¬ R adj p n q/\∃ r,adj r q/\pV adj p n r:=by
 constructor
 ·rintro ⟨h1, h2⟩
  refine ⟨h2,?_⟩
  rcases h1 with h1 | ⟨r,ha,hr⟩
  ·exact absurd h1 h2
  ·refine ⟨r, ha, ?_⟩
   cases n with
   | zero=>exact hr
   | succ n=>exact ⟨hr,fun z=>h2 (.inr ⟨r,ha,z⟩)⟩
 ·rintro ⟨h1, r, ha, hr⟩
  exact ⟨.inr ⟨r,ha,hr.r⟩,h1⟩
def Up (adj:Int->Int->Prop) (p:Int) (D:Int->Prop) (n:Nat) (f:Int->Option Nat):Prop:=∀ q,D q->∀ j,f q=some j↔(j<=n/\pV adj p j q)
theorem Up.none {D:Int->Prop}{n:Nat}{f:Int->Option Nat} (h:Up adj p D n f) {q:Int} (hq:D q):f q=none↔¬ R adj p n q:=by
 constructor
 ·intro e hr
  obtain ⟨j,hj,hl⟩:=hr.lev
  have:=(h q hq j).mpr ⟨hj,hl⟩
  rw [e] at this;cases this
 ·intro hr
  cases e:f q with
  | none=>rfl
  | some j=>
   obtain ⟨hj,hl⟩:=(h q hq j).mp e
   exact absurd (hl.r.mono hj) hr
theorem wM {D:Int->Prop}{f:Int->Option Nat} (h:∀ q,D q->f q=if q=p then some 0 else Option.none):Up adj p D 0 f:=fun q hq j=>by
 rw [h q hq]
 by_cases e:q=p
 ·rw [ID e]
  constructor
  ·intro z;cases z;exact ⟨Jp _,e⟩
  ·rintro ⟨h1, _⟩
   have:j=0:=by omega
   rw [this]
 ·rw [IE e]
  constructor
  ·intro z;cases z
  ·rintro ⟨h1, h2⟩
   have:j=0:=by omega
   subst this
   exact absurd h2 e
theorem Up.next {D:Int->Prop}{n:Nat}{f f':Int->Option Nat} (h:Up adj p D n f) (hD:∀ a b,adj a b->D a) (e:∀ q,D q->∀ j,f' q=some j↔(f q=some j\/(f q=Option.none/\j=n+1/\∃ r,adj r q/\f r=some n))):Up adj p D (n+1) f':=fun q hq j=>by
 rw [e q hq j]
 constructor
 ·rintro (z | ⟨z1, z2, r, z3, z4⟩)
  ·obtain ⟨hj, hl⟩ := (h q hq j).mp z
   exact ⟨by omega,hl⟩
  ·subst z2
   refine ⟨Jp _,je.mpr ⟨(h.none hq).mp z1,r,z3,?_⟩⟩
   exact ((h r (hD r q z3) n).mp z4).2
 ·rintro ⟨hj, hl⟩
  by_cases hn:j<=n
  ·exact .inl ((h q hq j).mpr ⟨hn,hl⟩)
  ·have : j = n + 1 := by omega
   subst this
   obtain ⟨h1,r,ha,hr⟩:=je.mp hl
   exact .inr ⟨(h.none hq).mpr h1,rfl,r,ha,(h r (hD r q ha) n).mpr ⟨Jp _,hr⟩⟩
def mI (adj:Int->Int->Prop) (p:Int) (D:Int->Prop) (f:Int->Option Nat):Prop:=∀ q,D q->∀ j,f q=some j↔pV adj p j q
theorem mI.eq {D:Int->Prop}{f g:Int->Option Nat} (h:mI adj p D f) (h':mI adj p D g) {q:Int} (hq:D q):f q=g q:=by
 apply Option.ext
 intro j
 rw [h q hq j,h' q hq j]
theorem pV.below {n:Nat}:∀ {q:Int},pV adj p n q->∀ j,j<=n->∃ r,pV adj p j r:=by
 induction n with
 | zero => intro q h j hj; exact ⟨q, by have : j = 0 := by omega
                                        subst this;exact h⟩
 | succ n ih=>
  intro q h j hj
  by_cases e:j=n+1
  ·subst e;exact ⟨q,h⟩
  ·obtain ⟨_, r, _, hr⟩ := je.mp h
   exact ih hr j (by omega)
theorem Up.full {D:Int->Prop}{n:Nat}{f:Int->Option Nat} (h:Up adj p D n f) (hD:∀ a b,adj a b->D b) (e:∀ q,D q->¬ pV adj p (n+1) q):mI adj p D f:=fun q hq j=>by
 rw [h q hq j]
 constructor
 ·exact fun z=>z.2
 ·intro hl
  refine ⟨?_,hl⟩
  apply Nat.le_of_not_lt
  intro hj
  obtain ⟨r,hr⟩:=hl.below (n+1) (by omega)
  obtain ⟨_,s,hs,_⟩:=je.mp hr
  exact e r (hD s r hs) hr
theorem uY {m:Nat} (hp:0<=p/\p<m) (hD:∀ a b,adj a b->0<=b/\b<m) {n:Nat}{q:Int} (h:pV adj p n q):n<m:=by
 have hr:∀ j,∃ r,j<=n->pV adj p j r:=fun j=>by
  by_cases hj:j<=n
  ·obtain ⟨r,hr⟩:=h.below j hj;exact ⟨r,fun _=>hr⟩
  ·exact ⟨0,fun z=>absurd z hj⟩
 let r:Nat->Int:=fun j=>(hr j).choose
 have hr':∀ j,j<=n->pV adj p j (r j):=fun j hj=>(hr j).choose_spec hj
 have rng:∀ j,j<=n->0<=r j/\r j<m:=fun j hj=>by
  have:=hr' j hj
  cases j with
  | zero=>rw [show r 0=p from this];exact hp
  | succ j=>
   obtain ⟨_,s,hs,_⟩:=je.mp this
   exact hD s _ hs
 have nd:((List.range (n+1)).map fun j=>(r j).toNat).Nodup:=by
  rw [List.Nodup,LR]
  refine List.Pairwise.imp_of_mem (R:=(·<·)) ?_ Lh
  intro a b ha hb hab e
  rw [IL] at ha hb
  have r1:=rng a (by omega)
  have r2:=rng b (by omega)
  have e':r a=r b:=by omega
  have h1:=hr' a (by omega)
  have h2:=hr' b (by omega)
  rw [e'] at h1
  have:=h1.one h2
  omega
 have sub:((List.range (n+1)).map fun j=>(r j).toNat) ⊆ List.range m:=fun x hx=>by
  obtain ⟨j,hj,rfl⟩:=K1.mp hx
  rw [IL] at hj ⊢
  have:=rng j (by omega)
  omega
 have:=nd.length_le_of_subset sub
 rw [JI,KR,KR] at this;omega
end Lv
namespace Lv
def ly (f:Int->Option Nat) (r:Int) (v:Nat):Int->Option Nat:=fun q=>if q=r then some v else f q
def yl (n:Nat) (f:Int->Option Nat) (qr:Int × Int):Int->Option Nat:=if f qr.1=some n/\f qr.2=none then ly f qr.2 (n+1) else f
theorem A8 {n:Nat}{f0 f:Int->Option Nat}{done:List (Int × Int)}{qr:Int × Int}
  (h:∀ q j,f q=some j↔(f0 q=some j\/(f0 q=none/\j=n+1/\∃ r,(r,q)∈done/\f0 r=some n))) :
  ∀ q j,yl n f qr q=some j↔(f0 q=some j\/(f0 q=none/\j=n+1/\∃ r,(r,q)∈done++[qr]/\f0 r=some n)):=by
 intro q j
 have hn:∀ r,f r=some n↔f0 r=some n:=fun r=>by
  rw [h r n]
  constructor
  ·rintro (z | ⟨_, z, _⟩)
   ·exact z
   ·omega
  ·exact .inl
 have h0:∀ r,f r=none->f0 r=none:=fun r e=>by
  cases e0:f0 r with
  | none=>rfl
  | some i=>
   have:=(h r i).mpr (.inl e0)
   rw [e] at this;cases this
 obtain ⟨a,b⟩:=qr
 unfold yl
 dsimp only
 by_cases c:f a=some n/\f b=none
 ·rw [ID c]
  unfold ly
  by_cases e:q=b
  ·subst e
   rw [ID rfl]
   have z:=h0 q c.2
   constructor
   ·intro e; cases e
    exact .inr ⟨z,rfl,a,by simp,(hn a).mp c.1⟩
   ·rintro (y | ⟨_, y, _⟩)
    ·rw [z] at y;cases y
    ·rw [y]
  ·rw [IE e, h q j]
   constructor
   ·rintro (y | ⟨y1, y2, r, y3, y4⟩)
    ·exact .inl y
    ·exact .inr ⟨y1,y2,r,IW _ y3,y4⟩
   ·rintro (y | ⟨y1, y2, r, y3, y4⟩)
    ·exact .inl y
    ·rcases IV.mp y3 with y3 | y3
     ·exact .inr ⟨y1,y2,r,y3,y4⟩
     ·simp at y3;exact absurd y3.2 e
 ·rw [IE c, h q j]
  constructor
  ·rintro (y | ⟨y1, y2, r, y3, y4⟩)
   ·exact .inl y
   ·exact .inr ⟨y1,y2,r,IW _ y3,y4⟩
  ·rintro (y | ⟨y1, y2, r, y3, y4⟩)
   ·exact .inl y
   ·rcases IV.mp y3 with y3 | y3
    ·exact .inr ⟨y1,y2,r,y3,y4⟩
    ·simp at y3
     obtain ⟨rfl,rfl⟩:=y3
     have c2:f q≠none:=fun z=>c ⟨(hn r).mpr y4,z⟩
     cases e:f q with
     | none=>exact absurd e c2
     | some i=>
      have:=(h q i).mp e
      rcases this with w | ⟨w1,w2,w3⟩
      ·rw [y1] at w;cases w
      ·exact .inr ⟨y1,y2,w3⟩
theorem t4 {n:Nat}{f0:Int->Option Nat}:∀ (qs done:List (Int × Int)) (f:Int->Option Nat),
  (∀ q j,f q=some j↔(f0 q=some j\/(f0 q=none/\j=n+1/\∃ r,(r,q)∈done/\f0 r=some n))) ->
  ∀ q j,qs.foldl (yl n) f q=some j↔(f0 q=some j\/(f0 q=none/\j=n+1/\∃ r,(r,q)∈done++qs/\f0 r=some n))
 | [],done,f,h=>by simpa using h
 | qr::qs,done,f,h=>by
  have:=t4 qs (done++[qr]) (yl n f qr) (A8 h)
  simpa [Ke] using this
theorem zI {adj:Int->Int->Prop}{p:Int}{D:Int->Prop}{n:Nat}{f:Int->Option Nat}{qs:List (Int × Int)} (h:Up adj p D n f) (hD:∀ a b,adj a b->D a) (ha:∀ a b,adj a b↔(a,b)∈qs):Up adj p D (n+1) (qs.foldl (yl n) f):=by
 refine h.next hD fun q hq j=>?_
 have:=t4 (n:=n) (f0:=f) qs [] f (fun q j=>by simp) q j
 rw [this]
 simp only [Kj,ha]
def yr (ks:List (List Int)) (a b:Int):Bool:=decide ([min a b,max a b]∈ks)
def rg (m:Nat):List Int:=(List.range m).map Int.ofNat
def bL (m:Nat) (ks:List (List Int)) (p:Int):List Int:=(rg m).filter fun q=>decide (q=p) || yr ks p q
theorem ij {m:Nat}{p:Int}:p∈rg m↔0<=p/\p<m:=by
 unfold rg
 rw [K1]
 constructor
 ·rintro ⟨i, hi, rfl⟩
  have:=IL.mp hi
  exact ⟨Int.natCast_nonneg _,by simpa using this⟩
 ·rintro ⟨h0, h1⟩
  exact ⟨p.toNat,IL.mpr (by omega),by simp;omega⟩
theorem uV {m:Nat}:(rg m).length=m:=by simp [rg]
theorem yE {m:Nat}:(rg m).Pairwise (·<·):=by
 unfold rg
 rw [LR]
 exact Lh.imp fun h=>by simpa using h
structure Iv (m k:Nat) (w:List Int):Prop where
 len:w.length=k+1
 nd:w.Nodup
 rng:∀ p∈w,0<=p/\p<(m:Int)
end Lv
namespace Lv
section
variable {adj adj':Int->Int->Prop}{D:Int->Prop}{p:Int}
theorem R.add {q:Int}{n:Nat} (h:R adj p n q):∀ {k:Nat}{r:Int},R adj q k r->R adj p (n+k) r
 | 0,r,e=>by have:r=q:=e;subst this;exact h
 | k+1,r,e=>by
  rcases e with e | ⟨t,e1,e2⟩
  ·exact .inl (R.add h e)
  ·exact .inr ⟨t,e1,R.add h e2⟩
theorem sf {n:Nat}:∀ {k:Nat}{q:Int},R adj p (n+k) q->∃ r,R adj p n r/\R adj r k q
 | 0,q,h=>⟨q,h,rfl⟩
 | k+1,q,h=>by
  rcases h with h | ⟨t,h1,h2⟩
  ·obtain ⟨r, a, b⟩ := sf (k := k) h
   exact ⟨r,a,.inl b⟩
  ·obtain ⟨r, a, b⟩ := sf (k := k) h2
   exact ⟨r,a,.inr ⟨t,h1,b⟩⟩
theorem R.one {a b:Int} (h:adj a b):R adj a 1 b:=.inr ⟨a,h,rfl⟩
theorem R.self {n:Nat}:R adj p n p:=R.mono (n:=0) (show p=p from rfl) (Ky n)
theorem qt (hs:∀ a b,adj a b->adj b a):∀ {n:Nat}{q:Int},R adj p n q->R adj q n p
 | 0,q,h=>by have:q=p:=h;exact this.symm
 | n+1,q,h=>by
  rcases h with h | ⟨r,h1,h2⟩
  ·exact .inl (qt hs h)
  ·have := R.add (R.one (hs _ _ h1)) (qt hs h2)
   rw [Nat.add_comm] at this
   exact this
theorem yQ (hD:∀ a b,adj a b->D b) (hp:D p):∀ {n:Nat}{q:Int},R adj p n q->D q
 | 0,q,h=>by have:q=p:=h;subst this;exact hp
 | n+1,q,h=>by
  rcases h with h | ⟨r,h1,_⟩
  ·exact yQ hD hp h
  ·exact hD _ _ h1
theorem kE {j:Nat} (hD:∀ a b,adj a b->D b) (ha:∀ a b,adj' a b↔(a≠b/\D a/\D b/\R adj a j b)) (hp:D p):∀ {k:Nat}{q:Int},R adj' p k q↔R adj p (j * k) q
 | 0,q=>Iff.rfl
 | k+1,q=>by
  rw [Nat.mul_succ]
  constructor
  ·rintro (h | ⟨r, h1, h2⟩)
   ·exact (kE hD ha hp |>.mp h).mono (LJ _ _)
   ·exact R.add ((kE hD ha hp).mp h2) ((ha _ _).mp h1).2.2.2
  ·intro h
   obtain ⟨r,h1,h2⟩:=sf h
   have dr:D r:=yQ hD hp h1
   by_cases e:r=q
   ·subst e;exact .inl ((kE hD ha hp).mpr h1)
   ·exact .inr ⟨r,(ha _ _).mpr ⟨e,dr,yQ hD dr h2,h2⟩,(kE hD ha hp).mpr h1⟩
theorem se {k:Nat} (hD:∀ a b,adj a b->D a) (h:∀ q,D q->R adj p (k+1) q->R adj p k q) (hD':∀ a b,adj a b->D b) (hp:D p):∀ {n:Nat}{q:Int},R adj p (k+n) q->R adj p k q
 | 0,q,e=>e
 | n+1,q,e=>by
  rcases e with e | ⟨r,e1,e2⟩
  ·exact se hD h hD' hp e
  ·exact h q (hD' _ _ e1) (.inr ⟨r,e1,se hD h hD' hp e2⟩)
theorem R.most {m:Nat} (hp:0<=p/\p<(m:Int)) (hD:∀ a b,adj a b->0<=b/\b<(m:Int)) {n:Nat}{q:Int} (h:R adj p n q):R adj p (m - 1) q:=by
 obtain ⟨j,_,hl⟩:=R.lev h
 have:=uY (m:=m) hp hD hl
 exact hl.r.mono (by omega)
theorem tm {f:Int->Int} (hD:∀ a b,adj a b->D a) (hD':∀ a b,adj' a b->D a) (hf:∀ a,D a->D (f a)) (hs:∀ b,D b->∃ a,D a/\f a=b) (hi:∀ a b,D a->D b->f a=f b->a=b)
  (ha:∀ a b,D a->D b->(adj a b↔adj' (f a) (f b))) (hp:D p):∀ {n:Nat}{q:Int},D q->(R adj p n q↔R adj' (f p) n (f q))
 | 0,q,hq=>⟨fun h=>by have:q=p:=h;subst this;exact rfl,fun h=>hi _ _ hq hp h⟩
 | n+1,q,hq=>by
  constructor
  ·rintro (h | ⟨r, h1, h2⟩)
   ·exact .inl ((tm hD hD' hf hs hi ha hp hq).mp h)
   ·exact .inr ⟨f r,(ha _ _ (hD _ _ h1) hq).mp h1,(tm hD hD' hf hs hi ha hp (hD _ _ h1)).mp h2⟩
  ·rintro (h | ⟨r, h1, h2⟩)
   ·exact .inl ((tm hD hD' hf hs hi ha hp hq).mpr h)
   ·obtain ⟨a, da, rfl⟩ := hs r (hD' _ _ h1)
    exact .inr ⟨a,(ha _ _ da hq).mpr h1,(tm hD hD' hf hs hi ha hp da).mpr h2⟩
end
end Lv
namespace Lw
open PySem L2 RS
theorem bp:1000<=sizeLine:=by decide
theorem oI {lo:Int}{n:Nat}:aW lo n=(List.range n).map fun (i:Nat)=>D.int (lo+(i:Int)):=rfl
theorem wc {μ:aA} (s:Int):∃ r:Int,fA [.int s] μ=.ok (.int r) μ:=by
 have h0:0<=(s+7919) % 2147483647:=Mo _ (by decide)
 have h1:(s+7919) % 2147483647<2147483647:=Mp _ (by decide)
 generalize ht:(s+7919) % 2147483647=t at h0 h1
 refine ⟨(t * t+48271 * t+12345) % 2147483629,?_⟩
 have c1:sS t t:=.inl ⟨by omega,by omega⟩
 have c2:sS 48271 t:=.inl ⟨by omega,by omega⟩
 unfold fA
 rw [eW]
 simp [nG,ht,c1,c2]
 exact cf (by simp)
def bC (a b c:Int):O:=.lst [.int a,.int b,.int c]
theorem nS {n:Nat}{a b c:Int}:(bC a b c).low n:=by simp [bC,O.low]
theorem DZ {μ:aA} (x:Int):∃ a b c:Int,eS [.int x] μ=.ok (.obj μ.length) (μ++[bC a b c]):=by
 have e:∀ i j:Int,sP [.int i,.int j] μ=.ok (.int (if j > i then j else i)) μ:=fun _ _=>rfl
 have p1:Dz 10 18:=⟨by decide,by decide,by decide⟩
 have ib:∀ k:Bool,∀ μ,nr [.bl k] μ=.ok (.int (if k then 1 else 0)) μ:=fun _ _=>rfl
 refine ⟨(if 0 - x > x then 0 - x else x),(if dh .GtE (if 0 - x > x then 0 - x else x) (10 ^ (18:Int).toNat) then 1 else 0),(if 0 - x > x then 0 - x else x) % 1000003,?_⟩
 unfold eS
 rw [eW]
 have l3:(3:Nat)<=sizeLine:=by decide
 simp only [lu,aT,a9,aC,ar,ay,ah,ai,az,aX,aa,ab,Dd,e,cH,aH,bb,gm,List.set,List.replicate,Mq,Mr]
 have pw:Ds (.int 10) (.int 18) μ=.ok (.int (10 ^ (18:Int).toNat)) μ:=mQ p1
 have md:∀ x,pW (.int x) (.int 1000003) μ=.ok (.int (x % 1000003)) μ:=fun x=>mQ (show (0:Int)<1000003 by decide)
 simp only [pw,md,aa,dM,ib,Kq,KS,ID l3,ab,aN]
 rw [vU (by simp)]
 rfl
theorem wg {μ:aA}{i:Nat}{a b c m:Int} (hp:μ[i]?=some (bC a b c)) (h0:0<m) (h1:m<1000) :
  ∃ r a' b' c':Int,0<=r/\r<m/\aY [.obj i,.int m] μ=.ok (.int r) (μ.set i (bC a' b' c')):=by
 have hi:i<μ.length:=(IX.mp hp).1
 have hp':μ[i]?=some (.lst [.int a,.int b,.int c]):=hp
 have md:∀ {x:Int}{μ:aA},pW (.int x) (.int m) μ=.ok (.int (x % m)) μ:=fun {x μ}=>mQ (show (fun _ j=>(0:Int)<j) x m from h0)
 have fd:∀ {x:Int}{μ:aA},tf (.int x) (.int m) μ=.ok (.int (x / m)) μ:=fun {x μ}=>mQ (show AY x m from ⟨h0,by omega⟩)
 have f64:∀ {x:Int}{μ:aA},tf (.int x) (.int 64) μ=.ok (.int (x / 64)) μ:=fun {x μ}=>mQ (show AY x 64 from ⟨by decide,by decide⟩)
 unfold aY
 rw [dq]
 by_cases hb:b=1
 ·subst hb
  refine ⟨a % m,a / m,1,c,Mo _ (by omega),Mp _ h0,?_⟩
  simp only [kz,aT,bx,bO,az,ah,ai,aX,aa]
  rw [gR hp' yP]
  simp only [aa,du,Kn,JQ,aM,ab,aT,a9,az,ah,ai,aX]
  simp only [Ko,JP,JQ,aT,a9,az,ah,ai,aX,aa]
  rw [gR hp' vZ]
  simp only [aa,md,ab,cH,aH,List.replicate,Mq,Mr,ah,ai,aX,az,a9,aT]
  rw [gR hp' vZ]
  simp only [aa,fd,ab,kH,ah,ai,aX]
  rw [lZ hp' (mP (by decide) (by simp))]
  simp only [aa,ab,aH,bb,ah,ai,rL,aN]
  exact wD (by simp only [Cq]) (nS (a:=a / m) (b:=1) (c:=c))
 ·obtain ⟨s1, e1⟩ := wc (μ := μ) c
  obtain ⟨s2,e2⟩:=wc (μ:=μ) (s1+7)
  refine ⟨s2 / 64 % m,a,b,s2,Mo _ (by omega),Mp _ h0,?_⟩
  have hb':(b == 1)=false:=by simpa using hb
  simp only [kz,aT,bx,bO,az,ah,ai,aX,aa]
  rw [gR hp' yP]
  simp only [aa,du,hb',aM,ab,Ko,JP,bG,aH,aT,a9,aC,ar,ay,az,ah,ai,aX]
  rw [gR hp' Dh]
  simp only [aa,e1,gC,e2,ab,kH,ah,ai,aX]
  rw [lZ hp' (mP (by decide) (by simp))]
  have hg:(μ.set i (.lst ([D.int a,D.int b,D.int c].set (2:Int).toNat (.int s2))))[i]?=some (.lst [D.int a,D.int b,D.int s2]):=by rw [IZ hi];rfl
  simp only [aa,ab,aH,bb,az,ah,ai,aX]
  rw [gR hg Dh]
  simp only [aa,f64,md,ab,aN]
  exact wD (by simp) (nS (a:=a) (b:=b) (c:=s2))
theorem aV {μ g:aA}{i:Nat}{o:O} (h:μ[i]?=some o):(μ++g)[i]?=some o:=by
 rw [JE (IX.mp h).1];exact h
theorem lY {μ g:aA}{i:Nat}{o:O} (h:i<μ.length):(μ++g).set i o=μ.set i o++g:=by
 rw [List.set_append_left _ _ h]
theorem gw {μ:aA}{i:Nat}{o:O} (h:i<μ.length):(μ.set i o)[i]?=some o:=IZ h
theorem qS {β γ:Type}{f:β->γ}:∀ {l:List β}{i:Nat},(l.map f).eraseIdx i=(l.eraseIdx i).map f
 | [],_=>rfl
 | _::_,0=>rfl
 | x::r,i+1=>by simp [qS (l:=r) (i:=i)]
theorem Cg {μ:aA}{i:Nat}{a b c:Int}{L:List Int}{ys:List D}{x:D} (hi:i<μ.length) (hL:0<L.length) (hL2:L.length<1000) :
  ∃ (r:Nat) (y:Int) (a' b' c':Int),L[r]?=some y/\dN [some x,some (.obj μ.length),some (.obj i)] ((μ.set i (bC a b c)++[.lst (L.map D.int)])++.lst ys::[]) =
   .ok (.int y) ((μ.set i (bC a' b' c')++[.lst ((L.eraseIdx r).map D.int)])++.lst ys::[]):=by
 have hn:((μ.set i (bC a b c)++[.lst (L.map D.int)])++.lst ys::[])[μ.length]?=some (.lst (L.map D.int)):=by
  have e:μ.length=(μ.set i (bC a b c)).length:=by simp
  rw [Ke,e]
  exact av
 have hp:((μ.set i (bC a b c)++[.lst (L.map D.int)])++.lst ys::[])[i]?=some (bC a b c):=aV (aV (gw hi))
 obtain ⟨r,a',b',c',h0,h1,e⟩:=wg (m:=(L.length:Int)) hp (by omega) (by omega)
 have hr:r.toNat<L.length:=by omega
 refine ⟨r.toNat,L[r.toNat],a',b',c',L1 hr,?_⟩
 have hset:((μ.set i (bC a b c)++[O.lst (L.map D.int)])++O.lst ys::[]).set i (bC a' b' c')=(μ.set i (bC a' b' c')++[O.lst (L.map D.int)])++O.lst ys::[]:=by
  rw [lY (by simp;omega),lY (by simpa using hi),List.set_set]
 have hn':((μ.set i (bC a' b' c')++[.lst (L.map D.int)])++.lst ys::[])[μ.length]?=some (.lst (L.map D.int)):=by
  have e:μ.length=(μ.set i (bC a' b' c')).length:=by simp
  rw [Ke,e]
  exact av
 have hl:Dm (.obj μ.length) ((μ.set i (bC a b c)++[.lst (L.map D.int)])++.lst ys::[])=true:=by
  unfold Dm;simp only [hn]
 unfold dN
 simp only [G2,ai,ah,aa,hl,JQ,ar,ay,aC]
 rw [CI hn]
 simp only [aa,JI]
 rw [e]
 simp only [aa,hset]
 unfold ot
 dsimp only
 rw [hn']
 dsimp only
 rw [mP h0 (by simpa using h1)]
 dsimp only
 rw [JF,L1 hr]
 dsimp only [Option.map_some]
 rw [ID (by omega)]
 congr 1
 have e2:μ.length=(μ.set i (bC a' b' c')).length:=by simp
 rw [Ke,e2]
 show (μ.set i (bC a' b' c')++O.lst (L.map D.int)::[O.lst ys]).set _ _=_
 rw [kf,Ke]
 congr 2
 congr 1
 exact qS
theorem vq {L:List Int}{r:Nat}{y:Int} (h:L[r]?=some y):L.Perm (y::L.eraseIdx r):=by
 induction L generalizing r with
 | nil=>simp at h
 | cons x l ih=>
  cases r with
  | zero=>simp at h;subst h;exact List.Perm.refl _
  | succ r=>
   simp at h
   exact ((ih h).cons x).trans (List.Perm.swap y x _)
theorem tE {μ:aA}{i:Nat}{a b c m:Int} (hp:μ[i]?=some (bC a b c)) (h0:1<=m) (h1:m<=6) :
  ∃ (ns:List Int) (a' b' c':Int),ns.Nodup/\(ns.length:Int)=m/\(∀ n∈ns,0<=n/\n<m)/\b8 [.obj i,.int m] μ=.ok (.tup (ns.map D.int)) (μ.set i (bC a' b' c')):=by
 have hi:i<μ.length:=(IX.mp hp).1
 have h00:μ=μ.set i (bC a b c):=by
  apply LO
  intro j
  by_cases hj:i=j
  ·subst hj;rw [gw hi];exact hp
  ·rw [I0 hj]
 let N0:List Int:=(List.range m.toNat).map fun (k:Nat)=>(k:Int)
 have hN0:aW 0 m.toNat=N0.map D.int:=by
  simp only [aW,N0,KO]
  apply KQ;intro k _;simp
 have run:=jg (src:=.fix (aW 0 m.toNat)) (g:=ag 0) (t:=bf) (e:=dN) (n:=μ.length+1)
  (fun xs ys ρ μ1 s=>s=[]/\∃ (o:Option D) (L ns:List Int) (a b c:Int),ρ=[o,some (.obj μ.length),some (.obj i)]/\μ1=μ.set i (bC a b c)++[.lst (L.map D.int)]/\ys=ns.map D.int/\(ns++L).Perm N0/\L.length=xs.length/\xs.length<=6)
  (fun ys ρ μ1 s ⟨_,o,L,ns,a,b,c,_,e,_⟩=>⟨by rw [e];simp,trivial⟩)
  (fun x r ys ρ μ1 s hJJ => by
   obtain ⟨es,o,L,ns,a,b,c,e1,e2,e3,e4,e5,e6⟩:=hJJ
   subst es
   refine ⟨by rw [e2];simp,trivial,[some x,some (.obj μ.length),some (.obj i)],μ1,[],true,μ1,[],by rw [e1];rfl,rfl,fun _=>?_,fun z=>by cases z⟩
   simp only [Kq] at e5 e6
   obtain ⟨j,y,a',b',c',hj,e⟩:=Cg (a:=a) (b:=b) (c:=c) (L:=L) (ys:=ys) (x:=x) hi (by omega) (by omega)
   rw [e2]
   refine ⟨.int y,_,[],e,?_,by simp,rfl,some x,L.eraseIdx j,ns++[y],a',b',c',rfl,rfl,by rw [e3];simp,?_,?_,by omega⟩
   ·rw [e3, JI]
    have:=e4.length_eq
    have hN:N0.length=m.toNat:=by simp [N0]
    rw [JH,hN] at this
    exact IH (show ns.length<1000 by omega) bp
   ·rw [Ke]
    exact (List.Perm.append_left ns (vq hj).symm).trans e4
   ·have hlt := (IX.mp hj).1
    rw [List.length_eraseIdx,ID hlt];omega)
  (xs:=aW 0 m.toNat) (ys:=[]) (ρ:=[none,some (.obj μ.length),some (.obj i)]) (μ1:=μ++[.lst (aW 0 m.toNat)]) (s:=[])
  ⟨rfl,none,N0,[],a,b,c,rfl,by rw [<- h00,hN0],rfl,by simp,by simp [N0,aW],by simp [aW];omega⟩
 obtain ⟨ys',ρ',μ1',s',⟨es,o,L,ns,a',b',c',f1,f2,f3,f4,f5,_⟩,run⟩:=run
 have hLn:L=[]:=Mf (by simpa using f5)
 subst hLn es
 rw [Jv] at f4
 refine ⟨ns,a',b',c',?_,?_,fun n hn=>?_,?_⟩
 ·rw [f4.nodup_iff]
  simp only [N0]
  rw [List.nodup_iff_pairwise_ne,LR]
  exact (K3 (n:=m.toNat)).imp fun h e=>h (by omega)
 ·have := f4.length_eq
  rw [this];simp [N0];omega
 ·have := f4.mem_iff.mp hn
  simp only [N0,K1,IL] at this
  obtain ⟨k,hk,rfl⟩:=this
  omega
 ·unfold b8
  rw [dq]
  have lr:mR [.int m] μ=.ok (.obj μ.length) (μ++[.lst (aW 0 m.toNat)]):=by
   unfold mR;dsimp only;rw [ID (by omega)]
  simp only [jP,aT,a9,aC,ar,ay,ai,ah,aa,lr,ab,cH,aH,bb,bz,bS]
  simp only [List.replicate,Mq,Mr,ai,ah,aa]
  rw [eT (by omega) (by omega)]
  simp only [aa,aP,JH,Kq,KS]
  rw [show d5 [none,some 2,some 0] [some (D.obj i),some (D.int m),some (D.obj μ.length)]=[none,some (.obj μ.length),some (.obj i)] from rfl]
  rw [run]
  simp only [aa]
  have hl:(μ1'++[O.lst ys'])[μ.length+1]?=some (.lst ys'):=by
   have:μ1'.length=μ.length+1:=by rw [f2];simp
   rw [<- this];exact av
  rw [fH hl]
  simp only [ab,aN]
  rw [f2,f3,Ke]
  exact uZ (il.mpr (by simp)) nS
def mE (m:Int) (k:List Int):Prop:=∃ a b:Int,k=[a,b]/\0<=a/\a<b/\b<m
theorem mE.prs {m:Int}{k:List Int} (h:mE m k) (hm:m<=6):k∈prs:=by
 obtain ⟨a,b,rfl,h1,h2,h3⟩:=h
 exact rY h1 h2 (by omega)
def c8 (d:D) (m:Int) (ks:List (List Int)):Prop:=d=.tup [.int m,.tup (ks.map aj)]/\1<=m/\m<=6/\(ks.Pairwise fun a b=>nj a<nj b)/\∀ k∈ks,mE m k
theorem iU {m:Int}{ks:List (List Int)} (h0:1<=m) (h1:m<=6) (hk:∀ k∈ks,mE m k):c8 (.tup [.int m,.tup ((fE ks).map aj)]) m (fE ks):=by
 refine ⟨rfl,h0,h1,lG.filter _,fun k h=>?_⟩
 unfold fE at h
 rw [IK,Md] at h
 exact hk k h.2
theorem gM {m:Int}{ks:List (List Int)}{d:D} (h:c8 d m ks):ks.length<=15:=by
 obtain ⟨_,_,hm,hp,hk⟩:=h
 have hn:ks.Nodup:=hp.imp fun h e=>by subst e;omega
 have hs:ks ⊆ prs:=fun k h=>(hk k h).prs hm
 have:=hn.length_le_of_subset hs
 rw [wq] at this
 exact this
def bM (p:Int × Int):D:=.tup [.int p.1,.int p.2]
theorem l2:(2:Nat)<=sizeLine:=by decide
theorem F7 {u v:Int}{μ:aA}:wX [.tup [.int u,.int v]] μ=.ok (.int (min u v)) μ:=rfl
theorem F9 {u v:Int}{μ:aA}:sP [.tup [.int u,.int v]] μ=.ok (.int (max u v)) μ:=rfl
theorem zx {μ:aA}{m:Int}{ps:List (Int × Int)}{ns:List Int} (h0:1<=m) (h1:m<=6) (hps:∀ p∈ps,0<=p.1/\p.1<m/\0<=p.2/\p.2<m/\p.1≠p.2) (hl:ps.length<1000)
  (hn:ns.Nodup) (hnl:(ns.length:Int)=m) (hnr:∀ n∈ns,0<=n/\n<m) :
  ∃ d ks,c8 d m ks/\fP [.tup [.int m,.tup (ps.map bM)],.tup (ns.map D.int)] μ=.ok d μ:=by
 let nm:Int->Int:=fun k=>ns.getD k.toNat 0
 have nmD:∀ k,0<=k->k<m->atI (ns.map D.int) k=some (.int (nm k)):=fun k k0 k1=>by
  have hk:k.toNat<ns.length:=by omega
  refine rQ k0 ?_
  rw [JF,L1 hk]
  simp [nm,LN,L1 hk]
 have nmR:∀ k,0<=k->k<m->0<=nm k/\nm k<m:=fun k k0 k1=>by
  have hk:k.toNat<ns.length:=by omega
  have:nm k=ns[k.toNat]:=by simp [nm,LN,L1 hk]
  rw [this];exact hnr _ (L0 hk)
 have nmI:∀ j k,0<=j->j<m->0<=k->k<m->j≠k->nm j≠nm k:=fun j k j0 j1 k0 k1 hjk e=>by
  have hj:j.toNat<ns.length:=by omega
  have hk:k.toNat<ns.length:=by omega
  have e1:nm j=ns[j.toNat]:=by simp [nm,LN,L1 hj]
  have e2:nm k=ns[k.toNat]:=by simp [nm,LN,L1 hk]
  rw [e1,e2] at e
  have:=(IY hn).mp e
  omega
 let qs:List (Int × Int):=ps.map fun p=>(nm p.1,nm p.2)
 let ks:List (List Int):=qs.map fun p=>[min p.1 p.2,max p.1 p.2]
 have hks:∀ k∈ks,mE m k:=fun k hk=>by
  simp only [ks,qs,KO,K1,Function.comp_apply] at hk
  obtain ⟨p,hp,rfl⟩:=hk
  obtain ⟨a1,a2,a3,a4,a5⟩:=hps p hp
  have b1:=nmR p.1 a1 a2
  have b2:=nmR p.2 a3 a4
  have b3:=nmI p.1 p.2 a1 a2 a3 a4 a5
  exact ⟨_,_,rfl,by omega,by omega,by omega⟩
 refine ⟨_,_,iU h0 h1 hks,?_⟩
 have c1:compLoop (.fix (ps.map bM)) μ.length (cW 2 (aL (ag 0) (aL (ag 1) cX))) bf fZ (ps.map bM) [none,none,some (.tup (ns.map D.int))] (μ++[.lst []])=.ok (.obj μ.length) (μ++[.lst (qs.map bM)]):=by
  have:=dc (src:=.fix (ps.map bM)) (g:=cW 2 (aL (ag 0) (aL (ag 1) cX))) (t:=bf) (e:=fZ) (μ1:=μ) (q:=fun _=>true)
   (h:=fun d=>match d with | .tup [.int a,.int b]=>bM (nm a,nm b) | _=>.non) (fun ρ=>∃ o1 o2,ρ=[o1,o2,some (.tup (ns.map D.int))]) (fun _=>trivial) (xs:=ps.map bM) (acc:=[]) (ρ:=[none,none,some (.tup (ns.map D.int))]) ⟨none,none,rfl⟩
   (by rw [JI,KS];exact IM (by omega) bp)
   (fun x hx a ρ hJJ => by
    obtain ⟨o1,o2,ho⟩:=hJJ
    obtain ⟨p,hp,rfl⟩:=K1.mp hx
    obtain ⟨a1,a2,a3,a4,a5⟩:=hps p hp
    refine ⟨[some (.int p.1),some (.int p.2),some (.tup (ns.map D.int))],⟨_,_,rfl⟩,by subst ho;rfl,rfl,fun _=>?_⟩
    unfold fZ
    simp only [cv,ar,ay,az,ai,ah,aa]
    rw [iZ (nmD p.1 a1 a2)]
    simp only [aa]
    rw [iZ (nmD p.2 a3 a4)]
    simp only [aa,Kq,KS,ID l2]
    rfl)
  rw [this,Ms.mpr (fun _ _=>rfl)]
  simp only [Kj,KO,qs]
  rfl
 have c2:compLoop (.own μ.length (qs.map bM)) (μ++[O.lst (qs.map bM)]).length (ag 0) bf fY (qs.map bM) [none] ((μ++[O.lst (qs.map bM)])++[.lst []])=.ok (.obj (μ++[O.lst (qs.map bM)]).length) ((μ++[O.lst (qs.map bM)])++[.lst (ks.map aj)]):=by
  have:=dc (src:=.own μ.length (qs.map bM)) (g:=ag 0) (t:=bf) (e:=fY) (μ1:=μ++[O.lst (qs.map bM)]) (q:=fun _=>true)
   (h:=fun d=>match d with | .tup [.int a,.int b]=>aj [min a b,max a b] | _=>.non) (fun ρ=>∃ o1,ρ=[o1]) (fun a=>aV av) (xs:=qs.map bM) (acc:=[]) (ρ:=[none]) ⟨none,rfl⟩
   (by rw [JI,KS];simp only [qs,JI];exact IM (by omega) bp)
   (fun x hx a ρ hJJ => by
    obtain ⟨o1,ho⟩:=hJJ
    obtain ⟨p,hp,rfl⟩:=K1.mp hx
    refine ⟨[some (bM p)],⟨_,rfl⟩,by subst ho;rfl,rfl,fun _=>?_⟩
    unfold fY bM
    simp only [cv,ar,ay,aC,ah,aa,F7,F9,Kq,KS,ID l2]
    rfl)
  rw [this,Ms.mpr (fun _ _=>rfl)]
  simp only [Kj,KO,ks]
  rfl
 have kd:k8 (ks.map aj)=some ks:=oK fun k hk=>(hks k hk).prs h1
 unfold fP
 rw [dq]
 simp only [my,aT,a9,bz,cg,az,ah,ai,aX,aa,g7,jz,aP]
 rw [show d5 [none,none,some 1] (some (D.tup [D.int m,D.tup (List.map bM ps)])::some (D.tup (List.map D.int ns))::List.replicate (3 - 2) none)=[none,none,some (.tup (ns.map D.int))] from rfl,c1]
 simp only [ab,cH,aH,bb,cv,ar,ay,aC,az,ah,ai,aX,aa,List.replicate,Mq,Mr,dw,bz,cg]
 rw [gy av]
 simp only [aa,dE]
 rw [show d5 [none] _=[none] from rfl,c2]
 simp only [aa]
 have s1:lB [.obj (μ++[O.lst (qs.map bM)]).length] (μ++[O.lst (qs.map bM)]++[O.lst (ks.map aj)])=.ok (.obj (μ++[O.lst (qs.map bM)]++[O.lst (ks.map aj)]).length) ((μ++[O.lst (qs.map bM)]++[O.lst (ks.map aj)])++[.set (dv ks)]):=by
  unfold lB;dsimp only;rw [av];dsimp only;unfold nq;rw [kd]
 rw [s1]
 simp only [aa]
 have s2:∀ M:aA,bH [.obj M.length] (M++[.set (dv ks)])=.ok (.obj (M++[O.set (dv ks)]).length) ((M++[.set (dv ks)])++[.lst ((fE ks).map aj)]):=fun M=>by
  unfold bH;dsimp only;rw [av];dsimp only;rw [kq]
 rw [s2]
 simp only [aa]
 rw [fH av]
 simp only [aa,Kq,KS,ID l2,ab,aN]
 rw [Ke,Ke,Ke]
 exact fF (by simp;exact il.mpr (fun x hx=>by obtain ⟨k,_,rfl⟩:=K1.mp hx;simp [aj];exact il.mpr (by simp)))
theorem jf {n:Nat}{d:D}{m:Int}{ks:List (List Int)} (h:c8 d m ks):d.low n:=by
 obtain ⟨rfl,_⟩:=h
 simp
 exact il.mpr fun x hx=>by
  obtain ⟨k,_,rfl⟩:=K1.mp hx
  simp [aj]
  exact il.mpr (by simp)
theorem d9 {lo:Int}{n:Nat}:aW lo (n+1)=.int lo::aW (lo+1) n:=by
 unfold aW
 rw [KN,J5,KO]
 congr 1
 ·simp
 ·apply KQ
  intro i _
  simp only [Function.comp_apply]
  congr 1
  omega
theorem h8 {lo:Int}:aW lo 0=[]:=rfl
theorem kg {lo:Int}{n:Nat} (h:aW lo n=[]):n=0:=by
 cases n with
 | zero=>rfl
 | succ n=>rw [d9] at h;cases h
theorem oP {x:D}:∀ k:Nat,(List.replicate k [x]).flatten=List.replicate k x
 | 0=>rfl
 | k+1=>by rw [Kb,Kc,oP k];rfl
theorem l1:(1:Nat)<=sizeLine:=by decide
theorem HL {M:aA}{m:Nat}{x:D} (hm:m<=6):fQ [some x,some (.int m)] M=.ok (.obj (M.length+1)) (M++[.lst [.non],.lst (List.replicate m .non)]):=by
 unfold fQ
 simp only [az,gm,ar,ay,aX,aa,Kq,KS,ID l1,ai,ah]
 unfold jR
 dsimp only
 rw [av]
 dsimp only
 have hz:(6:Nat)<=sizeLine:=by decide
 rw [ID (by refine ⟨by omega,by omega,?_⟩;simp only [Kq,KS];omega)]
 simp only [JN,oP,JH,Kq,KS,Ke,KW,Kj]
end Lw
namespace Lw
open PySem L2 RS Lv
def lQ:Option Nat->D
 | none=>.non
 | some n=>.int n
theorem xC (o:Option Nat):lQ o=.non\/∃ i,lQ o=.int i:=by
 cases o with
 | none=>exact .inl rfl
 | some n=>exact .inr ⟨n,rfl⟩
def dO (m:Nat) (f:Int->Option Nat):List D:=(List.range m).map fun q:Nat=>lQ (f q)
theorem l8 {m:Nat}{f:Int->Option Nat}{q:Int} (q0:0<=q) (q1:q<m):atI (dO m f) q=some (lQ (f q)):=by
 refine rQ q0 ?_
 unfold dO
 rw [JF,LP (by omega)]
 simp only [Option.map_some,Ll q0]
theorem oH {m:Nat}{f:Int->Option Nat}{q:Int}{v:Nat} (q0:0<=q) (q1:q<m):(dO m f).set q.toNat (.int v)=dO m (ly f q v):=by
 unfold dO
 apply LO
 intro i
 rw [List.getElem?_set,JI,KR,JF,JF]
 by_cases e:q.toNat=i
 ·rw [ID e, ID (by omega), LP (by omega), <- e]
  simp only [Option.map_some,Ll q0,ly,ID rfl]
  rfl
 ·rw [IE e]
  by_cases hi:i<m
  ·rw [LP hi]
   simp only [Option.map_some,ly]
   rw [IE (by omega)]
  ·rw [LQ (by rw [KR]; omega)]
   rfl
def iW (T:Int->Int->Option Nat) (p:Int) (f:Int->Option Nat):Int->Int->Option Nat:=fun p'=>if p'=p then f else T p'
theorem mT {T:Int->Int->Option Nat}{p:Int}{f:Int->Option Nat}:iW T p f p=f:=ID rfl
theorem tH {T:Int->Int->Option Nat}{p:Int}{f g:Int->Option Nat}:iW (iW T p f) p g=iW T p g:=by
 funext p'
 unfold iW
 by_cases e:p'=p
 ·rw [ID e,ID e]
 ·rw [IE e,IE e,IE e]
def FT (μ0:aA) (m a:Nat) (T:Int->Int->Option Nat) (μ:aA):Prop:=μ0.length<=a/\(∀ i,i<μ0.length->μ[i]?=μ0[i]?)/\∃ bs:List Nat,bs.Nodup/\μ[a]?=some (.lst (bs.map D.obj))/\bs.length=m /\
 ∀ (p b:Nat),bs[p]?=some b->μ0.length<=b/\b≠a/\μ[b]?=some (.lst (dO m (T p)))
theorem FT.app {μ0 μ g:aA}{m a:Nat}{T:Int->Int->Option Nat} (h:FT μ0 m a T μ):FT μ0 m a T (μ++g):=by
 obtain ⟨h1,h2,bs,h0,h3,h4,h5⟩:=h
 have hl:μ0.length<=μ.length:=IM h1 (IP (IX.mp h3).1)
 refine ⟨h1,fun i hi=>?_,bs,h0,aV h3,h4,fun p b hb=>?_⟩
 ·rw [JE (by omega)];exact h2 i hi
 ·obtain ⟨g1, g2, g3⟩ := h5 p b hb
  exact ⟨g1,g2,aV g3⟩
theorem FT.pre {μ0 μ:aA}{m a:Nat}{T:Int->Int->Option Nat} (h:FT μ0 m a T μ):∃ g,μ=μ0++g:=by
 obtain ⟨h1,h2,bs,h0,h3,h4,h5⟩:=h
 refine ⟨μ.drop μ0.length,?_⟩
 apply LO
 intro i
 by_cases hi:i<μ0.length
 ·rw [JE hi,h2 i hi]
 ·rw [JD (by omega), Ld]
  congr 1;omega
theorem FT.get {μ0 μ:aA}{m a:Nat}{T:Int->Int->Option Nat}{p:Int} (h:FT μ0 m a T μ) (p0:0<=p) (p1:p<m):∃ b,bW (.obj a) (.int p) μ=.ok (.obj b) μ/\(∀ q:Int,0<=q->q<m->bW (.obj b) (.int q) μ=.ok (lQ (T p q)) μ) /\
  ∀ (q:Int) (v:Nat),0<=q->q<m->∃ μ',uN (.obj b) (.int q) (.int v) μ=.ok () μ'/\(∀ (n:Nat) xs t,μ[n]?=some (.lst xs)->D.tup t∈xs->μ'[n]?=some (.lst xs))/\FT μ0 m a (iW T p (ly (T p) q v)) μ':=by
 obtain ⟨h1,h2,bs,h0,h3,h4,h5⟩:=h
 have hp:p.toNat<bs.length:=by omega
 have hpe:((p.toNat:Nat):Int)=p:=Ll p0
 obtain ⟨g1,g2,g3⟩:=h5 p.toNat bs[p.toNat] (L1 hp)
 rw [hpe] at g3
 refine ⟨bs[p.toNat],gR h3 (rQ p0 (by rw [JF,L1 hp];rfl)),fun q q0 q1=>gR g3 (l8 q0 q1),fun q v q0 q1=>?_⟩
 have hlen:(dO m (T p)).length=m:=by unfold dO;rw [JI,KR]
 refine ⟨_,lZ g3 (mP q0 (by rw [hlen];exact q1)),fun n xs t hn ht=>?_,h1,fun i hi=>?_,bs,h0,?_,h4,fun p' b hb=>?_⟩
 ·by_cases e : bs[p.toNat] = n
  ·subst e
   rw [g3] at hn
   cases hn
   unfold dO at ht
   obtain ⟨j,_,hj⟩:=K1.mp ht
   rcases xC (T p j) with z | ⟨i,z⟩ <;> (rw [z] at hj;cases hj)
  ·rw [I0 e];exact hn
 ·rw [I0 (by omega)];exact h2 i hi
 ·rw [I0 (by omega)];exact h3
 ·obtain ⟨k1, k2, k3⟩ := h5 p' b hb
  obtain ⟨hp',hbe⟩:=IX.mp hb
  refine ⟨k1,k2,?_⟩
  by_cases e:p'=p.toNat
  ·subst e
   rw [hbe,gw (IX.mp (hbe ▸ g3)).1,oH q0 q1,hpe,mT]
  ·have hne : bs[p.toNat] ≠ b := fun z => e ((IY h0).mp (hbe.trans z.symm))
   rw [I0 hne,k3]
   unfold iW
   rw [IE (by omega)]
def sO (ks:List (List Int)):List (Int × Int):=ks.flatMap fun k=>match k with
 | [u,v]=>[(u,v),(v,u)]
 | _=>[]
def js (ks:List (List Int)) (a b:Int):Prop:=(a,b)∈sO ks
theorem Fq {μ:aA}{o:Option Nat}{n:Nat}:d4 false (lQ o) (.int ((n:Int)+1 - 1)) μ=.ok (.bl (decide (o=some n))) μ:=by
 cases o with
 | none=>rfl
 | some k=>
  show d4 false (.int k) (.int ((n:Int)+1 - 1)) μ=_
  rw [du]
  simp only [Ko,JP]
  congr 2
  by_cases e:k=n
  ·subst e;simp
  ·have : ¬ (k : Int) = (n : Int) + 1 - 1 := by omega
   rw [Iz (show ¬ some k=some n by simp [e])]
   exact IA.mpr this
theorem kL {o:Option Nat}:(lQ o).isNon=decide (o=none):=by
 cases o <;> rfl
section
variable {μ0 μ:aA}{m a:Nat}{web:D}{M p u v q r:Int}{n:Nat}{T:Int->Int->Option Nat}{f:Int->Option Nat}
theorem HX (h:FT μ0 m a (iW T p f) μ) (p0:0<=p) (p1:p<m) (q0:0<=q) (q1:q<m) (r0:0<=r) (r1:r<m) :
  ∃ μ',jG [some web,some (.int M),some (.obj a),some (.int p),some (.int ((n:Int)+1)),some (.int u),some (.int v),some (.int q),some (.int r)] μ=.next [some web,some (.int M),some (.obj a),some (.int p),some (.int ((n:Int)+1)),some (.int u),some (.int v),some (.int q),some (.int r)] μ' /\
   (∀ (n:Nat) xs t,μ[n]?=some (.lst xs)->D.tup t∈xs->μ'[n]?=some (.lst xs))/\FT μ0 m a (iW T p (yl n f (q,r))) μ':=by
 obtain ⟨b,e1,e2,k⟩:=h.get p0 p1
 rw [mT] at k e2
 have sub1:∀ x:Int,fC (.int x) (.int 1) μ=.ok (.int (x - 1)) μ:=fun _=>rfl
 unfold jG
 simp only [bx,gB,bO,az,ai,ah,aX,aa,e1,e2 q q0 q1,sub1,Fq,aM]
 unfold yl
 dsimp only
 by_cases c1:f q=some n
 ·simp only [Kk c1, JQ, e1, e2 r r0 r1, aa, rO, kL, Ko, JP, aM, ab]
  by_cases c2:f r=none
  ·obtain ⟨μ', g1, g2, g3⟩ := k r (n + 1) r0 r1
   rw [tH] at g3
   rw [show ((n+1:Nat):Int)=(n:Int)+1 by push_cast;rfl] at g1
   simp only [Kk c2,JQ,a9,ai,ah,ab,kH,az,aa,e1,g1]
   rw [ID ⟨c1,c2⟩]
   exact ⟨μ',rfl,g2,g3⟩
  ·simp only [Iz c2, Ko, JP, bG]
   rw [IE fun z=>c2 z.2]
   exact ⟨μ,rfl,fun _ _ _ h _=>h,h⟩
 ·simp only [Iz c1, Ko, JP, ab, bG]
  rw [IE fun z=>c1 z.1]
  exact ⟨μ,rfl,fun _ _ _ h _=>h,h⟩
theorem fr3 (h:FT μ0 m a (iW T p f) μ) (p0:0<=p) (p1:p<m) (u0:0<=u) (u1:u<m) (v0:0<=v) (v1:v<m) {o7 o8:Option D} :
  ∃ o7' o8' μ',h7 [some web,some (.int M),some (.obj a),some (.int p),some (.int ((n:Int)+1)),some (.int u),some (.int v),o7,o8] μ=.next [some web,some (.int M),some (.obj a),some (.int p),some (.int ((n:Int)+1)),some (.int u),some (.int v),o7',o8'] μ'/\FT μ0 m a (iW T p (yl n (yl n f (u,v)) (v,u))) μ':=by
 unfold h7
 simp only [gn,cg,gm,ar,ay,cv,ai,ah,aa,Kq,KS,ID l2]
 rw [gy av]
 simp only [ab,dE]
 have hn:(μ++[O.lst [.tup [.int u,.int v],.tup [.int v,.int u]]])[μ.length]?=some (.lst [.tup [.int u,.int v],.tup [.int v,.int u]]):=av
 obtain ⟨μ1,e1,e2,e3⟩:=HX (web:=web) (M:=M) (n:=n) (u:=u) (v:=v) (h.app (g:=[O.lst [.tup [.int u,.int v],.tup [.int v,.int u]]])) p0 p1 u0 u1 v0 v1
 have hn1:=e2 _ _ _ hn IR
 obtain ⟨μ2,f1,f2,f3⟩:=HX (web:=web) (M:=M) (n:=n) (u:=u) (v:=v) e3 p0 p1 v0 v1 u0 u1
 have hn2:=f2 _ _ _ hn1 IR
 refine ⟨some (.int v),some (.int u),μ2,?_,f3⟩
 have g1:cW 2 (aL (ag 7) (aL (ag 8) cX)) (.tup [.int u,.int v]) [some web,some (.int M),some (.obj a),some (.int p),some (.int ((n:Int)+1)),some (.int u),some (.int v),o7,o8] (μ++[O.lst [.tup [.int u,.int v],.tup [.int v,.int u]]])=.ok [some web,some (.int M),some (.obj a),some (.int p),some (.int ((n:Int)+1)),some (.int u),some (.int v),some (.int u),some (.int v)] (μ++[O.lst [.tup [.int u,.int v],.tup [.int v,.int u]]]):=rfl
 have g2:cW 2 (aL (ag 7) (aL (ag 8) cX)) (.tup [.int v,.int u]) [some web,some (.int M),some (.obj a),some (.int p),some (.int ((n:Int)+1)),some (.int u),some (.int v),some (.int u),some (.int v)] μ1=.ok [some web,some (.int M),some (.obj a),some (.int p),some (.int ((n:Int)+1)),some (.int u),some (.int v),some (.int v),some (.int u)] μ1:=rfl
 unfold lA
 rw [ID (show di (.own μ.length _) _ from hn),g1,ab,e1,nT]
 unfold lA
 rw [ID (show di (.own μ.length _) _ from hn1),g2,ab,f1,nT]
 unfold lA
 rw [ID (show di (.own μ.length _) _ from hn2)]
theorem Ip {ks:List (List Int)} (hk:∀ k∈ks,mE m k) (h:FT μ0 m a (iW T p f) μ) (p0:0<=p) (p1:p<m) {o5 o6 o7 o8:Option D} :
  ∃ o5' o6' o7' o8' μ',hZ [some (.tup [.int M,.tup (ks.map aj)]),some (.int M),some (.obj a),some (.int p),some (.int ((n:Int)+1)),o5,o6,o7,o8] μ=.next [some (.tup [.int M,.tup (ks.map aj)]),some (.int M),some (.obj a),some (.int p),some (.int ((n:Int)+1)),o5',o6',o7',o8'] μ'/\FT μ0 m a (iW T p ((sO ks).foldl (yl n) f)) μ':=by
 unfold hZ
 simp only [gn,cg,az,ah,aX,aa,g7,jz,ab,aP]
 have run:=d7 (src:=.fix (ks.map aj)) (g:=cW 2 (aL (ag 5) (aL (ag 6) cX))) (fb:=h7)
  (fun xs ρ μ1=>∃ ys zs:List (List Int),xs=zs.map aj/\ks=ys++zs/\FT μ0 m a (iW T p ((sO ys).foldl (yl n) f)) μ1/\∃ o5 o6 o7 o8,ρ=[some (.tup [.int M,.tup (ks.map aj)]),some (.int M),some (.obj a),some (.int p),some (.int ((n:Int)+1)),o5,o6,o7,o8])
  (fun _ _ _=>trivial)
  (fun x xs ρ μ1 hJJ => by
   obtain ⟨ys,zs,hx,hks,hF,o5,o6,o7,o8,e⟩:=hJJ
   subst e
   cases zs with
   | nil=>cases hx
   | cons k zs=>
    injection hx with hx1 hx2
    subst hx1 hx2
    obtain ⟨u,v,rfl,u0,uv,v1⟩:=hk k (by rw [hks];simp)
    obtain ⟨o7',o8',μ3,e1,e3⟩:=fr3 (web:=.tup [.int M,.tup (ks.map aj)]) (M:=M) (n:=n) (u:=u) (v:=v) (o7:=o7) (o8:=o8) hF p0 p1 u0 (by omega) (by omega) v1
    refine ⟨trivial,_,μ1,_,μ3,rfl,e1,ys++[[u,v]],zs,rfl,by rw [hks];simp,?_,_,_,_,_,rfl⟩
    have:sO (ys++[[u,v]])=sO ys++[(u,v),(v,u)]:=by simp [sO]
    rw [this,Ly]
    exact e3)
  (xs:=ks.map aj) (ρ:=[some (.tup [.int M,.tup (ks.map aj)]),some (.int M),some (.obj a),some (.int p),some (.int ((n:Int)+1)),o5,o6,o7,o8]) (μ:=μ)
  ⟨[],ks,rfl,rfl,h,o5,o6,o7,o8,rfl⟩
 obtain ⟨ρ',μ',⟨ys,zs,hx,hks,hF,o5',o6',o7',o8',e⟩,run⟩:=run
 subst e
 have hz:zs=[]:=by cases zs with
  | nil=>rfl
  | cons=>cases hx
 subst hz
 rw [Jv] at hks
 subst hks
 exact ⟨o5',o6',o7',o8',μ',run,hF⟩
theorem fI {ks:List (List Int)} (hk:∀ k∈ks,mE m k) {x y:Int} (h:js ks x y):(0<=x/\x<m)/\(0<=y/\y<m):=by
 unfold js sO at h
 obtain ⟨k,hk',hm⟩:=Mt.mp h
 obtain ⟨u,v,rfl,u0,uv,v1⟩:=hk k hk'
 simp at hm
 omega
theorem fr5 {ks:List (List Int)} (hk:∀ k∈ks,mE m k) (h:FT μ0 m a (iW T p fun _=>none) μ) (p0:0<=p) (p1:p<m) (hm:m<=6) {o4 o5 o6 o7 o8:Option D} :
  ∃ o4' o5' o6' o7' o8' μ' f,hX [some (.tup [.int m,.tup (ks.map aj)]),some (.int m),some (.obj a),some (.int p),o4,o5,o6,o7,o8] μ=.next [some (.tup [.int m,.tup (ks.map aj)]),some (.int m),some (.obj a),some (.int p),o4',o5',o6',o7',o8'] μ'/\FT μ0 m a (iW T p f) μ'/\mI (js ks) p (fun q=>0<=q/\q<m) f:=by
 obtain ⟨b,e1,_,k⟩:=h.get p0 p1
 obtain ⟨μ1,e3,_,h1⟩:=k p 0 p0 p1
 rw [tH,mT] at h1
 unfold hX
 simp only [aT,a9,aX,ab,kH,az,ai,ah,aa,e1]
 rw [show (D.int 0)=.int ((0:Nat):Int) from rfl,e3]
 simp only [aa,ab,aH,gn,bS,ar,ay,aX,ai,ah]
 rw [iO (by omega) (by omega) (by omega) (by omega)]
 simp only [ab,aP]
 have run:=d7 (src:=.fix (aW 1 ((m:Int) - 1).toNat)) (g:=ag 4) (fb:=hZ)
  (fun xs ρ μ1=>∃ (n c:Nat) (f:Int->Option Nat),xs=aW ((n:Int)+1) c/\n+1+c=m/\FT μ0 m a (iW T p f) μ1/\Up (js ks) p (fun q=>0<=q/\q<m) n f/\∃ o4 o5 o6 o7 o8,ρ=[some (.tup [.int m,.tup (ks.map aj)]),some (.int m),some (.obj a),some (.int p),o4,o5,o6,o7,o8])
  (fun _ _ _=>trivial)
  (fun x xs ρ μ1 hJJ => by
   obtain ⟨n,c,f,hx,hc,hF,hU,o4,o5,o6,o7,o8,e⟩:=hJJ
   subst e
   cases c with
   | zero=>rw [h8] at hx;cases hx
   | succ c=>
    rw [d9] at hx
    injection hx with hx1 hx2
    subst hx1 hx2
    obtain ⟨o5',o6',o7',o8',μ3,e1,e3⟩:=Ip (M:=m) (n:=n) (o5:=o5) (o6:=o6) (o7:=o7) (o8:=o8) hk hF p0 p1
    exact ⟨trivial,_,μ1,_,μ3,rfl,e1,n+1,c,_,by push_cast;rfl,by omega,e3,zI hU (fun a b h=>(fI hk h).1) (fun a b=>Iff.rfl),_,_,_,_,_,rfl⟩)
  (xs:=aW 1 ((m:Int) - 1).toNat) (ρ:=[some (.tup [.int m,.tup (ks.map aj)]),some (.int m),some (.obj a),some (.int p),o4,o5,o6,o7,o8]) (μ:=μ1)
  ⟨0,m - 1,_,by rw [show ((m:Int) - 1).toNat=m - 1 by omega];rfl,by omega,h1,wM (fun q _=>by unfold ly;rfl),o4,o5,o6,o7,o8,rfl⟩
 obtain ⟨ρ',μ',⟨n,c,f,hx,hc,hF,hU,o4',o5',o6',o7',o8',e⟩,run⟩:=run
 subst e
 have hz:=kg hx.symm
 subst hz
 refine ⟨o4',o5',o6',o7',o8',μ',f,run,hF,hU.full (fun a b h=>(fI hk h).2) fun q hq hl=>?_⟩
 have:=uY (m:=m) ⟨p0,p1⟩ (fun a b h=>(fI hk h).2) hl
 omega
end
theorem qB {m:Nat}:dO m (fun _=>none)=List.replicate m .non:=by
 unfold dO lQ
 rw [List.map_const',KR]
theorem CC {μ:aA}{m:Nat} (hm:m<=6):∃ (bs:List Nat) (s:aA),compLoop (.fix (aW 0 m)) μ.length (ag 0) bf fQ (aW 0 m) [none,some (.int m)] (μ++[.lst []])=.ok (.obj μ.length) (μ++.lst (bs.map D.obj)::s)/\bs.length=m/\bs.Nodup/\∀ b∈bs,∃ j,b=μ.length+1+j/\s[j]?=some (.lst (List.replicate m .non)):=by
 have run:=jg (src:=.fix (aW 0 m)) (g:=ag 0) (t:=bf) (e:=fQ) (n:=μ.length)
  (fun xs ys ρ μ1 s=>μ1=μ/\(∃ o,ρ=[o,some (.int m)])/\∃ bs:List Nat,ys=bs.map D.obj/\bs.length+xs.length=m/\bs.Nodup/\∀ b∈bs,∃ j,b=μ.length+1+j/\s[j]?=some (.lst (List.replicate m .non)))
  (fun ys ρ μ1 s ⟨e,_⟩=>⟨by rw [e],trivial⟩)
  (fun x r ys ρ μ1 s hJJ => by
   obtain ⟨e1,⟨o,e2⟩,bs,e3,e4,e6,e5⟩:=hJJ
   subst e1 e2
   refine ⟨rfl,trivial,[some x,some (.int m)],_,s,true,_,s,rfl,rfl,fun _=>?_,fun z=>by cases z⟩
   have e:=HL (M:=μ1++.lst ys::s) (x:=x) hm
   simp only [Kq] at e4
   refine ⟨.obj ((μ1++O.lst ys::s).length+1),μ1,s++[.lst [.non],.lst (List.replicate m .non)],by rw [e];simp,?_,rfl,rfl,⟨_,rfl⟩,bs++[(μ1++O.lst ys::s).length+1],by rw [e3];simp,by simp;omega,?_,fun b hb=>?_⟩
   ·rw [e3, JI]
    exact IH (show bs.length<1000 by omega) bp
   ·rw [Lr]
    refine ⟨e6,by simp,fun b hb c hc=>?_⟩
    obtain ⟨j,f1,f2⟩:=e5 b hb
    have:=(IX.mp f2).1
    simp only [KA,JH,Kq] at hc
    omega
   ·rcases IV.mp hb with z | z
    ·obtain ⟨j, f1, f2⟩ := e5 b z
     exact ⟨j,f1,aV f2⟩
    ·refine ⟨s.length + 1, ?_, ?_⟩
     ·simp only [KA,JH,Kq] at z;omega
     ·rw [JD (by omega)];simp)
  (xs:=aW 0 m) (ys:=[]) (ρ:=[none,some (.int m)]) (μ1:=μ) (s:=[])
  ⟨rfl,⟨_,rfl⟩,[],rfl,by simp [aW],by simp,by simp⟩
 obtain ⟨ys',ρ',μ1',s',⟨e1,_,bs,e3,e4,e6,e5⟩,run⟩:=run
 subst e1 e3
 exact ⟨bs,s',run,by simpa using e4,e6,e5⟩
theorem Bi {μ:aA}{k:Nat}{ks:List (List Int)} (h:c8 (.tup [.int k,.tup (ks.map aj)]) k ks):∃ a μ' T,iz [.tup [.int k,.tup (ks.map aj)]] μ=.ok (.obj a) μ'/\FT μ k a T μ'/\∀ p:Int,0<=p->p<k->mI (js ks) p (fun q=>0<=q/\q<k) (T p):=by
 obtain ⟨_,h0,h1,hp,hk⟩:=h
 have hk6:k<=6:=by omega
 obtain ⟨bs,s,e1,e2,e4,e3⟩:=CC (μ:=μ) hk6
 have F0:FT μ k μ.length (fun _ _=>none) (μ++.lst (bs.map D.obj)::s):=by
  refine ⟨Jp _,fun i hi=>by rw [JE hi],bs,e4,av,e2,fun p b hb=>?_⟩
  obtain ⟨j,rfl,f⟩:=e3 b (JG hb)
  refine ⟨by omega,by omega,?_⟩
  rw [JD (by omega),show μ.length+1+j - μ.length=j+1 by omega,qB]
  exact f
 have run:=d7 (src:=.fix (aW 0 k)) (g:=ag 3) (fb:=hX)
  (fun xs ρ μ1=>∃ (n c:Nat) (T:Int->Int->Option Nat),xs=aW n c/\n+c=k/\FT μ k μ.length T μ1/\(∀ p:Int,(n:Int)<=p->T p=fun _=>none)/\(∀ p:Int,0<=p->p<n->mI (js ks) p (fun q=>0<=q/\q<k) (T p))/\∃ o3 o4 o5 o6 o7 o8,ρ=[some (.tup [.int k,.tup (ks.map aj)]),some (.int k),some (.obj μ.length),o3,o4,o5,o6,o7,o8])
  (fun _ _ _=>trivial)
  (fun x xs ρ μ1 hJJ => by
   obtain ⟨n,c,T,hx,hc,hF,hN,hU,o3,o4,o5,o6,o7,o8,e⟩:=hJJ
   subst e
   cases c with
   | zero=>rw [h8] at hx;cases hx
   | succ c=>
    rw [d9] at hx
    injection hx with hx1 hx2
    subst hx1 hx2
    have hT:iW T n (fun _=>none)=T:=by
     funext p'
     unfold iW
     by_cases e:p'=(n:Int)
     ·rw [ID e,e,hN n (Int.le_refl _)]
     ·rw [IE e]
    obtain ⟨o4',o5',o6',o7',o8',μ3,f,g1,g3,g4⟩:=fr5 (T:=T) (p:=(n:Int)) (o4:=o4) (o5:=o5) (o6:=o6) (o7:=o7) (o8:=o8) hk (by rw [hT];exact hF) (by omega) (by omega) hk6
    refine ⟨trivial,_,μ1,_,μ3,rfl,g1,n+1,c,_,by push_cast;rfl,by omega,g3,fun p hp=>?_,fun p p0 p1=>?_,_,_,_,_,_,_,rfl⟩
    ·unfold iW
     rw [IE (by omega)]
     exact hN p (by omega)
    ·unfold iW
     by_cases e:p=(n:Int)
     ·rw [ID e,e];exact g4
     ·rw [IE e];exact hU p p0 (by omega))
  (xs:=aW 0 k) (ρ:=[some (.tup [.int k,.tup (ks.map aj)]),some (.int k),some (.obj μ.length),none,none,none,none,none,none]) (μ:=μ++.lst (bs.map D.obj)::s)
  ⟨0,k,_,rfl,by omega,F0,fun _ _=>rfl,fun p p0 p1=>by omega,_,_,_,_,_,_,rfl⟩
 obtain ⟨ρ',μ',⟨n,c,T,hx,hc,hF,hN,hU,o3,o4,o5,o6,o7,o8,e⟩,run⟩:=run
 subst e
 have hz:=kg hx.symm
 subst hz
 have hnk:n=k:=by omega
 subst hnk
 refine ⟨μ.length,μ',T,?_,hF,hU⟩
 unfold iz
 rw [eW]
 simp only [pH,aT,a9,az,ah,aX,aa,dw,ab,cH,aH,bz,bS,ar,ay]
 simp only [List.replicate,Mq,Mr,ai,ah,aa]
 rw [eT (by omega) (by omega)]
 simp only [aa,aP,JN]
 rw [show d5 [none,some 1] [some (D.tup [D.int n,D.tup (List.map aj ks)]),some (D.int n),none,none,none,none,none,none,none]=[none,some (.int n)] from rfl,e1]
 simp only [ab,cH,aH,aT,gn,bS,ar,ay,Mq,Mr,ai,ah,aa]
 rw [eT (by omega) (by omega)]
 simp only [ab,aP,JN]
 rw [run]
 simp only [aH,bb,ai,ah,ab,aN]
 exact vU (by simp)
def Dl (k:Int):Option Nat->Bool
 | some j=>decide ((j:Int)<=k)
 | none=>false
def iF (T:Int->Int->Option Nat) (k p lo:Int) (c:Nat):List (List Int):=(((List.range c).map fun i:Nat=>lo+(i:Int)).filter fun q=>Dl k (T p q)).map fun q=>[p,q]
def wO (m:Nat) (T:Int->Int->Option Nat) (k:Int):List (List Int):=(List.range m).flatMap fun p:Nat=>iF T k p ((p:Int)+1) (m - (p+1))
theorem oG {T:Int->Int->Option Nat}{k p lo:Int}{c:Nat}:(iF T k p lo c).length<=c:=by
 unfold iF
 rw [JI]
 refine IM (List.length_filter_le _ _) ?_
 rw [JI,KR]
 exact Jp _
theorem oF {T:Int->Int->Option Nat}{k p lo:Int}{c:Nat}{x:List Int} (h:x∈iF T k p lo c):∃ q:Int,x=[p,q]/\lo<=q/\q<lo+c:=by
 unfold iF at h
 obtain ⟨q,hq,rfl⟩:=K1.mp h
 obtain ⟨hq,_⟩:=IK.mp hq
 obtain ⟨i,hi,rfl⟩:=K1.mp hq
 rw [IL] at hi
 exact ⟨_,rfl,by omega,by omega⟩
theorem Bz {T:Int->Int->Option Nat}{k p lo:Int}{c:Nat}:(iF T k p lo c).Pairwise fun a b=>nj a<nj b:=by
 unfold iF
 rw [LR]
 apply List.Pairwise.filter
 rw [LR]
 exact Lh.imp fun {a b} h=>by show p * 6+(lo+(a:Int))<p * 6+(lo+(b:Int));omega
theorem l6 {m:Nat}{T:Int->Int->Option Nat}{k:Int} (h0:1<=m) (h1:m<=6):c8 (.tup [.int m,.tup ((wO m T k).map aj)]) m (wO m T k):=by
 refine ⟨rfl,by omega,by omega,?_,fun x hx=>?_⟩
 ·unfold wO
  rw [List.pairwise_flatMap]
  refine ⟨fun p _=>Bz,?_⟩
  refine List.Pairwise.imp_of_mem (R:=(·<·)) ?_ Lh
  intro a b ha hb hab x hx y hy
  rw [IL] at ha hb
  obtain ⟨q,rfl,q0,q1⟩:=oF hx
  obtain ⟨r,rfl,r0,r1⟩:=oF hy
  show (a:Int) * 6+q<(b:Int) * 6+r
  omega
 ·unfold wO at hx
  obtain ⟨p,hp,hx⟩:=Mt.mp hx
  rw [IL] at hp
  obtain ⟨q,rfl,q0,q1⟩:=oF hx
  exact ⟨_,_,rfl,by omega,by omega,by omega⟩
theorem tI {T:Int->Int->Option Nat}{k p lo:Int}{c:Nat}:((aW lo c).filter fun d=>match d with | .int q=>Dl k (T p q) | _=>false).map (fun d=>match d with | .int q=>aj [p,q] | _=>.non)=(iF T k p lo c).map aj:=by
 unfold aW iF
 rw [Mu,KO,Mu,KO,KO]
 rfl
section
variable {μ0 μ:aA}{m a:Nat}{p q:Int}{k:Int}{T:Int->Int->Option Nat}
theorem zm (h:FT μ0 m a T μ) (p0:0<=p) (p1:p<m) (q0:0<=q) (q1:q<m):dW [some (.int q),some (.int p),some (.int k),some (.obj a)] μ=.ok (Dl k (T p q)) μ:=by
 obtain ⟨b,e1,e2,_⟩:=h.get p0 p1
 unfold dW
 simp only [gB,bO,az,ai,ah,aX,aa,e1,e2 q q0 q1,rO,kL,aM]
 cases e:T p q with
 | none=>rfl
 | some j=>
  simp only [Iz (show ¬ some j=none by simp),Lx,JQ,dM,aa,aM,lQ]
  rfl
theorem zo (h:FT μ0 m a T μ) (hm:m<=6) (p0:0<=p) (p1:p<m) :
  compLoop (.fix (aW (p+1) ((m:Int) - (p+1)).toNat)) μ.length (ag 0) dW fX (aW (p+1) ((m:Int) - (p+1)).toNat) [none,some (.int p),some (.int k),some (.obj a)] (μ++[.lst []])=.ok (.obj μ.length) (μ++[.lst ((iF T k p (p+1) ((m:Int) - (p+1)).toNat).map aj)]):=by
 have:=dc (src:=.fix (aW (p+1) ((m:Int) - (p+1)).toNat)) (g:=ag 0) (t:=dW) (e:=fX) (μ1:=μ) (q:=fun d=>match d with | .int q=>Dl k (T p q) | _=>false)
  (h:=fun d=>match d with | .int q=>aj [p,q] | _=>.non) (fun ρ=>∃ o,ρ=[o,some (.int p),some (.int k),some (.obj a)]) (fun _=>trivial) (xs:=aW (p+1) ((m:Int) - (p+1)).toNat) (acc:=[]) (ρ:=[none,some (.int p),some (.int k),some (.obj a)]) ⟨none,rfl⟩
  (by unfold aW;rw [JI,KS,KR];exact IM (by omega) bp)
  (fun x hx acc ρ hJJ => by
   obtain ⟨o,ho⟩:=hJJ
   unfold aW at hx
   obtain ⟨i,hi,rfl⟩:=K1.mp hx
   rw [IL] at hi
   subst ho
   refine ⟨[some (.int (p+1+(i:Int))),some (.int p),some (.int k),some (.obj a)],⟨_,rfl⟩,rfl,zm (h.app) p0 p1 (by omega) (by omega),fun _=>?_⟩
   unfold fX
   simp only [cv,ar,ay,ai,ah,aa,Kq,KS,ID l2]
   rfl)
 rw [this,tI]
 rfl
end
theorem oQ {m:Nat}{T:Int->Int->Option Nat}{k:Int} (h:m<=6):∀ n,((List.range n).flatMap fun p:Nat=>iF T k p ((p:Int)+1) (m - (p+1))).length<=6 * n
 | 0=>by simp
 | n+1=>by
  rw [Mv,Mw,JH]
  have:=oQ (T:=T) (k:=k) h n
  have h2:=oG (T:=T) (k:=k) (p:=n) (lo:=(n:Int)+1) (c:=m - (n+1))
  simp only [Mx,My,Jv]
  omega
theorem qy {μ:aA}{m:Nat}{k:Int}{ks:List (List Int)} (h:c8 (.tup [.int m,.tup (ks.map aj)]) m ks):∃ T,(∀ p:Int,0<=p->p<m->mI (js ks) p (fun q=>0<=q/\q<m) (T p)) /\
  dy [.tup [.int m,.tup (ks.map aj)],.int k] μ=.ok (.tup [.int m,.tup ((wO m T k).map aj)]) μ:=by
 obtain ⟨a,μf,T,ef,hF,hT⟩:=Bi (μ:=μ) h
 obtain ⟨_,h0,h1,hp,hk⟩:=h
 have hm6:m<=6:=by omega
 refine ⟨T,hT,?_⟩
 have run:=d7 (src:=.fix (aW 0 m)) (g:=ag 4) (fb:=fW)
  (fun xs ρ μ1=>∃ (n c t:Nat) (o4:Option D),xs=aW n c/\n+c=m/\ρ=[some (.tup [.int m,.tup (ks.map aj)]),some (.int k),some (.obj a),some (.obj t),o4]/\FT μ m a T μ1/\μ1[t]?=some (.lst (((List.range n).flatMap fun p:Nat=>iF T k p ((p:Int)+1) (m - (p+1))).map aj)))
  (fun _ _ _=>trivial)
  (fun x r ρ μ1 hJJ => by
   obtain ⟨n,c,t,o4,e1,e3,e4,e5,e6⟩:=hJJ
   subst e4
   cases c with
   | zero=>rw [h8] at e1;cases e1
   | succ c=>
    rw [d9] at e1
    injection e1 with ex er
    subst ex er
    have q3:=zo (k:=k) (p:=(n:Int)) e5 hm6 (by omega) (by omega)
    rw [show ((m:Int) - ((n:Int)+1)).toNat=m - (n+1) by omega] at q3
    have hlen:=oQ (T:=T) (k:=k) hm6 n
    have hrow:=oG (T:=T) (k:=k) (p:=n) (lo:=(n:Int)+1) (c:=m - (n+1))
    refine ⟨trivial,_,μ1,[some (.tup [.int m,.tup (ks.map aj)]),some (.int k),some (.obj a),some (.obj (μ1.length+1)),some (.int n)],(μ1++[O.lst ((iF T k n ((n:Int)+1) (m - (n+1))).map aj)])++[O.lst (((List.range (n+1)).flatMap fun p:Nat=>iF T k p ((p:Int)+1) (m - (p+1))).map aj)],rfl,?_,n+1,c,μ1.length+1,some (.int n),by push_cast;rfl,by omega,rfl,(e5.app).app,?_⟩
    ·show fW [some (.tup [.int m, .tup (ks.map aj)]), some (.int k), some (.obj a), some (.obj t), some (.int n)] μ1 = _
     unfold fW
     simp only [a9,az,ai,ah,aa,bz,bS,ar,ay,aX,gC,dw]
     rw [iO (by omega) (by omega) (by omega) (by omega)]
     simp only [aa,aP]
     rw [show ((m:Int) - ((n:Int)+1)).toNat=m - (n+1) by omega]
     rw [show d5 [none,some 4,some 1,some 2] [some (D.tup [D.int ↑m,D.tup (List.map aj ks)]),some (D.int k),some (D.obj a),some (D.obj t),some (D.int n)]=[none,some (.int n),some (.int k),some (.obj a)] from rfl,q3]
     simp only [aa]
     unfold cA
     dsimp only
     rw [aV e6,av]
     dsimp only
     rw [ID (by
      rw [JI,JI]
      exact IM (show _<=1000 by omega) bp)]
     simp only [ab,cH]
     simp only [JH,Kq,KS,Mq,Mr,Mv,Mw,K8,Mx,My,Jv]
    ·have : μ1.length + 1 = (μ1 ++ [O.lst ((iF T k n ((n : Int) + 1) (m - (n + 1))).map aj)]).length := by simp
     rw [this];exact av)
  (xs:=aW 0 m) (ρ:=[some (.tup [.int m,.tup (ks.map aj)]),some (.int k),some (.obj a),some (.obj μf.length),none]) (μ:=μf++[.lst []])
  ⟨0,m,μf.length,none,rfl,by omega,rfl,hF.app,av⟩
 obtain ⟨ρ',μ',⟨n,c,t,o4,e1,e3,e4,e5,e6⟩,run⟩:=run
 subst e4
 have hz:=kg e1.symm
 subst hz
 have hnm:n=m:=by omega
 subst hnm
 have hg:c8 (.tup [.int n,.tup ((wO n T k).map aj)]) n (wO n T k):=l6 (by omega) hm6
 obtain ⟨g,hpre⟩:=e5.pre
 unfold dy
 rw [dq]
 simp only [mx,aT,a9,aC,ar,ay,ah,aa,ef,ab,cH,aH,gm]
 have l0:(0:Nat)<=sizeLine:=Ky _
 simp only [KS,ID l0,ab,aH,List.replicate,Mq,Mr,aT,gn,bS,ar,ay,az,ah,aX,aa,dw]
 rw [eT (by omega) (by omega)]
 simp only [ab,aP,JN]
 rw [run]
 simp only [aH,bb,cv,ar,ay,az,aC,ai,ah,aX,aa,dw]
 rw [fH e6]
 simp only [aa,Kq,KS,ID l2,ab,aN]
 rw [hpre]
 exact fF (jf hg)
theorem oM {μ:aA}:∀ fs:List Int,iK μ (fs.map D.int)=some (fs.map PyData.int)
 | []=>rfl
 | x::fs=>by simp only [J5,iK,oM fs];rfl
theorem oN:∀ fs:List Int,PyData.canLayAll0 (fs.map PyData.int)=true/\PyData.depthAll (fs.map PyData.int)=0
 | []=>by simp [PyData.canLayAll0,PyData.depthAll]
 | x::fs=>by
  have:=oN fs
  simp only [J5,PyData.canLayAll0,PyData.depthAll,PyData.canLay0,PyData.depth,this.1,this.2]
  exact ⟨rfl,rfl⟩
theorem wB {μ:aA}{F:Nat}{fs:List Int}{a:Int} (h:μ[F]?=some (.lst (fs.map D.int))):uL false (.int a) (.obj F) μ=.ok (.bl (decide (a∈fs))) μ:=by
 have e1:lP μ (.int a)=some (.int a):=rfl
 have e2:lP μ (.obj F)=some (.list (fs.map PyData.int)):=by
  unfold lP
  dsimp only
  rw [h]
  dsimp only
  rw [oM]
  rfl
 have f1:gf (.int a)=true:=rfl
 have f2:gf (.list (fs.map PyData.int))=true:=by
  have:=oN fs
  simp only [gf,PyData.canLay0,this.1,PyData.depth,this.2,Mz]
  rfl
 unfold uL
 rw [e1,e2]
 dsimp only [rN]
 rw [ID ⟨f1,f2⟩]
 simp only [Ko,JP]
 congr 2
 rw [List.any_map]
 apply MC.mpr
 rw [List.any_eq_true,Md]
 constructor
 ·rintro ⟨x, hx, e⟩
  have:x=a:=by simpa [PyData.eqv] using e
  subst this;exact hx
 ·intro hx
  exact ⟨a,hx,by simp [PyData.eqv]⟩
theorem cz {m:Int}{ks:List (List Int)} (hk:∀ k∈ks,mE m k) {a b:Int}:js ks a b↔([a,b]∈ks\/[b,a]∈ks):=by
 unfold js sO
 rw [Mt]
 constructor
 ·rintro ⟨k, hk', hm⟩
  obtain ⟨u,v,rfl,_⟩:=hk k hk'
  simp at hm
  rcases hm with ⟨rfl,rfl⟩ | ⟨rfl,rfl⟩
  ·exact .inl hk'
  ·exact .inr hk'
 ·rintro (h | h)
  ·exact ⟨_,h,by simp⟩
  ·exact ⟨_,h,by simp⟩
theorem m3 {m:Int}{t e:List Int->Int}:∀ {ks:List (List Int)},(∀ k∈ks,mE m k)->∀ (P:Int->Bool),∃ l:List Int,
  ((ks.map aj).filter (fun d=>match d with | .tup [.int a,.int b]=>P (t [a,b]) | _=>false)).map (fun d=>match d with | .tup [.int a,.int b]=>.int (e [a,b]) | _=>.non)=l.map D.int/\l.length<=ks.length/\∀ x,x∈l↔∃ k∈ks,P (t k)=true/\x=e k
 | [],_,P=>⟨[],rfl,Jp _,by simp⟩
 | k::ks,h,P=>by
  obtain ⟨l,e1,e2,e3⟩:=m3 (t:=t) (e:=e) (ks:=ks) (fun x hx=>h x (IS _ hx)) P
  obtain ⟨a,b,rfl,_⟩:=h k IR
  rw [J5,Ml]
  show ∃ l:List Int,List.map _ (if P (t [a,b])=true then _ else _)=_/\_
  by_cases c:P (t [a,b])=true
  ·rw [ID c, J5, e1]
   refine ⟨e [a,b]::l,rfl,by simp;omega,fun x=>?_⟩
   simp only [IT,e3]
   constructor
   ·rintro (rfl | ⟨k, hk, z⟩)
    ·exact ⟨[a,b],.inl rfl,c,rfl⟩
    ·exact ⟨k,.inr hk,z⟩
   ·rintro ⟨k, rfl | hk, z1, z2⟩
    ·exact .inl z2
    ·exact .inr ⟨k,hk,z1,z2⟩
  ·rw [IE c, e1]
   refine ⟨l,rfl,by simp;omega,fun x=>?_⟩
   simp only [IT,e3]
   constructor
   ·rintro ⟨k,hk,z⟩;exact ⟨k,.inr hk,z⟩
   ·rintro ⟨k, rfl | hk, z1, z2⟩
    ·exact absurd z1 c
    ·exact ⟨k,hk,z1,z2⟩
def AQ:List Int->Int
 | [a,_]=>a
 | _=>0
def AL:List Int->Int
 | [_,b]=>b
 | _=>0
theorem tx {μ:aA}{m:Int}{F:Nat}{fs:List Int}{ks:List (List Int)} (hk:∀ k∈ks,mE m k) (hl:ks.length<=15) (h:μ[F]?=some (.lst (fs.map D.int))) :
  ∃ (t:Nat) (g:aA) (ns:List Int),cV [.tup (ks.map aj),.obj F] μ=.ok (.obj t) (μ++g)/\(μ++g)[t]?=some (.lst (ns.map D.int))/\ns.length<=30/\μ.length<=t/\∀ q,q∈ns↔∃ r∈fs,js ks r q:=by
 obtain ⟨l1,a1,a2,a3⟩:=m3 (t:=AQ) (e:=AL) hk fun x=>decide (x∈fs)
 obtain ⟨l2',b1,b2,b3⟩:=m3 (t:=AL) (e:=AQ) hk fun x=>decide (x∈fs)
 have c1:=dc (src:=.fix (ks.map aj)) (g:=cW 2 (aL (ag 0) (aL (ag 1) (cX)))) (t:=gT) (e:=jO) (μ1:=μ)
  (q:=fun d=>match d with | .tup [.int a,.int b]=>decide (AQ [a,b]∈fs) | _=>false) (h:=fun d=>match d with | .tup [.int a,.int b]=>.int (AL [a,b]) | _=>.non)
  (fun ρ=>∃ o1 o2,ρ=[o1,o2,some (.obj F)]) (fun _=>trivial) (xs:=ks.map aj) (acc:=[]) (ρ:=[none,none,some (.obj F)]) ⟨_,_,rfl⟩
  (by rw [JI,KS];exact IM (by omega) bp)
  (fun x hx a ρ hJJ => by
   obtain ⟨o1,o2,ho⟩:=hJJ
   obtain ⟨k,hk',rfl⟩:=K1.mp hx
   obtain ⟨u,v,rfl,_⟩:=hk k hk'
   subst ho
   refine ⟨[some (.int u),some (.int v),some (.obj F)],⟨_,_,rfl⟩,rfl,?_,fun _=>rfl⟩
   unfold gT
   simp only [bO,az,ai,ah,aa]
   rw [wB (aV h)]
   rfl)
 have c2:=fun M:aA=>fun hM:M[F]?=some (.lst (fs.map D.int))=>dc (src:=.fix (ks.map aj)) (g:=cW 2 (aL (ag 0) (aL (ag 1) (cX)))) (t:=gS) (e:=jN) (μ1:=M)
  (q:=fun d=>match d with | .tup [.int a,.int b]=>decide (AL [a,b]∈fs) | _=>false) (h:=fun d=>match d with | .tup [.int a,.int b]=>.int (AQ [a,b]) | _=>.non)
  (fun ρ=>∃ o1 o2,ρ=[o1,o2,some (.obj F)]) (fun _=>trivial) (xs:=ks.map aj) (acc:=[]) (ρ:=[none,none,some (.obj F)]) ⟨_,_,rfl⟩
  (by rw [JI,KS];exact IM (by omega) bp)
  (fun x hx a ρ hJJ => by
   obtain ⟨o1,o2,ho⟩:=hJJ
   obtain ⟨k,hk',rfl⟩:=K1.mp hx
   obtain ⟨u,v,rfl,_⟩:=hk k hk'
   subst ho
   refine ⟨[some (.int u),some (.int v),some (.obj F)],⟨_,_,rfl⟩,rfl,?_,fun _=>rfl⟩
   unfold gS
   simp only [bO,az,ai,ah,aa]
   rw [wB (aV hM)]
   rfl)
 rw [Kj,a1] at c1
 have c2':=c2 (μ++[O.lst (l1.map D.int)]) (aV h)
 rw [Kj,b1] at c2'
 refine ⟨((μ++[O.lst (l1.map D.int)])++[O.lst (l2'.map D.int)]).length,([O.lst (l1.map D.int)]++[O.lst (l2'.map D.int)])++[O.lst ((l1++l2').map D.int)],l1++l2',?_,?_,by rw [JH];omega,by simp,fun q=>?_⟩
 ·unfold cV
  rw [dq]
  simp only [ll,bb,az,bz,cg,ah,aa,jz,aP,List.replicate]
  rw [show d5 [none,none,some 1] (some (D.tup (List.map aj ks))::some (D.obj F)::List.replicate (2 - 2) none)=[none,none,some (.obj F)] from rfl,c1]
  simp only [aa]
  rw [c2']
  simp only [aa]
  have ad:cA (.obj μ.length) (.obj (μ++[O.lst (l1.map D.int)]).length) ((μ++[O.lst (l1.map D.int)])++[O.lst (l2'.map D.int)])=.ok (.obj ((μ++[O.lst (l1.map D.int)])++[O.lst (l2'.map D.int)]).length) (((μ++[O.lst (l1.map D.int)])++[O.lst (l2'.map D.int)])++[O.lst ((l1++l2').map D.int)]):=by
   unfold cA
   dsimp only
   rw [av,aV av]
   dsimp only
   rw [ID,K8]
   rw [JI,JI]
   exact IM (show _<=1000 by omega) bp
  rw [ad,ab,aN,vU (by simp)]
  simp only [Ke]
 ·rw [<- Ke,<- Ke];exact av
 ·rw [IV, a3, b3]
  constructor
  ·rintro (⟨k, hk', z1, z2⟩ | ⟨k, hk', z1, z2⟩)
   ·obtain ⟨u, v, rfl, _⟩ := hk k hk'
    subst z2
    exact ⟨u,MD z1,(cz hk).mpr (.inl hk')⟩
   ·obtain ⟨u, v, rfl, _⟩ := hk k hk'
    subst z2
    exact ⟨v,MD z1,(cz hk).mpr (.inr hk')⟩
  ·rintro ⟨r, hr, ha⟩
   rcases (cz hk).mp ha with z | z
   ·exact .inl ⟨_,z,Kk hr,rfl⟩
   ·exact .inr ⟨_,z,Kk hr,rfl⟩
theorem kj {μ:aA}{i j:Nat}{o o':O} (h:μ[j]?=some o') (ne:i≠j):(μ.set i o)[j]?=some o':=by rw [I0 ne];exact h
def ie (k:List Int):PyData:=.tuple (k.map PyData.int)
theorem mX {μ:aA}{m:Int}:∀ {ks:List (List Int)},(∀ k∈ks,mE m k)->iK μ (ks.map aj)=some (ks.map ie)
 | [],_=>rfl
 | k::ks,h=>by
  obtain ⟨a,b,rfl,_⟩:=h k IR
  have ih:=mX (μ:=μ) fun x hx=>h x (IS _ hx)
  simp only [J5,iK,ih]
  rfl
theorem mW {μ:aA}{m:Int}:∀ {ks:List (List Int)},(∀ k∈ks,mE m k)->toPs μ (ks.map aj)=some (ks.map ie)
 | [],_=>rfl
 | k::ks,h=>by
  obtain ⟨a,b,rfl,_⟩:=h k IR
  have ih:=mW (μ:=μ) fun x hx=>h x (IS _ hx)
  simp only [J5,toPs,ih]
  rfl
theorem mY {m:Int}:∀ {ks:List (List Int)},(∀ k∈ks,mE m k)->PyData.canLayAll0 (ks.map ie)=true/\PyData.depthAll (ks.map ie)<=1
 | [],_=>by simp [PyData.canLayAll0,PyData.depthAll]
 | k::ks,h=>by
  obtain ⟨a,b,rfl,_⟩:=h k IR
  have ih:=mY fun x hx=>h x (IS _ hx)
  simp only [J5,PyData.canLayAll0,PyData.depthAll,ih.1,ie,J4,PyData.canLay0,PyData.depth]
  refine ⟨rfl,?_⟩
  have:=ih.2
  omega
def wQ (m:Int) (ks:List (List Int)):PyData:=.tuple [.int m,.tuple (ks.map ie)]
theorem v5 {μ:aA}{d:D}{m:Int}{ks:List (List Int)} (h:c8 d m ks):lP μ d=some (wQ m ks):=by
 obtain ⟨rfl,_,_,_,hk⟩:=h
 have e:uK μ (.tup (ks.map aj))=some (.tuple (ks.map ie)):=by
  simp only [uK,mW hk,Option.map_some]
 unfold lP
 dsimp only
 simp only [iK,yq,uK,e,mW hk,Option.map_some,Option.bind_some]
 rfl
theorem v7 {d:D}{m:Int}{ks:List (List Int)} (h:c8 d m ks):gf (wQ m ks)=true:=by
 obtain ⟨_,_,_,_,hk⟩:=h
 have:=mY hk
 simp only [gf,wQ,PyData.canLay0,PyData.canLayAll0,this.1,PyData.depth,PyData.depthAll,Mz,Bool.and_true]
 exact Kk (by have:=this.2;omega)
end Lw
namespace Lw
open PySem L2 RS
def Pn (μ0:aA) (i:Nat) (μ:aA):Prop:=∃ a b c g,μ=μ0.set i (bC a b c)++g
theorem Pn.app {μ0 μ g:aA}{i:Nat} (h:Pn μ0 i μ):Pn μ0 i (μ++g):=by
 obtain ⟨a,b,c,g',rfl⟩:=h
 exact ⟨a,b,c,g'++g,by rw [Ke]⟩
theorem Pn.get {μ0 μ:aA}{i:Nat} (h:Pn μ0 i μ) (hi:i<μ0.length):∃ a b c,μ[i]?=some (bC a b c):=by
 obtain ⟨a,b,c,g',rfl⟩:=h
 exact ⟨a,b,c,aV (gw hi)⟩
theorem Pn.set {μ0 μ:aA}{i:Nat}{a b c:Int} (h:Pn μ0 i μ) (hi:i<μ0.length):Pn μ0 i (μ.set i (bC a b c)):=by
 obtain ⟨a',b',c',g',rfl⟩:=h
 exact ⟨a,b,c,g',by rw [lY (by simpa using hi),List.set_set]⟩
theorem Pn.len {μ0 μ:aA}{i:Nat} (h:Pn μ0 i μ):μ0.length<=μ.length:=by
 obtain ⟨a',b',c',g',rfl⟩:=h
 simp
theorem Pn.self {μ0:aA}{i:Nat}{a b c:Int} (h:μ0[i]?=some (bC a b c)):Pn μ0 i μ0:=by
 refine ⟨a,b,c,[],?_⟩
 rw [Jv]
 apply LO
 intro j
 by_cases e:i=j
 ·subst e;rw [gw (IX.mp h).1,h]
 ·rw [I0 e]
theorem Pn.draw {μ0 μ:aA}{i:Nat}{m:Int} (h:Pn μ0 i μ) (hi:i<μ0.length) (h0:0<m) (h1:m<1000) :
  ∃ r a b c:Int,0<=r/\r<m/\aY [.obj i,.int m] μ=.ok (.int r) (μ.set i (bC a b c))/\Pn μ0 i (μ.set i (bC a b c)):=by
 obtain ⟨a,b,c,hp⟩:=h.get hi
 obtain ⟨r,a',b',c',r0,r1,e⟩:=wg hp h0 h1
 exact ⟨r,a',b',c',r0,r1,e,h.set hi⟩
theorem Pn.gc {μ0 μ:aA}{i:Nat}{d:D} (h:Pn μ0 i μ) (hd:d.low μ0.length):∃ a b c,rq μ0 (.ok d μ)=.ok d (μ0.set i (bC a b c)):=by
 obtain ⟨a,b,c,g',rfl⟩:=h
 exact ⟨a,b,c,uZ hd nS⟩
theorem l9 {μ1:aA}{e:ME}{rest:Ro}{f:Int->Int × Int}{lo:Int}{n:Nat} (hn:n<1000) (he:∀ v a,e (some (.int v)::rest) (μ1++[.lst a])=.ok (bM (f v)) (μ1++[.lst a])) :
  compLoop (.fix (aW lo n)) μ1.length (ag 0) bf e (aW lo n) (none::rest) (μ1++[.lst []])=.ok (.obj μ1.length) (μ1++[.lst (((List.range n).map fun k:Nat=>f (lo+(k:Int))).map bM)]):=by
 have:=dc (src:=.fix (aW lo n)) (g:=ag 0) (t:=bf) (e:=e) (μ1:=μ1) (q:=fun _=>true)
  (h:=fun d=>match d with | .int a=>bM (f a) | _=>.non) (fun ρ=>∃ o,ρ=o::rest) (fun _=>trivial) (xs:=aW lo n) (acc:=[]) (ρ:=none::rest) ⟨none,rfl⟩
  (by unfold aW;rw [JI,KS,KR];exact IM (by omega) bp)
  (fun x hx a ρ hJJ => by
   obtain ⟨o,ho⟩:=hJJ
   unfold aW at hx
   obtain ⟨k,hk,rfl⟩:=K1.mp hx
   exact ⟨_,⟨_,rfl⟩,by subst ho;rfl,rfl,fun _=>he _ _⟩)
 rw [this,Ms.mpr (fun _ _=>rfl)]
 unfold aW
 simp only [Kj,KO]
 rfl
def FJ (m:Int) (ps:List (Int × Int)):Prop:=ps.length<=40/\∀ p∈ps,0<=p.1/\p.1<m/\0<=p.2/\p.2<m/\p.1≠p.2
theorem ph {μ0 μ1:aA}{i t:Nat}{m:Int}{k:Int}{ps:List (Int × Int)} (hi:i<μ0.length) (ht:μ0.length<=t) (h:Pn μ0 i μ1) (hl:μ1[t]?=some (.lst (ps.map bM))) (hps:FJ m ps) (k0:0<k) (k1:k<1000) :
  ∃ qs μ2,FJ m qs/\Pn μ0 i μ2/\μ2.length=μ1.length/\compLoop (.own t (ps.map bM)) μ1.length (ag 0) (f6 (au (d4 false) (ax aY (ae (af 1) (ae (cC (.int k)) (aw)))) (cC (.int 0)))) (af 0) (ps.map bM) [none,some (.obj i)] (μ1++[.lst []])=.ok (.obj μ1.length) (μ2++[.lst (qs.map bM)]):=by
 have run:=jg (src:=.own t (ps.map bM)) (g:=ag 0) (t:=(f6 (au (d4 false) (ax aY (ae (af 1) (ae (cC (.int k)) (aw)))) (cC (.int 0))))) (e:=af 0) (n:=μ1.length)
  (fun xs ys ρ μ2 s=>s=[]/\μ2.length=μ1.length/\Pn μ0 i μ2/\μ2[t]?=some (.lst (ps.map bM))/\(∃ o,ρ=[o,some (.obj i)])/\∃ rs qs:List (Int × Int),xs=rs.map bM/\ys=qs.map bM/\qs.length+rs.length<=40/\(∀ p∈rs,0<=p.1/\p.1<m/\0<=p.2/\p.2<m/\p.1≠p.2)/\(∀ p∈qs,0<=p.1/\p.1<m/\0<=p.2/\p.2<m/\p.1≠p.2))
  (fun ys ρ μ2 s ⟨_,e1,_,e2,_⟩=>⟨e1,aV e2⟩)
  (fun x r ys ρ μ2 s hJJ => by
   obtain ⟨es,e1,e2,e3,⟨o,e4⟩,rs,qs,e5,e6,e7,e8,e9⟩:=hJJ
   subst es e4 e6
   cases rs with
   | nil=>cases e5
   | cons p rs=>
    injection e5 with ex er
    subst ex er
    obtain ⟨v,a,b,c,v0,v1,ed,hp⟩:=(e2.app (g:=[.lst (qs.map bM)])).draw hi k0 k1
    have i2:i<μ2.length:=IH hi e2.len
    rw [lY i2] at ed
    refine ⟨e1,aV e3,[some (bM p),some (.obj i)],μ2,[],v == 0,μ2.set i (bC a b c),[],rfl,?_,fun hc=>?_,fun hc=>?_⟩
    ·simp only [bO,az,aC,ar,ay,ai,ah,aX,aa,ed,du,Ko,JP,aM]
    ·refine ⟨bM p, μ2.set i (bC a b c), [], by rw [ah], ?_, by simpa using e1, rfl, by simpa using e1, e2.set hi, kj e3 (by omega), ⟨_, rfl⟩, rs, qs ++ [p], rfl, by simp, by simp at e7 ⊢; omega, fun q hq => e8 q (IS _ hq), fun q hq => ?_⟩
     ·rw [JI]
      simp only [Kq] at e7
      exact IH (show qs.length<1000 by omega) bp
     ·rcases IV.mp hq with z | z
      ·exact e9 q z
      ·simp at z;subst z;exact e8 _ IR
    ·exact ⟨rfl,by simpa using e1,e2.set hi,kj e3 (by omega),⟨_,rfl⟩,rs,qs,rfl,rfl,by simp at e7 ⊢;omega,fun q hq=>e8 q (IS _ hq),e9⟩)
  (xs:=ps.map bM) (ys:=[]) (ρ:=[none,some (.obj i)]) (μ1:=μ1) (s:=[])
  ⟨rfl,rfl,h,hl,⟨_,rfl⟩,ps,[],rfl,rfl,by have:=hps.1;simpa using this,hps.2,by simp⟩
 obtain ⟨ys',ρ',μ2,s',⟨es,e1,e2,e3,⟨o,e4⟩,rs,qs,e5,e6,e7,e8,e9⟩,run⟩:=run
 subst es e6
 exact ⟨qs,μ2,⟨by omega,e9⟩,e2,e1,run⟩
theorem vG {μ0 μ1:aA}{i:Nat}{m:Int} (hi:i<μ0.length) (h:Pn μ0 i μ1) (m0:1<=m) (m1:m<=6) :
  ∃ qs μ2,FJ m qs/\Pn μ0 i μ2/\μ2.length=μ1.length/\compLoop (.fix (aW 1 (m - 1).toNat)) μ1.length (ag 0) bf cb (aW 1 (m - 1).toNat) [none,some (.obj i)] (μ1++[.lst []])=.ok (.obj μ1.length) (μ2++[.lst (qs.map bM)]):=by
 have run:=jg (src:=.fix (aW 1 (m - 1).toNat)) (g:=ag 0) (t:=bf) (e:=cb) (n:=μ1.length)
  (fun xs ys ρ μ2 s=>s=[]/\μ2.length=μ1.length/\Pn μ0 i μ2/\(∃ o,ρ=[o,some (.obj i)])/\∃ (lo:Int) (n:Nat) (qs:List (Int × Int)),xs=aW lo n/\1<=lo/\lo+n=m/\ys=qs.map bM/\qs.length+n<=40/\(∀ p∈qs,0<=p.1/\p.1<m/\0<=p.2/\p.2<m/\p.1≠p.2))
  (fun ys ρ μ2 s ⟨_,e1,_⟩=>⟨e1,trivial⟩)
  (fun x r ys ρ μ2 s hJJ => by
   obtain ⟨es,e1,e2,⟨o,e4⟩,lo,n,qs,e5,e6,e7,e8,e9,e10⟩:=hJJ
   subst es e4 e8
   cases n with
   | zero=>rw [h8] at e5;cases e5
   | succ n=>
    rw [d9] at e5
    injection e5 with ex er
    subst ex er
    obtain ⟨v,a,b,c,v0,v1,ed,hp⟩:=(e2.app (g:=[.lst (qs.map bM)])).draw (m:=lo) hi (by omega) (by omega)
    have i2:i<μ2.length:=IH hi e2.len
    rw [lY i2] at ed
    refine ⟨e1,trivial,[some (.int lo),some (.obj i)],μ2,[],true,μ2,[],rfl,rfl,fun hc=>?_,fun hc=>nomatch hc⟩
    refine ⟨bM (v,lo),μ2.set i (bC a b c),[],?_,?_,by simpa using e1,rfl,by simpa using e1,e2.set hi,⟨_,rfl⟩,lo+1,n,qs++[(v,lo)],rfl,by omega,by omega,by simp,by simp;omega,fun q hq=>?_⟩
    ·unfold cb
     simp only [cv,aC,ar,ay,ai,ah,aX,aa,ed,Kq,KS,ID l2]
     rfl
    ·rw [JI]
     exact IH (show qs.length<1000 by omega) bp
    ·rcases IV.mp hq with z | z
     ·exact e10 q z
     ·simp at z;subst z;exact ⟨v0,by omega,by omega,by omega,by dsimp only;omega⟩)
  (xs:=aW 1 (m - 1).toNat) (ys:=[]) (ρ:=[none,some (.obj i)]) (μ1:=μ1) (s:=[])
  ⟨rfl,rfl,h,⟨_,rfl⟩,1,_,[],rfl,by omega,by omega,rfl,by simp;omega,by simp⟩
 obtain ⟨ys',ρ',μ2,s',⟨es,e1,e2,⟨o,e4⟩,lo,n,qs,e5,e6,e7,e8,e9,e10⟩,run⟩:=run
 subst es e8
 exact ⟨qs,μ2,⟨by omega,e10⟩,e2,e1,run⟩
noncomputable def gv:MS:=(jY (f6 (au (d4 false) (af 1) (cC (.int 0)))) (bw (bF (gK (af 3)) [none,some 0] (ag 0) (fj) (fq)) (ag 5)) (jY (f6 (au (d4 false) (af 1) (cC (.int 1)))) (bw (bF (gK (af 3)) [none,some 0] (ag 0) (fg) (fm)) (ag 5)) (jY (f6 (au (d4 false) (af 1) (cC (.int 2)))) (bw (au cA (bF (eE jt (ae (au fC (af 2) (cC (.int 1))) (aw))) [none] (ag 0) (bf) (dB)) (au jR (i8 (ae (d6 (ae (cC (.int 0)) (ae (au fC (af 2) (cC (.int 1))) (aw)))) (aw))) (ax nr (ae (au (gL .Gt) (af 2) (cC (.int 2))) (aw))))) (ag 5)) (jY (f6 (au (d4 false) (af 1) (cC (.int 3)))) (bw (bF (eE jt (ae (au fC (af 2) (cC (.int 1))) (aw))) [none] (ag 0) (bf) (fk)) (ag 5)) (jY (f6 (au (d4 false) (af 1) (cC (.int 4)))) (bw (bF (eE lz (ae (cC (.int 1)) (ae (af 2) (aw)))) [none] (ag 0) (bf) (dA)) (ag 5)) (bw (bF (eE lz (ae (cC (.int 1)) (ae (af 2) (aw)))) [none,some 0] (ag 0) (bf) (cb)) (ag 5)))))))
theorem Bw {μ0 μ1:aA}{i t:Nat}{m w:Int}{ps:List (Int × Int)}{o4:Option D} (hi:i<μ0.length) (ht:μ0.length<=t) (h:Pn μ0 i μ1) (hl:μ1[t]?=some (.lst (ps.map bM))) (hps:FJ m ps) (m0:1<=m) (m1:m<=6) :
  ∃ (o:Nat) (qs:List (Int × Int)) (μ2:aA),FJ m qs/\Pn μ0 i μ2/\μ2[o]?=some (.lst (qs.map bM))/\gv [some (.obj i),some (.int w),some (.int m),some (.obj t),o4,none] μ1=.next [some (.obj i),some (.int w),some (.int m),some (.obj t),o4,some (.obj o)] μ2:=by
 unfold gv
 have r1:∀ n a,dB (some (.int n)::[]) (μ1++[.lst a])=.ok (bM (n,n+1)) (μ1++[.lst a]):=fun n a=>by
  unfold dB
  simp only [cv,ar,ay,az,ah,aX,aa,gC,Kq,KS,ID l2]
  rfl
 have r2:∀ n a,fk (some (.int n)::[]) (μ1++[.lst a])=.ok (bM (n,n+1)) (μ1++[.lst a]):=r1
 have r3:∀ n a,dA (some (.int n)::[]) (μ1++[.lst a])=.ok (bM (0,n)) (μ1++[.lst a]):=fun n a=>by
  unfold dA
  simp only [cv,ar,ay,az,ah,aX,aa,gC,Kq,KS,ID l2]
  rfl
 have sb:fC (.int m) (.int 1) μ1=.ok (.int (m - 1)) μ1:=rfl
 have rn:(List.range (m - 1).toNat).length<=5:=by rw [KR];omega
 have pth:∀ p∈(List.range (m - 1).toNat).map (fun k:Nat=>(((0:Int)+(k:Int)),(0:Int)+(k:Int)+1)),0<=p.1/\p.1<m/\0<=p.2/\p.2<m/\p.1≠p.2:=fun p hp=>by
  obtain ⟨k,hk,rfl⟩:=K1.mp hp
  rw [IL] at hk
  dsimp only
  omega
 by_cases w0:w=0
 ·subst w0
  obtain ⟨qs,μ2,q1,q2,q3,q4⟩:=ph (k:=2) hi ht h hl hps (by decide) (by decide)
  refine ⟨μ1.length,qs,μ2++[.lst (qs.map bM)],q1,q2.app,by rw [<- q3];exact av,?_⟩
  simp only [bx,bO,az,ai,ah,aX,aa,du,Kn,aM,ab,Ko,JP,JQ,a9,bz,cg]
  rw [gy hl]
  simp only [aa,dE]
  rw [show d5 [none,some 0] [some (D.obj i),some (.int 0),some (.int m),some (.obj t),o4,none]=[none,some (.obj i)] from rfl]
  unfold fj fq
  rw [q4]
  rfl
 have w0':(w == 0)=false:=by simpa using w0
 by_cases w1:w=1
 ·subst w1
  obtain ⟨qs,μ2,q1,q2,q3,q4⟩:=ph (k:=3) hi ht h hl hps (by decide) (by decide)
  refine ⟨μ1.length,qs,μ2++[.lst (qs.map bM)],q1,q2.app,by rw [<- q3];exact av,?_⟩
  simp only [bx,bO,az,ai,ah,aX,aa,du,w0',Kn,aM,ab,Ko,JP,JQ,a9,bz,cg]
  rw [gy hl]
  simp only [aa,dE]
  rw [show d5 [none,some 0] [some (D.obj i),some (.int 1),some (.int m),some (.obj t),o4,none]=[none,some (.obj i)] from rfl]
  unfold fg fm
  rw [q4]
  rfl
 have w1':(w == 1)=false:=by simpa using w1
 by_cases w2:w=2
 ·subst w2
  let ps1:List (Int × Int):=(List.range (m - 1).toNat).map (fun k:Nat=>(((0:Int)+(k:Int)),(0:Int)+(k:Int)+1))
  let ps2:List (Int × Int):=(List.replicate (if dh .Gt m 2 then (1:Int) else 0).toNat [((0:Int),m - 1)]).flatten
  have hb:ps2=if dh .Gt m 2 then [((0:Int),m - 1)] else []:=by
   simp only [ps2]
   cases dh .Gt m 2 <;> rfl
  have hb2:ps2.length<=1/\∀ p∈ps2,p=(0,m - 1)/\2<m:=by
   rw [hb]
   by_cases z:dh .Gt m 2=true
   ·rw [ID z]
    have:2<m:=by simpa [dh] using z
    simp [this]
   ·rw [IE z];simp
  refine ⟨_,ps1++ps2,((μ1++[O.lst (ps1.map bM)]++[O.lst [bM (0,m - 1)]])++[O.lst (ps2.map bM)])++[O.lst ((ps1++ps2).map bM)],⟨?_,fun p hp=>?_⟩,((h.app).app.app).app,av,?_⟩
  ·rw [JH]
   have:ps1.length<=5:=by simp only [ps1,JI];exact rn
   omega
  ·rcases IV.mp hp with z | z
   ·exact pth p z
   ·obtain ⟨rfl, z2⟩ := hb2.2 p z
    dsimp only
    omega
  ·simp only [bx, bO, az, ai, ah, aX, aa, du, w0', w1', Kn, aM, ab, Ko, JP, JQ, a9, bz, bS, ar, ay, sb]
   rw [eT (by omega) (by omega)]
   simp only [aa,aP]
   rw [show d5 [none] _=[none] from rfl,l9 (f:=fun v=>(v,v+1)) (by omega) r1]
   have l1:(1:Nat)<=sizeLine:=by decide
   have sb':∀ μ,fC (.int m) (.int 1) μ=.ok (.int (m - 1)) μ:=fun _=>rfl
   have ib:∀ k:Bool,∀ μ,nr [.bl k] μ=.ok (.int (if k then 1 else 0)) μ:=fun _ _=>rfl
   simp only [aa,gm,cv,ar,ay,az,ai,ah,aX,sb',Kq,KS,ID l2,ID l1,aC,dM,ib]
   have mu:∀ M:aA,jR (.obj M.length) (.int (if dh .Gt m 2=true then 1 else 0)) (M++[O.lst [bM (0,m - 1)]])=.ok (.obj (M++[O.lst [bM (0,m - 1)]]).length) ((M++[O.lst [bM (0,m - 1)]])++[O.lst (ps2.map bM)]):=fun M=>by
    unfold jR
    dsimp only
    rw [av]
    dsimp only
    have:(List.replicate (if dh .Gt m 2=true then (1:Int) else 0).toNat [bM (0,m - 1)]).flatten=ps2.map bM:=by
     simp only [ps2]
     cases dh .Gt m 2 <;> rfl
    rw [this,ID]
    have l1':(1:Nat)<=sizeLine:=by decide
    cases dh .Gt m 2
    ·exact ⟨by decide,by decide,Ky _⟩
    ·exact ⟨by decide,by decide,l1'⟩
   rw [show (D.tup [D.int 0,D.int (m - 1)])=bM (0,m - 1) from rfl,mu]
   simp only [aa]
   have ad:cA (.obj μ1.length) (.obj (μ1++[O.lst (ps1.map bM)]++[O.lst [bM (0,m - 1)]]).length) ((μ1++[O.lst (ps1.map bM)]++[O.lst [bM (0,m - 1)]])++[O.lst (ps2.map bM)])=.ok (.obj ((μ1++[O.lst (ps1.map bM)]++[O.lst [bM (0,m - 1)]])++[O.lst (ps2.map bM)]).length) (((μ1++[O.lst (ps1.map bM)]++[O.lst [bM (0,m - 1)]])++[O.lst (ps2.map bM)])++[O.lst ((ps1++ps2).map bM)]):=by
    unfold cA
    dsimp only
    rw [av,aV (aV av)]
    dsimp only
    rw [ID,K8]
    have e1:((List.range (m - 1).toNat).map (fun k:Nat=>(((0:Int)+(k:Int)),(0:Int)+(k:Int)+1))).length<=5:=by rw [JI];exact rn
    have e2:((ps1.map bM).length:Nat)<=5:=by rw [JI];exact e1
    have e3:((ps2.map bM).length:Nat)<=1:=by rw [JI];exact hb2.1
    exact IM (show _<=1000 by omega) bp
   rw [ad]
   rfl
 have w2':(w == 2)=false:=by simpa using w2
 by_cases w3:w=3
 ·subst w3
  refine ⟨μ1.length,(List.range (m - 1).toNat).map (fun k:Nat=>(((0:Int)+(k:Int)),(0:Int)+(k:Int)+1)),μ1++[.lst _],⟨by rw [JI];omega,pth⟩,h.app,av,?_⟩
  simp only [bx,bO,az,ai,ah,aX,aa,du,w0',w1',w2',Kn,aM,ab,Ko,JP,JQ,a9,bz,bS,ar,ay,sb]
  rw [eT (by omega) (by omega)]
  simp only [aa,aP]
  rw [show d5 [none] _=[none] from rfl,l9 (f:=fun v=>(v,v+1)) (by omega) r2]
  rfl
 have w3':(w == 3)=false:=by simpa using w3
 by_cases w4:w=4
 ·subst w4
  refine ⟨μ1.length,(List.range (m - 1).toNat).map (fun k:Nat=>((0:Int),(1:Int)+(k:Int))),μ1++[.lst _],⟨by rw [JI];omega,fun p hp=>?_⟩,h.app,av,?_⟩
  ·obtain ⟨k, hk, rfl⟩ := K1.mp hp
   rw [IL] at hk
   dsimp only
   omega
  simp only [bx,bO,az,ai,ah,aX,aa,du,w0',w1',w2',w3',Kn,aM,ab,Ko,JP,JQ,a9,bz,bS,ar,ay,sb]
  rw [iO (by omega) (by omega) (by omega) (by omega)]
  simp only [aa,aP]
  rw [show d5 [none] _=[none] from rfl,l9 (f:=fun v=>(0,v)) (by omega) r3]
  rfl
 have w4':(w == 4)=false:=by simpa using w4
 obtain ⟨qs,μ2,q1,q2,q3,q4⟩:=vG hi h m0 m1
 refine ⟨μ1.length,qs,μ2++[.lst (qs.map bM)],q1,q2.app,by rw [<- q3];exact av,?_⟩
 simp only [bx,bO,az,ai,ah,aX,aa,du,w0',w1',w2',w3',w4',aM,ab,Ko,JP,a9,bz,bS,ar,ay]
 rw [iO (by omega) (by omega) (by omega) (by omega)]
 simp only [aa,aP]
 rw [show d5 [none,some 0] [some (D.obj i),some (.int w),some (.int m),some (.obj t),o4,none]=[none,some (.obj i)] from rfl,q4]
 rfl
theorem jk {n:Nat}{d:D}{m:Int}{ks:List (List Int)} (h:c8 d m ks):d.low n:=jf h
theorem xf {μ:aA}{i:Nat}{a b c:Int} (hp:μ[i]?=some (bC a b c)):∃ d m ks a' b' c',c8 d m ks/\dg [.obj i] μ=.ok d (μ.set i (bC a' b' c')):=by
 have hi:i<μ.length:=(IX.mp hp).1
 have P0:Pn μ i μ:=Pn.self hp
 obtain ⟨w,a1,b1,c1,w0,w1,ew,P1⟩:=P0.draw (m:=7) hi (by decide) (by decide)
 generalize hM1:μ.set i (bC a1 b1 c1)=M1 at ew P1
 obtain ⟨m',a2,b2,c2,m0,m1,em,P2⟩:=P1.draw (m:=6) hi (by decide) (by decide)
 generalize hM2:M1.set i (bC a2 b2 c2)=M2 at em P2
 have run:=d7 (src:=.fix (aW 0 (1+m').toNat)) (g:=ag 4) (fb:=dz)
  (fun xs ρ μ1 => ∃ (lo : Int) (n : Nat) (t : Nat) (ps : List (Int × Int)) (o4 : Option D), xs = aW lo n /\ 0 <= lo /\ lo + n = 1 + m' /\ ρ = [some (.obj i), some (.int w), some (.int (1 + m')), some (.obj t), o4, none] /\ Pn μ i μ1 /\ μ.length <= t /\ μ1[t]? = some (.lst (ps.map bM)) /\
   (ps.length:Int)<=6 * lo/\(∀ p∈ps,0<=p.1/\p.1<p.2/\p.2<lo))
  (fun _ _ _=>trivial)
  (fun x r ρ μ1 hJJ => by
   obtain ⟨lo,n,t,ps,o4,e1,e2,e3,e4,e5,e6,e7,e8,e9⟩:=hJJ
   subst e4
   cases n with
   | zero=>rw [h8] at e1;cases e1
   | succ n=>
    rw [d9] at e1
    injection e1 with ex er
    subst ex er
    let qs:List (Int × Int):=(List.range lo.toNat).map fun k:Nat=>((0:Int)+(k:Int),lo)
    have hq:(qs.length:Int)=lo:=by simp only [qs,JI,KR];omega
    refine ⟨trivial,_,μ1,[some (.obj i),some (.int w),some (.int (1+m')),some (.obj (μ1.length+1)),some (.int lo),none],(μ1++[O.lst (qs.map bM)])++[O.lst ((ps++qs).map bM)],rfl,?_,lo+1,n,μ1.length+1,ps++qs,some (.int lo),rfl,by omega,by omega,rfl,e5.app.app,?_,?_,?_,fun p hp=>?_⟩
    ·show dz [some (.obj i), some (.int w), some (.int (1 + m')), some (.obj t), some (.int lo), none] μ1 = _
     unfold dz
     simp only [a9,az,ai,ah,aa,bz,bS,ar,ay]
     rw [eT (by omega) (by omega)]
     simp only [aa,aP]
     rw [show d5 [none,some 4] [some (D.obj i),some (.int w),some (.int (1+m')),some (.obj t),some (.int lo),none]=[none,some (.int lo)] from rfl,
      l9 (f:=fun v=>(v,lo)) (by omega) (fun v a=>by
       unfold iB
       simp only [cv,ar,ay,ai,ah,aa,Kq,KS,ID l2]
       rfl)]
     simp only [aa]
     unfold cA
     dsimp only
     rw [aV e7,av]
     dsimp only
     rw [ID (by
      rw [JI,JI]
      have:qs.length=((List.range lo.toNat).map fun k:Nat=>((0:Int)+(k:Int),lo)).length:=rfl
      rw [<- this]
      exact IM (show _<=1000 by omega) bp)]
     simp only [ab,cH]
     simp only [JH,Kq,KS,Mq,Mr,K8]
     rfl
    ·have := e5.len
     omega
    ·have : μ1.length + 1 = (μ1 ++ [O.lst (qs.map bM)]).length := by simp
     rw [this];exact av
    ·rw [JH];push_cast;omega
    ·rcases IV.mp hp with z | z
     ·have:=e9 p z;omega
     ·simp only [qs] at z
      obtain ⟨k,hk,rfl⟩:=K1.mp z
      rw [IL] at hk
      dsimp only
      omega)
  (xs:=aW 0 (1+m').toNat) (ρ:=[some (.obj i),some (.int w),some (.int (1+m')),some (.obj M2.length),none,none]) (μ:=M2++[.lst []])
  ⟨0,(1+m').toNat,M2.length,[],none,rfl,by omega,by omega,rfl,P2.app,P2.len,av,by simp,by simp⟩
 obtain ⟨ρ',M3,⟨lo,n,t,ps,o4,e1,e2,e3,e4,e5,e6,e7,e8,e9⟩,run⟩:=run
 subst e4
 have hn:=kg e1.symm
 subst hn
 obtain ⟨o,qs,M4,q1,q2,q3,q4⟩:=Bw (m:=1+m') (w:=w) (o4:=o4) hi e6 e5 e7 ⟨by omega,fun p hp=>by have:=e9 p hp;omega⟩ (by omega) (by omega)
 obtain ⟨a5,b5,c5,hp4⟩:=q2.get hi
 obtain ⟨ns,a6,b6,c6,n1,n2,n3,n4⟩:=tE hp4 (m:=1+m') (by omega) (by omega)
 obtain ⟨d,ks,g1,g2⟩:=zx (μ:=M4.set i (bC a6 b6 c6)) (m:=1+m') (by omega) (by omega) q1.2 (by have:=q1.1;omega) n1 n2 n3
 obtain ⟨a7,b7,c7,hg⟩:=(q2.set (a:=a6) (b:=b6) (c:=c6) hi).gc (jk g1)
 refine ⟨d,1+m',ks,a7,b7,c7,g1,?_⟩
 unfold dg
 rw [eW]
 simp only [jr,aT,a9,aC,ar,ay,ah,aX,aa,ew,ab,cH,aH,List.replicate,Mq,Mr,az,hM1,em,hM2,gC,gm,KS,ID (Ky sizeLine),gn,bS,ai]
 rw [eT (by omega) (by omega)]
 simp only [ab,aP]
 rw [run]
 simp only [aH,aT]
 have hW:=q4
 unfold gv at hW
 rw [hW]
 simp only [aH,bb,aC,ar,ay,ai,ah,cv,aa]
 rw [fH q3]
 simp only [aa,Kq,KS,ID l2,n4,g2,ab,aN]
 exact hg
theorem zw {μ:aA}{d:D}{m k:Int}{ks:List (List Int)} (h:c8 d m ks):∃ d' ks',c8 d' m ks'/\dy [d,.int k] μ=.ok d' μ:=by
 have hd:=h.1
 have hm:1<=m/\m<=6:=⟨h.2.1,h.2.2.1⟩
 subst hd
 obtain ⟨n,rfl⟩:∃ n:Nat,m=(n:Int):=⟨m.toNat,by omega⟩
 obtain ⟨T,_,e⟩:=qy (μ:=μ) (k:=k) h
 exact ⟨_,_,l6 (by omega) (by omega),e⟩
theorem qF {m:Int}{ks:List (List Int)} (h:∀ k∈ks,mE m k):gf (.tuple (ks.map ie))=true:=by
 have:=mY h
 simp only [gf,PyData.canLay0,this.1,PyData.depth,Mz]
 exact Kk (by omega)
theorem wx {μ:aA}{m:Int}{ks:List (List Int)} (h:∀ k∈ks,mE m k):d4 true (.tup (ks.map aj)) (.tup []) μ=.ok (.bl (!ks.isEmpty)) μ:=by
 have e1:lP μ (.tup (ks.map aj))=some (.tuple (ks.map ie)):=by
  simp only [lP,mX h,Option.map_some]
 have e2:lP μ (.tup [])=some (.tuple []):=rfl
 unfold d4
 rw [e1,e2]
 dsimp only
 rw [ID ⟨qF h,by decide⟩]
 congr 2
 cases ks with
 | nil=>rfl
 | cons k ks=>simp [PyData.eqv,PyData.eqvAll]
theorem Al {m:Int}{ks ks':List (List Int)}{d:D} (h:c8 d m ks) (hs:ks'.Sublist ks):c8 (.tup [.int m,.tup (ks'.map aj)]) m ks':=by
 obtain ⟨_,h0,h1,hp,hk⟩:=h
 exact ⟨rfl,h0,h1,hp.sublist hs,fun k hk'=>hk k (hs.subset hk')⟩
theorem Fw {β:Type}{xs:List β}{r:Nat} (h:r<=xs.length):mH xs none (some (r:Int))=xs.take r:=by
 unfold mH
 rw [HT.sIx_none,HT.sIx_nat]
 simp [Nat.min_eq_left h]
theorem Aq {β:Type}{xs:List β}{r:Nat} (h:r<=xs.length):mH xs (some (r:Int)) none=xs.drop r:=by
 unfold mH
 rw [HT.sIx_none,HT.sIx_nat,Nat.min_eq_left h]
 exact K0 (by rw [JU];exact Jp _)
theorem GB {a b:Int}{μ:aA}:bH [.tup [.int a,.int b]] μ=.ok (.obj μ.length) (μ++[.lst [.int (min a b),.int (max a b)]]):=by
 have e:[min a b,max a b]=j7 [a,b]:=by
  refine l7 ?_ (by simp;omega)
  by_cases h:a<=b
  ·rw [MF h,MH h]
  ·rw [MJ (by omega), MK (by omega)]
   exact List.Perm.swap a b []
 have e2:ja [.int a,.int b]=some [a,b]:=rfl
 unfold bH
 dsimp only
 rw [e2]
 dsimp only
 rw [ID (show [a,b].length<64 from (by decide:2<64)),<- e]
 rfl
theorem zu {μ:aA}{i:Nat}{a b c:Int} (hp:μ[i]?=some (bC a b c)):∃ d m ks a' b' c',c8 d m ks/\eR [.obj i] μ=.ok d (μ.set i (bC a' b' c')):=by
 have hi:i<μ.length:=(IX.mp hp).1
 obtain ⟨d0,m,ks0,a0,b0,c0,g0,e0⟩:=xf hp
 have P0:Pn μ i (μ.set i (bC a0 b0 c0)):=⟨a0,b0,c0,[],by simp⟩
 generalize hM0:μ.set i (bC a0 b0 c0)=M0 at e0 P0
 obtain ⟨w,a1,b1,c1,w0,w1,ew,P1⟩:=P0.draw (m:=6) hi (by decide) (by decide)
 generalize hM1:M0.set i (bC a1 b1 c1)=M1 at ew P1
 have cmpw:dh .Lt w 3=decide (w<3):=rfl
 have st:∃ d ks,c8 d m ks/\jY (f6 (au (gL .Lt) (af 2) (cC (.int 3)))) (bw (ax dy (ae (af 1) (ae (cC (.int 2)) (aw)))) (ag 1)) (dC) [some (.obj i),some d0,some (.int w),none,none,none] M1=.next [some (.obj i),some d,some (.int w),none,none,none] M1:=by
  obtain ⟨d',ks',g',e'⟩:=zw (μ:=M1) (k:=2) g0
  by_cases hw:w<3
  ·refine ⟨d', ks', g', ?_⟩
   simp only [bx,bO,az,ai,ah,aX,aa,dM,cmpw,Kk hw,aM,ab,JQ,a9,aC,ar,ay,e',cH,Mq,Mr]
  ·refine ⟨d0, ks0, g0, ?_⟩
   simp only [bx,bO,az,ai,ah,aX,aa,dM,cmpw,Iz hw,aM,ab,Ko,JP,bG]
 obtain ⟨d,ks,g,es⟩:=st
 have hlow:=fun n=>jk (n:=n) g
 have hg:=g
 obtain ⟨rfl,h0,h1,hpw,hk⟩:=hg
 unfold eR
 rw [eW]
 have sub1:∀ x y:Int,∀ μ,fC (.int x) (.int y) μ=.ok (.int (x - y)) μ:=fun _ _ _=>rfl
 by_cases z0:w=0/\ks≠[]
 ·obtain ⟨rfl, hne⟩ := z0
  have hlen:=gM g
  have hpos:0<ks.length:=Mi.mpr hne
  have hem:ks.isEmpty=false:=by simpa using hne
  obtain ⟨r,a2,b2,c2,r0,r1,er,P2⟩:=P1.draw (m:=(ks.length:Int)) hi (by omega) (by omega)
  generalize hM2:M1.set i (bC a2 b2 c2)=M2 at er P2
  obtain ⟨rn,rfl⟩:∃ rn:Nat,r=(rn:Int):=⟨r.toNat,by omega⟩
  have gs:c8 (.tup [.int m,.tup ((ks.take rn++ks.drop (rn+1)).map aj)]) m (ks.take rn++ks.drop (rn+1)):=by
   refine Al g ?_
   have:=List.Sublist.append (List.Sublist.refl (ks.take rn)) (List.drop_sublist 1 (ks.drop rn))
   rwa [K6,List.drop_drop] at this
  obtain ⟨a7,b7,c7,hgc⟩:=P2.gc (jk gs)
  refine ⟨_,m,_,a7,b7,c7,gs,?_⟩
  simp only [gH,aT,a9,aC,ar,ay,ah,ai,aX,aa,e0,hM0,ab,cH,aH,List.replicate,Mq,Mr,ew,hM1]
  rw [es]
  simp only [aH,aT,bx,gB,bO,az,ai,ah,aX,aa,du,Kn,Ko,JP,JQ,aM,g7,cv,ay,KS,ID (Ky sizeLine),wx hk,hem,Lx,ab,a9,aC,ar,l4,JI,er,hM2,cH,Mq,Mr,bb,dw,Dc,Fn,t7,zf,gC]
  have s1:∀ μ,AA (.tup (ks.map aj)) none (some (rn:Int)) μ=.ok (.tup ((ks.map aj).take rn)) μ:=fun μ=>by
   unfold AA;dsimp only;rw [Fw (by rw [JI];omega)]
  have s2:∀ μ,AA (.tup (ks.map aj)) (some ((rn:Int)+1)) none μ=.ok (.tup ((ks.map aj).drop (rn+1))) μ:=fun μ=>by
   unfold AA;dsimp only;rw [show ((rn:Int)+1)=((rn+1:Nat):Int) by push_cast;rfl,Aq (by rw [JI];omega)]
  simp only [s1,s2,aa]
  have s3:∀ μ,cA (.tup ((ks.map aj).take rn)) (.tup ((ks.map aj).drop (rn+1))) μ=.ok (.tup ((ks.take rn++ks.drop (rn+1)).map aj)) μ:=fun μ=>by
   unfold cA
   dsimp only
   rw [ID,K8,K9,La]
   rw [JB,JU,JI]
   exact IM (show _<=1000 by omega) bp
  simp only [s3,aa,Kq,KS,ID l2,ab,rL,aN]
  exact hgc
 ·
  have t0:jK (f6 (au (d4 false) (af 2) (cC (.int 0)))) (f6 (au (d4 true) (au bW (af 1) (cC (.int 1))) (d6 (aw)))) [some (.obj i),some (.tup [.int m,.tup (ks.map aj)]),some (.int w),none,none,none] M1=.ok false M1:=by
   by_cases hw:w=0
   ·subst hw
    have hem:ks.isEmpty=true:=by
     cases ks with
     | nil=>rfl
     | cons x y=>exact absurd ⟨rfl,by simp⟩ z0
    simp only [gB,bO,az,ai,ah,aX,aa,du,Kn,Ko,JP,JQ,aM,g7,cv,ay,KS,ID (Ky sizeLine),wx hk,hem,Lm]
   ·have hw' : (w == 0) = false := by simpa using hw
    simp only [gB,bO,az,ai,ah,aX,aa,du,hw',Ko,JP,aM]
  by_cases z1:w=1/\1<m
  ·obtain ⟨rfl, hm⟩ := z1
   obtain ⟨u,a2,b2,c2,u0,u1,eu,P2⟩:=P1.draw (m:=m) hi (by omega) (by omega)
   generalize hM2:M1.set i (bC a2 b2 c2)=M2 at eu P2
   obtain ⟨v,a3,b3,c3,v0,v1,ev,P3⟩:=P2.draw (m:=m - 1) hi (by omega) (by omega)
   generalize hM3:M2.set i (bC a3 b3 c3)=M3 at ev P3
   have hx0:0<=(u+1+v) % m:=Mo _ (by omega)
   have hx1:(u+1+v) % m<m:=Mp _ (by omega)
   have hxne:(u+1+v) % m≠u:=by
    by_cases hh:u+1+v<m
    ·rw [Int.emod_eq_of_lt (by omega) hh];omega
    ·rw [show u+1+v=(u+1+v - m)+m by omega,Int.add_emod_right,Int.emod_eq_of_lt (by omega) (by omega)];omega
   have md:∀ x μ,pW (.int x) (.int m) μ=.ok (.int (x % m)) μ:=fun x μ=>mQ (show (fun _ j=>(0:Int)<j) x m by show 0<m;omega)
   generalize hx:(u+1+v) % m=x at hx0 hx1 hxne
   have hks:∀ k∈ks++[[min u x,max u x]],mE m k:=fun k hk'=>by
    rcases IV.mp hk' with z | z
    ·exact hk k z
    ·simp at z;subst z;exact ⟨_,_,rfl,by omega,by omega,by omega⟩
   have gs:=iU h0 h1 hks
   have kd:k8 ((ks++[[min u x,max u x]]).map aj)=some (ks++[[min u x,max u x]]):=oK fun k hk=>(hks k hk).prs h1
   obtain ⟨a7,b7,c7,hgc⟩:=(((P3.app (g:=[.lst [.int (min u x),.int (max u x)]])).app (g:=[.set (dv (ks++[[min u x,max u x]]))])).app (g:=[.lst ((fE (ks++[[min u x,max u x]])).map aj)])).gc (jk gs)
   refine ⟨_,m,_,a7,b7,c7,gs,?_⟩
   have cm:dh .Gt m 1=true:=by simpa [dh] using hm
   have l1:(1:Nat)<=sizeLine:=by decide
   have s3:∀ μ,cA (.tup (ks.map aj)) (.tup [.tup [.int (min u x),.int (max u x)]]) μ=.ok (.tup ((ks++[[min u x,max u x]]).map aj)) μ:=fun μ=>by
    unfold cA
    dsimp only
    rw [ID,K8]
    ·rfl
    ·have := gM g
     rw [JI]
     simp only [Kq,KS]
     exact IM (show _<=1000 by omega) bp
   have s4:∀ μ,lB [.tup ((ks++[[min u x,max u x]]).map aj)] μ=.ok (.obj μ.length) (μ++[.set (dv (ks++[[min u x,max u x]]))]):=fun μ=>by
    unfold lB;dsimp only;unfold nq;rw [kd]
   have s5:∀ M:aA,bH [.obj M.length] (M++[.set (dv (ks++[[min u x,max u x]]))])=.ok (.obj (M++[O.set (dv (ks++[[min u x,max u x]]))]).length) ((M++[.set (dv (ks++[[min u x,max u x]]))])++[.lst ((fE (ks++[[min u x,max u x]])).map aj)]):=fun M=>by
    unfold bH;dsimp only;rw [av];dsimp only;rw [kq]
   simp only [gH,aT,a9,aC,ar,ay,ah,ai,aX,aa,e0,hM0,ab,cH,aH,List.replicate,Mq,Mr,ew,hM1]
   rw [es]
   simp only [aH]
   rw [aT,bx,t0]
   simp only [ab,Ko,JP,bG,aH,aT,bx,gB,bO,az,ai,ah,aX,aa,du,Kn,JQ,aM,dw,dM,cm,a9,aC,ar,ay,eu,hM2,cH,Mq,Mr,cv,sub1,ev,hM3,gC,md,hx,Kq,KS,ID l2,ID l1,GB]
   rw [fH av]
   simp only [aa,ab,cH,Mq,Mr,aH,bb,cv,ar,ay,az,aC,ai,ah,aX,dw,g7,Kq,KS,ID l2,ID l1,s3,s4,s5]
   rw [fH av]
   simp only [aa,ab,Kq,KS,ID l2,rL,aN]
   exact hgc
  ·have t1:jK (f6 (au (d4 false) (af 2) (cC (.int 1)))) (f6 (au (gL .Gt) (au bW (af 1) (cC (.int 0))) (cC (.int 1)))) [some (.obj i),some (.tup [.int m,.tup (ks.map aj)]),some (.int w),none,none,none] M1=.ok false M1:=by
    by_cases hw:w=1
    ·subst hw
     have cm:dh .Gt m 1=false:=by
      have:¬ 1<m:=fun h=>z1 ⟨rfl,h⟩
      simpa [dh] using this
     simp only [gB,bO,az,ai,ah,aX,aa,du,Kn,Ko,JP,JQ,aM,dw,dM,cm]
    ·have hw' : (w == 1) = false := by simpa using hw
     simp only [gB,bO,az,ai,ah,aX,aa,du,hw',Ko,JP,aM]
   obtain ⟨a7,b7,c7,hgc⟩:=P1.gc (jk g)
   refine ⟨_,m,_,a7,b7,c7,g,?_⟩
   simp only [gH,aT,a9,aC,ar,ay,ah,ai,aX,aa,e0,hM0,ab,cH,aH,List.replicate,Mq,Mr,ew,hM1]
   rw [es]
   simp only [aH]
   rw [aT,bx,t0]
   simp only [ab,Ko,JP,bG,aH]
   rw [aT,bx,t1]
   simp only [ab,Ko,JP,bG,aH,bb,ai,ah,aN]
   exact hgc
end Lw
namespace Lw
open PySem L2 RS Lv
theorem dD {U:Type}{en:U->D}{src:mC}{g:MG}{t:MT}{e:ME}{μ1:aA}{q:U->Bool}{h:U->D} (R:Ro->Prop) (ho:∀ a,di src (μ1++[.lst a])) :
  ∀ {us:List U}{acc:List D}{ρ:Ro},R ρ->acc.length+us.length<=sizeLine->(∀ x∈us,∀ a ρ,R ρ->∃ ρ1,R ρ1/\g (en x) ρ (μ1++[.lst a])=.ok ρ1 (μ1++[.lst a])/\t ρ1 (μ1++[.lst a])=.ok (q x) (μ1++[.lst a])/\(q x=true->e ρ1 (μ1++[.lst a])=.ok (h x) (μ1++[.lst a]))) ->
   compLoop src μ1.length g t e (us.map en) ρ (μ1++[.lst acc])=.ok (.obj μ1.length) (μ1++[.lst (acc++(us.filter q).map h)])
 | [],acc,ρ,hr,hl,he=>by
  rw [J4]
  unfold compLoop
  rw [ID (ho acc)]
  simp
 | x::xs,acc,ρ,hr,hl,he=>by
  obtain ⟨ρ1,r1,e1,e2,e3⟩:=he x IR acc ρ hr
  rw [J5]
  unfold compLoop
  rw [ID (ho acc),e1]
  simp only [bP,aa]
  rw [e2]
  simp only [bP,aa]
  have he':=fun y hy=>he y (IS _ hy)
  simp only [Kq] at hl
  cases hq:q x with
  | false=>
   rw [IE Jj,dD R ho r1 (by omega) he',Ml,hq]
   rfl
  | true=>
   rw [ID rfl,e3 hq]
   simp only [bP,aa]
   rw [mV (by omega)]
   simp only [aa]
   rw [dD R ho r1 (by simp;omega) he',Ml,hq]
   simp
theorem fK {U:Type}:∀ {us:List U},us.filter (fun _=>true)=us
 | []=>rfl
 | _::us=>by rw [Ml,ID rfl,fK]
def FH:D->Bool
 | .int _=>true
 | _=>false
def yh (m:Nat):D->Bool
 | .int i=>decide (0<=i/\i<(m:Int))
 | _=>false
def Ay (μ:aA) (d:D):Prop:=Dj μ d≠none
theorem wu {μ:aA}{n:Nat} (h:Ay μ (.obj n)):(∃ xs,μ[n]?=some (.lst xs))\/μ[n]?=some .dic:=by
 unfold Ay Dj at h
 dsimp only at h
 split at h
 ·rename_i xs e;exact .inl ⟨xs,e⟩
 ·rename_i e;exact .inr e
 ·exact absurd rfl h
theorem Cv {μ:aA}{d:D} (h:Ay μ d):∃ b,kN "int" d μ=.ok (.bl b) μ/\(b=true->∃ c,kN "bool" d μ=.ok (.bl c) μ/\(!c)=FH d)/\(b=false->FH d=false):=by
 cases d with
 | non=>exact ⟨false,rfl,nofun,fun _=>rfl⟩
 | bl b=>exact ⟨true,rfl,fun _=>⟨true,rfl,rfl⟩,nofun⟩
 | int i=>exact ⟨true,rfl,fun _=>⟨false,rfl,rfl⟩,nofun⟩
 | str x=>exact ⟨false,rfl,nofun,fun _=>rfl⟩
 | tup xs=>exact ⟨false,rfl,nofun,fun _=>rfl⟩
 | frz xs=>exact ⟨false,rfl,nofun,fun _=>rfl⟩
 | obj n=>
  refine ⟨false,?_,nofun,fun _=>rfl⟩
  unfold kN Dj
  rcases wu h with ⟨xs,e⟩ | e <;> simp only [e] <;> rfl
theorem zt {μ:aA}{d:D} (h:Ay μ d):fe [d] μ=.ok (.bl (FH d)) μ:=by
 obtain ⟨b,h1,h2,h3⟩:=Cv h
 unfold fe
 rw [eW]
 simp only [lM,List.replicate,bb,gA,wF,oe,ah,aa,h1,aM]
 cases b with
 | false=>
  rw [IE Jj,ab,aN,h3 rfl]
  exact cf (by simp)
 | true=>
  obtain ⟨c,c1,c2⟩:=h2 rfl
  rw [ID rfl,c1]
  simp only [aa,aM,ab,aN,c2]
  exact cf (by simp)
theorem tw {μ:aA}{m:Nat}{d:D} (h:Ay μ d):ff [.int m,d] μ=.ok (.bl (yh m d)) μ:=by
 have hw:bg [d,.int 0,.int ((m:Int) - 1)] μ=.ok (.bl (yh m d)) μ:=by
  unfold bg
  rw [u3]
  simp only [gU,List.replicate,bb,gA,aC,ar,ay,ah,ai,aa,zt h,aM,t8]
  cases d with
  | int i=>
   rw [show FH (.int i)=true from rfl,ID rfl]
   simp only [dM,aa,aM]
   by_cases c:dh .LtE 0 i=true
   ·rw [ID c, ab, aN]
    rw [show dh .LtE i ((m:Int) - 1)=yh m (.int i) from by
     have c':(0:Int)<=i:=MD c
     show decide (i<=(m:Int) - 1)=decide (0<=i/\i<(m:Int))
     exact LM.mpr ⟨fun z=>⟨c',by omega⟩,fun z=>by omega⟩]
    exact cf (by simp)
   ·rw [IE c, ab, aN]
    rw [show yh m (.int i)=false from by
     have c':¬ (0:Int)<=i:=fun z=>c (Kk z)
     exact Iz (fun z=>c' z.1)]
    exact cf (by simp)
  | _=>
   rw [show FH _=false from rfl,IE Jj,ab,aN]
   exact cf (by simp)
 unfold ff
 rw [dq]
 simp only [pG,List.replicate,bb,aC,ar,ay,ah,ai,aX,az,aa]
 rw [show fC (.int m) (.int 1) μ=.ok (.int ((m:Int) - 1)) μ from rfl]
 simp only [aa,hw,ab,aN]
 exact cf (by simp)
theorem z8 {μ g:aA}{d:D} (h:Ay μ d):Ay (μ++g) d:=by
 cases d with
 | obj n=>
  unfold Ay Dj
  rcases wu h with ⟨xs,e⟩ | e <;> simp only [aV e] <;> exact nofun
 | _=>exact h
theorem oY {μ:aA}{m:Nat}{xs:List D} (h:∀ x∈xs,Ay μ x) (hl:xs.length<=1000):cM [.int m,.tup xs] μ=.ok (.bl (xs.all (yh m))) μ:=by
 have c:=dD (U:=D) (en:=fun x=>x) (src:=.fix xs) (g:=ag 0) (t:=bf) (e:=i6) (μ1:=μ) (q:=fun _=>true) (h:=fun x=>.bl (yh m x)) (fun ρ=>∃ o,ρ=[o,some (.int m)]) (fun _=>trivial) (us:=xs) (acc:=[]) (ρ:=[none,some (.int m)]) ⟨_,rfl⟩
  (by rw [KS];exact IM (by omega) bp)
  (fun x hx a ρ hJJ => by
   obtain ⟨o,e⟩:=hJJ
   subst e
   refine ⟨[some x,some (.int m)],⟨_,rfl⟩,rfl,rfl,fun _=>?_⟩
   unfold i6
   simp only [aC,ar,ay,ai,ah,aa,tw (z8 (h x hx))])
 rw [List.map_id',Kj,fK] at c
 unfold cM
 rw [dq]
 simp only [nE,List.replicate,bb,gA,oe,ai,ah,aa]
 rw [show kN "tuple" (.tup xs) μ=.ok (.bl true) μ from rfl]
 simp only [aa,aM,JQ,aC,ar,ay,bz,cg,ai,ah,jz,aP]
 rw [show d5 [none,some 0] _=[none,some (.int m)] from rfl,c]
 simp only [aa]
 rw [l5 (bs:=xs.map (yh m)) (by rw [av,KO];rfl)]
 simp only [ab,aN]
 rw [show (xs.map (yh m)).all id=xs.all (yh m) from by rw [Mg];rfl]
 exact fF (by simp)
theorem oD {μ:aA}{m:Nat}{x:D}{p:Int} (h:0<=p/\p<(m:Int)):ck [.tup [.int m,x],.int p] μ=.ok .non μ:=by
 unfold ck
 rw [dq]
 simp only [lq,List.replicate,bx,g6,iY,aC,ar,ay,az,ah,ai,aX,aa,dw]
 rw [tw (show Ay μ (.int p) from nofun),show yh m (.int p)=true from Kk h]
 simp only [aa,gx,Lm,ab,Ko,JP,bG,z5]
 exact cf (by simp)
theorem Ai {μ:aA}{m:Int}{ks:List (List Int)}{a b:Int} (hk:∀ k∈ks,mE m k):uL false (.tup [.int a,.int b]) (.tup (ks.map aj)) μ=.ok (.bl (decide ([a,b]∈ks))) μ:=by
 have e1:lP μ (.tup [.int a,.int b])=some (.tuple [.int a,.int b]):=rfl
 have e2:lP μ (.tup (ks.map aj))=some (.tuple (ks.map ie)):=by
  simp only [lP,mX hk,Option.map_some]
 unfold uL
 rw [e1,e2]
 dsimp only [rN]
 rw [ID ⟨rfl,qF hk⟩]
 simp only [Ko,JP]
 congr 2
 rw [List.any_map]
 apply MC.mpr
 rw [List.any_eq_true,Md]
 constructor
 ·rintro ⟨k, hk', e⟩
  obtain ⟨u,v,rfl,_⟩:=hk k hk'
  have:u=a/\v=b:=by simpa [ie,PyData.eqv,PyData.eqvAll] using e
  rw [<- this.1,<- this.2];exact hk'
 ·intro h
  exact ⟨_,h,by simp [ie,PyData.eqv,PyData.eqvAll]⟩
abbrev kZ (w:List Int):D:=.tup (w.map D.int)
theorem lH:∀ (l acc:List Int),acc.Nodup->(l.foldl (fun acc k=>if k∈acc then acc else acc++[k]) acc).Nodup/\∀ x,x∈l.foldl (fun acc k=>if k∈acc then acc else acc++[k]) acc↔x∈acc\/x∈l
 | [],acc,h=>⟨h,fun x=>by simp⟩
 | y::l,acc,h=>by
  rw [Kf]
  by_cases c:y∈acc
  ·rw [ID c]
   have ih:=lH l acc h
   refine ⟨ih.1,fun x=>?_⟩
   rw [ih.2 x,IT]
   constructor
   ·rintro (z | z)
    ·exact .inl z
    ·exact .inr (.inr z)
   ·rintro (z | rfl | z)
    ·exact .inl z
    ·exact .inl c
    ·exact .inr z
  ·rw [IE c]
   have ih:=lH l (acc++[y]) (by rw [Lr];exact ⟨h,by simp,fun a ha b hb=>by simp at hb;subst hb;exact fun e=>c (e ▸ ha)⟩)
   refine ⟨ih.1,fun x=>?_⟩
   rw [ih.2 x,IT,IV,KA,or_assoc]
theorem xj {m:Nat}{ks:List (List Int)}{p:Int}{ns:List Int} (h:∀ q,q∈ns↔q∈bL m ks p):j7 (fG ns)=bL m ks p:=by
 have d:=lH ns [] Lg
 have up:(bL m ks p).Pairwise (·<·):=yE.filter _
 refine (l7 ?_ (up.imp fun {a b} h=>Int.le_of_lt h)).symm
 refine (Li (up.imp fun {a b} h=>by omega) d.1).mpr fun q=>?_
 rw [d.2 q,<- h q]
 simp
theorem jc {m:Int}{ks:List (List Int)} (hk:∀ k∈ks,mE m k) {p q:Int}:yr ks p q=true↔[p,q]∈ks\/[q,p]∈ks:=by
 unfold yr
 rw [Md]
 have asc:∀ {a b:Int},[a,b]∈ks->a<b:=fun h=>by
  obtain ⟨u,v,e,_,h2,_⟩:=hk _ h
  simp at e;rw [e.1,e.2];exact h2
 constructor
 ·intro h
  have:=asc h
  by_cases c:p<=q
  ·left;rw [MF c,MH c] at h;exact h
  ·right;rw [MJ (by omega),MK (by omega)] at h;exact h
 ·rintro (h | h)
  ·have := asc h
   rw [MF (by omega),MH (by omega)];exact h
  ·have := asc h
   rw [MJ (by omega),MK (by omega)];exact h
theorem oO:∀ {ns:List Int},ja (ns.map D.int)=some ns
 | []=>rfl
 | n::ns=>by simp [ja,oO (ns:=ns)]
theorem wA {ns:List Int} (h:∀ n∈ns,0<=n/\n<6):yw (ns.map D.int)=some ns:=by
 unfold yw
 rw [oO]
 dsimp only
 rw [ID (Lk.mpr fun n hn=>Kk (h n hn))]
theorem rW {μ:aA}{m:Nat}{ks:List (List Int)}{p:Int} (h:c8 (.tup [.int m,.tup (ks.map aj)]) m ks) (hp:0<=p/\p<(m:Int)):gq [.tup [.int m,.tup (ks.map aj)],.int p] μ=.ok (kZ (bL m ks p)) μ:=by
 have hl:=gM h
 obtain ⟨_,h0,h1,_,hk⟩:=h
 have eN:(μ++[O.lst [.int p]]++[O.lst [.int p]])[(μ++[O.lst [.int p]]).length]?=some (.lst ([p].map D.int)):=av
 obtain ⟨t,g,ns,e1,e2,e3,e4,e5⟩:=tx (μ:=μ++[O.lst [.int p]]++[O.lst [.int p]]) hk hl eN
 have mem:∀ q,q∈p::ns↔q∈bL m ks p:=fun q=>by
  unfold bL
  rw [IT,e5 q,IK,ij]
  simp only [KA,exists_eq_left,Mj,Md,cz hk,jc hk]
  constructor
  ·rintro (rfl | z)
   ·exact ⟨hp,.inl rfl⟩
   ·refine ⟨?_, .inr z⟩
    rcases z with z | z <;> (obtain ⟨u,v,e,h3,h4,h5⟩:=hk _ z;simp at e;obtain ⟨ea,eb⟩:=e;subst ea eb;exact ⟨by omega,by omega⟩)
  ·rintro ⟨_, z | z⟩
   ·exact .inl z
   ·exact .inr z
 have rng:∀ n∈p::ns,0<=n/\n<6:=fun n hn=>by
  have:=ij.mp (IK.mp ((mem n).mp hn)).1
  omega
 unfold gq
 rw [dq]
 have l1:([D.int p]:List D).length<=sizeLine:=IM (by simp) bp
 simp only [rh,List.replicate,aT,wH,aC,ar,ay,ah,ai,aa,oD hp,ab,aH,bb,az,gm,ID l1,aX,g7,e1]
 have ad:cA (.obj μ.length) (.obj t) (μ++[O.lst [.int p]]++[O.lst [.int p]]++g)=.ok (.obj (μ++[O.lst [.int p]]++[O.lst [.int p]]++g).length) ((μ++[O.lst [.int p]]++[O.lst [.int p]]++g)++[O.lst ((p::ns).map D.int)]):=by
  unfold cA
  dsimp only
  rw [e2,aV (aV av)]
  dsimp only
  rw [ID]
  ·rfl
  ·rw [JI]
   exact IM (show _<=1000 by simp;omega) bp
 rw [ad]
 simp only [aa]
 have st:∀ M:aA,lB [.obj M.length] (M++[O.lst ((p::ns).map D.int)])=.ok (.obj (M++[O.lst ((p::ns).map D.int)]).length) ((M++[O.lst ((p::ns).map D.int)])++[O.iset (fG (p::ns))]):=fun M=>by
  unfold lB
  dsimp only
  rw [av]
  dsimp only
  unfold nq
  rw [show k8 ((p::ns).map D.int)=none from rfl,wA rng]
 rw [st]
 simp only [aa]
 have so:∀ M:aA,bH [.obj M.length] (M++[O.iset (fG (p::ns))])=.ok (.obj (M++[O.iset (fG (p::ns))]).length) ((M++[O.iset (fG (p::ns))])++[.lst ((bL m ks p).map D.int)]):=fun M=>by
  unfold bH
  dsimp only
  rw [av]
  dsimp only
  rw [xj mem]
 rw [so]
 simp only [aa]
 rw [fH av]
 simp only [ab,aN]
 simp only [Ke]
 exact fF (by simp only [Co];exact il.mpr fun x hx=>by obtain ⟨k,_,rfl⟩:=K1.mp hx;simp)
theorem Eh {m:Nat}:aW 0 ((m:Int)).toNat=(rg m).map D.int:=by
 unfold aW rg
 rw [KO]
 simp
theorem dS {f g:MS}{ρ ρ':Ro}{μ μ':aA} (h:f ρ μ=.next ρ' μ'):br f g ρ μ=g ρ' μ':=by rw [aT,h,aH]
def rG (v:Nat) (f:Int->Option Nat) (qs:List Int):Int->Option Nat:=qs.foldl (fun f q=>ly f q v) f
theorem oU {v:Nat}:∀ (qs:List Int) (f:Int->Option Nat) (q:Int),rG v f qs q=if q∈qs then some v else f q
 | [],f,q=>by simp [rG]
 | x::qs,f,q=>by
  have:=oU (v:=v) qs (ly f x v) q
  unfold rG at this ⊢
  rw [Kf,this]
  by_cases h:q∈qs
  ·rw [ID h,ID (IS _ h)]
  ·rw [IE h]
   unfold ly
   by_cases e:q=x
   ·rw [ID e,ID (by simp [e])]
   ·rw [IE e,IE (by simp [e,h])]
section
variable {μ0:aA}{m A:Nat}{p:Int}{ks:List (List Int)}{w:D}
theorem CF {M:aA}{A t n:Nat}{f:Int->Option Nat}{fs:List Int}{o0 o1 o2 o3:Option D}{o7:Option D} (hA:M[A]?=some (.lst (dO m f))) (ht:M[t]?=some (.lst (fs.map D.int))) (hne:A≠t) (hfs:∀ q∈fs,0<=q/\q<(m:Int)) :
  ∃ o7',j3 (gK (af 6)) (ag 7) eP [o0,o1,o2,o3,some (.obj A),some (.int n),some (.obj t),o7] M=.next [o0,o1,o2,o3,some (.obj A),some (.int n),some (.obj t),o7'] (M.set A (.lst (dO m (rG n f fs)))):=by
 have hAl:A<M.length:=(IX.mp hA).1
 have run:=d7 (src:=.own t (fs.map D.int)) (g:=ag 7) (fb:=eP)
  (fun xs ρ μ1=>∃ ys zs:List Int,xs=zs.map D.int/\fs=ys++zs/\μ1=M.set A (.lst (dO m (rG n f ys)))/\∃ o7,ρ=[o0,o1,o2,o3,some (.obj A),some (.int n),some (.obj t),o7])
  (fun ρ μ1 ⟨ys,zs,_,_,e,_⟩=>by subst e;exact kj ht hne)
  (fun x xs ρ μ1 hJJ => by
   obtain ⟨ys,zs,hx,hf,e,o7,eρ⟩:=hJJ
   subst e eρ
   cases zs with
   | nil=>cases hx
   | cons z zs=>
    injection hx with h1 h2
    subst h1 h2
    have hz:=hfs z (by rw [hf];simp)
    have hlen:(dO m (rG n f ys)).length=m:=by unfold dO;rw [JI,KR]
    refine ⟨kj ht hne,_,_,[o0,o1,o2,o3,some (.obj A),some (.int n),some (.obj t),some (.int z)],M.set A (.lst (dO m (rG n f (ys++[z])))),rfl,?_,ys++[z],zs,rfl,by rw [hf];simp,rfl,_,rfl⟩
    show eP [o0,o1,o2,o3,some (.obj A),some (.int n),some (.obj t),some (.int z)] _=_
    unfold eP
    simp only [a9,ai,ah,ab,kH,aa]
    rw [lZ (gw hAl) (mP hz.1 (by rw [hlen];exact hz.2)),oH hz.1 hz.2]
    simp only [aa,ab,List.set_set]
    unfold rG
    rw [Ly]
    rfl)
  (xs:=fs.map D.int) (ρ:=[o0,o1,o2,o3,some (.obj A),some (.int n),some (.obj t),o7]) (μ:=M)
  ⟨[], fs, rfl, rfl, by
   apply LO
   intro j
   by_cases e:A=j
   ·subst e;rw [gw hAl,hA];rfl
   ·rw [I0 e],_,rfl⟩
 obtain ⟨ρ',μ',⟨ys,zs,hx,hf,e,o7',eρ⟩,run⟩:=run
 subst e eρ
 have hz:zs=[]:=by cases zs with
  | nil=>rfl
  | cons=>cases hx
 subst hz
 rw [Jv] at hf
 subst hf
 refine ⟨o7',?_⟩
 simp only [gn,cg,ai,ah,aa]
 rw [gy ht]
 simp only [ab,dE]
 exact run
theorem CD {M:aA}{A t n:Nat}{f:Int->Option Nat}{fs:List Int}{o0 o1 o2 o7:Option D} (hk:∀ k∈ks,mE m k) (hl:ks.length<=15) (hA:M[A]?=some (.lst (dO m f))) (ht:M[t]?=some (.lst (fs.map D.int))) (hne:A≠t)
  (hU:Up (js ks) p (fun q=>0<=q/\q<m) n f) (hfs:∀ q,q∈fs↔((0<=q/\q<(m:Int))/\f q=some n)) :
  ∃ (t':Nat) (fs':List Int) (f':Int->Option Nat) (g:aA) (o7':Option D),eO [o0,o1,o2,some (.tup (ks.map aj)),some (.obj A),some (.int n),some (.obj t),o7] M=.next [o0,o1,o2,some (.tup (ks.map aj)),some (.obj A),some (.int ((n+1:Nat):Int)),some (.obj t'),o7'] ((M++g).set A (.lst (dO m f'))) /\
   (M++g)[t']?=some (.lst (fs'.map D.int))/\A≠t'/\Up (js ks) p (fun q=>0<=q/\q<m) (n+1) f'/\∀ q,q∈fs'↔((0<=q/\q<(m:Int))/\f' q=some (n+1)):=by
 obtain ⟨s,g,ns,e1,e2,e3,e4,e5⟩:=tx hk hl ht
 have hA':=aV (g:=g) hA
 have hAl:A<M.length:=(IX.mp hA).1
 have hnsD:∀ q∈ns,0<=q/\q<(m:Int):=fun q hq=>by
  obtain ⟨r,_,ha⟩:=(e5 q).mp hq
  exact (fI hk ha).2
 have c:=dc (src:=.own s (ns.map D.int)) (g:=ag 0) (t:=i4) (e:=lj) (μ1:=M++g) (q:=fun d=>match d with | .int q=>decide (f q=none) | _=>false) (h:=fun d=>d)
  (fun ρ=>∃ o,ρ=[o,some (.obj A)]) (fun a=>aV e2) (xs:=ns.map D.int) (acc:=[]) (ρ:=[none,some (.obj A)]) ⟨_,rfl⟩
  (by rw [JI,KS];exact IM (by omega) bp)
  (fun x hx a ρ hJJ => by
   obtain ⟨o,ho⟩:=hJJ
   obtain ⟨q,hq,rfl⟩:=K1.mp hx
   subst ho
   refine ⟨[some (.int q),some (.obj A)],⟨_,rfl⟩,rfl,?_,fun _=>rfl⟩
   unfold i4
   simp only [bO,az,ai,ah,aX,aa]
   rw [gR (aV hA') (l8 (hnsD q hq).1 (hnsD q hq).2)]
   simp only [aa,rO,kL,Ko,JP,aM])
 have hfl:((ns.map D.int).filter fun d=>match d with | .int q=>decide (f q=none) | _=>false).map (fun d=>d)=(ns.filter fun q=>decide (f q=none)).map D.int:=by
  rw [List.map_id',Mu]
  rfl
 rw [Kj,hfl] at c
 have hmem:∀ q,q∈(ns.filter fun q=>decide (f q=none))↔(f q=none/\∃ r,js ks r q/\f r=some n):=fun q=>by
  rw [IK,Md,e5]
  constructor
  ·rintro ⟨⟨r, hr, ha⟩, hn⟩
   exact ⟨hn,r,ha,((hfs r).mp hr).2⟩
  ·rintro ⟨hn, r, ha, hr⟩
   exact ⟨⟨r,(hfs r).mpr ⟨(fI hk ha).1,hr⟩,ha⟩,hn⟩
 have hD':∀ q,q∈(ns.filter fun q=>decide (f q=none))->0<=q/\q<(m:Int):=fun q hq=>hnsD q (IK.mp hq).1
 have hne':A≠(M++g).length:=by rw [JH];omega
 obtain ⟨o7',er⟩:=CF (m:=m) (n:=n+1) (f:=f) (fs:=ns.filter fun q=>decide (f q=none)) (o0:=o0) (o1:=o1) (o2:=o2) (o3:=some (.tup (ks.map aj))) (o7:=o7) (M:=(M++g)++[O.lst ((ns.filter fun q=>decide (f q=none)).map D.int)]) (aV hA') av hne' hD'
 refine ⟨(M++g).length,ns.filter fun q=>decide (f q=none),rG (n+1) f (ns.filter fun q=>decide (f q=none)),g++[O.lst ((ns.filter fun q=>decide (f q=none)).map D.int)],o7',?_,by rw [<- Ke];exact av,hne',?_,fun q=>?_⟩
 ·unfold eO
  have s1:rB 5 lU (cC (.int 1)) [o0,o1,o2,some (.tup (ks.map aj)),some (.obj A),some (.int n),some (.obj t),o7] M=.next [o0,o1,o2,some (.tup (ks.map aj)),some (.obj A),some (.int ((n+1:Nat):Int)),some (.obj t),o7] M:=by
   push_cast;rfl
  rw [dS s1,aT,a9,bz,cg,aC]
  simp only [ar,ay,ai,ah,aa,e1]
  rw [gy e2]
  simp only [aa,dE]
  rw [show d5 [none,some 4] [o0,o1,o2,some (.tup (ks.map aj)),some (.obj A),some (.int ((n+1:Nat):Int)),some (.obj t),o7]=[none,some (.obj A)] from rfl,c]
  simp only [ab,cH,Mq,Mr,aH]
  rw [er,<- Ke]
 ·refine hU.next (fun a b h => (fI hk h).1) fun q hq j => ?_
  rw [oU]
  by_cases hm:q∈ns.filter fun q=>decide (f q=none)
  ·rw [ID hm]
   have:=(hmem q).mp hm
   constructor
   ·intro e;cases e;exact .inr ⟨this.1,rfl,this.2⟩
   ·rintro (z | ⟨_, z, _⟩)
    ·rw [this.1] at z;cases z
    ·rw [z]
  ·rw [IE hm]
   constructor
   ·exact .inl
   ·rintro (z | ⟨z1, z2, z3⟩)
    ·exact z
    ·exact absurd ((hmem q).mpr ⟨z1,z3⟩) hm
 ·rw [oU]
  constructor
  ·intro hm
   exact ⟨hD' q hm,by rw [ID hm]⟩
  ·rintro ⟨hq, z⟩
   by_cases hm:q∈ns.filter fun q=>decide (f q=none)
   ·exact hm
   ·rw [IE hm] at z
    have:=((hU q hq (n+1)).mp z).1
    omega
end
theorem t5 {μ0:aA}{m A:Nat}{p:Int}{ks:List (List Int)}{o0 o1 o2:Option D} (hk:∀ k∈ks,mE m k) (hl:ks.length<=15) (hp:0<=p/\p<(m:Int)) (hA0:μ0.length<=A) :
  ∀ (c n:Nat) (f:Int->Option Nat) (fs:List Int) (M:aA) (t:Nat) (o7:Option D),M[A]?=some (.lst (dO m f))->M[t]?=some (.lst (fs.map D.int))->A≠t->Up (js ks) p (fun q=>0<=q/\q<m) n f ->
   (∀ q,q∈fs↔((0<=q/\q<(m:Int))/\f q=some n))->(∀ i,i<μ0.length->M[i]?=μ0[i]?)->n<=m->m<n+c ->
   ∃ ρ' M' f',jw (j5 (af 6)) eO c [o0,o1,o2,some (.tup (ks.map aj)),some (.obj A),some (.int n),some (.obj t),o7] M=.next ρ' M'/\(∃ o5 o6 o7,ρ'=[o0,o1,o2,some (.tup (ks.map aj)),some (.obj A),o5,o6,o7]) /\
    M'[A]?=some (.lst (dO m f'))/\(∀ i,i<μ0.length->M'[i]?=μ0[i]?)/\mI (js ks) p (fun q=>0<=q/\q<m) f'
 | 0,n,f,fs,M,t,o7,hA,ht,hne,hU,hfs,hpre,h1,h2=>by omega
 | c+1,n,f,fs,M,t,o7,hA,ht,hne,hU,hfs,hpre,h1,h2=>by
  have tr:j5 (af 6) [o0,o1,o2,some (.tup (ks.map aj)),some (.obj A),some (.int n),some (.obj t),o7] M=.ok (!(fs.map D.int).isEmpty) M:=by
   simp only [iY,ai,ah,aa]
   unfold wR
   dsimp only
   rw [ht]
  unfold jw
  rw [tr,ab]
  cases fs with
  | nil=>
   refine ⟨_,M,f,rfl,⟨_,_,_,rfl⟩,hA,hpre,hU.full (fun a b h=>(fI hk h).2) fun q hq hl=>?_⟩
   obtain ⟨_,r,ha,hr⟩:=je.mp hl
   have:=(hfs r).mpr ⟨(fI hk ha).1,(hU r (fI hk ha).1 n).mpr ⟨Jp _,hr⟩⟩
   cases this
  | cons x fs=>
   have hx:=(hfs x).mp IR
   have hnm:n<m:=uY (m:=m) hp (fun a b h=>(fI hk h).2) ((hU x hx.1 n).mp hx.2).2
   obtain ⟨t',fs',f',g,o7',e,ht',hne',hU',hfs'⟩:=CD (o0:=o0) (o1:=o1) (o2:=o2) (o7:=o7) hk hl hA ht hne hU hfs
   have hAl:A<(M++g).length:=by rw [JH];have:=(IX.mp hA).1;omega
   rw [ID (show (!(List.map D.int (x::fs)).isEmpty)=true from rfl),e,nT]
   exact t5 hk hl hp hA0 c (n+1) f' fs' ((M++g).set A (.lst (dO m f'))) t' o7' (gw hAl) (kj ht' hne') hne' hU' hfs' (fun i hi=>by
    rw [I0 (by omega),JE (by have:=(IX.mp hA).1;omega)];exact hpre i hi) (by omega) (by omega)
theorem we {μ:aA}{m:Nat}{p:Int}{ks:List (List Int)} (h:c8 (.tup [.int m,.tup (ks.map aj)]) m ks) (p0:0<=p) (p1:p<(m:Int)) :
  ∃ A μ' f,dm [.tup [.int m,.tup (ks.map aj)],.int p] μ=.ok (.obj A) (μ++μ')/\(μ++μ')[A]?=some (.lst (dO m f))/\μ.length<=A/\mI (js ks) p (fun q=>0<=q/\q<m) f:=by
 have hlen:=gM h
 obtain ⟨_,h0,h1,hpw,hk⟩:=h
 have hm6:m<=6:=by omega
 let M0:aA:=(μ++[.lst [.non]])++[.lst (dO m fun _=>none)]
 have hM0:M0[(μ++[O.lst [.non]]).length]?=some (.lst (dO m fun _=>none)):=av
 have hlen0:(dO m fun _=>none).length=m:=by unfold dO;rw [JI,KR]
 let A:Nat:=(μ++[O.lst [.non]]).length
 have hAl:A<M0.length:=(IX.mp hM0).1
 let M1:aA:=M0.set A (.lst (dO m (ly (fun _=>none) p 0)))
 have hM1:M1[A]?=some (.lst (dO m (ly (fun _=>none) p 0))):=gw hAl
 have hpreM:∀ i,i<μ.length->(M1++[O.lst [.int p]])[i]?=μ[i]?:=fun i hi=>by
  have:i<M1.length:=by simp only [M1,M0,J9,JH];omega
  rw [JE this]
  simp only [M1]
  rw [I0 (by simp only [A,JH];omega)]
  simp only [M0]
  rw [Ke,JE hi]
 obtain ⟨ρ',M',f',ew,⟨o5,o6,o7,eρ⟩,hA',hpre,hF⟩:=t5 (μ0:=μ) (o0:=some (.tup [.int m,.tup (ks.map aj)])) (o1:=some (.int p)) (o2:=some (.int m)) hk hlen ⟨p0,p1⟩ (show μ.length<=A by simp only [A,JH];omega) 100 0 (ly (fun _=>none) p 0) [p] (M1++[O.lst [.int p]]) M1.length none
  (aV hM1) av (by simp only [M1, J9]; omega) (wM fun q _ => by unfold ly; rfl) (fun q => by
   unfold ly
   rw [KA]
   constructor
   ·rintro rfl;exact ⟨⟨p0,p1⟩,by rw [ID rfl]⟩
   ·rintro ⟨_, z⟩
    by_cases e:q=p
    ·exact e
    ·rw [IE e] at z;cases z) hpreM (by omega) (by omega)
 subst eρ
 obtain ⟨g,hg⟩:∃ g,M'=μ++g:=by
  refine ⟨M'.drop μ.length,?_⟩
  apply LO
  intro i
  by_cases hi:i<μ.length
  ·rw [JE hi,hpre i hi]
  ·rw [JD (by omega), Ld]
   congr 1;omega
 refine ⟨A,g,f',?_,by rw [<- hg];exact hA',by simp only [A,JH];omega,hF⟩
 unfold dm
 rw [dq]
 have l2':[D.int m,D.tup (ks.map aj)].length=2:=rfl
 have s1:bw (af 0) (cW 2 (aL (ag 2) (aL (ag 3) (cX)))) [some (.tup [.int m,.tup (ks.map aj)]),some (.int p),none,none,none,none,none,none] μ=.next [some (.tup [.int m,.tup (ks.map aj)]),some (.int p),some (.int m),some (.tup (ks.map aj)),none,none,none,none] μ:=by
  simp only [a9,ah,ab,CJ,ID l2',Am,CK,cH,aa,Mq,Mr]
 have s2:bw (au jR (i8 (ae (cC .non) (aw))) (af 2)) (ag 4) [some (.tup [.int m,.tup (ks.map aj)]),some (.int p),some (.int m),some (.tup (ks.map aj)),none,none,none,none] μ=.next [some (.tup [.int m,.tup (ks.map aj)]),some (.int p),some (.int m),some (.tup (ks.map aj)),some (.obj A),none,none,none] M0:=by
  simp only [a9,az,gm,ar,ay,aX,aa,Kq,KS,ID l1,ai,ah]
  unfold jR
  dsimp only
  rw [av]
  dsimp only
  have hz:(6:Nat)<=sizeLine:=by decide
  rw [ID (by refine ⟨by omega,by omega,?_⟩;simp only [Kq,KS];omega)]
  simp only [JN,oP,ab,cH,Mq,Mr,M0,A,qB]
 have s3:bw (cC (.int 0)) (k9 (af 4) (af 1)) [some (.tup [.int m,.tup (ks.map aj)]),some (.int p),some (.int m),some (.tup (ks.map aj)),some (.obj A),none,none,none] M0=.next [some (.tup [.int m,.tup (ks.map aj)]),some (.int p),some (.int m),some (.tup (ks.map aj)),some (.obj A),none,none,none] M1:=by
  simp only [a9,aX,ab,kH,ai,ah,aa]
  rw [lZ hM0 (mP p0 (by rw [hlen0];exact p1)),show (D.int 0)=.int ((0:Nat):Int) from rfl,oH p0 p1]
  rfl
 have s4:bw (cC (.int 0)) (ag 5) [some (.tup [.int m,.tup (ks.map aj)]),some (.int p),some (.int m),some (.tup (ks.map aj)),some (.obj A),none,none,none] M1=.next [some (.tup [.int m,.tup (ks.map aj)]),some (.int p),some (.int m),some (.tup (ks.map aj)),some (.obj A),some (.int ((0:Nat):Int)),none,none] M1:=rfl
 have s5:bw (i8 (ae (af 1) (aw))) (ag 6) [some (.tup [.int m,.tup (ks.map aj)]),some (.int p),some (.int m),some (.tup (ks.map aj)),some (.obj A),some (.int ((0:Nat):Int)),none,none] M1=.next [some (.tup [.int m,.tup (ks.map aj)]),some (.int p),some (.int m),some (.tup (ks.map aj)),some (.obj A),some (.int ((0:Nat):Int)),some (.obj M1.length),none] (M1++[O.lst [.int p]]):=by
  simp only [a9,gm,ar,ay,ai,ah,aa,Kq,KS,ID l1,ab,cH,Mq,Mr]
 unfold nF
 simp only [List.replicate]
 rw [dS s1,dS s2,dS s3,dS s4,dS s5,dS (show mN 100 (j5 (af 6)) eO _ _=_ from ew)]
 simp only [bb,ai,ah,ab,aN]
 rw [vU (by simp only [Cp,A,JH];omega),hg]
theorem qu {μ:aA}{k:Int} (h0:1<=k) (h1:k<=6):bg [.int k,.int 1,.int 6] μ=.ok (.bl true) μ:=by
 have w:fe [.int k] μ=.ok (.bl true) μ:=by
  unfold fe
  rw [eW]
  have e1:kN "int" (.int k) μ=.ok (.bl true) μ:=rfl
  have e2:kN "bool" (.int k) μ=.ok (.bl false) μ:=rfl
  simp only [lM,bb,gA,oe,wF,ah,aa,e1,e2,aM,JQ,Lx,ab,aN]
  exact cf (by simp)
 unfold bg
 rw [u3]
 simp only [gU,bb,gA,aC,ar,ay,ai,ah,aa,w,aM,JQ,t8,dM]
 rw [show dh .LtE 1 k=true from Kk h0,show dh .LtE k 6=true from Kk h1]
 simp only [aM,aa,JQ,ab,aN]
 exact cf (by simp)
theorem Eg {m:Nat}{f g:Int->Option Nat} (h:∀ q:Int,0<=q/\q<(m:Int)->f q=g q):dO m f=dO m g:=by
 unfold dO
 apply KQ
 intro i hi
 rw [IL] at hi
 rw [h i (by omega)]
theorem A5 {M:aA}{m A:Nat}{p k:Int}{T:Int->Int->Option Nat} (hA:M[A]?=some (.lst (dO m (T p)))) (hm:m<=6) (p0:0<=p) (p1:p<m) :
  compLoop (.fix (aW (p+1) ((m:Int) - (p+1)).toNat)) M.length (ag 0) gE gG (aW (p+1) ((m:Int) - (p+1)).toNat) [none,some (.int p),some (.int k),some (.obj A)] (M++[.lst []])=.ok (.obj M.length) (M++[.lst ((iF T k p (p+1) ((m:Int) - (p+1)).toNat).map aj)]):=by
 have:=dc (src:=.fix (aW (p+1) ((m:Int) - (p+1)).toNat)) (g:=ag 0) (t:=gE) (e:=gG) (μ1:=M) (q:=fun d=>match d with | .int q=>Dl k (T p q) | _=>false)
  (h:=fun d=>match d with | .int q=>aj [p,q] | _=>.non) (fun ρ=>∃ o,ρ=[o,some (.int p),some (.int k),some (.obj A)]) (fun _=>trivial) (xs:=aW (p+1) ((m:Int) - (p+1)).toNat) (acc:=[]) (ρ:=[none,some (.int p),some (.int k),some (.obj A)]) ⟨none,rfl⟩
  (by unfold aW;rw [JI,KS,KR];exact IM (by omega) bp)
  (fun x hx acc ρ ⟨o, ho⟩ => by
   unfold aW at hx
   obtain ⟨i,hi,rfl⟩:=K1.mp hx
   rw [IL] at hi
   subst ho
   refine ⟨[some (.int (p+1+(i:Int))),some (.int p),some (.int k),some (.obj A)],⟨_,rfl⟩,rfl,?_,fun _=>?_⟩
   ·have hix := gR (μ := M ++ [.lst acc]) (aV hA) (l8 (f := T p) (m := m) (q := p + 1 + (i : Int)) (by omega) (by omega))
    unfold gE
    simp only [gB,bO,az,ai,ah,aX,aa,hix,rO,kL,aM]
    cases e:T p (p+1+(i:Int)) with
    | none=>rfl
    | some j=>
     simp only [Iz (show ¬ some j=none by simp),Lx,JQ,dM,aa,aM,lQ]
     rfl
   ·unfold gG
    simp only [cv,ar,ay,ai,ah,aa,Kq,KS,ID l2]
    rfl)
 rw [this,Kj]
 exact Jd (fun z=>ak.ok (D.obj M.length) (M++[O.lst z])) (tI (T:=T) (k:=k) (p:=p) (lo:=p+1) (c:=((m:Int) - (p+1)).toNat))
theorem xb {μ:aA}{m:Nat}{k:Int}{ks:List (List Int)}{T:Int->Int->Option Nat} (h:c8 (.tup [.int m,.tup (ks.map aj)]) m ks) (k0:1<=k) (k1:k<=6)
  (hT:∀ p:Int,0<=p->p<m->mI (js ks) p (fun q=>0<=q/\q<m) (T p)) :
  bh [.tup [.int m,.tup (ks.map aj)],.int k] μ=.ok (.tup [.int m,.tup ((wO m T k).map aj)]) μ:=by
 have hG:=h
 obtain ⟨_,h0,h1,hp,hk⟩:=h
 have hm6:m<=6:=by omega
 have run:=d7 (src:=.fix (aW 0 m)) (g:=ag 4) (fb:=gF)
  (fun xs ρ μ1=>∃ (n c:Nat) (o4 o5:Option D),xs=aW n c/\n+c=m/\ρ=[some (.tup [.int m,.tup (ks.map aj)]),some (.int k),some (.int m),some (.obj μ.length),o4,o5]/\(∀ i,i<μ.length->μ1[i]?=μ[i]?)/\μ1[μ.length]?=some (.lst (((List.range n).flatMap fun p:Nat=>iF T k p ((p:Int)+1) (m - (p+1))).map aj)))
  (fun _ _ _=>trivial)
  (fun x r ρ μ1 ⟨n, c, o4, o5, e1, e3, e4, e5, e6⟩ => by
   subst e4
   cases c with
   | zero=>rw [h8] at e1;cases e1
   | succ c=>
    rw [d9] at e1
    injection e1 with ex er
    subst ex er
    obtain ⟨A,g,f,ef,hA,hAl,hF⟩:=we (μ:=μ1) (p:=(n:Int)) hG (by omega) (by omega)
    have hrow:dO m f=dO m (T n):=Eg fun q hq=>hF.eq (hT n (by omega) (by omega)) hq
    rw [hrow] at hA
    have q3:=A5 (k:=k) (p:=(n:Int)) hA hm6 (by omega) (by omega)
    rw [show ((m:Int) - ((n:Int)+1)).toNat=m - (n+1) by omega] at q3
    have hlen:=oQ (T:=T) (k:=k) hm6 n
    have hrl:=oG (T:=T) (k:=k) (p:=n) (lo:=(n:Int)+1) (c:=m - (n+1))
    have hml:μ.length<μ1.length:=(IX.mp e6).1
    have e6':((μ1++g)++[O.lst ((iF T k n ((n:Int)+1) (m - (n+1))).map aj)])[μ.length]?=some (.lst (((List.range n).flatMap fun p:Nat=>iF T k p ((p:Int)+1) (m - (p+1))).map aj)):=aV (aV e6)
    refine ⟨trivial,_,μ1,[some (.tup [.int m,.tup (ks.map aj)]),some (.int k),some (.int m),some (.obj μ.length),some (.int n),some (.obj A)],((μ1++g)++[O.lst ((iF T k n ((n:Int)+1) (m - (n+1))).map aj)]).set μ.length (O.lst (((List.range (n+1)).flatMap fun p:Nat=>iF T k p ((p:Int)+1) (m - (p+1))).map aj)),rfl,?_,n+1,c,some (.int n),some (.obj A),by push_cast;rfl,by omega,rfl,fun i hi=>?_,?_⟩
    ·show gF [some (.tup [.int m, .tup (ks.map aj)]), some (.int k), some (.int m), some (.obj μ.length), some (.int n), o5] μ1 = _
     unfold gF
     have s1:bw (ax dm (ae (af 0) (ae (af 4) (aw)))) (ag 5) [some (.tup [.int m,.tup (ks.map aj)]),some (.int k),some (.int m),some (.obj μ.length),some (.int n),o5] μ1=.next [some (.tup [.int m,.tup (ks.map aj)]),some (.int k),some (.int m),some (.obj μ.length),some (.int n),some (.obj A)] (μ1++g):=by
      simp only [a9,aC,ar,ay,ai,ah,aa,ef,ab,cH,Mq,Mr]
     rw [dS s1]
     unfold rB
     simp only [ai,ah,ab,bz,bS,ar,ay,az,aX,aa,gC]
     rw [iO (by omega) (by omega) (by omega) (by omega)]
     simp only [aa,aP]
     rw [show ((m:Int) - ((n:Int)+1)).toNat=m - (n+1) by omega]
     rw [show d5 [none,some 4,some 1,some 5] [some (D.tup [D.int ↑m,D.tup (List.map aj ks)]),some (D.int k),some (.int m),some (D.obj μ.length),some (D.int n),some (.obj A)]=[none,some (.int n),some (.int k),some (.obj A)] from rfl,q3]
     simp only [ab]
     unfold lU
     dsimp only
     rw [e6',av]
     dsimp only
     rw [ID (by
      rw [JI,JI]
      exact IM (show _<=1000 by omega) bp)]
     simp only [ab,Mq,Mr,Mv,Mw,K8,Mx,My,Jv]
    ·rw [I0 (by omega), Ke, JE (by omega)]
     exact e5 i hi
    ·exact gw (by rw [JH,JH];omega))
  (xs:=aW 0 m) (ρ:=[some (.tup [.int m,.tup (ks.map aj)]),some (.int k),some (.int m),some (.obj μ.length),none,none]) (μ:=μ++[.lst []])
  ⟨0,m,none,none,rfl,by omega,rfl,fun i hi=>by rw [JE hi],av⟩
 obtain ⟨ρ',μ',⟨n,c,o4,o5,e1,e3,e4,e5,e6⟩,run⟩:=run
 subst e4
 have hz:=kg e1.symm
 subst hz
 have hnm:n=m:=by omega
 subst hnm
 have hg:c8 (.tup [.int n,.tup ((wO n T k).map aj)]) n (wO n T k):=l6 (by omega) hm6
 obtain ⟨g,hpre⟩:∃ g,μ'=μ++g:=by
  refine ⟨μ'.drop μ.length,?_⟩
  apply LO
  intro i
  by_cases hi:i<μ.length
  ·rw [JE hi,e5 i hi]
  ·rw [JD (by omega), Ld]
   congr 1;omega
 unfold bh
 rw [dq]
 simp only [nC,List.replicate]
 rw [aT,bx,g6,iY,aC]
 simp only [ar,ay,ai,ah,aX,aa,qu k0 k1,gx,Lm,ab,Ko,JP,bG,aH]
 simp only [aT,a9,az,ah,aX,aa,dw,ab,cH,aH,Mq,Mr,gm,ay,KS,ID (Ky sizeLine),gn,bS,ar,ai]
 rw [eT (by omega) (by omega)]
 simp only [ab,aP,JN]
 rw [run]
 simp only [aH,bb,cv,ar,ay,az,aC,ai,ah,aX,aa]
 rw [fH e6]
 simp only [aa,Kq,KS,ID l2,ab,aN]
 rw [hpre]
 exact fF (jf hg)
theorem yU:∀ {xs ys:List (List Int)},xs.Pairwise (fun a b=>nj a<nj b)->ys.Pairwise (fun a b=>nj a<nj b)->(∀ k,k∈xs↔k∈ys)->xs=ys
 | [],ys,_,_,h=>by
  cases ys with
  | nil=>rfl
  | cons y ys=>exact absurd ((h y).mpr IR) KJ
 | x::xs,[],_,_,h=>absurd ((h x).mp IR) KJ
 | x::xs,y::ys,hx,hy,h=>by
  obtain ⟨x1,x2⟩:=K7.mp hx
  obtain ⟨y1,y2⟩:=K7.mp hy
  have e:x=y:=by
   rcases IT.mp ((h x).mp IR) with z | z
   ·exact z
   ·rcases IT.mp ((h y).mpr IR) with u | u
    ·exact u.symm
    ·have:=y1 x z;have:=x1 y u;omega
  subst e
  congr 1
  refine yU x2 y2 fun k=>?_
  constructor
  ·intro hk
   rcases IT.mp ((h k).mp (IS _ hk)) with z | z
   ·subst z;have:=x1 k hk;omega
   ·exact z
  ·intro hk
   rcases IT.mp ((h k).mpr (IS _ hk)) with z | z
   ·subst z;have:=y1 k hk;omega
   ·exact z
theorem iq {d d':D}{m m':Int}{ks ks':List (List Int)} (h:c8 d m ks) (h':c8 d' m' ks') (e:∀ a b:Int,[a,b]∈ks↔[a,b]∈ks'):ks=ks':=by
 refine yU h.2.2.2.1 h'.2.2.2.1 fun k=>?_
 constructor
 ·intro hk
  obtain ⟨a,b,rfl,_⟩:=h.2.2.2.2 k hk
  exact (e a b).mp hk
 ·intro hk
  obtain ⟨a,b,rfl,_⟩:=h'.2.2.2.2 k hk
  exact (e a b).mpr hk
abbrev bo (m:Nat) (ks:List (List Int)):D:=.tup [.int m,.tup (ks.map aj)]
abbrev GW (m:Nat) (ks:List (List Int)):Prop:=c8 (bo m ks) m ks
open Classical in
noncomputable def gY (m:Nat) (ks:List (List Int)) (k:Nat):List (List Int):=prs.filter fun x=>decide (x.getD 1 0<(m:Int)/\R (js ks) (x.getD 0 0) k (x.getD 1 0))
open Classical in
theorem ig {m k:Nat}{ks:List (List Int)}{a b:Int} (hm:m<=6):[a,b]∈gY m ks k↔(0<=a/\a<b/\b<(m:Int)/\R (js ks) a k b):=by
 unfold gY
 rw [IK,decide_eq_true_iff]
 constructor
 ·rintro ⟨h1, h2, h3⟩
  obtain ⟨c,d,e,g1,g2,g3⟩:=fw h1
  injection e with e1 e2
  injection e2 with e2 _
  subst e1 e2
  exact ⟨g1,g2,h2,h3⟩
 ·rintro ⟨h1, h2, h3, h4⟩
  exact ⟨rY h1 h2 (by omega),h3,h4⟩
theorem cc {m k:Nat}{ks:List (List Int)} (h0:1<=m) (hm:m<=6):GW m (gY m ks k):=by
 refine ⟨rfl,by omega,by omega,lG.filter _,fun x hx=>?_⟩
 obtain ⟨a,b,rfl,g1,g2,g3⟩:=fw (IK.mp hx).1
 obtain ⟨h1,h2,h3,_⟩:=(ig hm).mp hx
 exact ⟨a,b,rfl,h1,h2,h3⟩
theorem Ba {m:Nat}{T:Int->Int->Option Nat}{k:Int}{a b:Int}:[a,b]∈wO m T k↔(0<=a/\a<b/\b<(m:Int)/\Dl k (T a b)=true):=by
 unfold wO iF
 rw [Mt]
 constructor
 ·rintro ⟨p, hp, h⟩
  obtain ⟨q,hq,e⟩:=K1.mp h
  injection e with e1 e2
  injection e2 with e2 _
  subst e1 e2
  obtain ⟨h1,h2⟩:=IK.mp hq
  obtain ⟨i,hi,e⟩:=K1.mp h1
  have:=IL.mp hi
  have:=IL.mp hp
  exact ⟨by omega,by omega,by omega,h2⟩
 ·rintro ⟨h1, h2, h3, h4⟩
  refine ⟨a.toNat,IL.mpr (by omega),K1.mpr ⟨b,IK.mpr ⟨K1.mpr ⟨(b - a - 1).toNat,IL.mpr (by omega),by omega⟩,?_⟩,?_⟩⟩
  ·rw [Ll h1];exact h4
  ·rw [Ll h1]
theorem C6 {m k:Nat}{ks:List (List Int)}{p q:Int}{f:Int->Option Nat} (h:mI (js ks) p (fun q=>0<=q/\q<(m:Int)) f) (hq:0<=q/\q<(m:Int)):Dl k (f q)=true↔R (js ks) p k q:=by
 constructor
 ·intro e
  cases c:f q with
  | none=>rw [c] at e;cases e
  | some n=>
   rw [c] at e
   have hn:(n:Int)<=k:=MD e
   exact ((h q hq n).mp c).r.mono (by omega)
 ·intro e
  obtain ⟨j,hj,hl⟩:=R.lev e
  rw [(h q hq j).mpr hl]
  exact Kk (by omega)
theorem DO {m k:Nat}{ks:List (List Int)}{T:Int->Int->Option Nat} (h0:1<=m) (hm:m<=6) (hT:∀ p:Int,0<=p->p<m->mI (js ks) p (fun q=>0<=q/\q<m) (T p)):wO m T k=gY m ks k:=by
 refine iq (l6 h0 hm) (cc h0 hm) fun a b=>?_
 rw [Ba,ig hm]
 constructor
 ·rintro ⟨h1, h2, h3, h4⟩
  exact ⟨h1,h2,h3,(C6 (hT a h1 (by omega)) ⟨by omega,h3⟩).mp h4⟩
 ·rintro ⟨h1, h2, h3, h4⟩
  exact ⟨h1,h2,h3,(C6 (hT a h1 (by omega)) ⟨by omega,h3⟩).mpr h4⟩
theorem sV {μ:aA}{m k:Nat}{ks:List (List Int)} (h:GW m ks) (k0:1<=k) (k1:k<=6):bh [bo m ks,.int k] μ=.ok (bo m (gY m ks k)) μ:=by
 have h0:1<=m:=by have:=h.2.1;omega
 have hm:m<=6:=by have:=h.2.2.1;omega
 obtain ⟨T,hT,_⟩:=qy (μ:=μ) (k:=(2:Int)) h
 rw [xb (T:=T) h (by omega) (by omega) hT,DO h0 hm hT]
theorem nQ {μ:aA}{m:Nat}{ks:List (List Int)} (h:GW m ks):cU [bo m ks] μ=.ok (bo m (gY m ks 2)) μ:=by
 have:=sV (μ:=μ) (k:=2) h (by decide) (by decide)
 rw [show ((2:Nat):Int)=2 from rfl] at this
 unfold cU
 rw [eW]
 simp only [pE,List.replicate,bb,aC,ar,ay,ah,aX,aa,this,ab,aN]
 exact cf (jf (cc (by have:=h.2.1;omega) (by have:=h.2.2.1;omega)))
theorem qG {m:Int}:∀ {xs ys:List (List Int)},(∀ k∈xs,mE m k)->(∀ k∈ys,mE m k)->(PyData.eqvAll (xs.map ie) (ys.map ie)=true↔xs=ys)
 | [],[],_,_=>by simp [PyData.eqvAll]
 | [],_::_,_,_=>by simp [PyData.eqvAll]
 | _::_,[],_,_=>by simp [PyData.eqvAll]
 | x::xs,y::ys,hx,hy=>by
  have ih:=qG (xs:=xs) (ys:=ys) (fun k h=>hx k (IS _ h)) (fun k h=>hy k (IS _ h))
  obtain ⟨a,b,rfl,_⟩:=hx x IR
  obtain ⟨c,d,rfl,_⟩:=hy y IR
  simp only [J5,PyData.eqvAll,J2,ih,ie,PyData.eqv,J4,beq_iff_eq,List.cons.injEq]
theorem Az {μ:aA}{neg:Bool}{m:Nat}{ks ks':List (List Int)} (h:GW m ks) (h':GW m ks'):d4 neg (bo m ks) (bo m ks') μ=.ok (.bl (if neg then !decide (ks=ks') else decide (ks=ks'))) μ:=by
 have e:PyData.eqv (wQ m ks) (wQ m ks')=decide (ks=ks'):=by
  apply MC.mpr
  rw [decide_eq_true_iff,<- qG h.2.2.2.2 h'.2.2.2.2]
  simp only [wQ,PyData.eqv,PyData.eqvAll,Kn,Mz,Bool.and_true]
 unfold d4
 rw [v5 h,v5 h']
 dsimp only
 rw [ID ⟨v7 h,v7 h'⟩,e]
end Lw
namespace Lw
open PySem L2 RS Lv
section
variable {m:Nat}{ks:List (List Int)}
theorem GW.m0 (h:GW m ks):1<=m:=by have:=h.2.1;omega
theorem GW.m6 (h:GW m ks):m<=6:=by have:=h.2.2.1;omega
theorem AR (h:GW m ks) {a b:Int} (e:js ks a b):js ks b a:=(cz h.2.2.2.2).mpr ((cz h.2.2.2.2).mp e).symm
theorem uR (h:GW m ks) {a b:Int} (e:js ks a b):(0<=a/\a<(m:Int))/\(0<=b/\b<(m:Int)):=fI h.2.2.2.2 e
theorem rK {j:Nat} (h:GW m ks) (a b:Int):js (gY m ks j) a b↔(a≠b/\(0<=a/\a<(m:Int))/\(0<=b/\b<(m:Int))/\R (js ks) a j b):=by
 have g:=cc (k:=j) (ks:=ks) h.m0 h.m6
 rw [cz g.2.2.2.2,ig h.m6,ig h.m6]
 constructor
 ·rintro (⟨h1, h2, h3, h4⟩ | ⟨h1, h2, h3, h4⟩)
  ·exact ⟨by omega,by omega,by omega,h4⟩
  ·exact ⟨by omega,by omega,by omega,qt (fun _ _=>AR h) h4⟩
 ·rintro ⟨h1, h2, h3, h4⟩
  by_cases e:a<b
  ·exact .inl ⟨h2.1,e,h3.2,h4⟩
  ·exact .inr ⟨h3.1,by omega,h2.2,qt (fun _ _=>AR h) h4⟩
theorem DL (h:GW m ks):gY m ks 1=ks:=by
 refine iq (cc h.m0 h.m6) h fun a b=>?_
 rw [ig h.m6]
 constructor
 ·rintro ⟨h1, h2, h3, (h4 | ⟨r, h4, h5⟩)⟩
  ·have : b = a := h4
   omega
  ·have : r = a := h5
   subst this
   rcases (cz h.2.2.2.2).mp h4 with z | z
   ·exact z
   ·obtain ⟨c, d, e, g1, g2, g3⟩ := h.2.2.2.2 _ z
    injection e with e1 e2
    injection e2 with e2 _
    omega
 ·intro z
  obtain ⟨c,d,e,g1,g2,g3⟩:=h.2.2.2.2 _ z
  injection e with e1 e2
  injection e2 with e2 _
  subst e1 e2
  exact ⟨g1,g2,g3,R.one ((cz h.2.2.2.2).mpr (.inl z))⟩
theorem yC {j k:Nat} (h:GW m ks) (hjk:j<=k) {x:List Int} (hx:x∈gY m ks j):x∈gY m ks k:=by
 obtain ⟨a,b,rfl,_⟩:=(cc (k:=j) (ks:=ks) h.m0 h.m6).2.2.2.2 x hx
 rw [ig h.m6] at hx ⊢
 exact ⟨hx.1,hx.2.1,hx.2.2.1,hx.2.2.2.mono hjk⟩
theorem Gy {j k:Nat} (h:GW m ks):gY m (gY m ks j) k=gY m ks (j * k):=by
 have g:=cc (k:=j) (ks:=ks) h.m0 h.m6
 refine iq (cc h.m0 h.m6) (cc h.m0 h.m6) fun a b=>?_
 rw [ig h.m6,ig h.m6]
 constructor
 ·rintro ⟨h1, h2, h3, h4⟩
  exact ⟨h1,h2,h3,(kE (D:=fun q=>0<=q/\q<(m:Int)) (fun a b e=>(uR h e).2) (rK h) ⟨h1,by omega⟩).mp h4⟩
 ·rintro ⟨h1, h2, h3, h4⟩
  exact ⟨h1,h2,h3,(kE (D:=fun q=>0<=q/\q<(m:Int)) (fun a b e=>(uR h e).2) (rK h) ⟨h1,by omega⟩).mpr h4⟩
theorem FM {k:Nat} (h:GW m ks) {a b:Int} (ha:0<=a/\a<(m:Int)) (hb:0<=b/\b<(m:Int)):R (js ks) a k b↔(a=b\/[min a b,max a b]∈gY m ks k):=by
 rw [ig h.m6]
 constructor
 ·intro e
  by_cases z:a=b
  ·exact .inl z
  ·refine .inr ⟨by omega, by omega, by omega, ?_⟩
   by_cases u:a<b
   ·rw [show min a b=a by omega,show max a b=b by omega];exact e
   ·rw [show min a b=b by omega,show max a b=a by omega];exact qt (fun _ _=>AR h) e
 ·rintro (rfl | ⟨h1, h2, h3, h4⟩)
  ·exact R.self
  ·by_cases u : a < b
   ·rw [show min a b=a by omega,show max a b=b by omega] at h4;exact h4
   ·rw [show min a b=b by omega,show max a b=a by omega] at h4;exact qt (fun _ _=>AR h) h4
theorem oB {k n:Nat} (h:GW m ks) (e:gY m ks k=gY m ks (k+1)) (hn:k<=n):gY m ks n=gY m ks k:=by
 refine iq (cc h.m0 h.m6) (cc h.m0 h.m6) fun a b=>?_
 constructor
 ·intro hx
  rw [ig h.m6] at hx ⊢
  obtain ⟨h1,h2,h3,h4⟩:=hx
  refine ⟨h1,h2,h3,?_⟩
  have ha:0<=a/\a<(m:Int):=⟨h1,by omega⟩
  refine se (D:=fun q=>0<=q/\q<(m:Int)) (n:=n - k) (fun a b e=>(uR h e).1) (fun q hq z=>?_) (fun a b e=>(uR h e).2) ha (by rw [show k+(n - k)=n by omega];exact h4)
  rw [FM h ha hq,e,<- FM h ha hq]
  exact z
 ·exact fun hx=>yC h hn hx
theorem A9 (h:GW m ks):gY m ks 5=gY m ks 6:=by
 refine iq (cc h.m0 h.m6) (cc h.m0 h.m6) fun a b=>⟨fun hx=>yC h (by decide) hx,fun hx=>?_⟩
 rw [ig h.m6] at hx ⊢
 obtain ⟨h1,h2,h3,h4⟩:=hx
 have:=h.m6
 exact ⟨h1,h2,h3,(R.most (m:=m) ⟨h1,by omega⟩ (fun a b e=>(uR h e).2) h4).mono (by omega)⟩
def jy (m:Nat) (ks:List (List Int)) (k:Nat):Prop:=1<=k/\k<=5/\gY m ks k=gY m ks (k+1)/\∀ j,1<=j->j<k->gY m ks j≠gY m ks (j+1)
theorem qx {k j:Nat} (a:jy m ks k) (b:jy m ks j):k=j:=by
 rcases Nat.lt_trichotomy k j with z | z | z
 ·exact absurd a.2.2.1 (b.2.2.2 k a.1 z)
 ·exact z
 ·exact absurd b.2.2.1 (a.2.2.2 j b.1 z)
end
theorem ko {M:aA}{m:Nat}{ks:List (List Int)} (h:GW m ks):∀ (c n k:Nat),1<=k->k+n=5->n<c->(∀ j,1<=j->j<k->gY m ks j≠gY m ks (j+1)) ->
  ∃ k',jy m ks k'/\jw (f6 (au (d4 true) (ax bh (ae (af 0) (ae (af 1) (aw)))) (ax bh (ae (af 0) (ae (au cA (af 1) (cC (.int 1))) (aw)))))) fV c [some (bo m ks),some (.int k)] M=.next [some (bo m ks),some (.int k')] M
 | 0,n,k,_,_,h2,_=>by omega
 | c+1,n,k,k0,h1,h2,h3=>by
  have k5:k<=5:=by omega
  have s1:=sV (μ:=M) (k:=k) h k0 (by omega)
  have s2:=sV (μ:=M) (k:=k+1) h (by omega) (by omega)
  rw [show ((k+1:Nat):Int)=(k:Int)+1 from by omega] at s2
  have tr:f6 (au (d4 true) (ax bh (ae (af 0) (ae (af 1) (aw)))) (ax bh (ae (af 0) (ae (au cA (af 1) (cC (.int 1))) (aw))))) [some (bo m ks),some (.int k)] M=.ok (!decide (gY m ks k=gY m ks (k+1))) M:=by
   simp only [bO,az,aC,ar,ay,ah,ai,aX,aa,s1,gC,s2]
   rw [Az (cc h.m0 h.m6) (cc h.m0 h.m6),ID rfl]
   simp only [aa,aM]
  unfold jw
  rw [tr,ab]
  by_cases e:gY m ks k=gY m ks (k+1)
  ·rw [Kk e, IE (by decide)]
   exact ⟨k,⟨k0,k5,e,h3⟩,rfl⟩
  ·rw [Iz e, ID (show (!false) = true from rfl)]
   have:fV [some (bo m ks),some (.int k)] M=.next [some (bo m ks),some (.int ((k+1:Nat):Int))] M:=by
    unfold fV
    show rB 1 lU (cC (.int 1)) [some (bo m ks),some (.int k)] M=_
    rfl
   rw [this,nT]
   cases n with
   | zero=>
    have:k=5:=by omega
    subst this
    exact absurd (A9 h) e
   | succ n=>
    exact ko h c n (k+1) (by omega) (by omega) (by omega) fun j j1 j2=>by
     by_cases z:j=k
     ·subst z;exact e
     ·exact h3 j j1 (by omega)
theorem oC {μ:aA}{m:Nat}{ks:List (List Int)} (h:GW m ks):∃ k,jy m ks k/\∀ μ,cN [bo m ks] μ=.ok (.int k) μ:=by
 obtain ⟨k,hk,_⟩:=ko (M:=μ) h 100 4 1 (by decide) (by decide) (by decide) (fun j a b=>by omega)
 refine ⟨k,hk,fun μ=>?_⟩
 obtain ⟨k',hk',run⟩:=ko (M:=μ) h 100 4 1 (by decide) (by decide) (by decide) (fun j a b=>by omega)
 have:=qx hk hk'
 subst this
 unfold cN
 rw [eW]
 unfold mw mN
 simp only [List.replicate,aT,a9,aX,ab,cH,Mq,Mr,aH]
 rw [show ((1:Nat):Int)=1 from rfl] at run
 rw [run]
 simp only [aH,bb,ai,ah,ab,aN]
 exact cf (by simp)
end Lw
namespace Lw
open PySem L2 RS Lv
def AE (k k':List Int):Bool:=match k,k' with
 | [a,b],[c,d]=>decide (a<c) || (decide (a=c) && decide (b<d))
 | _,_=>false
theorem xX {μ:aA}{a b c d:Int}:gL .Lt (aj [a,b]) (aj [c,d]) μ=.ok (.bl (AE [a,b] [c,d])) μ:=by
 have e:gL .Lt (aj [a,b]) (aj [c,d]) μ=(match cmpPs .Lt [.int a,.int b] [.int c,.int d] with | some k=>.ok (.bl k) μ | none=>.bad):=rfl
 rw [e]
 simp only [cmpPs,gZ,PyData.eqv,AE]
 by_cases h1:a=c
 ·subst h1
  by_cases h2:b=d
  ·subst h2;simp [dh]
  ·simp [h2,dh]
 ·simp [h1,dh]
def Hq (k:List Int):Prop:=∃ a b,k=[a,b]
def FN (ks:List (List Int)):Bool:=(List.range (ks.length - 1)).all fun i=>AE (ks.getD i []) (ks.getD (i+1) [])
theorem G5:lh=au (gL .Lt) (au bW (af 1) (au fC (af 0) (cC (.int 1)))) (au bW (af 1) (af 0)):=rfl
theorem BA {μ:aA}{ks:List (List Int)} (hk:∀ k∈ks,Hq k) (a:List D) (i:Nat) (hi:i<ks.length - 1) :
  (au (gL .Lt) (au bW (af 1) (au fC (af 0) (cC (.int 1)))) (au bW (af 1) (af 0))) [some (.int (1+(i:Int))),some (.tup (ks.map aj))] (μ++[.lst a])=.ok (.bl (AE (ks.getD i []) (ks.getD (i+1) []))) (μ++[.lst a]):=by
 have h1:i<ks.length:=by omega
 have h2:i+1<ks.length:=by omega
 obtain ⟨x,y,e1⟩:=hk ks[i] (L0 h1)
 obtain ⟨u,v,e2⟩:=hk ks[i+1] (L0 h2)
 have g1:atI (ks.map aj) (1+(i:Int) - 1)=some (aj [x,y]):=by
  rw [show (1+(i:Int) - 1)=((i:Nat):Int) by omega]
  exact kI (by rw [JF,L1 h1,e1];rfl)
 have g2:atI (ks.map aj) (1+(i:Int))=some (aj [u,v]):=by
  rw [show (1+(i:Int))=((i+1:Nat):Int) by omega]
  exact kI (by rw [JF,L1 h2,e2];rfl)
 have k1:ks.getD i []=[x,y]:=by rw [LN,L1 h1,e1];rfl
 have k2:ks.getD (i+1) []=[u,v]:=by rw [LN,L1 h2,e2];rfl
 rw [k1,k2]
 simp only [az,ai,ah,aX,aa,Dd]
 rw [iZ g1]
 simp only [aa]
 rw [iZ g2]
 simp only [aa]
 exact xX
theorem zJ {μ:aA}{ks:List (List Int)} (hk:∀ k∈ks,Hq k) (hl:ks.length<1000) :
  compLoop (mC.fix (aW 1 (ks.length - 1))) μ.length (ag 0) bf (au (gL CmpOp.Lt) (au bW (af 1) (au fC (af 0) (cC (D.int 1)))) (au bW (af 1) (af 0))) (aW 1 (ks.length - 1)) [none,some (D.tup (List.map aj ks))] (μ++[O.lst []]) =
   .ok (.obj μ.length) (μ++[.lst (((List.range (ks.length - 1)).map fun i=>AE (ks.getD i []) (ks.getD (i+1) [])).map D.bl)]):=by
 have:=dc (src:=.fix (aW 1 (ks.length - 1))) (g:=ag 0) (t:=bf) (e:=au (gL .Lt) (au bW (af 1) (au fC (af 0) (cC (.int 1)))) (au bW (af 1) (af 0))) (μ1:=μ) (q:=fun _=>true)
  (h:=fun d=>match d with | .int j=>.bl (AE (ks.getD (j - 1).toNat []) (ks.getD ((j - 1).toNat+1) [])) | _=>.non) (fun ρ=>∃ o,ρ=[o,some (.tup (ks.map aj))]) (fun _=>trivial) (xs:=aW 1 (ks.length - 1)) (acc:=[]) (ρ:=[none,some (.tup (ks.map aj))]) ⟨none,rfl⟩
  (by rw [oI,JI,KR,KS];exact IM (by omega) bp)
  (fun x hx a ρ ⟨o, ho⟩ => by
   rw [oI] at hx
   obtain ⟨i,hi,rfl⟩:=K1.mp hx
   refine ⟨[some (.int (1+(i:Int))),some (.tup (ks.map aj))],⟨_,rfl⟩,by subst ho;rfl,rfl,fun _=>?_⟩
   rw [BA hk a i (by simpa using hi)]
   dsimp only
   rw [show (1+(i:Int) - 1).toNat=i by omega])
 rw [this,Ms.mpr (fun _ _=>rfl),oI,KO,Kj,KO]
 congr 4
 apply KQ
 intro i _
 show D.bl (AE (ks.getD (1+(i:Int) - 1).toNat []) (ks.getD ((1+(i:Int) - 1).toNat+1) []))=_
 rw [show (1+(i:Int) - 1).toNat=i by omega]
 rfl
theorem xg {μ:aA}{ks:List (List Int)} (hk:∀ k∈ks,Hq k) (hl:ks.length<1000):fy [.tup (ks.map aj)] μ=.ok (.bl (FN ks)) μ:=by
 unfold fy
 rw [eW]
 simp only [nD,bb,aC,ar,bz,bS,aX,ay,aa,ah,l4,JI]
 rw [iO (by omega) (by omega) (by omega) (by omega)]
 have hn:((ks.length:Int) - 1).toNat=ks.length - 1:=by omega
 simp only [aa,aP,hn]
 rw [show d5 [none,some 0] (some (D.tup (List.map aj ks))::List.replicate (1 - 1) none)=[none,some (D.tup (List.map aj ks))] from rfl]
 rw [G5,zJ hk hl]
 simp only [aa]
 rw [l5 av]
 simp only [ab,aN]
 rw [fF (by simp)]
 simp [FN,Mg,Function.comp_def]
theorem wd {μ:aA}{m:Nat} (h0:1<=m) (h1:m<=6):gr [.int m] μ=.ok (.bl true) μ:=by
 unfold gr
 rw [eW]
 simp only [rm,List.replicate,bb,aC,ar,ay,ah,aX,aa,qu (show (1:Int)<=(m:Int) by omega) (show (m:Int)<=6 by omega),ab,aN]
 exact cf (by simp)
theorem wb {μ:aA}{m:Nat}{a b:Int} (ha:0<=a/\a<(m:Int)) (hb:0<=b/\b<(m:Int)) (hn:a≠b):fx [.int m,.tup [.int a,.int b]] μ=.ok (.bl true) μ:=by
 have h1:cM [.int m,.tup [.int a,.int b]] μ=.ok (.bl true) μ:=by
  rw [oY (fun x hx=>by simp only [IT,KJ,KL] at hx;rcases hx with rfl|rfl <;> exact nofun) (by simp)]
  congr 2
  simp only [List.all_cons,List.all_nil,Bool.and_true,yh,J2,Md]
  exact ⟨ha,hb⟩
 have h2:d4 true (.int a) (.int b) μ=.ok (.bl true) μ:=by
  show ak.ok (D.bl (!(a == b))) μ=_
  rw [IA.mpr hn];rfl
 have i0:bW (.tup [.int a,.int b]) (.int 0) μ=.ok (.int a) μ:=rfl
 have i1:bW (.tup [.int a,.int b]) (.int 1) μ=.ok (.int b) μ:=rfl
 have l2:d4 false (.int (([.int a,.int b]:List D).length:Int)) (.int 2) μ=.ok (.bl true) μ:=rfl
 unfold fx
 rw [dq]
 simp only [rl,List.replicate,bb,gA,aC,ar,ay,ah,ai,aX,aa,h1,aM,JQ,az,l4,l2,i0,i1,h2,ab,aN]
 exact cf (by simp)
theorem DY {μ:aA}{m:Nat}{a b:Int} (h0:0<=a) (h1:a<b) (h2:b<(m:Int)):km [.int m,.tup [.int a,.int b]] μ=.ok (.bl true) μ:=by
 have hp:=wb (μ:=μ) (m:=m) (a:=a) (b:=b) ⟨h0,by omega⟩ ⟨by omega,h2⟩ (by omega)
 have i0:bW (.tup [.int a,.int b]) (.int 0) μ=.ok (.int a) μ:=rfl
 have i1:bW (.tup [.int a,.int b]) (.int 1) μ=.ok (.int b) μ:=rfl
 unfold km
 rw [dq]
 simp only [uf,List.replicate,bb,gA,aC,ar,ay,ah,ai,aX,aa,hp,aM,JQ,az,i0,i1,dM,ab,aN]
 rw [show dh .Lt a b=true from Kk h1]
 exact cf (by simp)
theorem Ej {m:Int}:∀ {ks:List (List Int)},(∀ k∈ks,mE m k)->m<=6->ks.Pairwise (fun a b=>nj a<nj b)->∀ i,i<ks.length - 1->AE (ks.getD i []) (ks.getD (i+1) [])=true:=fun {ks} hk hm hp i hi=>by
 have h1:i<ks.length:=by omega
 have h2:i+1<ks.length:=by omega
 have e1:ks.getD i []=ks[i]:=by rw [LN,L1 h1];rfl
 have e2:ks.getD (i+1) []=ks[i+1]:=by rw [LN,L1 h2];rfl
 have lt:=KY.mp hp i (i+1) h1 h2 (by omega)
 rw [e1,e2]
 obtain ⟨a,b,ea,a1,a2,a3⟩:=hk _ (L0 h1)
 obtain ⟨c,d,ec,c1,c2,c3⟩:=hk _ (L0 h2)
 rw [ea,ec] at lt ⊢
 have lt':a * 6+b<c * 6+d:=lt
 unfold AE
 dsimp only
 by_cases z:a<c
 ·rw [Kk z];rfl
 ·have : a = c := by omega
  rw [Iz z,Kk this,Kk (show b<d by omega)];rfl
theorem Bg {μ:aA}{m:Nat}{ks:List (List Int)} (h:GW m ks):jm [.int m,.tup (ks.map aj)] μ=.ok (.bl true) μ:=by
 have hl:=gM h
 have hr:fy [.tup (ks.map aj)] (μ++[.lst (ks.map fun _=>D.bl true)])=.ok (.bl true) (μ++[.lst (ks.map fun _=>D.bl true)]):=by
  rw [xg (fun k hk=>by obtain ⟨a,b,e,_⟩:=h.2.2.2.2 k hk;exact ⟨a,b,e⟩) (by omega)]
  congr 2
  exact Lk.mpr fun i hi=>Ej h.2.2.2.2 (by have:=h.m6;omega) h.2.2.2.1 i (by simpa using hi)
 have c:=dD (U:=List Int) (en:=aj) (src:=.fix (ks.map aj)) (g:=ag 0) (t:=bf) (e:=ky) (μ1:=μ) (q:=fun _=>true) (h:=fun _=>.bl true) (fun ρ=>∃ o,ρ=[o,some (.int m)]) (fun _=>trivial) (us:=ks) (acc:=[]) (ρ:=[none,some (.int m)]) ⟨_,rfl⟩
  (by rw [KS];exact IM (by omega) bp)
  (fun k hk a ρ hJJ => by
   obtain ⟨o,e⟩:=hJJ
   subst e
   obtain ⟨x,y,rfl,g1,g2,g3⟩:=h.2.2.2.2 k hk
   refine ⟨[some (aj [x,y]),some (.int m)],⟨_,rfl⟩,rfl,rfl,fun _=>?_⟩
   unfold ky
   simp only [aC,ar,ay,ah,ai,aa]
   exact DY g1 g2 g3)
 rw [fK,Kj] at c
 unfold jm
 rw [dq]
 simp only [rk,List.replicate,bb,gA,oe,aC,ar,ay,ah,ai,aX,aa]
 rw [show kN "tuple" (.tup (ks.map aj)) μ=.ok (.bl true) μ from rfl]
 simp only [aa,aM,JQ,bz,cg,ai,ah]
 rw [show sM (.tup (ks.map aj)) μ=.ok (.fix (ks.map aj)) μ from rfl]
 simp only [aa,aP]
 rw [show d5 [none,some 0] (some (.int m)::some (.tup (ks.map aj))::List.replicate (2 - 2) none)=[none,some (.int m)] from rfl,c]
 simp only [aa]
 rw [show ks.map (fun _=>D.bl true)=(ks.map fun _=>true).map D.bl from by rw [KO];rfl]
 rw [l5 av]
 rw [show (ks.map fun _=>true).all id=true from by simp]
 simp only [aa,aM,JQ,aC,ar,ay,ai,ah]
 rw [show (ks.map fun _=>true).map D.bl=ks.map (fun _=>D.bl true) from by rw [KO];rfl,hr]
 simp only [ab,aN]
 exact fF (by simp)
theorem vc {μ:aA}{m:Nat}{ks:List (List Int)} (h:GW m ks):iw [bo m ks] μ=.ok (.bl true) μ:=by
 have l2:d4 true (.int (([.int (m:Int),.tup (ks.map aj)]:List D).length:Int)) (.int 2) μ=.ok (.bl false) μ:=rfl
 unfold iw
 rw [eW]
 simp only [pD,List.replicate,aT,bx,oq,g6,iY,oe,ah,aa]
 rw [show kN "tuple" (.tup [.int (m:Int),.tup (ks.map aj)]) μ=.ok (.bl true) μ from rfl]
 simp only [aa,gx,Lm,Ko,JP,bO,az,aC,ar,ay,ah,aX,l4,l2,aM,ab,bG,aH,a9]
 simp only [aT,a9,ah,aa,ab]
 rw [show cW 2 (aL (ag 1) (aL (ag 2) cX)) (.tup [.int (m:Int),.tup (ks.map aj)]) [some (.tup [.int (m:Int),.tup (ks.map aj)]),none,none] μ=.ok [some (.tup [.int (m:Int),.tup (ks.map aj)]),some (.int m),some (.tup (ks.map aj))] μ from rfl]
 simp only [ab,aH,bb,gA,aC,ar,ay,ai,ah,aa,wd h.m0 h.m6,aM,JQ,Bg h,aN]
 exact cf (by simp)
def mm (p:Int × Int):List Int:=[min p.1 p.2,max p.1 p.2]
def PP (m:Nat) (p:Int × Int):Prop:=(0<=p.1/\p.1<(m:Int))/\(0<=p.2/\p.2<(m:Int))/\p.1≠p.2
theorem PP.ok {m:Nat}{p:Int × Int} (h:PP m p):mE m (mm p):=⟨_,_,rfl,by have:=h.1;have:=h.2.1;omega,by have:=h.2.2;omega,by have:=h.1;have:=h.2.1;omega⟩
theorem tG {M:aA}{t m:Nat}{xs:List D} (hm:m<=6) (ht:M[t]?=some (.lst xs)):∀ (rs:List (Int × Int)) (acc:List (List Int)) (o:Option D),(∀ p∈rs,PP m p) ->
  ∃ o',j9 (.own t xs) M.length (ag 0) bf jF (rs.map bM) [o] (M++[.set acc])=.ok [o'] (M++[.set ((rs.map mm).foldl lC acc)])
 | [],acc,o,_=>by
  refine ⟨o,?_⟩
  rw [J4]
  unfold j9
  rw [ID (show di (.own t xs) (M++[.set acc]) from aV ht)]
  rfl
 | p::rs,acc,o,h=>by
  obtain ⟨o',e⟩:=tG hm ht rs (lC acc (mm p)) (some (bM p)) fun q hq=>h q (IS _ hq)
  refine ⟨o',?_⟩
  have hp:=(h p IR).ok.prs (by omega)
  have ee:jF M.length [some (bM p)] (M++[.set acc])=.ok [some (bM p)] (M++[.set (lC acc (mm p))]):=by
   unfold jF vV pC bM
   simp only [cv,ar,ay,aC,ah,aa,F7,F9,Kq,KS,ID l2,bP]
   unfold AS
   rw [av]
   dsimp only
   rw [ID (show [min p.1 p.2,max p.1 p.2]∈prs from hp)]
   simp only [aa]
   rw [show (M++[O.set acc]).set M.length (O.set (lC acc [min p.1 p.2,max p.1 p.2]))=M++[O.set (lC acc [min p.1 p.2,max p.1 p.2])] from kf]
   rfl
  rw [J5]
  unfold j9
  rw [ID (show di (.own t xs) (M++[.set acc]) from aV ht)]
  rw [show ag 0 (bM p) [o] (M++[.set acc])=.ok [some (bM p)] (M++[.set acc]) from rfl]
  simp only [bP,aa]
  rw [show bf [some (bM p)] (M++[.set acc])=.ok true (M++[.set acc]) from rfl]
  simp only [bP,aa,JQ]
  rw [ee]
  simp only [bP,aa]
  rw [e]
  rfl
theorem tu {μ:aA}{m t:Nat}{ps:List (Int × Int)} (h0:1<=m) (hm:m<=6) (ht:μ[t]?=some (.lst (ps.map bM))) (hps:∀ p∈ps,PP m p):gN [.int m,.obj t] μ=.ok (bo m (fE (ps.map mm))) μ:=by
 have hks:∀ k∈ps.map mm,mE m k:=fun k hk=>by obtain ⟨p,hp,rfl⟩:=K1.mp hk;exact (hps p hp).ok
 obtain ⟨ρ',μ',⟨rs,o2,o3,e1,e2,e3⟩,run⟩:=d7 (src:=.eno t (ps.map bM)) (g:=cW 2 (aL (ag 2) (aL (ag 3) (cX)))) (fb:=lL)
  (fun xs ρ M=>∃ (rs:List (Nat × (Int × Int))) (o2 o3:Option D),xs=rs.map (fun r=>D.tup [.int (r.1:Nat),bM r.2])/\(M=μ/\∀ r∈rs,PP m r.2)/\ρ=[some (.int m),some (.obj t),o2,o3])
  (fun ρ M hJJ => by
   obtain ⟨_,_,_,_,e,_⟩:=hJJ
   rw [e.1];exact ht)
  (fun x xs ρ M hJJ => by
   obtain ⟨rs,o2,o3,e1,e2,e3⟩:=hJJ
   subst e3
   obtain ⟨rfl,e2⟩:=e2
   cases rs with
   | nil=>cases e1
   | cons r rs=>
    rw [J5] at e1
    injection e1 with h1 h2
    subst h1 h2
    have hp:=e2 r IR
    refine ⟨ht,[some (.int m),some (.obj t),some (.int (r.1:Nat)),some (bM r.2)],M,[some (.int m),some (.obj t),some (.int (r.1:Nat)),some (bM r.2)],M,rfl,?_,rs,_,_,rfl,⟨rfl,fun z hz=>e2 z (IS _ hz)⟩,rfl⟩
    unfold lL
    simp only [bx,g6,iY,aC,ar,ay,ah,ai,aa]
    rw [show fx [.int m,bM r.2] M=.ok (.bl true) M from wb hp.1 hp.2.1 hp.2.2]
    simp only [aa,gx,Lm,ab,Ko,JP,bG])
  (xs:=iL 0 (ps.map bM)) (ρ:=[some (.int m),some (.obj t),none,none]) (μ:=μ)
  ⟨(List.range ps.length).zip ps, none, none, by
    have core:∀ (l:List (Int × Int)) (k:Nat),iL k (l.map bM)=((List.range' k l.length).zip l).map (fun r=>D.tup [.int (r.1:Nat),bM r.2]):=by
     intro l
     induction l with
     | nil=>intro k;rfl
     | cons p l ih=>
      intro k
      simp only [J5,iL,Kq,List.range'_succ,Me]
      rw [ih (k+1)]
    rw [core,<- List.range_eq_range'],⟨rfl,fun r hr=>hps r.2 (Jz hr).2⟩,rfl⟩
 obtain ⟨rfl,_⟩:=e2
 subst e3
 obtain ⟨o',sl⟩:=tG hm ht ps [] none hps
 unfold gN
 rw [dq]
 simp only [ue,List.replicate,aT,bx,g6,iY,aC,ar,ay,ah,ai,aa,wd h0 hm,gx,Lm,ab,Ko,JP,bG,aH,gn,bS]
 rw [show qq [.obj t] μ'=.ok (.eno t (ps.map bM)) μ' from by unfold qq;dsimp only;rw [ht]]
 simp only [ab]
 rw [show (mC.eno t (ps.map bM)).items=iL 0 (ps.map bM) from rfl,run]
 simp only [aH,bb,cv,ar,ay,aC,ah,ai,aa]
 unfold rP
 simp only [cg,ai,ah,aa]
 rw [gy ht]
 simp only [aa,dE]
 rw [show d5 [none] _=[none] from rfl,sl]
 simp only [aa]
 rw [show (ps.map mm).foldl lC []=dv (ps.map mm) from rfl]
 have s2:bH [.obj μ'.length] (μ'++[.set (dv (ps.map mm))])=.ok (.obj (μ'++[O.set (dv (ps.map mm))]).length) ((μ'++[.set (dv (ps.map mm))])++[.lst ((fE (ps.map mm)).map aj)]):=by
  unfold bH;dsimp only;rw [av];dsimp only;rw [kq]
 rw [s2]
 simp only [aa]
 rw [fH av]
 simp only [aa,Kq,KS,ID l2,ab,aN]
 rw [Ke]
 exact fF (jf (iU (by omega) (by omega) hks))
theorem oE {m:Nat}{ps:List (Int × Int)}{a b:Int} (hm:m<=6) (hps:∀ p∈ps,PP m p):[a,b]∈fE (ps.map mm)↔∃ p∈ps,mm p=[a,b]:=by
 unfold fE
 rw [IK,Md,K1]
 exact ⟨fun h=>h.2,fun h=>⟨by obtain ⟨p,hp,e⟩:=h;rw [<- e];exact (hps p hp).ok.prs (by omega),h⟩⟩
theorem wj {m:Nat}{ps:List (Int × Int)} (h0:1<=m) (hm:m<=6) (hps:∀ p∈ps,PP m p):GW m (fE (ps.map mm)):=iU (by omega) (by omega) fun k hk=>by obtain ⟨p,hp,rfl⟩:=K1.mp hk;exact (hps p hp).ok
structure nW (m:Nat) (ns:List Int):Prop where
 nd:ns.Nodup
 len:ns.length=m
 rng:∀ n∈ns,0<=n/\n<(m:Int)
def nm (ns:List Int) (k:Int):Int:=ns.getD k.toNat 0
section
variable {m:Nat}{ns:List Int}{ks:List (List Int)}
theorem nW.get (N:nW m ns) {k:Int} (h:0<=k/\k<(m:Int)):∃ hk:k.toNat<ns.length,nm ns k=ns[k.toNat]:=by
 have hk:k.toNat<ns.length:=by rw [N.len];omega
 exact ⟨hk,by unfold nm;rw [LN,L1 hk];rfl⟩
theorem nW.at (N:nW m ns) {k:Int} (h:0<=k/\k<(m:Int)):atI (ns.map D.int) k=some (.int (nm ns k)):=by
 obtain ⟨hk,e⟩:=N.get h
 refine rQ h.1 ?_
 rw [JF,L1 hk,e];rfl
theorem nW.ran (N:nW m ns) {k:Int} (h:0<=k/\k<(m:Int)):0<=nm ns k/\nm ns k<(m:Int):=by
 obtain ⟨hk,e⟩:=N.get h
 rw [e];exact N.rng _ (L0 hk)
theorem nW.inj (N:nW m ns) {a b:Int} (ha:0<=a/\a<(m:Int)) (hb:0<=b/\b<(m:Int)) (e:nm ns a=nm ns b):a=b:=by
 obtain ⟨h1,e1⟩:=N.get ha
 obtain ⟨h2,e2⟩:=N.get hb
 rw [e1,e2] at e
 have:=(IY N.nd).mp e
 omega
theorem nW.all (N:nW m ns) {b:Int} (hb:0<=b/\b<(m:Int)):∃ a,(0<=a/\a<(m:Int))/\nm ns a=b:=by
 have sub:ns ⊆ rg m:=fun n hn=>ij.mpr (N.rng n hn)
 have hmem:b∈ns:=by
  apply K2
  intro hc
  have:(b::ns).Nodup:=Jy.mpr ⟨hc,N.nd⟩
  have l:=this.length_le_of_subset (show b::ns ⊆ rg m from fun n hn=>by
   rcases IT.mp hn with z | z
   ·subst z;exact ij.mpr hb
   ·exact sub z)
  rw [uV,Kq,N.len] at l
  omega
 obtain ⟨i,hi,e⟩:=L8 hmem
 have hi':(0:Int)<=(i:Int)/\(i:Int)<(m:Int):=by have:=N.len;omega
 refine ⟨i,hi',?_⟩
 unfold nm
 rw [show ((i:Int)).toNat=i from by omega,LN,L1 hi,e];rfl
def uP (ns:List Int) (k:List Int):Int × Int:=(nm ns (k.getD 0 0),nm ns (k.getD 1 0))
def gJ (ks:List (List Int)) (ns:List Int):List (List Int):=fE ((ks.map (uP ns)).map mm)
theorem uW (N:nW m ns) (h:∀ k∈ks,mE m k):∀ p∈ks.map (uP ns),PP m p:=fun p hp=>by
 obtain ⟨k,hk,rfl⟩:=K1.mp hp
 obtain ⟨a,b,rfl,h1,h2,h3⟩:=h k hk
 have x1:0<=a/\a<(m:Int):=⟨h1,by omega⟩
 have y1:0<=b/\b<(m:Int):=⟨by omega,h3⟩
 exact ⟨N.ran x1,N.ran y1,fun e=>by have:=N.inj x1 y1 e;omega⟩
theorem iX (N:nW m ns) (h:GW m ks):GW m (gJ ks ns):=wj h.m0 h.m6 (uW N h.2.2.2.2)
theorem kD (N:nW m ns) (h:GW m ks) {a b:Int} (ha:0<=a/\a<(m:Int)) (hb:0<=b/\b<(m:Int)):js ks a b↔js (gJ ks ns) (nm ns a) (nm ns b):=by
 have hk:=h.2.2.2.2
 have pp:=uW N hk
 rw [cz (iX N h).2.2.2.2,cz hk]
 unfold gJ
 rw [oE h.m6 pp,oE h.m6 pp]
 constructor
 ·intro e
  have key:∃ p∈ks.map (uP ns),(p.1=nm ns a/\p.2=nm ns b)\/(p.1=nm ns b/\p.2=nm ns a):=by
   rcases e with e | e
   ·exact ⟨_,K1.mpr ⟨_,e,rfl⟩,.inl ⟨rfl,rfl⟩⟩
   ·exact ⟨_,K1.mpr ⟨_,e,rfl⟩,.inr ⟨rfl,rfl⟩⟩
  obtain ⟨p,hp,hc⟩:=key
  by_cases le:nm ns a<=nm ns b
  ·refine .inl ⟨p, hp, ?_⟩
   unfold mm
   rcases hc with ⟨e1,e2⟩ | ⟨e1,e2⟩ <;> rw [e1,e2]
   ·rw [MF le,MH le]
   ·rw [MJ le,MK le]
  ·have le' : nm ns b <= nm ns a := by omega
   refine .inr ⟨p,hp,?_⟩
   unfold mm
   rcases hc with ⟨e1,e2⟩ | ⟨e1,e2⟩ <;> rw [e1,e2]
   ·rw [MJ le',MK le']
   ·rw [MF le',MH le']
 ·intro e
  have key:∃ p∈ks.map (uP ns),(p.1=nm ns a/\p.2=nm ns b)\/(p.1=nm ns b/\p.2=nm ns a):=by
   rcases e with ⟨p,hp,e⟩ | ⟨p,hp,e⟩
   ·unfold mm at e
    injection e with e1 e2
    injection e2 with e2 _
    exact ⟨p,hp,by omega⟩
   ·unfold mm at e
    injection e with e1 e2
    injection e2 with e2 _
    exact ⟨p,hp,by omega⟩
  obtain ⟨p,hp,hc⟩:=key
  obtain ⟨k,hkm,rfl⟩:=K1.mp hp
  obtain ⟨x,y,rfl,h1,h2,h3⟩:=hk k hkm
  have x1:0<=x/\x<(m:Int):=⟨h1,by omega⟩
  have y1:0<=y/\y<(m:Int):=⟨by omega,h3⟩
  rcases hc with ⟨e1,e2⟩ | ⟨e1,e2⟩
  ·have := N.inj x1 ha e1; have := N.inj y1 hb e2
   subst x y;exact .inl hkm
  ·have := N.inj x1 hb e1; have := N.inj y1 ha e2
   subst x y;exact .inr hkm
theorem GG (N:nW m ns) (h:GW m ks) {a b:Int}{n:Nat} (ha:0<=a/\a<(m:Int)) (hb:0<=b/\b<(m:Int)):R (js ks) a n b↔R (js (gJ ks ns)) (nm ns a) n (nm ns b):=
 tm (adj:=js ks) (adj':=js (gJ ks ns)) (f:=nm ns) (D:=fun q=>0<=q/\q<(m:Int)) (fun a b e=>(uR h e).1) (fun a b e=>(uR (iX N h) e).1) (fun a h=>N.ran h) (fun b h=>N.all h) (fun a b ha hb e=>N.inj ha hb e) (fun a b ha hb=>kD N h ha hb) ha hb
theorem wL {ks':List (List Int)} (h:GW m ks) (h':GW m ks') (e:∀ a b:Int,0<=a/\a<(m:Int)->0<=b/\b<(m:Int)->(js ks a b↔js ks' a b)):ks=ks':=by
 have half:∀ {xs ys:List (List Int)},GW m xs->GW m ys->(∀ a b:Int,0<=a/\a<(m:Int)->0<=b/\b<(m:Int)->(js xs a b->js ys a b))->∀ a b:Int,[a,b]∈xs->[a,b]∈ys:=fun {xs ys} hx hy e a b z=>by
  obtain ⟨c,d,ec,h1,h2,h3⟩:=hx.2.2.2.2 _ z
  injection ec with e1 e2
  injection e2 with e2 _
  subst e1 e2
  rcases (cz hy.2.2.2.2).mp (e a b ⟨h1,by omega⟩ ⟨by omega,h3⟩ ((cz hx.2.2.2.2).mpr (.inl z))) with u | u
  ·exact u
  ·obtain ⟨c, d, ec, g1, g2, g3⟩ := hy.2.2.2.2 _ u
   injection ec with e1 e2
   injection e2 with e2 _
   omega
 exact iq h h' fun a b=>⟨half h h' (fun a b ha hb=>(e a b ha hb).mp) a b,half h' h (fun a b ha hb=>(e a b ha hb).mpr) a b⟩
theorem oi (N:nW m ns) (h:GW m ks) {k:Nat}:gY m (gJ ks ns) k=gJ (gY m ks k) ns:=by
 have hr:=iX N h
 have hs:=cc (k:=k) (ks:=ks) h.m0 h.m6
 refine wL (cc h.m0 h.m6) (iX N hs) fun x y hx hy=>?_
 obtain ⟨a,ha,rfl⟩:=N.all hx
 obtain ⟨b,hb,rfl⟩:=N.all hy
 rw [<- kD N hs ha hb,rK hr,rK h,<- GG N h ha hb]
 constructor
 ·rintro ⟨h1, h2, h3, h4⟩
  exact ⟨fun e=>h1 (by rw [e]),ha,hb,h4⟩
 ·rintro ⟨h1, h2, h3, h4⟩
  exact ⟨fun e=>h1 (N.inj ha hb e),hx,hy,h4⟩
theorem BD {ks':List (List Int)} (N:nW m ns) (h:GW m ks) (h':GW m ks') (e:gJ ks ns=gJ ks' ns):ks=ks':=
 wL h h' fun a b ha hb=>by rw [kD N h ha hb,kD N h' ha hb,e]
theorem xr (N:nW m ns) (h:GW m ks) {k:Nat} (s:jy m ks k):jy m (gJ ks ns) k:=by
 refine ⟨s.1,s.2.1,?_,fun j h1 h2 e=>s.2.2.2 j h1 h2 ?_⟩
 ·rw [oi N h,oi N h,s.2.2.1]
 ·rw [oi N h, oi N h] at e
  exact BD N (cc h.m0 h.m6) (cc h.m0 h.m6) e
end
theorem Aj {m:Nat}{ns:List Int}:(ns.map D.int).all (yh m)=ns.all fun p=>decide (0<=p/\p<(m:Int)):=by
 rw [Mg];rfl
theorem Ap {ns:List Int} (h:ns.Nodup):fG ns=ns:=by
 have core:∀ (l acc:List Int),(acc++l).Nodup->l.foldl (fun acc k=>if k∈acc then acc else acc++[k]) acc=acc++l:=by
  intro l
  induction l with
  | nil=>intro acc _;simp
  | cons x l ih=>
   intro acc hn
   have hx:x ∉ acc:=fun z=>by
    have:=(Lr.mp hn).2.2 x z x IR
    exact this rfl
   rw [Kf,IE hx,ih (acc++[x]) (by simpa using hn)]
   simp
 have:=core ns [] (by simpa using h)
 simpa [fG] using this
section
variable {m:Nat}{ns:List Int}{ks:List (List Int)}
theorem uh {μ:aA} (h0:1<=m) (hm:m<=6) (N:nW m ns):eQ [.int m,kZ ns] μ=.ok (.bl true) μ:=by
 have pl:cM [.int m,kZ ns] μ=.ok (.bl true) μ:=by
  rw [show kZ ns=.tup (ns.map D.int) from rfl,oY (fun x hx=>by obtain ⟨i,_,rfl⟩:=K1.mp hx;exact nofun) (by rw [JI,N.len];omega),Aj]
  congr 2
  exact Lk.mpr fun p hp=>Kk (N.rng p hp)
 have st:lB [kZ ns] μ=.ok (.obj μ.length) (μ++[O.iset (fG ns)]):=by
  unfold lB
  dsimp only
  unfold nq
  rw [show k8 (ns.map D.int)=none from by
   have hl:=N.len
   cases ns with
   | nil=>simp at hl;omega
   | cons a r=>rfl,wA (fun n hn=>by have:=N.rng n hn;omega)]
 unfold eQ
 rw [dq]
 simp only [lp,List.replicate,bb,gA,aC,ar,ay,ah,ai,aa,pl,aM,JQ,az,l4,JI,du,N.len,Ko,JP,Kn,st]
 rw [CH av,Ap N.nd]
 simp only [aa,du,N.len,Ko,JP,Kn,ab,aN]
 exact fF (by simp)
theorem oX {μ:aA} (h:GW m ks) (N:nW m ns):h9 [bo m ks,kZ ns] μ=.ok (bo m (gJ ks ns)) μ:=by
 have c:=dD (U:=List Int) (en:=aj) (src:=.fix (ks.map aj)) (g:=cW 2 (aL (ag 0) (aL (ag 1) (cX)))) (t:=bf) (e:=kx) (μ1:=μ) (q:=fun _=>true) (h:=fun k=>bM (uP ns k)) (fun ρ=>∃ o o',ρ=[o,o',some (kZ ns)]) (fun _=>trivial) (us:=ks) (acc:=[]) (ρ:=[none,none,some (kZ ns)]) ⟨_,_,rfl⟩
  (by rw [KS];exact IM (by have:=gM h;omega) bp)
  (fun k hk a ρ hJJ => by
   obtain ⟨o,o',e⟩:=hJJ
   subst e
   obtain ⟨x,y,rfl,g1,g2,g3⟩:=h.2.2.2.2 k hk
   refine ⟨[some (.int x),some (.int y),some (kZ ns)],⟨_,_,rfl⟩,rfl,rfl,fun _=>?_⟩
   unfold kx
   simp only [cv,ar,ay,az,ai,ah,aa]
   rw [show kZ ns=.tup (ns.map D.int) from rfl,iZ (N.at ⟨g1,by omega⟩)]
   simp only [aa]
   rw [iZ (N.at ⟨by omega,g3⟩)]
   simp only [aa,Kq,KS,ID l2]
   rfl)
 rw [fK,Kj] at c
 have wo:=tu (μ:=μ++[.lst (ks.map fun k=>bM (uP ns k))]) (m:=m) (t:=μ.length) (ps:=ks.map (uP ns)) h.m0 h.m6 (by rw [av,KO];rfl) (uW N h.2.2.2.2)
 unfold h9
 rw [dq]
 simp only [rj,List.replicate,aT,a9,ah,aa,ab]
 rw [show cW 2 (aL (ag 2) (aL (ag 3) cX)) (bo m ks) [some (bo m ks),some (kZ ns),none,none] μ=.ok [some (bo m ks),some (kZ ns),some (.int m),some (.tup (ks.map aj))] μ from rfl]
 simp only [ab,aH,aT,bx,g6,iY,aC,ar,ay,ah,ai,aa,uh h.m0 h.m6 N,gx,Lm,Ko,JP,bG,bb,bz,cg,jz,aP]
 rw [show d5 [none,none,some 1] [some (bo m ks),some (kZ ns),some (.int m),some (.tup (ks.map aj))]=[none,none,some (kZ ns)] from rfl,c]
 simp only [aa]
 rw [wo]
 simp only [ab,aN]
 exact fF (jf (iX N h))
end
end Lw
namespace Lw
open PySem L2 RS Lv
section
variable {m:Nat}{ks:List (List Int)}
noncomputable def gk (m:Nat) (ks:List (List Int)):List D:=(List.range 6).map fun i=>bo m (gY m ks (i+1))
structure FS (μ:aA) (m:Nat) (ks:List (List Int)) (M:aA):Prop where
 pre:∃ g,M=μ++g
 at_:M[μ.length]?=some (.lst (gk m ks))
theorem FS.app {μ M g:aA} (h:FS μ m ks M):FS μ m ks (M++g):=by
 obtain ⟨g0,e⟩:=h.pre
 exact ⟨⟨g0++g,by rw [e,Ke]⟩,aV h.at_⟩
theorem FS.ix {μ M:aA}{i:Nat} (h:FS μ m ks M) (hi:i<6):bW (.obj μ.length) (.int (i:Nat)) M=.ok (bo m (gY m ks (i+1))) M:=by
 refine gR h.at_ (kI ?_)
 unfold gk
 rw [JF,LP hi]
 rfl
theorem FS.ixI {μ M:aA}{i:Int} (h:FS μ m ks M) (h0:0<=i) (hi:i<6):bW (.obj μ.length) (.int i) M=.ok (bo m (gY m ks (i.toNat+1))) M:=by
 have:=h.ix (i:=i.toNat) (by omega)
 rw [show ((i.toNat:Nat):Int)=i from by omega] at this
 exact this
theorem sJ (h:GW m ks) (k:Nat):GW m (gY m ks k):=cc h.m0 h.m6
theorem zr {μ:aA} (h:GW m ks):compLoop (.fix (aW 1 6)) μ.length (ag 0) bf cS (aW 1 6) [none,some (bo m ks)] (μ++[.lst []])=.ok (.obj μ.length) (μ++[.lst (gk m ks)]):=by
 have c:=dD (U:=Nat) (en:=fun i=>.int (1+(i:Int))) (src:=.fix (aW 1 6)) (g:=ag 0) (t:=bf) (e:=cS) (μ1:=μ) (q:=fun _=>true) (h:=fun i=>bo m (gY m ks (i+1))) (fun ρ=>∃ o,ρ=[o,some (bo m ks)]) (fun _=>trivial) (us:=List.range 6) (acc:=[]) (ρ:=[none,some (bo m ks)]) ⟨_,rfl⟩
  (by rw [KS,KR];exact IM (by decide) bp)
  (fun i hi a ρ hJJ => by
   obtain ⟨o,e⟩:=hJJ
   subst e
   have h6:=IL.mp hi
   refine ⟨[some (.int (1+(i:Int))),some (bo m ks)],⟨_,rfl⟩,rfl,rfl,fun _=>?_⟩
   unfold cS
   simp only [aC,ar,ay,ah,ai,aa]
   have:=sV (μ:=μ++[.lst a]) (k:=i+1) h (by omega) (by omega)
   rw [show ((i+1:Nat):Int)=1+(i:Int) from by omega] at this
   exact this)
 rw [fK,Kj] at c
 exact c
theorem Bf {μ M:aA} (h:GW m ks) (F:FS μ m ks M):compLoop (.own μ.length (gk m ks)) M.length (ag 0) bf cR (gk m ks) [none] (M++[.lst []])=.ok (.obj M.length) (M++[.lst (((List.range 6).map fun _=>true).map D.bl)]):=by
 have c:=dD (U:=Nat) (en:=fun i=>bo m (gY m ks (i+1))) (src:=.own μ.length (gk m ks)) (g:=ag 0) (t:=bf) (e:=cR) (μ1:=M) (q:=fun _=>true) (h:=fun i=>.bl true) (fun ρ=>∃ o,ρ=[o]) (fun _=>aV F.at_) (us:=List.range 6) (acc:=[]) (ρ:=[none]) ⟨_,rfl⟩
  (by rw [KS,KR];exact IM (by decide) bp)
  (fun i hi a ρ hJJ => by
   obtain ⟨o,e⟩:=hJJ
   subst e
   refine ⟨[some (bo m (gY m ks (i+1)))],⟨_,rfl⟩,rfl,rfl,fun _=>?_⟩
   unfold cR
   simp only [aC,ar,ay,ah,ai,aa]
   exact vc (sJ h _))
 rw [fK,Kj] at c
 rw [KO]
 exact c
theorem CL {M:aA}{a b:Nat} (h:M[a]?=some (.lst [])) (g:M[b]?=some (.lst [])):d4 true (.obj a) (.obj b) M=.ok (.bl false) M:=by
 have e1:lP M (.obj a)=some (.list []):=by unfold lP;dsimp only;rw [h];rfl
 have e2:lP M (.obj b)=some (.list []):=by unfold lP;dsimp only;rw [g];rfl
 unfold d4
 rw [e1,e2]
 dsimp only
 rw [ID ⟨by decide +kernel,by decide +kernel⟩]
 rfl
theorem GA {μ M:aA}{k:Nat} (h:GW m ks) (F:FS μ m ks M) (hk:k<5) {o3 o4:Option D} :
  bV [some (bo m ks),some (.obj μ.length),some (.int (k:Nat)),o3,o4] M=.next [some (bo m ks),some (.obj μ.length),some (.int (k:Nat)),o3,o4] (M++[.lst []]++[.lst []]):=by
 have g:=sJ h (k+1)
 have i1:=F.ix (i:=k) (by omega)
 have c:=dD (U:=List Int) (en:=aj) (src:=.fix ((gY m ks (k+1)).map aj)) (g:=ag 0) (t:=dY) (e:=gP) (μ1:=M) (q:=fun _=>false) (h:=aj) (fun ρ=>∃ o,ρ=[o,some (.obj μ.length),some (.int (k:Nat))]) (fun _=>trivial) (us:=gY m ks (k+1)) (acc:=[]) (ρ:=[none,some (.obj μ.length),some (.int (k:Nat))]) ⟨_,rfl⟩
  (by rw [KS];exact IM (by have:=gM g;omega) bp)
  (fun x hx a ρ hJJ => by
   obtain ⟨o,e⟩:=hJJ
   subst e
   refine ⟨[some (aj x),some (.obj μ.length),some (.int (k:Nat))],⟨_,rfl⟩,rfl,?_,nofun⟩
   have i2:=(F.app (g:=[.lst a])).ix (i:=k+1) (by omega)
   rw [show ((k+1:Nat):Int)=(k:Int)+1 from by omega] at i2
   obtain ⟨u,v,rfl,_⟩:=g.2.2.2.2 x hx
   have up:=yC h (show k+1<=k+1+1 by omega) hx
   unfold dY
   simp only [bO,az,ah,ai,aX,aa,gC,i2,g7]
   have ip:=Ai (μ:=M++[.lst a]) (a:=u) (b:=v) (sJ h (k+1+1)).2.2.2.2
   rw [Kk up] at ip
   have ipn:uL true (aj [u,v]) (.tup ((gY m ks (k+1+1)).map aj)) (M++[.lst a])=.ok (.bl false) (M++[.lst a]):=by
    unfold uL at ip ⊢
    rw [show lP (M++[.lst a]) (aj [u,v])=lP (M++[.lst a]) (.tup [.int u,.int v]) from rfl]
    revert ip
    cases lP (M++[.lst a]) (.tup [.int u,.int v]) with
    | none=>intro ip;cases ip
    | some p=>
     cases lP (M++[.lst a]) (.tup ((gY m ks (k+1+1)).map aj)) with
     | none=>intro ip;cases ip
     | some q=>
      dsimp only
      cases rN q with
      | none=>intro ip;cases ip
      | some xs=>
       dsimp only
       intro ip
       split at ip
       ·rename_i hf
        rw [ID hf,ID rfl]
        rw [IE Jj] at ip
        injection ip with e1 _
        injection e1 with e1
        rw [e1];rfl
       ·cases ip
   rw [ipn]
   simp only [aa,aM])
 rw [show (gY m ks (k+1)).filter (fun _=>false)=[] from by simp] at c
 unfold bV
 simp only [bx,bO,az,bz,cg,ai,ah,aX,aa,i1,g7,jz,aP]
 rw [show d5 [none,some 1,some 2] _=[none,some (.obj μ.length),some (.int (k:Nat))] from rfl,c]
 have n0:([]:List D).length<=sizeLine:=Ky _
 simp only [aa,gm,ay,ID n0,J4,Jv]
 rw [CL (aV av) av]
 simp only [aa,aM,ab,Ko,JP,bG]
theorem DK {μ M:aA} (h:GW m ks) {j k:Nat} (j0:1<=j) (k0:1<=k) (hjk:j * k<=6) (hk:k<=6) (hj:j<=6) (F:FS μ m ks M) {o2 o3 o4:Option D} (e2:o2=some (.int (k:Nat))) (e3:o3=some (.int (j:Nat))) :
  bU [some (bo m ks),some (.obj μ.length),o2,o3,o4] M=.next [some (bo m ks),some (.obj μ.length),o2,o3,o4] M:=by
 subst e2 e3
 have jk1:1<=j * k:=Nat.mul_pos j0 k0
 have i1:=F.ixI (i:=(j:Int) - 1) (by omega) (by omega)
 rw [show ((j:Int) - 1).toNat+1=j from by omega] at i1
 have i2:=F.ixI (i:=(j:Int) * (k:Int) - 1) (by rw [<- ML];omega) (by rw [<- ML];omega)
 rw [show ((j:Int) * (k:Int) - 1).toNat+1=j * k from by rw [<- ML];omega] at i2
 have s1:=sV (μ:=M) (k:=k) (sJ h j) k0 hk
 rw [Gy h] at s1
 have sb:∀ x:Int,fC (.int x) (.int 1) M=.ok (.int (x - 1)) M:=fun _=>rfl
 have ml:jR (.int (j:Int)) (.int (k:Int)) M=.ok (.int ((j:Int) * (k:Int))) M:=CG (.inl ⟨by omega,by omega⟩)
 unfold bU
 simp only [bx,bO,az,aC,ar,ay,ai,ah,aX,aa,sb,i1,s1,ml,i2]
 rw [Az (sJ h _) (sJ h _),Kk rfl]
 simp only [JQ,Lm,aa,aM,ab,Ko,JP,bG]
theorem Be {μ M:aA} (h:GW m ks) {k:Nat} (s:jy m ks k) (F:FS μ m ks M):compLoop (.fix (aW ((k:Int) - 1) (6 - (k - 1)))) M.length (ag 0) bf cQ (aW ((k:Int) - 1) (6 - (k - 1))) [none,some (.obj μ.length)] (M++[.lst []])=.ok (.obj M.length) (M++[O.lst (((List.range (6 - (k - 1))).map fun _=>true).map D.bl)]):=by
 have k0:=s.1
 have k5:=s.2.1
 have c:=dD (U:=Nat) (en:=fun i=>.int ((k:Int) - 1+(i:Int))) (src:=.fix (aW ((k:Int) - 1) (6 - (k - 1)))) (g:=ag 0) (t:=bf) (e:=cQ) (μ1:=M) (q:=fun _=>true) (h:=fun i=>.bl true) (fun ρ=>∃ o,ρ=[o,some (.obj μ.length)]) (fun _=>trivial) (us:=List.range (6 - (k - 1))) (acc:=[]) (ρ:=[none,some (.obj μ.length)]) ⟨_,rfl⟩
  (by rw [KS,KR];exact IM (by omega) bp)
  (fun i hi a ρ hJJ => by
   obtain ⟨o,e⟩:=hJJ
   subst e
   have h6:=IL.mp hi
   refine ⟨[some (.int ((k:Int) - 1+(i:Int))),some (.obj μ.length)],⟨_,rfl⟩,rfl,rfl,fun _=>?_⟩
   have F':=F.app (g:=[.lst a])
   have i1:=F'.ixI (i:=(k:Int) - 1+(i:Int)) (by omega) (by omega)
   rw [show ((k:Int) - 1+(i:Int)).toNat+1=k+i from by omega,oB h s.2.2.1 (show k<=k+i by omega)] at i1
   have i2:=F'.ixI (i:=5) (by decide) (by decide)
   rw [show (5:Int).toNat+1=6 from rfl,oB h s.2.2.1 (show k<=6 by omega)] at i2
   unfold cQ
   simp only [az,ah,ai,aX,aa,i1,i2]
   rw [Az (sJ h _) (sJ h _),Kk rfl]
   rfl)
 rw [fK,Kj] at c
 rw [KO]
 exact c
theorem vd {μ:aA} (h:GW m ks):iy [bo m ks] μ=.ok (.bl (decide (gY m ks 2=ks))) μ:=by
 unfold iy
 rw [eW]
 simp only [pF,List.replicate,bb,az,aC,ar,ay,ah,aa,nQ h]
 rw [Az (sJ h 2) h]
 simp only [Ko,JP,ab,aN]
 exact cf (by simp)
theorem uc {n:Nat}:((List.range n).map fun _=>true).all id=true:=by simp
theorem xc {μ:aA} (h:GW m ks):cy [bo m ks] μ=.ok (.bl true) μ:=by
 obtain ⟨k,hs,ek⟩:=oC (μ:=μ) h
 have F1:FS μ m ks (μ++[O.lst (gk m ks)]):=⟨⟨_,rfl⟩,av⟩
 have i0:=F1.ixI (i:=0) (by decide) (by decide)
 have i1:=F1.ixI (i:=1) (by decide) (by decide)
 rw [show (0:Int).toNat+1=1 from rfl,DL h] at i0
 rw [show (1:Int).toNat+1=2 from rfl] at i1
 have q1:d4 true (bo m ks) (bo m ks) (μ++[O.lst (gk m ks)])=.ok (.bl false) (μ++[O.lst (gk m ks)]):=by rw [Az h h,Kk rfl];rfl
 have q2:d4 true (bo m (gY m ks 2)) (bo m (gY m ks 2)) (μ++[O.lst (gk m ks)])=.ok (.bl false) (μ++[O.lst (gk m ks)]):=by rw [Az (sJ h 2) (sJ h 2),Kk rfl];rfl
 have g1:=Bf h F1
 have F2:FS μ m ks (μ++[O.lst (gk m ks)]++[O.lst (((List.range 6).map fun _=>true).map D.bl)]):=F1.app
 generalize hM2:μ++[O.lst (gk m ks)]++[O.lst (((List.range 6).map fun _=>true).map D.bl)]=M2 at F2
 obtain ⟨ρ3,M3,⟨c3,o2,F3,_,e3⟩,run3⟩:=d7 (src:=.fix (aW 0 5)) (g:=ag 2) (fb:=bV)
  (fun xs ρ M=>∃ (c:Nat) (o2:Option D),FS μ m ks M/\(∃ n,xs=aW (c:Int) n/\c+n=5)/\ρ=[some (bo m ks),some (.obj μ.length),o2,none,none])
  (fun _ _ _=>trivial)
  (fun x xs ρ M hJJ => by
   obtain ⟨c,o2,F,⟨n,en,hn⟩,e⟩:=hJJ
   subst e
   cases n with
   | zero=>cases en
   | succ n=>
    rw [d9] at en
    injection en with h1 h2
    subst h1 h2
    exact ⟨trivial,[some (bo m ks),some (.obj μ.length),some (.int (c:Nat)),none,none],M,_,_,rfl,GA h F (by omega),c+1,_,(F.app).app,⟨n,by rw [show ((c+1:Nat):Int)=(c:Int)+1 from by omega],by omega⟩,rfl⟩)
  (xs:=aW 0 5) (ρ:=[some (bo m ks),some (.obj μ.length),none,none,none]) (μ:=M2) ⟨0,none,F2,⟨5,rfl,rfl⟩,rfl⟩
 subst e3
 let L4:List D:=[.tup [.int 2,.int 2],.tup [.int 2,.int 3],.tup [.int 3,.int 2],.tup [.int 1,.int 4]]
 have F3':FS μ m ks (M3++[O.lst L4]):=F3.app
 obtain ⟨ρ4,M4,⟨p2,p3,e4,_,eM4⟩,run4⟩:=d7 (src:=.own M3.length L4) (g:=cW 2 (aL (ag 3) (aL (ag 2) cX))) (fb:=bU)
  (fun xs ρ M=>∃ o2 o3:Option D,ρ=[some (bo m ks),some (.obj μ.length),o2,o3,none]/\(∀ x∈xs,∃ j k:Nat,x=.tup [.int (j:Nat),.int (k:Nat)]/\1<=j/\1<=k/\j * k<=6/\k<=6/\j<=6)/\M=M3++[O.lst L4])
  (fun ρ M ⟨_,_,_,_,e⟩=>by rw [e];exact av)
  (fun x xs ρ M hJJ => by
   obtain ⟨o2,o3,e,hx,eM⟩:=hJJ
   subst e eM
   obtain ⟨j,k,rfl,a1,a2,a3,a4,a5⟩:=hx x IR
   exact ⟨av,[some (bo m ks),some (.obj μ.length),some (.int (k:Nat)),some (.int (j:Nat)),none],M3++[O.lst L4],_,_,rfl,DK h a1 a2 a3 a4 a5 F3' rfl rfl,_,_,rfl,fun y hy=>hx y (IS _ hy),rfl⟩)
  (xs:=L4) (ρ:=[some (bo m ks),some (.obj μ.length),o2,none,none]) (μ:=M3++[O.lst L4])
  ⟨o2, none, rfl, fun x hx => by
   simp only [L4,IT,KJ,KL] at hx
   rcases hx with rfl|rfl|rfl|rfl
   ·exact ⟨2,2,rfl,by decide,by decide,by decide,by decide,by decide⟩
   ·exact ⟨2,3,rfl,by decide,by decide,by decide,by decide,by decide⟩
   ·exact ⟨3,2,rfl,by decide,by decide,by decide,by decide,by decide⟩
   ·exact ⟨1,4,rfl,by decide,by decide,by decide,by decide,by decide⟩,rfl⟩
 subst e4 eM4
 have k0:=hs.1
 have k5:=hs.2.1
 have sl:=Be h hs F3'
 have F5:FS μ m ks (M3++[O.lst L4]++[O.lst (((List.range (6 - (k - 1))).map fun _=>true).map D.bl)]):=F3'.app
 generalize hM5:M3++[O.lst L4]++[O.lst (((List.range (6 - (k - 1))).map fun _=>true).map D.bl)]=M5 at sl F5
 have al5:n5 [.obj (M3++[O.lst L4]).length] M5=.ok (.bl true) M5:=by
  rw [l5 (by rw [<- hM5];exact av),uc]
 have tl:jK (f6 (au (gL .Gt) (af 4) (cC (.int 1)))) (f6 (au (d4 false) (au bW (af 1) (au fC (af 4) (cC (.int 2)))) (au bW (af 1) (cC (.int 5))))) [some (bo m ks),some (.obj μ.length),p2,p3,some (.int (k:Nat))] M5=.ok false M5:=by
  simp only [gB,bO,az,ai,ah,aX,aa,dM,aM]
  by_cases c1:1<k
  ·rw [show dh .Gt (k : Int) 1 = true from Kk (by omega)]
   have sb:fC (.int (k:Int)) (.int 2) M5=.ok (.int ((k:Int) - 2)) M5:=rfl
   have j1:=F5.ixI (i:=(k:Int) - 2) (by omega) (by omega)
   rw [show ((k:Int) - 2).toNat+1=k - 1 from by omega] at j1
   have j2:=F5.ixI (i:=5) (by decide) (by decide)
   rw [show (5:Int).toNat+1=6 from rfl,oB h hs.2.2.1 (show k<=6 by omega)] at j2
   have ne:=hs.2.2.2 (k - 1) (by omega) (by omega)
   rw [show k - 1+1=k from by omega] at ne
   simp only [JQ,sb,aa,j1,j2]
   rw [Az (sJ h _) (sJ h _),Iz ne]
   simp only [Ko,JP,aa,aM]
  ·rw [show dh .Gt (k : Int) 1 = false from Iz (by omega)]
   simp only [Ko,JP]
 have i5:=F5.ixI (i:=1) (by decide) (by decide)
 rw [show (1:Int).toNat+1=2 from rfl] at i5
 obtain ⟨g5,e5⟩:=F5.pre
 have n2:∀ x y:D,([x,y]:List D).length<=sizeLine:=fun x y=>IM (show (2:Nat)<=1000 by decide) bp
 have n4:L4.length<=sizeLine:=IM (show (4:Nat)<=1000 by decide) bp
 unfold cy
 rw [eW]
 unfold iC
 simp only [List.replicate,aT,a9,bz,bS,ar,ay,aX,aa]
 rw [iO (by decide) (by decide) (by decide) (by decide)]
 simp only [aa,aP]
 rw [show d5 [none,some 0] _=[none,some (bo m ks)] from rfl,show ((7:Int) - 1).toNat=6 from rfl,zr h]
 simp only [ab,cH,Mq,Mr,aH,aT,bx,oq,bO,az,ai,ah,aX,aa,i0,q1,aM,Ko,JP,i1,aC,ar,ay,nQ h,q2,g6,iY,bz,cg]
 rw [gy av]
 simp only [aa,dE]
 rw [show d5 [none] _=[none] from rfl,g1]
 simp only [aa]
 rw [l5 av,uc]
 simp only [aa,gx,Lm,ab,Ko,JP,bG,aH,aT,gn,bS,ar,ay,aX,hM2]
 rw [eT (by decide) (by decide)]
 simp only [ab,aP]
 rw [show lA (mC.fix (aW 0 (5:Int).toNat)) (ag 2) bV (aW 0 (5:Int).toNat) _ _=_ from run3]
 simp only [aH,aT,gn,cg,gm,cv,ar,ay,aX,aa,ID (n2 _ _)]
 rw [ID (show ([.tup [.int 2,.int 2],.tup [.int 2,.int 3],.tup [.int 3,.int 2],.tup [.int 1,.int 4]]:List D).length<=sizeLine from n4)]
 simp only [aa]
 rw [gy av]
 simp only [ab,dE]
 rw [show lA (mC.own M3.length [.tup [.int 2,.int 2],.tup [.int 2,.int 3],.tup [.int 3,.int 2],.tup [.int 1,.int 4]]) (cW 2 (aL (ag 3) (aL (ag 2) cX))) bU [.tup [.int 2,.int 2],.tup [.int 2,.int 3],.tup [.int 3,.int 2],.tup [.int 1,.int 4]] _ _=_ from run4]
 simp only [aH,aT,a9,aC,ar,ay,ah,aa,ek,ab,cH,Mq,Mr,bx,oq,g6,iY,bz,bS,az,ai,aX]
 rw [show fC (.int (k:Int)) (.int 1) (M3++[O.lst L4])=.ok (.int ((k:Int) - 1)) (M3++[O.lst L4]) from rfl]
 simp only [aa]
 rw [iO (by omega) (by omega) (by omega) (by omega)]
 simp only [aa,aP]
 rw [show d5 [none,some 1] _=[none,some (.obj μ.length)] from rfl,show ((6:Int) - ((k:Int) - 1)).toNat=6 - (k - 1) from by omega,sl]
 simp only [aa]
 rw [al5]
 simp only [aa,gx,Lm,Ko,JP]
 rw [tl]
 simp only [ab,Ko,JP,bG,aH,bb,az,aC,ar,ay,ai,ah,aX,aa,vd h,i5]
 rw [Az (sJ h 2) h]
 simp only [Ko,JP,aa,Fp,Kn,ab,aN]
 rw [e5]
 exact fF (by simp)
end
end Lw
namespace Lw
open PySem L2 RS Lv
section
variable {m:Nat}{ks:List (List Int)}{ns:List Int}
theorem z6 {o:Option Nat}{n:Nat}:(lQ o).low n:=by cases o <;> simp [lQ]
theorem Bh {μ:aA}{a b:Int} (h:GW m ks) (ha:0<=a/\a<(m:Int)) (hb:0<=b/\b<(m:Int)):∃ o:Option Nat,kn [bo m ks,.int a,.int b] μ=.ok (lQ o) μ/\∀ j,o=some j↔pV (js ks) a j b:=by
 obtain ⟨A,g,f,e1,e2,e3,e4⟩:=we (μ:=μ) h ha.1 ha.2
 refine ⟨f b,?_,fun j=>e4 b hb j⟩
 unfold kn
 rw [u3]
 simp only [ug,List.replicate,aT,wH,aC,ar,ay,ah,ai,aa,oD ha,oD hb,ab,aH,bb,az,e1]
 rw [gR e2 (l8 hb.1 hb.2)]
 simp only [ab,aN]
 exact fF z6
theorem GV {μ:aA}{o:Option Nat}:uL false (lQ o) (.tup [.int 0,.int 1]) μ=.ok (.bl (decide (o=some 0\/o=some 1))) μ:=by
 cases o with
 | none=>rfl
 | some n=>
  show ak.ok (D.bl (((0:Int) == (n:Int)) || (((1:Int) == (n:Int)) || false))) μ=_
  congr 2
  apply MC.mpr
  rw [Bool.or_false,Mj,beq_iff_eq,beq_iff_eq,Md]
  constructor
  ·rintro (z | z)
   ·left;congr 1;omega
   ·right;congr 1;omega
  ·rintro (z | z)
   ·left;injection z with z;omega
   ·right;injection z with z;omega
theorem Ab {a b:Int} (h:GW m ks) {o:Option Nat} (ho:∀ j,o=some j↔pV (js ks) a j b):(o=some 0\/o=some 1)↔(b=a\/yr ks a b=true):=by
 rw [ho 0,ho 1,jc h.2.2.2.2,<- cz h.2.2.2.2]
 constructor
 ·rintro (z | ⟨z1, z2⟩)
  ·exact .inl z
  ·rcases z1 with z1 | ⟨r, r1, r2⟩
   ·exact absurd z1 z2
   ·have : r = a := r2
    subst this;exact .inr r1
 ·rintro (z | z)
  ·exact .inl z
  ·by_cases e : b = a
   ·exact .inl e
   ·exact .inr ⟨R.one z,e⟩
theorem Cd {M:aA}{p:Int} (h:GW m ks) (hp:0<=p/\p<(m:Int)):compLoop (.fix ((rg m).map D.int)) M.length (ag 0) cO cT ((rg m).map D.int) [none,some (bo m ks),some (.int p)] (M++[.lst []])=.ok (.obj M.length) (M++[.lst ((bL m ks p).map D.int)]):=by
 have c:=dD (U:=Int) (en:=D.int) (src:=.fix ((rg m).map D.int)) (g:=ag 0) (t:=cO) (e:=cT) (μ1:=M) (q:=fun q=>decide (q=p) || yr ks p q) (h:=D.int) (fun ρ=>∃ o,ρ=[o,some (bo m ks),some (.int p)]) (fun _=>trivial) (us:=rg m) (acc:=[]) (ρ:=[none,some (bo m ks),some (.int p)]) ⟨_,rfl⟩
  (by rw [KS,uV];exact IM (by have:=h.m6;omega) bp)
  (fun q hq a ρ hJJ => by
   obtain ⟨o,e⟩:=hJJ
   subst e
   obtain ⟨f,e1,e2⟩:=Bh (μ:=M++[.lst a]) h hp (ij.mp hq)
   have n2:([.int 0,.int 1]:List D).length<=sizeLine:=IM (show (2:Nat)<=1000 by decide) bp
   refine ⟨[some (.int q),some (bo m ks),some (.int p)],⟨_,rfl⟩,rfl,?_,fun _=>by unfold cT;rw [ah]⟩
   unfold cO
   simp only [bO,az,aC,ar,ay,ah,ai,aX,aa,e1,cv,ID n2,GV,aM]
   congr 1
   apply MC.mpr
   rw [Md,Mj,Md]
   exact Ab h e2)
 rw [Kj] at c
 exact c
theorem zg {M:aA}{w:List Int}:d4 true (kZ w) (kZ w) M=.ok (.bl false) M:=by
 have e:lP M (kZ w)=some (.tuple (w.map PyData.int)):=by simp only [lP,oM,Option.map_some]
 have l:=oN w
 have f:gf (.tuple (w.map PyData.int))=true:=by
  simp only [gf,PyData.canLay0,l.1,PyData.depth,l.2,Mz];rfl
 unfold d4
 rw [e]
 dsimp only
 rw [ID ⟨f,f⟩,ID rfl,SeqAt.eqv_refl _ (cw f)]
 rfl
theorem zL {p:Int} (N:nW m ns) (h:GW m ks) (hp:0<=p/\p<(m:Int)):j7 ((bL m ks p).map (nm ns))=bL m (gJ ks ns) (nm ns p):=by
 have up:(bL m (gJ ks ns) (nm ns p)).Pairwise (·<·):=yE.filter _
 have up0:(bL m ks p).Pairwise (·<·):=yE.filter _
 refine (l7 ?_ (up.imp fun {a b} h=>Int.le_of_lt h)).symm
 have dom:∀ q∈bL m ks p,0<=q/\q<(m:Int):=fun q hq=>ij.mp (IK.mp hq).1
 have nd:((bL m ks p).map (nm ns)).Nodup:=by
  have key:∀ l:List Int,(∀ q∈l,0<=q/\q<(m:Int))->l.Nodup->(l.map (nm ns)).Nodup:=by
   intro l
   induction l with
   | nil=>intro _ _;exact Lg
   | cons x l ih=>
    intro hd hn
    obtain ⟨h1,h2⟩:=Jy.mp hn
    refine Jy.mpr ⟨fun z=>?_,ih (fun q hq=>hd q (IS _ hq)) h2⟩
    obtain ⟨y,hy,e⟩:=K1.mp z
    have:=N.inj (hd y (IS _ hy)) (hd x IR) e
    subst this;exact h1 hy
  exact key _ dom (up0.imp fun {a b} h=>by omega)
 refine (Li (up.imp fun {a b} h=>by omega) nd).mpr fun q=>?_
 have hr:=iX N h
 constructor
 ·intro hq
  obtain ⟨h1,h2⟩:=IK.mp hq
  obtain ⟨a,ha,rfl⟩:=N.all (ij.mp h1)
  refine K1.mpr ⟨a,IK.mpr ⟨ij.mpr ha,?_⟩,rfl⟩
  rw [Mj,Md] at h2 ⊢
  rcases h2 with z | z
  ·exact .inl (N.inj ha hp z)
  ·rw [jc hr.2.2.2.2, <- cz hr.2.2.2.2, <- kD N h hp ha] at z
   right
   rw [jc h.2.2.2.2,<- cz h.2.2.2.2]
   exact z
 ·intro hq
  obtain ⟨a,ha',rfl⟩:=K1.mp hq
  obtain ⟨h1,h2⟩:=IK.mp ha'
  have ha:=ij.mp h1
  refine IK.mpr ⟨ij.mpr (N.ran ha),?_⟩
  rw [Mj,Md] at h2 ⊢
  rcases h2 with z | z
  ·exact .inl (by rw [z])
  ·right
   rw [jc h.2.2.2.2,<- cz h.2.2.2.2] at z
   rw [jc hr.2.2.2.2,<- cz hr.2.2.2.2,<- kD N h hp ha]
   exact z
theorem xk {M:aA}{t:Nat}{l:List Int} (h:M[t]?=some (.lst (l.map D.int))) (hl:l.length<64):bH [.obj t] M=.ok (.obj M.length) (M++[.lst ((j7 l).map D.int)]):=by
 unfold bH
 dsimp only
 rw [h]
 dsimp only
 rw [oO]
 dsimp only
 rw [ID hl]
theorem Ce {M:aA}{p:Int} (N:nW m ns) (h:GW m ks) (hp:0<=p/\p<(m:Int)) {o4:Option D}:∃ o4' g,cP [some (bo m ks),some (kZ ns),some (bo m (gJ ks ns)),some (.int p),o4] M=.next [some (bo m ks),some (kZ ns),some (bo m (gJ ks ns)),some (.int p),o4'] (M++g):=by
 have hr:=iX N h
 have dom:∀ q∈bL m ks p,0<=q/\q<(m:Int):=fun q hq=>ij.mp (IK.mp hq).1
 have sl:(bL m ks p).length<=6:=by
  have e:(bL m ks p).length<=(rg m).length:=List.length_filter_le _ _
  rw [uV] at e
  have:=h.m6
  omega
 have c:=dD (U:=Int) (en:=D.int) (src:=.fix ((bL m ks p).map D.int)) (g:=ag 0) (t:=bf) (e:=dZ) (μ1:=M) (q:=fun _=>true) (h:=fun q=>D.int (nm ns q)) (fun ρ=>∃ o,ρ=[o,some (kZ ns)]) (fun _=>trivial) (us:=bL m ks p) (acc:=[]) (ρ:=[none,some (kZ ns)]) ⟨_,rfl⟩
  (by rw [KS];exact IM (by omega) bp)
  (fun q hq a ρ hJJ => by
   obtain ⟨o,e⟩:=hJJ
   subst e
   refine ⟨[some (.int q),some (kZ ns)],⟨_,rfl⟩,rfl,rfl,fun _=>?_⟩
   unfold dZ
   simp only [az,ah,ai,aa]
   rw [show kZ ns=.tup (ns.map D.int) from rfl,iZ (N.at (dom q hq))])
 rw [fK,Kj,show (bL m ks p).map (fun q=>D.int (nm ns q))=((bL m ks p).map (nm ns)).map D.int from by rw [KO];rfl] at c
 let M1:=M++[O.lst (((bL m ks p).map (nm ns)).map D.int)]
 have st:bH [.obj M.length] M1=.ok (.obj M1.length) (M1++[.lst ((bL m (gJ ks ns) (nm ns p)).map D.int)]):=by
  rw [xk av (by rw [JI];omega),zL N h hp]
 let M2:=M1++[O.lst ((bL m (gJ ks ns) (nm ns p)).map D.int)]
 let M3:=M2++[O.lst ((bL m ks p).map D.int)]
 refine ⟨some (.obj M2.length),[O.lst (((bL m ks p).map (nm ns)).map D.int)]++[O.lst ((bL m (gJ ks ns) (nm ns p)).map D.int)]++[O.lst ((bL m ks p).map D.int)],?_⟩
 unfold cP
 simp only [aT,bx,bO,az,aC,ar,ay,bz,cg,ah,ai,aa,rW h hp]
 rw [show sM (kZ (bL m ks p)) M=.ok (.fix ((bL m ks p).map D.int)) M from rfl]
 simp only [aa,aP]
 rw [show d5 [none,some 1] _=[none,some (kZ ns)] from rfl,c]
 simp only [aa]
 rw [show bH [.obj M.length] (M++[O.lst (((bL m ks p).map (nm ns)).map D.int)])=_ from st]
 simp only [aa]
 rw [fH av]
 simp only [aa]
 rw [show bW (kZ ns) (.int p) M2=.ok (.int (nm ns p)) M2 from iZ (N.at hp)]
 simp only [aa]
 rw [rW hr (N.ran hp)]
 simp only [aa]
 rw [show d4 true (.tup ((bL m (gJ ks ns) (nm ns p)).map D.int)) (kZ (bL m (gJ ks ns) (nm ns p))) M2=.ok (.bl false) M2 from zg]
 simp only [aa,aM,ab,Ko,JP,bG,aH,aT,a9,bz,bS,ar,ay,az,ah,aX,dw]
 rw [eT (by omega) (by have:=h.m6;omega)]
 simp only [aa,aP]
 rw [show d5 [none,some 0,some 3] _=[none,some (bo m ks),some (.int p)] from rfl,Eh,Cd h hp]
 simp only [ab,cH,Mq,Mr,aH,bx,bO,az,aC,ar,ay,ah,ai,aa,rW h hp]
 rw [fH av]
 simp only [aa]
 rw [show d4 true (kZ (bL m ks p)) (.tup ((bL m ks p).map D.int)) M3=.ok (.bl false) M3 from zg]
 simp only [aa,aM,ab,Ko,JP,bG]
 congr 1
 show M++[O.lst (((bL m ks p).map (nm ns)).map D.int)]++[O.lst ((bL m (gJ ks ns) (nm ns p)).map D.int)]++[O.lst ((bL m ks p).map D.int)]=_
 rw [Ke,Ke]
 rfl
theorem xh {μ:aA} (N:nW m ns) (h:GW m ks):bQ [bo m ks,kZ ns] μ=.ok (.bl true) μ:=by
 have hr:=iX N h
 obtain ⟨k,hs,ek⟩:=oC (μ:=μ) h
 obtain ⟨k',hs',ek'⟩:=oC (μ:=μ) hr
 have kk:k=k':=qx (xr N h hs) hs'
 subst kk
 obtain ⟨ρ3,M3,⟨c3,o3,o4,g3,eM,_,e3⟩,run3⟩:=d7 (src:=.fix (aW 0 m)) (g:=ag 3) (fb:=cP)
  (fun xs ρ M=>∃ (c:Nat) (o3 o4:Option D) (g:aA),M=μ++g/\(∃ n,xs=aW (c:Int) n/\c+n=m)/\ρ=[some (bo m ks),some (kZ ns),some (bo m (gJ ks ns)),o3,o4])
  (fun _ _ _=>trivial)
  (fun x xs ρ M hJJ => by
   obtain ⟨c,o3,o4,g,eM,⟨n,en,hn⟩,e⟩:=hJJ
   subst e
   cases n with
   | zero=>cases en
   | succ n=>
    rw [d9] at en
    injection en with h1 h2
    subst h1 h2
    obtain ⟨o4',g',e1⟩:=Ce (M:=M) (p:=(c:Int)) (o4:=o4) N h ⟨by omega,by omega⟩
    exact ⟨trivial,[some (bo m ks),some (kZ ns),some (bo m (gJ ks ns)),some (.int (c:Nat)),o4],M,_,_,rfl,e1,c+1,_,_,g++g',by rw [eM,Ke],⟨n,by rw [show ((c+1:Nat):Int)=(c:Int)+1 from by omega],by omega⟩,rfl⟩)
  (xs:=aW 0 m) (ρ:=[some (bo m ks),some (kZ ns),some (bo m (gJ ks ns)),none,none]) (μ:=μ) ⟨0,none,none,[],by simp,⟨m,rfl,by omega⟩,rfl⟩
 subst e3
 have q1:d4 true (bo m (gY m (gJ ks ns) 2)) (bo m (gJ (gY m ks 2) ns)) μ=.ok (.bl false) μ:=by
  rw [oi N h,Az (iX N (sJ h 2)) (iX N (sJ h 2)),Kk rfl];rfl
 unfold bQ
 rw [dq]
 unfold iD
 simp only [List.replicate,aT,a9,aC,ar,ay,ah,ai,aa,oX h N,ab,cH,Mq,Mr,aH,bx,oq,bO,az,nQ hr,nQ h,oX (sJ h 2) N,q1,aM,Ko,JP,ek,ek',du,JQ,Kn,Lm,bG,gn,bS,aX,dw]
 rw [eT (by omega) (by have:=h.m6;omega)]
 simp only [ab,aP]
 rw [show ((m:Int)).toNat=m from by omega,run3]
 simp only [aH,bb,aX,ab,aN]
 rw [eM]
 exact fF (by simp)
end
end Lw
namespace Lw
open PySem L2 RS Lv
theorem Im {n:Nat}{xs:List D} (h:xs.length=n) (hn:n<=1000:=by decide):xs.length<=sizeLine:=by rw [h];exact IM hn bp
theorem D1:1000000<=sizeLine:=by decide
theorem CO {μ:aA}{a b:Nat}{xs ys:List D} (h:μ[a]?=some (.lst xs)) (g:μ[b]?=some (.lst ys)) (hn:xs.length+ys.length<=1000000):cA (.obj a) (.obj b) μ=.ok (.obj μ.length) (μ++[.lst (xs++ys)]):=by
 unfold cA
 dsimp only
 rw [h,g]
 dsimp only
 rw [ID (IM hn D1)]
theorem Bj {μ:aA}{ns:List Int}:∃ x:Int,dX [.frz (ns.map D.int),.int 0] μ=.ok (.int x) μ:=by
 unfold dX
 rw [dq]
 cases ns with
 | nil=>
  refine ⟨0,?_⟩
  simp only [iA,J4,List.replicate,aT,bx,bO,az,ai,ah,aC,ar,ay,wG,KS,aa,dM]
  rw [show dh .Lt 0 ((0:Nat):Int)=false from rfl]
  simp only [aM,ab,Ko,JP,bG,aH,bb,aX,aN]
  exact cf (by simp)
 | cons x r=>
  refine ⟨x,?_⟩
  simp only [iA,J5,List.replicate,aT,bx,bO,az,ai,ah,aC,ar,ay,wG,Kq,aa,dM]
  rw [show dh .Lt 0 (((r.map D.int).length+1:Nat):Int)=true from Kk (by omega)]
  simp only [aM,ab,JQ,bb,az,ai,ah,aa]
  rw [Fo vZ]
  simp only [ab,rL,aN]
  exact cf (by simp)
theorem CB {d:D}{m:Int}{ks:List (List Int)} (h:c8 d m ks):∃ n:Nat,m=(n:Int)/\d=bo n ks/\GW n ks:=by
 obtain ⟨n,rfl⟩:∃ n:Nat,m=(n:Int):=⟨m.toNat,by have:=h.2.1;omega⟩
 have hd:=h.1
 subst hd
 exact ⟨n,rfl,rfl,h⟩
def ju (k:List Int):Int × Int:=(k.getD 1 0,k.getD 0 0)
theorem BB {m:Nat}{ks:List (List Int)} (h:GW m ks):(∀ p∈(ks.map ju).reverse,PP m p)/\fE (((ks.map ju).reverse).map mm)=ks:=by
 have hp:∀ p∈(ks.map ju).reverse,PP m p:=fun p hp=>by
  obtain ⟨k,hk,rfl⟩:=K1.mp (MM.mp hp)
  obtain ⟨a,b,rfl,h1,h2,h3⟩:=h.2.2.2.2 k hk
  have e:ju [a,b]=(b,a):=rfl
  rw [e]
  exact ⟨⟨by show 0<=b;omega,h3⟩,⟨h1,by show a<(m:Int);omega⟩,by show b≠a;omega⟩
 refine ⟨hp,iq (wj h.m0 h.m6 hp) h fun a b=>?_⟩
 rw [oE h.m6 hp]
 constructor
 ·rintro ⟨p, hpm, e⟩
  obtain ⟨k,hk,rfl⟩:=K1.mp (MM.mp hpm)
  obtain ⟨x,y,rfl,h1,h2,h3⟩:=h.2.2.2.2 k hk
  have e':[min y x,max y x]=[a,b]:=e
  rw [MJ (by omega),MK (by omega)] at e'
  rw [<- e'];exact hk
 ·intro hk
  obtain ⟨x,y,e,h1,h2,h3⟩:=h.2.2.2.2 _ hk
  injection e with e1 e2
  injection e2 with e2 _
  subst e1 e2
  refine ⟨ju [a,b],MM.mpr (K1.mpr ⟨_,hk,rfl⟩),?_⟩
  show [min b a,max b a]=[a,b]
  rw [MJ (by omega),MK (by omega)]
theorem Cn {M:aA}{x:Int}{o0 o2 o3:Option D}:∃ o2' o3' g,nU [o0,some (.int x),o2,o3] M=.next [o0,some (.int x),o2',o3'] (M++g):=by
 obtain ⟨a,b,c,ep⟩:=DZ (μ:=M) x
 have hp:(M++[bC a b c])[M.length]?=some (bC a b c):=av
 obtain ⟨d,mi,ks,a',b',c',g,ew⟩:=zu hp
 have hs:(M++[bC a b c]).set M.length (bC a' b' c')=M++[bC a' b' c']:=kf
 rw [hs] at ew
 obtain ⟨m,rfl,rfl,h⟩:=CB g
 let M1:=M++[bC a' b' c']
 have cm:=dD (U:=List Int) (en:=aj) (src:=.fix (ks.map aj)) (g:=ag 0) (t:=bf) (e:=nV) (μ1:=M1) (q:=fun _=>true) (h:=fun k=>bM (ju k)) (fun ρ=>∃ o,ρ=[o]) (fun _=>trivial) (us:=ks) (acc:=[]) (ρ:=[none]) ⟨_,rfl⟩
  (by rw [KS];exact IM (by have:=gM h;omega) bp)
  (fun k hk a ρ hJJ => by
   obtain ⟨o,e⟩:=hJJ
   subst e
   obtain ⟨u,v,rfl,_⟩:=h.2.2.2.2 k hk
   refine ⟨[some (aj [u,v])],⟨_,rfl⟩,rfl,rfl,fun _=>?_⟩
   unfold nV
   simp only [az,ah,oe,ze,aX,aa]
   rfl)
 rw [fK,Kj,show ks.map (fun k=>bM (ju k))=(ks.map ju).map bM from by rw [KO];rfl] at cm
 let M2:=M1++[O.lst ((ks.map ju).map bM)]
 let M3:=M2++[O.lst (((ks.map ju).reverse).map bM)]
 have rv:og (.obj M1.length) (.int (-1)) M2=.ok (.obj M2.length) M3:=by
  unfold og
  dsimp only
  rw [show M2[M1.length]?=some (.lst ((ks.map ju).map bM)) from av]
  dsimp only
  rw [ID rfl,<- List.map_reverse]
 obtain ⟨rp,rs⟩:=BB h
 have wo:gN [.int m,.obj M2.length] M3=.ok (bo m ks) M3:=by
  have:=tu (μ:=M3) (m:=m) (t:=M2.length) (ps:=(ks.map ju).reverse) h.m0 h.m6 av rp
  rw [rs] at this
  exact this
 have q1:d4 true (bo m ks) (bo m ks) M3=.ok (.bl false) M3:=by rw [Az h h,Kk rfl];rfl
 have hp3:M3[M.length]?=some (bC a' b' c'):=aV (aV av)
 obtain ⟨ns,a4,b4,c4,n1,n2,n3,en⟩:=tE (m:=(m:Int)) hp3 (by have:=h.m0;omega) (by have:=h.m6;omega)
 have N:nW m ns:=⟨n1,by omega,n3⟩
 have st:M3.set M.length (bC a4 b4 c4)=M++([bC a4 b4 c4]++[O.lst ((ks.map ju).map bM)]++[O.lst (((ks.map ju).reverse).map bM)]):=by
  show (M++[bC a' b' c']++[O.lst ((ks.map ju).map bM)]++[O.lst (((ks.map ju).reverse).map bM)]).set M.length (bC a4 b4 c4)=_
  rw [Ke,Ke]
  show (M++bC a' b' c'::_).set M.length (bC a4 b4 c4)=_
  rw [kf]
  rfl
 refine ⟨some (.obj M.length),some (bo m ks),[bC a4 b4 c4]++[O.lst ((ks.map ju).map bM)]++[O.lst (((ks.map ju).reverse).map bM)],?_⟩
 ·rw [<- st]
  unfold nU
  simp only [aT,a9,aC,ar,ay,ai,ah,aa,ep,ab,cH,Mq,Mr,aH,ew,bx,bO,az,aX,dw,g7,bz,cg,jz,aP]
  rw [show d5 [none] _=[none] from rfl,show compLoop (mC.fix (ks.map aj)) (M++[bC a' b' c']).length (ag 0) bf nV (ks.map aj) [none] (M++[bC a' b' c']++[O.lst []])=_ from cm]
  simp only [aa,oe,ze,aX]
  rw [show og (.obj M1.length) (.int (-1)) (M1++[O.lst ((ks.map ju).map bM)])=_ from rv]
  simp only [aa]
  rw [wo]
  simp only [aa,q1,aM,ab,Ko,JP,bG,aH,bx,oq,g6,iY,aC,ar,ay,ai,ah,xc h,gx,Lm,az,aX,dw,en]
  rw [show bQ [bo m ks,.tup (ns.map D.int)] _=_ from xh N h]
  simp only [aa,gx,Lm,ab,Ko,JP,bG]
theorem D0 (ns:List Int):∃ μ',tp [.frz (ns.map D.int)] []=.ok (.bl true) μ':=by
 obtain ⟨x0,ex0⟩:=Bj (μ:=[]) (ns:=ns)
 obtain ⟨xs,hxs,hxl⟩:∃ xs:List Int,mH (ns.map D.int) (some 1) (some 4)=xs.map D.int/\xs.length<=6:=by
  refine ⟨(ns.drop (HT.sIx ns.length 0 (some 1))).take (HT.sIx ns.length ns.length (some 4) - HT.sIx ns.length 0 (some 1)),?_,?_⟩
  ·unfold mH
   rw [JI,K9,La]
  ·rw [JB]
   have h6:HT.sIx ns.length ns.length (some 4)=min 4 ns.length:=HT.sIx_nat _ _ 4
   omega
 obtain ⟨L,hL⟩:∃ L:List Int,L=x0::xs:=⟨_,rfl⟩
 let M5:aA:=([O.lst [.int x0]]++[O.lst (xs.map D.int)])++[O.lst (L.map D.int)]
 have h5:M5[2]?=some (.lst (L.map D.int)):=rfl
 obtain ⟨ρ3,M6,_,run3⟩:=d7 (src:=.own 2 (L.map D.int)) (g:=ag 1) (fb:=nU)
  (fun zs ρ μ=>(∃ g,μ=M5++g)/\(∃ rs:List Int,zs=rs.map D.int)/\∃ o0 o1 o2 o3,ρ=[o0,o1,o2,o3])
  (fun ρ μ ⟨⟨g,e⟩,_⟩=>by rw [e];exact aV h5)
  (fun x r ρ μ hJJ => by
   obtain ⟨⟨g,e⟩,⟨rs,er⟩,o0,o1,o2,o3,eρ⟩:=hJJ
   subst eρ
   cases rs with
   | nil=>cases er
   | cons y rs=>
    injection er with ex er
    subst ex er
    obtain ⟨o2',o3',g',e1⟩:=Cn (M:=μ) (x:=y) (o0:=o0) (o2:=o2) (o3:=o3)
    exact ⟨by rw [e];exact aV h5,_,μ,_,_,rfl,e1,⟨g++g',by rw [e,Ke]⟩,⟨rs,rfl⟩,_,_,_,_,rfl⟩)
  (xs:=L.map D.int) (ρ:=[some (.frz (ns.map D.int)),none,none,none]) (μ:=M5)
  ⟨⟨[],by rw [Jv]⟩,⟨L,rfl⟩,_,_,_,_,rfl⟩
 have hend:∃ μ',rq [] (.ok (.bl true) M6)=.ok (.bl true) μ':=by
  rcases Fk (μ:=[]) (d:=.bl true) (μ':=M6) with e | ⟨e,_⟩ <;> exact ⟨_,e⟩
 obtain ⟨μ',hend⟩:=hend
 refine ⟨μ',?_⟩
 unfold tp
 rw [eW]
 unfold Di
 have l1:([.int x0]:List D).length<=sizeLine:=Im (n:=1) rfl
 have sl:∀ μ,AA (.frz (ns.map D.int)) (some 1) (some 4) μ=.ok (.obj μ.length) (μ++[.lst (xs.map D.int)]):=fun μ=>by
  unfold AA;dsimp only;rw [hxs]
 have ad:cA (.obj 0) (.obj 1) ([O.lst [.int x0]]++[O.lst (xs.map D.int)])=.ok (.obj 2) M5:=by
  have:=CO (μ:=[O.lst [.int x0]]++[O.lst (xs.map D.int)]) (a:=0) (b:=1) rfl rfl (show ([.int x0]:List D).length+(xs.map D.int).length<=1000000 by rw [JI];simp only [Kq,KS];omega)
  rw [this]
  simp only [M5,hL]
  rfl
 simp only [List.replicate]
 rw [aT,gn,cg,az,gm,ar,aC,ar,ah,aa,ar,aX,aa,ay,aa,aa,aa,ex0,aa,ay,aa,aa]
 simp only [ID l1,aa,Dc,ah,t7,aX,zf]
 rw [sl,aa]
 rw [show cA (.obj ([]:aA).length) (.obj (([]:aA)++[O.lst [.int x0]]).length) (([]:aA)++[O.lst [.int x0]]++[O.lst (xs.map D.int)])=_ from ad]
 rw [aa,gy h5,ab,dE,run3,aH,bb,aX,ab,aN]
 exact hend
end Lw
namespace Lw
open PySem PySem.Spec PyProof.Rows L2 RS
theorem bT (P:Params) (f:Addr) (n m:Str) (t:Tok) (c:Addr) (st:Stmt) (l:(Kz P).lookup f=some (fo n st m t c)) (q:W.codeIn (Kz P) (.ref c) n=true):gW (Kz P) n n st f (W.fnOf n n (d8 st) (cI st) (ao st) .none .none .none (.str m t) none (.ref c) .none):=Fl l q (by unfold W.keepIn;dsimp only;rw [l];rfl)
theorem Fz {l:W.OpenLaw}{w:World}{h:Heap}{mg:Str->Option Value}{fa:Addr} (X:(Kz w.params).In h) (G:h.Ns mainGlobals mg) (hfa:mg "law" = some (.ref fa)) :
  ∃ fd:FuncData,(∀ (s:Shared) (v:Value),BindsTo s fd ⟨[v],[]⟩ [("_law_script",v)])/\∀ base:Heap,(Kz w.params).In base->base.Ns mainGlobals mg->pY l.prog w (Kz w.params) mg base yp 10 fa fd ["_law_script"] (Dk (cD (Kz w.params) w) 1 tp):=by
 have e:=hfa.symm.trans (W.mg_of X G (v:=.ref 283) (by kernel_rfl))
 cases e
 have nm:Nm mg:=⟨W.mg_none_of X G (by kernel_rfl),W.mg_none_of X G (by kernel_rfl),W.mg_none_of X G (by kernel_rfl),W.mg_none_of X G (by kernel_rfl),W.mg_none_of X G (by kernel_rfl),W.mg_none_of X G (by kernel_rfl),W.mg_none_of X G (by kernel_rfl),W.mg_none_of X G (by kernel_rfl),W.mg_none_of X G (by kernel_rfl),W.mg_none_of X G (by kernel_rfl),W.mg_none_of X G (by kernel_rfl),W.mg_none_of X G (by kernel_rfl),W.mg_none_of X G (by kernel_rfl)⟩
 have c_MOST_PLACES:=W.mg_of X G (n:="MOST_PLACES") (v:=(.int 6 304)) (by kernel_rfl)
 have c_MOST_STEPS:=W.mg_of X G (n:="MOST_STEPS") (v:=(.int 6 306)) (by kernel_rfl)
 have F:=bT w.params 283 "law" "law_rootwebs_k05_whole_steps" 431 282 ke (by kernel_rfl) (by kernel_rfl)
 refine ⟨W.fnOf "law" "law" (d8 ke) (cI ke) (ao ke) .none .none .none (.str "law_rootwebs_k05_whole_steps" 431) none (.ref 282) .none,fun s v=>.of_eq rfl,fun base _ _=>?_⟩
 have d_is_whole:=uw (P:=l.prog) (w:=w) (base:=base) nm (bT w.params 77 "is_whole" "rootwebs.kinds" 264 76 iR (by kernel_rfl) (by kernel_rfl)) (W.mg_of X G (by kernel_rfl))
 have d_is_whole_from:=ng (P:=l.prog) (w:=w) (base:=base) nm (bT w.params 84 "is_whole_from" "rootwebs.kinds" 264 83 eB (by kernel_rfl) (by kernel_rfl)) (W.mg_of X G (by kernel_rfl)) d_is_whole
 have d_is_place:=uy (P:=l.prog) (w:=w) (base:=base) nm (bT w.params 91 "is_place" "rootwebs.kinds" 264 90 iT (by kernel_rfl) (by kernel_rfl)) (W.mg_of X G (by kernel_rfl)) d_is_whole_from
 have d_is_places:=sx (P:=l.prog) (w:=w) (base:=base) nm (bT w.params 96 "is_places" "rootwebs.kinds" 264 95 fN (by kernel_rfl) (by kernel_rfl)) (W.mg_of X G (by kernel_rfl)) d_is_place
 have d_is_rising:=sv (P:=l.prog) (w:=w) (base:=base) nm (bT w.params 101 "is_rising" "rootwebs.kinds" 264 100 fM (by kernel_rfl) (by kernel_rfl)) (W.mg_of X G (by kernel_rfl))
 have d_is_many:=vz (P:=l.prog) (w:=w) (base:=base) nm (bT w.params 115 "is_many" "rootwebs.webs" 302 114 jC (by kernel_rfl) (by kernel_rfl)) (W.mg_of X G (by kernel_rfl)) ⟨_,c_MOST_PLACES⟩ d_is_whole_from
 have d_is_pair:=vy (P:=l.prog) (w:=w) (base:=base) nm (bT w.params 134 "is_pair" "rootwebs.webs" 302 133 jB (by kernel_rfl) (by kernel_rfl)) (W.mg_of X G (by kernel_rfl)) d_is_places
 have d_is_tie:=xG (P:=l.prog) (w:=w) (base:=base) nm (bT w.params 127 "is_tie" "rootwebs.webs" 302 126 kJ (by kernel_rfl) (by kernel_rfl)) (W.mg_of X G (by kernel_rfl)) d_is_pair
 have d_is_ties:=vx (P:=l.prog) (w:=w) (base:=base) nm (bT w.params 120 "is_ties" "rootwebs.webs" 302 119 iu (by kernel_rfl) (by kernel_rfl)) (W.mg_of X G (by kernel_rfl)) d_is_tie d_is_rising
 have d_web_good:=ur (P:=l.prog) (w:=w) (base:=base) nm (bT w.params 108 "web_good" "rootwebs.webs" 302 107 iP (by kernel_rfl) (by kernel_rfl)) (W.mg_of X G (by kernel_rfl)) d_is_many d_is_ties
 have d_web_of:=xF (P:=l.prog) (w:=w) (base:=base) nm (bT w.params 139 "web_of" "rootwebs.webs" 302 138 ji (by kernel_rfl) (by kernel_rfl)) (W.mg_of X G (by kernel_rfl)) d_is_many d_is_pair
 have d_check_place:=pN (P:=l.prog) (w:=w) (base:=base) nm (bT w.params 146 "check_place" "rootwebs.webs" 302 145 fS (by kernel_rfl) (by kernel_rfl)) (W.mg_of X G (by kernel_rfl)) d_is_place
 have d_next_places:=pL (P:=l.prog) (w:=w) (base:=base) nm (bT w.params 163 "next_places" "rootwebs.webs" 302 162 de (by kernel_rfl) (by kernel_rfl)) (W.mg_of X G (by kernel_rfl))
 have d_fars_from:=sy (P:=l.prog) (w:=w) (base:=base) nm (bT w.params 158 "fars_from" "rootwebs.webs" 302 157 fO (by kernel_rfl) (by kernel_rfl)) (W.mg_of X G (by kernel_rfl)) d_next_places
 have d_far_of:=xH (P:=l.prog) (w:=w) (base:=base) nm (bT w.params 153 "far_of" "rootwebs.webs" 302 152 kK (by kernel_rfl) (by kernel_rfl)) (W.mg_of X G (by kernel_rfl)) d_check_place d_fars_from
 have d_star_of:=vv (P:=l.prog) (w:=w) (base:=base) nm (bT w.params 170 "star_of" "rootwebs.webs" 302 169 jA (by kernel_rfl) (by kernel_rfl)) (W.mg_of X G (by kernel_rfl)) d_check_place d_next_places
 have d_steps_web:=su (P:=l.prog) (w:=w) (base:=base) nm (bT w.params 175 "steps_web" "rootwebs.webs" 302 174 fL (by kernel_rfl) (by kernel_rfl)) (W.mg_of X G (by kernel_rfl)) ⟨_,c_MOST_STEPS⟩ d_is_whole_from d_fars_from
 have d_two_step:=uu (P:=l.prog) (w:=w) (base:=base) nm (bT w.params 182 "two_step" "rootwebs.webs" 302 181 iQ (by kernel_rfl) (by kernel_rfl)) (W.mg_of X G (by kernel_rfl)) d_steps_web
 have d_still_from:=p7 (P:=l.prog) (w:=w) (base:=base) nm (bT w.params 189 "still_from" "rootwebs.webs" 302 188 gD (by kernel_rfl) (by kernel_rfl)) (W.mg_of X G (by kernel_rfl)) d_steps_web
 have d_is_still:=ux (P:=l.prog) (w:=w) (base:=base) nm (bT w.params 196 "is_still" "rootwebs.webs" 302 195 iS (by kernel_rfl) (by kernel_rfl)) (W.mg_of X G (by kernel_rfl)) d_two_step
 have d_is_renaming:=pM (P:=l.prog) (w:=w) (base:=base) nm (bT w.params 208 "is_renaming" "rootwebs.webs" 302 207 fR (by kernel_rfl) (by kernel_rfl)) (W.mg_of X G (by kernel_rfl)) d_is_places
 have d_renamed:=vw (P:=l.prog) (w:=w) (base:=base) nm (bT w.params 201 "renamed" "rootwebs.webs" 302 200 ir (by kernel_rfl) (by kernel_rfl)) (W.mg_of X G (by kernel_rfl)) d_is_renaming d_web_of
 have d__law_cell_at:=nL (P:=l.prog) (w:=w) (base:=base) nm (bT w.params 215 "_law_cell_at" "law_rootwebs_k05_whole_steps" 431 214 eU (by kernel_rfl) (by kernel_rfl)) (W.mg_of X G (by kernel_rfl))
 have d__law_next:=sA (P:=l.prog) (w:=w) (base:=base) nm (bT w.params 222 "_law_next" "law_rootwebs_k05_whole_steps" 431 221 g9 (by kernel_rfl) (by kernel_rfl)) (W.mg_of X G (by kernel_rfl))
 have d__law_pen_of:=pP (P:=l.prog) (w:=w) (base:=base) nm (bT w.params 229 "_law_pen_of" "law_rootwebs_k05_whole_steps" 431 228 fU (by kernel_rfl) (by kernel_rfl)) (W.mg_of X G (by kernel_rfl))
 have d__law_draw:=sC (P:=l.prog) (w:=w) (base:=base) nm (bT w.params 236 "_law_draw" "law_rootwebs_k05_whole_steps" 431 235 hV (by kernel_rfl) (by kernel_rfl)) (W.mg_of X G (by kernel_rfl)) d__law_next
 have d__law_named:=p9 (P:=l.prog) (w:=w) (base:=base) nm (bT w.params 241 "_law_named" "law_rootwebs_k05_whole_steps" 431 240 dG (by kernel_rfl) (by kernel_rfl)) (W.mg_of X G (by kernel_rfl))
 have d__law_names_by:=nh (P:=l.prog) (w:=w) (base:=base) nm (bT w.params 246 "_law_names_by" "law_rootwebs_k05_whole_steps" 431 245 df (by kernel_rfl) (by kernel_rfl)) (W.mg_of X G (by kernel_rfl)) d__law_draw
 have d__law_far:=uz (P:=l.prog) (w:=w) (base:=base) nm (bT w.params 251 "_law_far" "law_rootwebs_k05_whole_steps" 431 250 gO (by kernel_rfl) (by kernel_rfl)) (W.mg_of X G (by kernel_rfl))
 have d__law_steps:=p8 (P:=l.prog) (w:=w) (base:=base) nm (bT w.params 256 "_law_steps" "law_rootwebs_k05_whole_steps" 431 255 eJ (by kernel_rfl) (by kernel_rfl)) (W.mg_of X G (by kernel_rfl)) d__law_far
 have d__law_sparse_by:=mz (P:=l.prog) (w:=w) (base:=base) nm (bT w.params 261 "_law_sparse_by" "law_rootwebs_k05_whole_steps" 431 260 aZ (by kernel_rfl) (by kernel_rfl)) (W.mg_of X G (by kernel_rfl)) d__law_draw d__law_named d__law_names_by
 have d__law_web_by:=pO (P:=l.prog) (w:=w) (base:=base) nm (bT w.params 268 "_law_web_by" "law_rootwebs_k05_whole_steps" 431 267 fT (by kernel_rfl) (by kernel_rfl)) (W.mg_of X G (by kernel_rfl)) d__law_sparse_by d__law_draw d__law_steps
 have d__law_steps_right:=kO (P:=l.prog) (w:=w) (base:=base) nm (bT w.params 273 "_law_steps_right" "law_rootwebs_k05_whole_steps" 431 272 bj (by kernel_rfl) (by kernel_rfl)) (W.mg_of X G (by kernel_rfl)) d_steps_web d_two_step d_web_good d_still_from d_is_still
 have d__law_named_right:=kP (P:=l.prog) (w:=w) (base:=base) nm (bT w.params 278 "_law_named_right" "law_rootwebs_k05_whole_steps" 431 277 bI (by kernel_rfl) (by kernel_rfl)) (W.mg_of X G (by kernel_rfl)) d_renamed d_two_step d_still_from d_star_of d_far_of
 exact Fm nm F d__law_cell_at d__law_pen_of d__law_web_by d_web_of d__law_steps_right d__law_named_right d__law_names_by
theorem Hr {l:W.OpenLaw}{q:Program}{loose:List Str}{XP:(Str->Option Value)->Heap->Prop}{d:DefRec} (hn:l.most=some 63) (hdf:d.params.defaults=[]) (hd:d.name = "law") :
  W.WalkO q loose XP (W.Hook.says Hz) l.row.toRowW d [] (fun f vs=>PySem.call f vs):=
 L2.walk_of (K:=Kz) (n:=63) (k:=10) (x:="_law_script") (CX:=fun _=>yp) (sp:=fun w=>Dk (cD (Kz w.params) w) 1 tp) hn (by decide) hdf ⟨rfl,by decide,by decide,rfl⟩ (fun _ _ Y=>W.kIn_of Y) (fun _ _ _ _ X G e=>Fz X G (hd ▸ e)) (fun w H a ns hl hO hS=>Ae (D0 ns) hO hS) fun _ _ _ _ _ z=>z
end Lw
open PySem PySem.W PyProof.Rows Lw
set_option maxRecDepth 100000 in
set_option maxHeartbeats 0 in
theorem PySem.Challenge.cw_rootwebs_k05_whole_steps_holds : PySem.Challenge.rw_rootwebs_k05_whole_steps.Holds := by
 w_on;refine holds_law DA fun said=>?_
 exact holds_open (Xt:=Xz) (XP:=XL Qz []) (YP:=Hook.says Hz) DB (Hook.of Hz) (Hook.keeps Hz) (fun s e=>xl_of s (Bool.and_eq_true_iff.mp e).1) XL.keeps (by rfl) (by rfl) (by rfl) (fun s e=>recFacts_of (Bool.and_eq_true_iff.mp e).2) (by rfl) said (by decide +kernel) ⟨rfl,rfl,rfl,rfl,rfl,by decide +kernel⟩ (by w_witness2) (Hr rfl rfl rfl)
