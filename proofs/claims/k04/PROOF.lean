import PyProof.Rows.All
import Wide.All
import OpenK.AllK
import Wide.FinOn
import PyProof.EqAt
import PyProof.EqKinds
import PyProof.TupleCall
import PyProof.P3In
import PyProof.NeData
import PyProof.ConsumeS
import PyProof.WalksMore
import PyProof.ReprRoads
import PyProof.ReprLen
import PyProof.Draws
import PyProof.EnumMake
import PyProof.EnumFor
import PyProof.CallFns
import PyProof.Rows.CallKwBuiltin
import Lean
import PySem.Challenge.RW_rootwebs_k04_webs_renamed
set_option Elab.async false
set_option linter.all false
set_option maxHeartbeats 1000000
set_option maxHeartbeats 2000000
set_option maxHeartbeats 400000
set_option maxHeartbeats 4000000
set_option maxRecDepth 100000
abbrev G2:=@PySem.Value.isInt_shape
abbrev G3:=@decide_eq_false
abbrev G4:=@beq_eq_false_iff_ne
abbrev G5:=@PySem.wpAny_eqBool_int
abbrev G6:=@if_pos
abbrev G7:=@if_neg
abbrev G8:=@Option.some.inj
abbrev G9:=@PySem.Heap.lt_size
abbrev Hb:=@Nat.lt_of_lt_of_le
abbrev Hc:=@Nat.lt_irrefl
abbrev Hd:=@Nat.ne_of_lt
abbrev He:=@List.mem_filter
abbrev Hf:=@List.mem_range
abbrev Hg:=@Nat.le_trans
abbrev Hh:=@Nat.le_of_lt
abbrev Hi:=@List.filterMap_cons
abbrev Hj:=@List.mem_cons_self
abbrev Hk:=@List.mem_cons_of_mem
abbrev Hl:=@List.mem_cons
abbrev Hm:=@Ne.symm
abbrev Hn:=@List.mem_append
abbrev Ho:=@List.mem_append_left
abbrev Hq:=@List.getElem?_eq_some_iff
abbrev Hr:=@List.getElem_inj
abbrev Hs:=@List.getElem?_set_self
abbrev Ht:=@List.getElem?_set_ne
abbrev Hu:=@PySem.wpAny_mono
abbrev Hv:=@PySem.wpAny_truthy_bool
abbrev Hw:=@Array.length_toList
abbrev Hx:=@congrArg
abbrev Hy:=@PySem.wpAny_execs_nil
abbrev HA:=@PySem.wpAny_bind
abbrev HB:=@PySem.wpAny_holding
abbrev HC:=@PySem.wpAny_standAt
abbrev HD:=@Nat.ne_of_gt
abbrev HE:=@PySem.wpAny_pure
abbrev HF:=@PySem.wpAny_load
abbrev HG:=@PySem.Heap.get?_push_of_some
abbrev HH:=@PySem.Heap.get?_push_size
abbrev HI:=@Nat.le_refl
abbrev HJ:=@PyProof.Rows.callWith_type1
abbrev HK:=@List.mem_filterMap
abbrev HL:=@List.mem_append_right
abbrev HM:=@PySem.wpAny_passesOwn
abbrev HN:=@Bool.eq_iff_iff
abbrev HP:=@Bool.false_ne_true
abbrev HQ:=@PySem.sizeLine_eq
abbrev HR:=@List.size_toArray
abbrev HS:=@List.append_nil
abbrev HU:=@PySem.codeAny_mono
abbrev HV:=@PySem.wpAny_Call_Name_kw
abbrev HW:=@List.nodup_cons
abbrev HX:=@List.of_mem_zip
abbrev HY:=@Option.isSome_iff_exists
abbrev HZ:=@List.length_take
abbrev Ib:=@PySem.mem_of_lookup
abbrev Ic:=@List.getElem?_append_right
abbrev Ie:=@List.getElem?_replicate
abbrev Ig:=@List.getElem?_append_left
abbrev Ih:=@List.getElem?_map
abbrev Ii:=@List.getElem?_take_of_lt
abbrev Ij:=@List.mem_of_getElem?
abbrev Ik:=@List.length_append
abbrev Il:=@List.length_map
abbrev Im:=@PySem.noFill_tuple_add
abbrev Io:=@PySem.F.slot_tuple_add
abbrev Ip:=@PySem.F.entry_tuple_add
abbrev Iq:=@PySem.F.args_tuple_add_2
abbrev Ir:=@Int.toNat_natCast
abbrev Iu:=@if_false
abbrev Iv:=@if_true
abbrev Iw:=@PySem.wpAny_field
abbrev Iy:=@List.length_drop
abbrev Iz:=@PySem.wpAny_callSpecial?_slot
abbrev IA:=@PyProof.Rows.slot_tuple_getitem
abbrev IC:=@PySem.wpAny_call_entry
abbrev ID:=@PySem.wpAny_typeOf
abbrev IE:=@Bool.and_eq_true
abbrev IF:=@PySem.wpAny_newObj_type
abbrev IG:=@List.map_nil
abbrev IH:=@List.map_cons
abbrev II:=@PySem.Heap.get?_update_self
abbrev IJ:=@List.all_cons
abbrev IK:=@List.replicate_succ
abbrev IL:=@List.flatten_cons
abbrev IM:=@Nat.le_succ
abbrev IP:=@List.append_assoc
abbrev IQ:=@List.foldl_cons
abbrev IR:=@PySem.call_meets
abbrev IS:=@List.length_singleton
abbrev IT:=@Array.getElem?_toList
abbrev IU:=@List.nil_append
abbrev IV:=@decide_eq_true
abbrev IW:=@Nat.le_of_eq
abbrev IX:=@List.lookup_cons
abbrev IY:=@beq_self_eq_true
abbrev IZ:=@Bool.false_eq_true
abbrev I0:=@List.length_cons
abbrev Ja:=@Nat.lt_succ_self
abbrev Jb:=@Nat.lt_succ_of_lt
abbrev Jc:=@PySem.Heap.size_push
abbrev Jd:=@PySem.pushCells_keeps
abbrev Je:=@PySem.codeAny_of_tree
abbrev Jf:=@PySem.wpAny_askSetting
abbrev Jg:=@PySem.wpAny_rule
abbrev Jh:=@Nat.zero_le
abbrev Ji:=@List.mem_singleton
abbrev Jj:=@PySem.F.slot_tuple_iterator_next
abbrev Jk:=@PySem.F.entry_tuple_iterator_next
abbrev Jl:=@PySem.F.args_tuple_iterator_next_1
abbrev Jm:=@PySem.wpAny_seqItems
abbrev Jn:=@PySem.Heap.SameBut.update
abbrev Jo:=@PySem.wpAny_of_eq
abbrev Jp:=@PySem.wpAny_pyIter_tuple
abbrev Jq:=@List.not_mem_nil
abbrev Jr:=@or_false
abbrev Js:=@PySem.Heap.get?_push_ne
abbrev Jt:=@List.range_succ_eq_map
abbrev Ju:=@List.map_map
abbrev Jv:=@List.map_congr_left
abbrev Jw:=@List.length_range
abbrev Jx:=@List.length_nil
abbrev Jy:=@List.cons.inj
abbrev Jz:=@List.cons_append
abbrev JA:=@Array.getElem?_eq_some_iff
abbrev JB:=@List.take_of_length_le
abbrev JC:=@List.mem_map
abbrev JD:=@Classical.byContradiction
abbrev JE:=@List.nodup_range
abbrev JF:=@List.getElem?_of_mem
abbrev JG:=@List.mem_map_of_mem
abbrev JH:=@List.take_append_drop
abbrev JI:=@List.pairwise_cons
abbrev JJ:=@List.map_append
abbrev JK:=@List.map_take
abbrev JL:=@List.map_drop
abbrev JM:=@Array.getD_eq_getD_getElem?
abbrev JN:=@Option.getD_some
abbrev JO:=@List.mem_of_mem_take
abbrev JP:=@List.mem_of_mem_drop
abbrev JQ:=@Array.getElem?_eq_none_iff
abbrev JR:=@List.nodup_nil
abbrev JS:=@List.pairwise_lt_range
abbrev JT:=@List.perm_ext_iff_of_nodup
abbrev JU:=@Array.getElem?_eq_getElem
abbrev JV:=@List.all_eq_true
abbrev JW:=@Int.toNat_of_nonneg
abbrev JX:=@Bool.not_true
abbrev JY:=@PySem.wpAny_forIn_list
abbrev JZ:=@PySem.wpAny_setState_of
abbrev J0:=@Bool.and_self
abbrev J1:=@Array.mem_toList_iff
abbrev J2:=@List.nodup_append
abbrev J3:=@PySem.wpAny_storeSet_of
abbrev J4:=@PySem.putSet_of
abbrev J6:=@Bool.not_false
abbrev J7:=@List.foldl_append
abbrev J8:=@PySem.codeAny_builtin
abbrev J9:=@PySem.Around.under_plainId
abbrev Ka:=@PyProof.Rows.F.plain_set_update_loop
abbrev Kb:=@PySem.isSubtype_type
abbrev Kc:=@PySem.F.called_set
abbrev Kd:=@PySem.Code.quiet_builtin
abbrev Ke:=@PySem.codeAny_call_builtin
abbrev Kf:=@PySem.wpAny_pyIter_list
abbrev Kg:=@PySem.wpAny_runValue
abbrev Kh:=@List.take_add_one
abbrev Ki:=@List.take_length
abbrev Kj:=@PySem.W.KasT.kasWp_bind
abbrev Kk:=@decide_eq_decide
abbrev Kl:=@List.getD_eq_getElem?_getD
abbrev Km:=@List.ext_getElem?
abbrev Kn:=@List.getElem?_range
abbrev Ko:=@List.getElem?_eq_none
abbrev Kq:=@List.pairwise_map
abbrev Kr:=@PyProof.Rows.listUpdate_at
abbrev Ks:=@PyProof.Rows.get?_update_seq
abbrev Kt:=@PySem.wpAny_newList
abbrev Ku:=@PyProof.Rows.size_push'
abbrev Kv:=@PySem.Heap.size_update
abbrev Kw:=@PySem.Heap.get?_update_ne
abbrev Kx:=@bne_self_eq_false
abbrev Ky:=@List.getElem_mem
abbrev KA:=@List.getElem?_eq_getElem
abbrev KB:=@PySem.wpAny_setEntries_of
abbrev KC:=@PySem.wpAny_setField_rec
abbrev KD:=@PySem.Calls.call_function_entry
abbrev KE:=@PyProof.Rows.entry_list_sort
abbrev KG:=@List.getElem_of_mem
abbrev KH:=@of_eq_true
abbrev KJ:=@eq_self
abbrev KL:=@List.drop_eq_getElem_cons
abbrev KM:=@List.drop_length
abbrev KN:=@decide_eq_true_eq
abbrev KO:=@List.zip_cons_cons
abbrev KQ:=@List.eq_nil_of_length_eq_zero
abbrev KR:=@PyProof.Rows.boot_isinstance
abbrev KS:=@List.all_map
abbrev KU:=@Int.le_antisymm
abbrev KW:=@List.length_pos_iff
abbrev KY:=@List.filter_cons
abbrev KZ:=@PySem.PassesOwn.never
abbrev K0:=@List.flatMap_cons
abbrev K1:=@Int.emod_nonneg
abbrev K2:=@Int.emod_lt_of_pos
abbrev K3:=@List.set_cons_succ
abbrev K4:=@List.set_cons_zero
abbrev K5:=@Function.comp_apply
abbrev K6:=@List.filter_eq_self
namespace L2
open PySem PySem.Spec PyProof.Rows
abbrev pq:=Sum Int Str
def BO:pq->Value->Bool
 | .inl k,v=>Value.isInt k v
 | .inr x,v=>Value.isStrOf x v
def Gs (w:World):pq->Int
 | .inl k=>hashInt k
 | .inr x=>hashStr w x
theorem cy:∀ {k:pq}{v:Value},BO k v=true->(∃ i t,k=Sum.inl i/\v=Value.int i t)\/(∃ x t,k=Sum.inr x/\v=Value.str x t)
 | .inl i,v,h=>by
  obtain ⟨t,e⟩:=G2 (k:=i) (v:=v) h
  exact .inl ⟨i,t,rfl,e⟩
 | .inr x,v,h=>by
  obtain ⟨t,e⟩:=Value.isStrOf_shape (x:=x) (v:=v) h
  exact .inr ⟨x,t,rfl,e⟩
theorem DT (a b:Int):decide ((Sum.inl a:pq)=Sum.inl b)=(a == b):=by
 by_cases e:a=b
 ·subst e;simp
 ·have h : ¬ (Sum.inl a : pq) = Sum.inl b := fun q => e (Sum.inl.inj q)
  rw [G3 h]
  exact (G4.mpr e).symm
theorem DQ (a b:Str):decide ((Sum.inr a:pq)=Sum.inr b)=decide (a=b):=by
 by_cases e:a=b
 ·subst e;simp
 ·have h : ¬ (Sum.inr a : pq) = Sum.inr b := fun q => e (Sum.inr.inj q)
  rw [G3 h,G3 e]
theorem DS (a:Int) (b:Str):decide ((Sum.inl a:pq)=Sum.inr b)=false:=G3 (fun q=>nomatch q)
theorem DR (a:Str) (b:Int):decide ((Sum.inr a:pq)=Sum.inl b)=false:=G3 (fun q=>nomatch q)
def pQ (prog:Program) (w:World):PySem.KeyKind prog w pq where
 is:=BO
 hash:=Gs w
 inj:=fun v a b ha hb=>by
  rcases cy ha with ⟨i,t,rfl,rfl⟩ | ⟨x,t,rfl,rfl⟩
  ·rcases cy hb with ⟨j, u, rfl, e⟩ | ⟨y, u, rfl, e⟩
   ·injection e with e1 _;rw [e1]
   ·exact nomatch e
  ·rcases cy hb with ⟨j, u, rfl, e⟩ | ⟨y, u, rfl, e⟩
   ·exact nomatch e
   ·injection e with e1 _;rw [e1]
 byValue:=fun k v h=>by
  rcases cy h with ⟨i,t,rfl,rfl⟩ | ⟨x,t,rfl,rfl⟩ <;> rfl
 pyHash:=fun hv h=>by
  rcases cy hv with ⟨i,t,rfl,rfl⟩ | ⟨x,t,rfl,rfl⟩
  ·exact wpAny_pyHash_int h
  ·exact wpAny_pyHash_str h
 eqBool:=fun hu hv h=>by
  rcases cy hu with ⟨i,t,rfl,rfl⟩ | ⟨x,t,rfl,rfl⟩
  ·rcases cy hv with ⟨j, u, rfl, rfl⟩ | ⟨y, u, rfl, rfl⟩
   ·rw [DT] at h;exact G5 h
   ·rw [DS] at h;exact SeqAt.EqAt.int_str i t y u _ _ _ _ h
  ·rcases cy hv with ⟨j, u, rfl, rfl⟩ | ⟨y, u, rfl, rfl⟩
   ·rw [DR] at h;exact SeqAt.EqAt.str_int x t j u _ _ _ _ h
   ·rw [DQ] at h;exact wpAny_eqBool_str h
 «strs»:=fun k x t v h=>by
  rcases cy h with ⟨i,u,rfl,e⟩ | ⟨y,u,rfl,e⟩
  ·exact nomatch e
  ·injection e with e1 _
   subst e1
   cases v <;> rfl
end L2
namespace L2
open PySem PySem.Spec PyProof.Rows
inductive V where
 | non | bl (b:Bool) | int (i:Int) | str (x:Str) | byt (b:Array UInt8) | flt (b:UInt64) | ref (a:Addr) | ty (n:String)
 deriving DecidableEq
def bH:V->Value->Prop
 | .non,u=>u=Value.none
 | .bl b,u=>u=Value.bool b
 | .int i,u=>∃ t,u=Value.int i t
 | .str x,u=>∃ t,u=Value.str x t
 | .byt b,u=>∃ t,u=Value.bytes b t
 | .flt b,u=>∃ t,u=Value.float b t
 | .ref a,u=>u=Value.ref a
 | .ty n,u=>u=Value.type n
abbrev aU:List V->List Value->Prop:=Paired bH
theorem aU.length {xs:List V}{us:List Value} (r:aU xs us):xs.length=us.length:=Paired.length r
theorem aU.get:∀ {xs:List V}{us:List Value}{i:Nat}{x:V},aU xs us->xs[i]?=some x->∃ u,us[i]?=some u/\bH x u
 | _,_,_,_,.nil,e=>by simp at e
 | _,_,0,_,.cons r _,e=>by simp at e;subst e;exact ⟨_,rfl,r⟩
 | _,_,i+1,x,.cons _ t,e=>by
  obtain ⟨u,h1,h2⟩:=aU.get (i:=i) (x:=x) t (by simpa using e)
  exact ⟨u,by simpa using h1,h2⟩
theorem aU.set {x:V}{u:Value} (r:bH x u):∀ {xs:List V}{us:List Value} (i:Nat),aU xs us->aU (xs.set i x) (us.set i u)
 | _,_,_,.nil=>.nil
 | _,_,0,.cons _ t=>.cons r t
 | _,_,i+1,.cons q t=>.cons q (aU.set r i t)
theorem aU.append:∀ {xs ys:List V}{us ws:List Value},aU xs us->aU ys ws->aU (xs++ys) (us++ws)
 | _,_,_,_,.nil,s=>s
 | _,_,_,_,.cons r t,s=>.cons r (aU.append t s)
theorem aU.take:∀ {xs:List V}{us:List Value} (n:Nat),aU xs us->aU (xs.take n) (us.take n)
 | _,_,0,_=>.nil
 | _,_,_+1,.nil=>.nil
 | _,_,n+1,.cons r t=>.cons r (aU.take n t)
theorem aU.drop:∀ {xs:List V}{us:List Value} (n:Nat),aU xs us->aU (xs.drop n) (us.drop n)
 | _,_,0,r=>r
 | _,_,_+1,.nil=>.nil
 | _,_,n+1,.cons _ t=>aU.drop n t
def EN:Option V->Option Value->Prop
 | some v,some u=>bH v u
 | none,none=>True
 | _,_=>False
def KV {κ:Type}:List (κ × V)->List (κ × Value)->Prop:=Paired fun (p:κ × V) (q:κ × Value)=>p.1=q.1/\bH p.2 q.2
def kV:pq->V
 | .inl i=>.int i
 | .inr x=>.str x
inductive HO where
 | lst (xs:List V)
 | tup (xs:List V)
 | dK (kvs:List (pq × V)) | dT (kvs:List (List pq × V))
 | set (S:Int->Bool) (n:Nat)
 | ins (C dx:Addr) (fs:List (Str × V))
 | own (x:Addr)
 | xd (fs:List (Str × V))
 | met (f x:Addr)
 | rng (lo hi:Int)
 | frz (o:Obj) (u:HO)
 | tbl (ps:Array Value)
 | ext (φ:Heap->Prop)
abbrev Hp:=Addr->Option HO
def bT (H:Hp) (a:Addr) (o:HO):Hp:=fun b=>if b=a then some o else H b
theorem bG {H:Hp}{a:Addr}{o:HO}:bT H a o a=some o:=by unfold bT;rw [G6 rfl]
theorem aY {H:Hp}{a b:Addr}{o:HO} (h:b≠a):bT H a o b=H b:=by unfold bT;rw [G7 h]
theorem oi {H:Hp}{a b:Addr}{o u:HO} (h:H a=some o) (h':H b=some u) (d:o≠u):a≠b:=by
 intro e;subst e;rw [h] at h';exact d (G8 h')
theorem bI {H:Hp}{a b:Addr}{o:HO} (h:H a=some o) (h':H b=none):a≠b:=by
 intro e;subst e;rw [h] at h';cases h'
section
variable (P:Program) (w:World)
def cW (H:Hp) (h:Heap) (a:Addr):HO->Prop
 | .lst xs=>xs.length<=sizeLine/\∃ (its:List Value) (n:Nat),aU xs its/\h.get? a=some { cls:=.type "list",data:=.seq its.toArray n }
 | .tup xs=>xs.length<=sizeLine/\∃ its:List Value,aU xs its/\IsTup h a its.toArray
 | .dK kvs=>kvs.length<=sizeLine/\(a == sysModules)=false/\∃ vs,KV kvs vs/\h.DictOf (pQ P w) a vs
 | .dT kvs=>kvs.length<=sizeLine/\(a == sysModules)=false/\∃ xs:List (List pq × Addr × Value),
   Paired (fun (p:List pq × V) (q:List pq × Addr × Value)=>p.1=q.1/\H q.2.1=some (.tup (p.1.map kV))/\bH p.2 q.2.2) kvs xs /\
   ∃ o es ep,h.get? a=some o/\o.ExactDict/\o.data=.dict es ep/\es.toList=xs.map (entryOfKey (tupleKind (pQ P w)))/\(xs.map (·.1)).Nodup
 | .set S n=>h.SetOf (intKind P w) a S n
 | .ins C dx fs=>H dx=some (.own a)/\fs.length<=1000/\dx≠a/\h.get? a=some (W.instObj C dx) /\
   ∃ mA,h.Ns1 dx mA/\(∀ f,EN (fs.lookup f) (mA f))/\PySem.Within mA (fs.map (·.1))
 | .own _=>∃ o,h.get? a=some o
 | .xd fs=>∃ mA,h.Ns1 a mA/\∀ f,EN (fs.lookup f) (mA f)
 | .rng lo hi=>∃ t u v,h.get? a=some { cls:=.type "range",data:=.fields #[.int lo t,.int hi u,.int 1 v] }
 | .frz o u=>h.get? a=some o/\cW H h a u
 | .tbl ps=>h.get? a=some { cls:=.none,data:=.fields ps }
 | .met f x=>h.get? a=some (W.methodObj (.ref f) (.ref x))
 | .ext φ=>φ h/\(∃ o,h.get? a=some o)/\∀ h1 h2:Heap,φ h1->(∀ o,h1.get? a=some o->h2.get? a=some o)->φ h2
def kK (H:Hp) (h:Heap):Prop:=∀ a o,H a=some o->cW P w H h a o
end
section
variable {P:Program}{w:World}{H H':Hp}{h h':Heap}{a:Addr}{o:HO}
theorem cW.lt (x:cW P w H h a o):a<h.objs.size:=by
 cases o with
 | lst xs=>obtain ⟨_,_,_,_,e⟩:=x;exact G9 e
 | tup xs=>obtain ⟨_,_,_,p⟩:=x;exact p.lt
 | dK kvs=>obtain ⟨_,_,_,_,o,_,_,e,_⟩:=x;exact G9 e
 | dT kvs=>obtain ⟨_,_,_,_,o,_,_,e,_⟩:=x;exact G9 e
 | set S n=>obtain ⟨o,_,_,_,e,_⟩:=x;exact G9 e
 | ins C dx fs=>obtain ⟨_,_,_,e,_⟩:=x;exact G9 e
 | own y=>obtain ⟨_,e⟩:=x;exact G9 e
 | xd fs=>obtain ⟨_,⟨_,_,_,e,_⟩,_⟩:=x;exact G9 e
 | rng lo hi=>obtain ⟨_,_,_,e⟩:=x;exact G9 e
 | frz ob u=>obtain ⟨e,_⟩:=x;exact G9 e
 | tbl ps=>exact G9 (show h.get? a=some _ from x)
 | met f y=>exact G9 (show h.get? a=some _ from x)
 | ext φ=>obtain ⟨_,⟨_,e⟩,_⟩:=x;exact G9 e
theorem lK {α β:Type}{F G:α->β->Prop}:∀ {l₁:List α}{l₂:List β},Paired F l₁ l₂->(∀ a b,F a b->G a b)->Paired G l₁ l₂
 | _,_,.nil,_=>.nil
 | _,_,.cons r t,f=>.cons (f _ _ r) (lK t f)
theorem cW.stay (x:cW P w H h a o) (k:∀ b u,(b=a\/H b=some (.own a))->h.get? b=some u->h'.get? b=some u)
  (ho:∀ b,H b=some (.own a)->H' b=some (.own a)) (ht:∀ b xs,H b=some (.tup xs)->H' b=some (.tup xs)):cW P w H' h' a o:=by
 induction o with
 | lst xs=>obtain ⟨z,its,n,r,e⟩:=x;exact ⟨z,its,n,r,k _ _ (.inl rfl) e⟩
 | tup xs=>obtain ⟨z,its,r,ob,e,c⟩:=x;exact ⟨z,its,r,ob,k _ _ (.inl rfl) e,c⟩
 | dK kvs=>obtain ⟨z,y,vs,r,ob,es,ep,e,c⟩:=x;exact ⟨z,y,vs,r,ob,es,ep,k _ _ (.inl rfl) e,c⟩
 | dT kvs=>
  obtain ⟨z,y,xs,r,ob,es,ep,e,c⟩:=x
  exact ⟨z,y,xs,lK r fun p q z=>⟨z.1,ht _ _ z.2.1,z.2.2⟩,ob,es,ep,k _ _ (.inl rfl) e,c⟩
 | set S n=>obtain ⟨ob,es,ep,t,e,c⟩:=x;exact ⟨ob,es,ep,t,k _ _ (.inl rfl) e,c⟩
 | ins C dx fs=>
  obtain ⟨d,z,ne,e,mA,⟨od,es,ep,e2,c⟩,r⟩:=x
  exact ⟨ho _ d,z,ne,k _ _ (.inl rfl) e,mA,⟨od,es,ep,k _ _ (.inr d) e2,c⟩,r⟩
 | own y=>obtain ⟨ob,e⟩:=x;exact ⟨ob,k _ _ (.inl rfl) e⟩
 | xd fs=>obtain ⟨mA,⟨od,es,ep,e,c⟩,r⟩:=x;exact ⟨mA,⟨od,es,ep,k _ _ (.inl rfl) e,c⟩,r⟩
 | rng lo hi=>obtain ⟨t,u,v,e⟩:=x;exact ⟨t,u,v,k _ _ (.inl rfl) e⟩
 | frz ob u ih=>obtain ⟨e,q⟩:=x;exact ⟨k _ _ (.inl rfl) e,ih q⟩
 | tbl ps=>
  have e:h.get? a=some { cls:=.none,data:=.fields ps }:=x
  show h'.get? a=some { cls:=.none,data:=.fields ps }
  exact k a _ (.inl rfl) e
 | met f y=>
  have e:h.get? a=some (W.methodObj (.ref f) (.ref y)):=x
  show h'.get? a=some (W.methodObj (.ref f) (.ref y))
  exact k a _ (.inl rfl) e
 | ext φ=>obtain ⟨p,⟨o,e⟩,st⟩:=x;exact ⟨st _ _ p fun o q=>k _ _ (.inl rfl) q,⟨o,k _ _ (.inl rfl) e⟩,st⟩
theorem kK.lt (x:kK P w H h) (e:H a=some o):a<h.objs.size:=(x a o e).lt
theorem kK.fresh (x:kK P w H h) (e:h.objs.size<=a):H a=none:=by
 cases q:H a with
 | none=>rfl
 | some u=>exact absurd (Hb (x.lt q) e) (Hc _)
theorem kK.kept (x:kK P w H h) (k:∀ b u,h.get? b=some u->h'.get? b=some u):kK P w H h':=fun a o e=>
 (x a o e).stay (fun b u _ q=>k b u q) (fun _ q=>q) fun _ _ q=>q
theorem kK.laid (x:kK P w H h) (k:∀ b u,h.get? b=some u->h'.get? b=some u) (hp:h.objs.size<=a) (new:cW P w (bT H a o) h' a o):kK P w (bT H a o) h':=fun b u e=>by
 have hn:=x.fresh hp
 by_cases hb:b=a
 ·subst hb;rw [bG] at e;cases e;exact new
 ·rw [aY hb] at e
  exact (x b u e).stay (fun c v _ q=>k c v q) (fun c q=>by rw [aY (bI q hn)];exact q) fun c xs q=>by rw [aY (bI q hn)];exact q
end
def Rd (H:Hp) (a:Addr) (u:HO):Prop:=H a=some u\/∃ o,H a=some (.frz o u)
theorem Rd.ok {P:Program}{w:World}{H:Hp}{h:Heap}{a:Addr}{u:HO} (r:Rd H a u) (x:kK P w H h):cW P w H h a u:=by
 rcases r with r | ⟨o,r⟩
 ·exact x a u r
 ·obtain ⟨_, q⟩ := x a _ r
  exact q
def FQ:Option HO->Prop
 | some (.lst _)=>True
 | some (.dK _)=>True
 | some (.dT _)=>True
 | some (.set _ _)=>True
 | some (.ins _ _ _)=>True
 | some (.ext _)=>True
 | _=>False
section
variable {P:Program}{w:World}{H:Hp}{h h':Heap}{x e:Addr}{o':HO}
theorem kK.write (ok:kK P w H h) (mu:FQ (H x)) (he:e=x\/H e=some (.own x)) (k:∀ b u,b≠e->h.get? b=some u->h'.get? b=some u) (heo:∃ u,h'.get? e=some u)
  (new:cW P w (bT H x o') h' x o'):kK P w (bT H x o') h':=fun b u q=>by
 have nown:∀ c y,H c=some (.own y)->c≠x:=fun c y r z=>by subst z;rw [r] at mu;exact mu
 have ntup:∀ c xs,H c=some (.tup xs)->c≠x:=fun c xs r z=>by subst z;rw [r] at mu;exact mu
 by_cases hb:b=x
 ·subst hb;rw [bG] at q;cases q;exact new
 ·rw [aY hb] at q
  by_cases hbe:b=e
  ·have q':H b=some (.own x):=by
    rcases he with z | z
    ·exact absurd (hbe.trans z) hb
    ·rw [hbe];exact z
   rw [q] at q';cases q'
   obtain ⟨v,hv⟩:=heo
   exact ⟨v,by rw [hbe];exact hv⟩
  ·refine (ok b u q).stay (fun c v hc r => k c v ?_ r) (fun c r => by rw [aY (nown c b r)]; exact r) fun c xs r => by rw [aY (ntup c xs r)]; exact r
   rcases hc with rfl | hc
   ·exact hbe
   ·rintro rfl
    rcases he with z | z
    ·exact nown c b hc z
    ·rw [hc] at z;cases z;exact hb rfl
end
structure Un (fs ex:List Addr) (H H':Hp) (h h':Heap):Prop where
 keep:∀ b o,h.get? b=some o->H b=none->b ∉ fs->b ∉ ex->h'.get? b=some o
 slot:∀ b o,h.get? b=some o->H b=none->b∈fs->b ∉ ex->∃ sl,h'.get? b=some { o with slots:=sl }
 free:∀ b o,h.get? b=some o->H b=none->b ∉ ex->H' b=none
 there:∀ b o,h.get? b=some o->b ∉ ex->∃ o',h'.get? b=some o'
 tups:∀ b xs,H b=some (.tup xs)->H' b=some (.tup xs)
 frzs:∀ b o u,H b=some (.frz o u)->H' b=some (.frz o u)
 tbls:∀ b ps,H b=some (.tbl ps)->∃ more,H' b=some (.tbl (ps++more))
section
variable {fs fs' ex ex':List Addr}{H H1 H2:Hp}{h h1 h2 h':Heap}{a x e:Addr}{o:HO}
theorem Un.any (u:Un fs ex H H1 h h1) {b:Addr}{ob:Obj} (q:h.get? b=some ob) (n:H b=none) (hx:b ∉ ex):∃ sl,h1.get? b=some { ob with slots:=sl }:=by
 by_cases hb:b∈fs
 ·exact u.slot b ob q n hb hx
 ·exact ⟨ob.slots,u.keep b ob q n hb hx⟩
theorem Un.kept (k:∀ b u,h.get? b=some u->h'.get? b=some u):Un fs ex H H h h':=
 ⟨fun b ob q _ _ _=>k b ob q,fun b ob q _ _ _=>⟨ob.slots,k b ob q⟩,fun _ _ _ n _=>n,fun b ob q _=>⟨ob,k b ob q⟩,fun _ _ q=>q,fun _ _ _ q=>q,fun _ ps q=>⟨#[],by rw [q];simp⟩⟩
theorem Un.refl:Un fs ex H H h h:=Un.kept fun _ _ q=>q
theorem Un.laid (k:∀ b u,h.get? b=some u->h'.get? b=some u) (hp:h.objs.size<=a) (hn:H a=none):Un fs ex H (bT H a o) h h' where
 keep:=fun b u q _ _ _=>k b u q
 slot:=fun b u q _ _ _=>⟨u.slots,k b u q⟩
 free:=fun b u q n _=>by rw [aY (Hd (Hb (G9 q) hp))];exact n
 there:=fun b u q _=>⟨u,k b u q⟩
 tups:=fun b xs q=>by rw [aY (bI q hn)];exact q
 frzs:=fun b u xs q=>by rw [aY (bI q hn)];exact q
 tbls:=fun b ps q=>⟨#[],by rw [aY (bI q hn),q];simp⟩
theorem Un.write (mu:FQ (H x)) (he:e=x\/H e=some (.own x)) (k:∀ b u,b≠e->h.get? b=some u->h'.get? b=some u) (heo:∃ u,h'.get? e=some u):Un fs ex H (bT H x o) h h':=by
 have hx:∀ b,H b=none->b≠x:=fun b n z=>by subst z;rw [n] at mu;exact mu
 have hb:∀ b,H b=none->b≠e:=fun b n z=>by
  subst z
  rcases he with r | r
  ·exact hx b n r
  ·rw [n] at r;cases r
 have hm:∀ b u,H b=some u->¬ FQ (some u)->b≠x:=fun b u q nm z=>by subst z;rw [q] at mu;exact nm mu
 refine ⟨fun b u q n _ _=>k b u (hb b n) q,fun b u q n _ _=>⟨u.slots,k b u (hb b n) q⟩,fun b u q n _=>by rw [aY (hx b n)];exact n,fun b u q _=>?_,
  fun b xs q=>by rw [aY (hm b _ q fun z=>z)];exact q,fun b u xs q=>by rw [aY (hm b _ q fun z=>z)];exact q,fun b ps q=>⟨#[],by rw [aY (hm b _ q fun z=>z),q];simp⟩⟩
 by_cases hbe:b=e
 ·subst hbe;exact heo
 ·exact ⟨u,k b u hbe q⟩
end
def FK (h:Heap) (H:Hp):List Addr:=(List.range h.objs.size).filter fun a=>(H a).isSome
def pC (h:Heap) (H:Hp):Heap:=W.hideAll h (FK h H)
theorem vY (h:Heap) (H:Hp):(pC h H).objs.size=h.objs.size:=W.hideAll_size _ _
theorem yY {h:Heap}{H:Hp}{b:Addr}{o:Obj} (e:h.get? b=some o) (n:H b=none):(pC h H).get? b=some o:=
 W.hideAll_get _ e fun hm=>by
  have q:(H b).isSome=true:=(He.mp hm).2
  rw [n] at q;simp at q
theorem A2 {h:Heap}{H:Hp}{b:Addr}{o:Obj} (e:(pC h H).get? b=some o):h.get? b=some o/\H b=none:=by
 have e':h.get? b=some o:=W.of_hideAll (FK h H) e
 refine ⟨e',?_⟩
 cases q:H b with
 | none=>rfl
 | some x=>
  have hm:b∈FK h H:=He.mpr ⟨Hf.mpr (G9 e'),by simp [q]⟩
  have z:(pC h H).get? b=none:=W.hideAll_none (FK h H) hm
  rw [z] at e;cases e
end L2
namespace L2
open PySem PySem.Spec PyProof.Rows
structure Mod (K:W.Frag) (mg:Str->Option Value) (base:Heap):Prop where
 kin:K.In base
 glob:base.Ns mainGlobals mg
 blt:∃ mb,base.Ns builtinsNs mb/\∀ x:Str,x ≠ "__name__" -> mb x=bootBuiltins x
 nolimit:base.NoLimit
structure Cx where
 prog:Program
 w:World
 K:W.Frag
 mg:Str->Option Value
 base:Heap
 A:Around
 N:List Str
 s₀:Shared
 H₀:Hp
 env:Env
 outer:List Env
 stack:List Env
 ex:List Addr
 fn:Str->Bool
 calm:Bool
 pn:List (Addr × Obj)
 xe:Value->Shared->Prop
def lM (l:List Env):List Addr:=l.filterMap (·.frame)
abbrev Cx.fs (X:Cx):List Addr:=lM X.outer
def F5 (sc:Scope) (x:Str):Prop:=sc.names.lookup x=some .local\/sc.names.lookup x=some .cell\/sc.names.lookup x=some .free
def zo (sc:Scope) (x:Str):Prop:=sc.names.lookup x=some .local\/sc.names.lookup x=some .cell
def GE (env:Env) (h:Heap) (m:Str->Option Value) (x:Str) (u:Value):Prop:=
 (env.kindOf x=some .local/\m x=some u)\/((env.kindOf x=some .cell\/env.kindOf x=some .free)/\∃ c,env.cells.lookup x=some c/\h.IsCell c (some u))
structure Cx.Ok (X:Cx):Prop where
 mod:Mod X.K X.mg X.base
 kind:X.env.scope.kind=.function
 glob:X.env.globals=mainGlobals
 blt:X.env.builtins=builtinsNs
 above:X.s₀.heap.objs.size<=X.env.locals
 inj:∀ x y c,X.env.cells.lookup x=some c->X.env.cells.lookup y=some c->x=y
 has:∀ x,(X.env.kindOf x=some .cell\/X.env.kindOf x=some .free)->∃ c,X.env.cells.lookup x=some c
 cab:∀ x c,X.fn x=true->X.env.cells.lookup x=some c->X.s₀.heap.objs.size<=c
 hd:X.calm=true->X.A.handled=none
 frames:X.A.frames=some X.stack
 stk:X.stack=X.outer\/(X.stack=X.env::X.outer/\X.env.frame=some X.env.locals)
 exf:∀ b∈X.ex,b≠X.env.locals/\∀ x c,X.env.cells.lookup x=some c->c≠b
 bs:∀ b o,X.base.get? b=some o->X.s₀.heap.get? b=some o/\X.H₀ b=none
 bsz:X.base.objs.size<=X.s₀.heap.objs.size
 noex:∀ b o,X.base.get? b=some o->b ∉ X.ex
 exfs:∀ b∈X.ex,b ∉ X.fs
 funs:X.s₀.heap.FunFrames X.base X.outer
 frf:∀ b∈X.fs,X.H₀ b=none
structure aI (X:Cx) (pins:List (Addr × Obj)) (σ:List (Option V)) (H:Hp) (s:Shared):Prop where
 ok:X.Ok
 os:s.os=X.s₀.os
 bare:AllBare s.gens
 base:Un X.fs X.ex X.H₀ H X.s₀.heap s.heap
 loc:∃ m,s.heap.Ns X.env.locals m/\∀ (i:Nat) (x:Str) (v:V),X.N[i]?=some x->σ[i]?=some (some v)->F5 X.env.scope x->∃ u,bH v u/\GE X.env s.heap m x u
 cell:∀ x c,X.env.cells.lookup x=some c->∃ v,s.heap.IsCell c v
 free:H X.env.locals=none
 freeC:∀ x c,X.env.cells.lookup x=some c->H c=none
 pin:∀ p∈X.pn++pins,s.heap.get? p.1=some p.2/\H p.1=none/\p.1≠X.env.locals/\p.1 ∉ X.fs/\∀ v,p.2.data≠.cell v
 hok:kK X.prog X.w H s.heap
 len:σ.length=X.N.length
section
variable {X:Cx}{pins:List (Addr × Obj)}{σ:List (Option V)}{H H':Hp}{s:Shared}{h':Heap}
theorem Cx.Ok.nofr (ok:X.Ok) {b:Addr}{o:Obj} (e:X.base.get? b=some o):b ∉ X.fs:=fun hb=>by
 have:=(ok.funs.mem hb).1
 rw [e] at this;cases this
theorem aI.bs (I:aI X pins σ H s):∀ b o,X.base.get? b=some o->s.heap.get? b=some o/\H b=none:=fun b o e=>
 ⟨I.base.keep b o (I.ok.bs b o e).1 (I.ok.bs b o e).2 (I.ok.nofr e) (I.ok.noex b o e),I.base.free b o (I.ok.bs b o e).1 (I.ok.bs b o e).2 (I.ok.noex b o e)⟩
theorem aI.bk (I:aI X pins σ H s):∀ b o,X.base.get? b=some o->s.heap.get? b=some o:=fun b o e=>(I.bs b o e).1
theorem aI.mod (I:aI X pins σ H s):Mod X.K X.mg X.base:=I.ok.mod
theorem aI.kIn (I:aI X pins σ H s):X.K.In s.heap:=I.ok.mod.kin.keeps I.bk
theorem aI.lt (I:aI X pins σ H s):X.env.locals<s.heap.objs.size:=let ⟨_,hn,_⟩:=I.loc;hn.lt
theorem aI.sz (I:aI X pins σ H s):X.s₀.heap.objs.size<=s.heap.objs.size:=Hg I.ok.above (Hh I.lt)
theorem aI.nofs (I:aI X pins σ H s) {a:Addr} (h:s.heap.objs.size<=a):a ∉ X.fs:=fun hb=>by
 obtain ⟨_,o,ho,_⟩:=I.ok.funs.mem hb
 exact absurd (Hb (G9 ho) (Hg I.sz h)) (Hc _)
theorem aI.cne (I:aI X pins σ H s):∀ x c,X.env.cells.lookup x=some c->c≠X.env.locals:=fun x c e z=>by
 obtain ⟨v,o,ho,hd⟩:=I.cell x c e
 obtain ⟨m,⟨o',es,ep,ho',hd',_⟩,_⟩:=I.loc
 rw [z,ho'] at ho;cases ho;rw [hd'] at hd;cases hd
theorem aI.funs (I:aI X pins σ H s):s.heap.FunFrames X.base X.outer:=by
 have all:∀ (l:List Env),(∀ b∈lM l,b∈X.fs)->X.s₀.heap.FunFrames X.base l->s.heap.FunFrames X.base l:=by
  intro l
  induction l with
  | nil=>intro _ _;trivial
  | cons env r ih=>
   intro hs hl
   obtain ⟨hk,⟨L,o,hf,hn,ho,hd⟩,hr⟩:=hl
   have hL:L∈X.fs:=hs L (by unfold lM;rw [Hi,hf];exact Hj)
   obtain ⟨sl,e⟩:=I.base.slot L o ho (I.ok.frf L hL) hL fun z=>I.ok.exfs L z hL
   exact ⟨hk,⟨L,_,hf,hn,e,hd⟩,ih (fun b hb=>hs b (by unfold lM;rw [Hi,hf];exact Hk _ hb)) hr⟩
 exact all X.outer (fun _ hb=>hb) I.ok.funs
theorem aI.stack (I:aI X pins σ H s):s.heap.FunFrames X.base X.stack:=by
 rcases I.ok.stk with e | ⟨e,hf⟩
 ·rw [e];exact I.funs
 ·rw [e]
  obtain ⟨m,hn,_⟩:=I.loc
  refine .cons (by rw [I.ok.kind];decide) hf hn ?_ I.funs
  exact Heap.get?_none_of_le (Hg I.ok.bsz I.ok.above)
theorem aI.stkSub (I:aI X pins σ H s):∀ b∈lM X.stack,b∈X.env.locals::X.fs:=fun b hb=>by
 rcases I.ok.stk with e | ⟨e,hf⟩
 ·rw [e] at hb;exact Hk _ hb
 ·rw [e] at hb
  unfold lM at hb
  rw [Hi,hf] at hb
  exact hb
theorem aI.stkFree (I:aI X pins σ H s):∀ b∈lM X.stack,H b=none:=fun b hb=>by
 rcases Hl.mp (I.stkSub b hb) with e | hb
 ·rw [e];exact I.free
 ·obtain ⟨_, o, ho, _⟩ := I.ok.funs.mem hb
  exact I.base.free b o ho (I.ok.frf b hb) fun z=>I.ok.exfs b z hb
theorem aI.step {g':Array GenState}{t':Nat}{d':Drawn}{ch:List Addr} (I:aI X pins σ H s)
  (hch:∀ b∈ch,(b∈X.ex\/X.s₀.heap.objs.size<=b)/\b≠X.env.locals/\(∀ x c,X.env.cells.lookup x=some c->c≠b)/\∀ p∈X.pn++pins,p.1≠b)
  (keep:∀ b o,b≠X.env.locals->b ∉ X.fs->b ∉ ch->s.heap.get? b=some o->H b=none->h'.get? b=some o)
  (slot:∀ b o,b≠X.env.locals->b∈X.fs->b ∉ ch->s.heap.get? b=some o->H b=none->∃ sl,h'.get? b=some { o with slots:=sl }) (free:∀ b o,b ∉ ch->s.heap.get? b=some o->H b=none->H' b=none)
  (there:∀ b o,b ∉ ch->s.heap.get? b=some o->∃ o',h'.get? b=some o')
  (tups:∀ b xs,H b=some (.tup xs)->H' b=some (.tup xs)) (frzs:∀ b o u,H b=some (.frz o u)->H' b=some (.frz o u)) (tbls:∀ b ps,H b=some (.tbl ps)->∃ more,H' b=some (.tbl (ps++more)))
  (ns:∀ m,s.heap.Ns X.env.locals m->h'.Ns X.env.locals m) (hok:kK X.prog X.w H' h') (hg:AllBare g') :
  aI X pins σ H' { s with heap:=h',gens:=g',drawn:=d',toks:=t' }:=by
 have neL:∀ b o,X.s₀.heap.get? b=some o->b≠X.env.locals:=fun b o e=>Hd (Hb (G9 e) I.ok.above)
 have neC:∀ b o,X.s₀.heap.get? b=some o->b ∉ X.ex->b ∉ ch:=fun b o e hx hb=>by
  rcases (hch b hb).1 with z | z
  ·exact hx z
  ·exact absurd (Hb (G9 e) z) (Hc _)
 have cellK:∀ x c,X.env.cells.lookup x=some c->∀ v,s.heap.IsCell c v->h'.IsCell c v:=fun x c e v ⟨o,ho,hd⟩=>by
  have nch:c ∉ ch:=fun z=>(hch c z).2.2.1 x c e rfl
  by_cases hc:c∈X.fs
  ·obtain ⟨sl, q⟩ := slot c o (I.cne x c e) hc nch ho (I.freeC x c e)
   exact ⟨_,q,hd⟩
  ·exact ⟨o,keep c o (I.cne x c e) hc nch ho (I.freeC x c e),hd⟩
 refine ⟨I.ok,I.os,hg,⟨fun b o e n hb hx=>?_,fun b o e n hb hx=>?_,fun b o e n hx=>?_,fun b o e hx=>?_,fun b xs e=>tups b xs (I.base.tups b xs e),fun b o xs e=>frzs b o xs (I.base.frzs b o xs e),fun b ps e=>?_⟩,?_,fun x c e=>?_,?_,fun x c e=>?_,fun p hp=>?_,hok,I.len⟩
 ·exact keep b o (neL b o e) hb (neC b o e hx) (I.base.keep b o e n hb hx) (I.base.free b o e n hx)
 ·obtain ⟨sl, e1⟩ := I.base.slot b o e n hb hx
  obtain ⟨sl',e2⟩:=slot b _ (neL b o e) hb (neC b o e hx) e1 (I.base.free b o e n hx)
  exact ⟨sl',e2⟩
 ·obtain ⟨o', e1⟩ := I.base.there b o e hx
  exact free b o' (neC b o e hx) e1 (I.base.free b o e n hx)
 ·obtain ⟨o', e1⟩ := I.base.there b o e hx
  exact there b o' (neC b o e hx) e1
 ·obtain ⟨m1, e1⟩ := I.base.tbls b ps e
  obtain ⟨m2,e2⟩:=tbls b _ e1
  exact ⟨m1++m2,by rw [e2,Array.append_assoc]⟩
 ·obtain ⟨m, hn, hl⟩ := I.loc
  refine ⟨m,ns m hn,fun i x v e1 e2 e3=>?_⟩
  obtain ⟨u,r,l⟩:=hl i x v e1 e2 e3
  refine ⟨u,r,?_⟩
  rcases l with l | ⟨k,c,e,z⟩
  ·exact .inl l
  ·exact .inr ⟨k,c,e,cellK x c e _ z⟩
 ·obtain ⟨v, z⟩ := I.cell x c e
  exact ⟨v,cellK x c e v z⟩
 ·obtain ⟨m, ⟨o, _, _, ho, _⟩, _⟩ := I.loc
  exact free _ o (fun z=>(hch _ z).2.1 rfl) ho I.free
 ·obtain ⟨v, o, ho, hd⟩ := I.cell x c e
  exact free c o (fun z=>(hch c z).2.2.1 x c e rfl) ho (I.freeC x c e)
 ·obtain ⟨e, n, ne, nf, d⟩ := I.pin p hp
  have nch:p.1 ∉ ch:=fun z=>(hch p.1 z).2.2.2 p hp rfl
  exact ⟨keep p.1 p.2 ne nf nch e n,free p.1 p.2 nch e n,ne,nf,d⟩
theorem aI.un {t':Nat} (I:aI X pins σ H s) (u:Un X.fs [] H H' s.heap h') (hok:kK X.prog X.w H' h'):aI X pins σ H' { s with heap:=h',toks:=t' }:=by
 obtain ⟨m,⟨o,es,ep,ho,r⟩,_⟩:=id I.loc
 obtain ⟨sl,hL⟩:=u.any ho I.free (by simp)
 exact I.step (g':=s.gens) (d':=s.drawn) (ch:=[]) (fun _ z=>nomatch z) (fun b o _ hb _ e n=>u.keep b o e n hb (by simp)) (fun b o _ hb _ e n=>u.slot b o e n hb (by simp)) (fun b o _ e n=>u.free b o e n (by simp)) (fun b o _ e=>u.there b o e (by simp)) u.tups u.frzs u.tbls (fun m' hm=>by
  obtain ⟨o',es',ep',ho',r'⟩:=hm
  rw [ho] at ho';cases ho'
  exact ⟨_,es',ep',hL,r'⟩) hok I.bare
theorem aI.call {g':Array GenState}{t':Nat}{d':Drawn}{ch:List Addr} (I:aI X pins σ H s) (u:Un (lM X.stack) ch H H' s.heap h') (hok:kK X.prog X.w H' h') (hg:AllBare g')
  (hch:∀ b∈ch,(b∈X.ex\/X.s₀.heap.objs.size<=b)/\b≠X.env.locals/\(∀ x c,X.env.cells.lookup x=some c->c≠b)/\∀ p∈X.pn++pins,p.1≠b) :
  aI X pins σ H' { s with heap:=h',gens:=g',drawn:=d',toks:=t' }:=by
 obtain ⟨m,⟨o,es,ep,ho,r⟩,_⟩:=id I.loc
 obtain ⟨sl,hL⟩:=u.any ho I.free fun z=>(hch _ z).2.1 rfl
 exact I.step (ch:=ch) hch (fun b o hL hb hc e n=>u.keep b o e n (fun z=>(Hl.mp (I.stkSub b z)).elim hL hb) hc) (fun b o _ _ hc e n=>u.any e n hc) (fun b o hc e n=>u.free b o e n hc) (fun b o hc e=>u.there b o e hc) u.tups u.frzs u.tbls (fun m' hm=>by
  obtain ⟨o',es',ep',ho',r'⟩:=hm
  rw [ho] at ho';cases ho'
  exact ⟨_,es',ep',hL,r'⟩) hok hg
theorem aI.turned {t':Nat}{it:Addr} (I:aI X pins σ H s) (k:∀ b o,b≠it->s.heap.get? b=some o->h'.get? b=some o) (hn:H it=none) (hL:it≠X.env.locals)
  (h1:it∈X.ex\/X.s₀.heap.objs.size<=it) (h2:∀ x c,X.env.cells.lookup x=some c->c≠it) (h3:∀ p∈X.pn++pins,p.1≠it):aI X pins σ H { s with heap:=h',toks:=t' }:=by
 have nit:∀ b u,H b=some u->b≠it:=fun b u e z=>by rw [z,hn] at e;cases e
 refine I.step (g':=s.gens) (d':=s.drawn) (ch:=[it]) (fun b hb=>?_) (fun b o _ _ hc e _=>k b o (fun z=>hc (by simp [z])) e) (fun b o _ _ hc e _=>⟨o.slots,k b o (fun z=>hc (by simp [z])) e⟩) (fun _ _ _ _ n=>n)
  (fun b o hc e=>⟨o,k b o (fun z=>hc (by simp [z])) e⟩) (fun _ _ e=>e) (fun _ _ _ e=>e) (fun b ps e=>⟨#[],by rw [e];simp⟩) (fun m hm=>?_) (fun b u e=>?_) I.bare
 ·have e : b = it := by simpa using hb
  subst e
  exact ⟨h1,hL,h2,h3⟩
 ·obtain ⟨o, es, ep, ho, r⟩ := hm
  exact ⟨o,es,ep,k _ o (Hm hL) ho,r⟩
 ·refine (I.hok b u e).stay (fun c v hc q => k c v ?_ q) (fun _ q => q) fun _ _ q => q
  rcases hc with z | z
  ·rw [z];exact nit b u e
  ·exact nit c _ z
theorem aI.tok (I:aI X pins σ H s) (t:Nat):aI X pins σ H { s with toks:=t }:=I.un (h':=s.heap) (t':=t) Un.refl I.hok
theorem aI.kept {t':Nat} (I:aI X pins σ H s) (k:∀ b u,s.heap.get? b=some u->h'.get? b=some u):aI X pins σ H { s with heap:=h',toks:=t' }:=I.un (Un.kept k) (I.hok.kept k)
theorem aI.laid {a:Addr}{o:HO}{t':Nat} (I:aI X pins σ H s) (k:∀ b u,s.heap.get? b=some u->h'.get? b=some u) (hp:s.heap.objs.size<=a) (new:cW X.prog X.w (bT H a o) h' a o) :
  aI X pins σ (bT H a o) { s with heap:=h',toks:=t' }:=I.un (Un.laid k hp (I.hok.fresh hp)) (I.hok.laid k hp new)
theorem aI.write {x e:Addr}{o:HO}{t':Nat} (I:aI X pins σ H s) (mu:FQ (H x)) (he:e=x\/H e=some (.own x)) (k:∀ b u,b≠e->s.heap.get? b=some u->h'.get? b=some u) (heo:∃ u,h'.get? e=some u)
  (new:cW X.prog X.w (bT H x o) h' x o):aI X pins σ (bT H x o) { s with heap:=h',toks:=t' }:=I.un (Un.write mu he k heo) (I.hok.write mu he k heo new)
theorem aI.pins_of {pins':List (Addr × Obj)} (I:aI X pins σ H s) (h:∀ p∈pins',s.heap.get? p.1=some p.2/\H p.1=none/\p.1≠X.env.locals/\p.1 ∉ X.fs/\∀ v,p.2.data≠.cell v):aI X pins' σ H s:=
 ⟨I.ok,I.os,I.bare,I.base,I.loc,I.cell,I.free,I.freeC,fun p hp=>(Hn.mp hp).elim (fun z=>I.pin p (Ho _ z)) (h p),I.hok,I.len⟩
theorem rA {N:List Str} (hN:N.Nodup) {i j:Nat}{x:Str} (a:N[i]?=some x) (b:N[j]?=some x):i=j:=by
 obtain ⟨h1,e1⟩:=Hq.mp a
 obtain ⟨h2,e2⟩:=Hq.mp b
 exact (Hr hN).mp (e1.trans e2.symm)
theorem ou {M:Model}{A:Around}{E:Value->Shared->Prop}{i:Nat}{x:Str}{v:V}{u:Value}{Q:Unit->Shared->Prop} (I:aI X pins σ H s) (hN:X.N.Nodup) (hi:X.N[i]?=some x) (hx:zo X.env.scope x) (r:bH v u)
  (h:∀ s',aI X pins (σ.set i (some v)) H s'->(∃ a,Heap.SameBut a s.heap s'.heap/\(a=X.env.locals\/X.env.cells.lookup x=some a))->Q () s') (hf:X.fn x=true\/X.env.scope.names.lookup x=some .local:=by first | exact .inl rfl | exact .inr rfl | assumption):wpAny M A (storeName X.env x u) Q E s:=by
 obtain ⟨m,hn,hl⟩:=id I.loc
 have hcls:(X.env.scope.kind == .class || (X.env.scope.kind == .module && X.env.locals != X.env.globals))=false:=by rw [I.ok.kind];rfl
 have hiσ:i<σ.length:=by rw [I.len];exact (Hq.mp hi).1
 have cne:=I.cne
 have tracked:∀ {a:Addr}{h':Heap},(∃ o,s.heap.get? a=some o/\H a=none)->Heap.SameBut a s.heap h'->kK X.prog X.w H h':=fun {a h'} ha hs b ob e=>by
  obtain ⟨_,_,hfree⟩:=ha
  refine (I.hok b ob e).stay (fun c w' hc q=>(hs.2 c ?_).trans q) (fun _ q=>q) fun _ _ q=>q
  rintro rfl
  rcases hc with rfl | hc
  ·rw [hfree] at e;cases e
  ·rw [hfree] at hc;cases hc
 rcases hx with hk | hk
 ·refine wpAny_storeName_local hk hn (fun h' hn' hs => ?_) hcls
  obtain ⟨oL,_,_,hoL,_⟩:=id hn
  refine h _ ⟨I.ok,I.os,I.bare,⟨fun b o e n hb hx=>?_,fun b o e n hb hx=>?_,I.base.free,fun b o e hx=>?_,I.base.tups,I.base.frzs,I.base.tbls⟩,⟨_,hn',fun j y v' e1 e2 e3=>?_⟩,fun y c e=>?_,I.free,I.freeC,fun p hp=>?_,tracked ⟨oL,hoL,I.free⟩ hs,by simpa using I.len⟩ ⟨_,hs,.inl rfl⟩
  ·exact (hs.2 b (Hd (Hb (G9 e) I.ok.above))).trans (I.base.keep b o e n hb hx)
  ·obtain ⟨sl, e1⟩ := I.base.slot b o e n hb hx
   exact ⟨sl,(hs.2 b (Hd (Hb (G9 e) I.ok.above))).trans e1⟩
  ·obtain ⟨o', e1⟩ := I.base.there b o e hx
   exact ⟨o',(hs.2 b (Hd (Hb (G9 e) I.ok.above))).trans e1⟩
  ·by_cases hj : j = i
   ·subst hj
    rw [hi] at e1;cases e1
    rw [Hs hiσ] at e2
    cases e2
    exact ⟨u,r,.inl ⟨hk,by simp⟩⟩
   ·rw [Ht (Hm hj)] at e2
    obtain ⟨u',r',q⟩:=hl j y v' e1 e2 e3
    refine ⟨u',r',?_⟩
    rcases q with ⟨k,e⟩ | ⟨k,c,e,z⟩
    ·refine .inl ⟨k, ?_⟩
     have:y≠x:=fun e=>hj (rA hN e1 (e ▸ hi))
     simp [this,e]
    ·exact .inr ⟨k,c,e,z.sameBut hs (cne y c e)⟩
  ·obtain ⟨w', z⟩ := I.cell y c e
   exact ⟨w',z.sameBut hs (cne y c e)⟩
  ·obtain ⟨e, n, ne, nf, d⟩ := I.pin p hp
   exact ⟨(hs.2 p.1 ne).trans e,n,ne,nf,d⟩
 ·have hfn:X.fn x=true:=by
   rcases hf with z | z
   ·exact z
   ·rw [z] at hk;cases hk
  obtain ⟨c,hc⟩:=I.ok.has x (.inl hk)
  obtain ⟨w',z⟩:=I.cell x c hc
  refine wpAny_storeName_cell I.ok.kind hk hc z (fun h' hc' hs=>?_)
  obtain ⟨oc,hoc,hocd⟩:=id z
  refine h { s with heap:=h' } ⟨I.ok,I.os,I.bare,⟨fun b o e n hb hx=>?_,fun b o e n hb hx=>?_,I.base.free,fun b o e hx=>?_,I.base.tups,I.base.frzs,I.base.tbls⟩,⟨m,hn.sameBut hs (Hm (cne x c hc)),fun j y v' e1 e2 e3=>?_⟩,fun y c' e=>?_,I.free,I.freeC,fun p hp=>?_,tracked ⟨oc,hoc,I.freeC x c hc⟩ hs,by simpa using I.len⟩ ⟨c,hs,.inr hc⟩
  ·exact (hs.2 b (Hd (Hb (G9 e) (I.ok.cab x c hfn hc)))).trans (I.base.keep b o e n hb hx)
  ·obtain ⟨sl, e1⟩ := I.base.slot b o e n hb hx
   exact ⟨sl,(hs.2 b (Hd (Hb (G9 e) (I.ok.cab x c hfn hc)))).trans e1⟩
  ·obtain ⟨o', e1⟩ := I.base.there b o e hx
   exact ⟨o',(hs.2 b (Hd (Hb (G9 e) (I.ok.cab x c hfn hc)))).trans e1⟩
  ·by_cases hj : j = i
   ·subst hj
    rw [hi] at e1;cases e1
    rw [Hs hiσ] at e2
    cases e2
    exact ⟨u,r,.inr ⟨.inl hk,c,hc,hc'⟩⟩
   ·rw [Ht (Hm hj)] at e2
    obtain ⟨u',r',q⟩:=hl j y v' e1 e2 e3
    refine ⟨u',r',?_⟩
    rcases q with q | ⟨k,c',e,z'⟩
    ·exact .inl q
    ·refine .inr ⟨k, c', e, z'.sameBut hs ?_⟩
     rintro rfl
     exact hj (rA hN e1 (I.ok.inj _ _ _ e hc ▸ hi))
  ·by_cases hcc : c' = c
   ·subst hcc;exact ⟨_,hc'⟩
   ·obtain ⟨w2, z2⟩ := I.cell y c' e
    exact ⟨w2,z2.sameBut hs hcc⟩
  ·obtain ⟨e, n, ne, nf, d⟩ := I.pin p hp
   refine ⟨(hs.2 p.1 ?_).trans e,n,ne,nf,d⟩
   intro q
   rw [q,hoc] at e
   have q':oc=p.2:=G8 e
   exact d w' (by rw [<- q'];exact hocd)
theorem mT {M:Model}{A:Around}{E:Value->Shared->Prop}{i:Nat}{x:Str}{v:V}{u:Value}{Q:Unit->Shared->Prop} (I:aI X pins σ H s) (hN:X.N.Nodup) (hi:X.N[i]?=some x) (hx:zo X.env.scope x) (r:bH v u)
  (h:∀ s',aI X pins (σ.set i (some v)) H s'->Q () s') (hf:X.fn x=true\/X.env.scope.names.lookup x=some .local:=by first | exact .inl rfl | exact .inr rfl | assumption):wpAny M A (storeName X.env x u) Q E s:=
 ou I hN hi hx r (fun s' I' _=>h s' I') hf
theorem aI.call' {s':Shared}{ch:List Addr} (I:aI X pins σ H s) (ho:s'.os=s.os) (u:Un (lM X.stack) ch H H' s.heap s'.heap) (hok:kK X.prog X.w H' s'.heap) (hg:AllBare s'.gens)
  (hch:∀ b∈ch,(b∈X.ex\/X.s₀.heap.objs.size<=b)/\b≠X.env.locals/\(∀ x c,X.env.cells.lookup x=some c->c≠b)/\∀ p∈X.pn++pins,p.1≠b):aI X pins σ H' s':=by
 obtain ⟨h',g',d',t',o'⟩:=s'
 have e:o'=s.os:=ho
 subst e
 exact I.call (g':=g') (t':=t') (d':=d') u hok hg hch
end
abbrev XK:=Value->Option Addr->Hp->Prop
abbrev St:=List (Option V)
abbrev VK:=V->Hp->Prop
abbrev TE:=St->Hp->VK->Prop
abbrev TT:=St->Hp->(Bool->Hp->Prop)->Prop
abbrev TA:=St->Hp->(List V->Hp->Prop)->Prop
structure kO where
 nx:St->Hp->Prop
 rt:VK
 bk:St->Hp->Prop:=fun _ _=>False
 ct:St->Hp->Prop:=fun _ _=>False
abbrev TS:=kO->St->Hp->Prop
def EP (X:Cx) (pins:List (Addr × Obj)) (σ:St) (Q:VK) (u:Value) (s':Shared):Prop:=∃ v H',aI X pins σ H' s'/\bH v u/\Q v H'
def TP (X:Cx) (pins:List (Addr × Obj)) (σ:St) (Q:Bool->Hp->Prop) (b:Bool) (s':Shared):Prop:=∃ H',aI X pins σ H' s'/\Q b H'
def AP (X:Cx) (pins:List (Addr × Obj)) (σ:St) (Q:List V->Hp->Prop) (us:List Value) (s':Shared):Prop:=∃ vs H',aI X pins σ H' s'/\aU vs us/\Q vs H'
def SP (X:Cx) (pins:List (Addr × Obj)) (D:kO) (f:Flow) (s':Shared):Prop:=
 match f with
 | .next=>∃ σ' H',aI X pins σ' H' s'/\D.nx σ' H'
 | .brk=>∃ σ' H',aI X pins σ' H' s'/\D.bk σ' H'
 | .cont=>∃ σ' H',aI X pins σ' H' s'/\D.ct σ' H'
 | .ret u=>∃ v σ' H',aI X pins σ' H' s'/\bH v u/\D.rt v H'
def PE (X:Cx) (e:Expr) (t:TE):Prop:=
 ∀ (pins:List (Addr × Obj)) (s:Shared) (σ:St) (H:Hp) (Q:VK),aI X pins σ H s->t σ H Q->wpAny (model X.prog X.w) X.A (eval e X.env) (EP X pins σ Q) X.xe s
def PT (X:Cx) (e:Expr) (t:TT):Prop:=
 ∀ (pins:List (Addr × Obj)) (s:Shared) (σ:St) (H:Hp) (Q:Bool->Hp->Prop),aI X pins σ H s->t σ H Q->wpAny (model X.prog X.w) X.A (isTrue e X.env (eval e X.env)) (TP X pins σ Q) X.xe s
def PW (X:Cx) (e:Expr) (t:TT):Prop:=
 ∀ (whole:Sem Value) (pins:List (Addr × Obj)) (s:Shared) (σ:St) (H:Hp) (Q:Bool->Hp->Prop),aI X pins σ H s->t σ H Q->wpAny (model X.prog X.w) X.A (isTrue e X.env whole) (TP X pins σ Q) X.xe s
theorem PW.pt {X:Cx}{e:Expr}{t:TT} (h:PW X e t):PT X e t:=h _
def PA (X:Cx) (es:List Expr) (t:TA):Prop:=
 ∀ (pos:Pos) (pins:List (Addr × Obj)) (s:Shared) (σ:St) (H:Hp) (Q:List V->Hp->Prop),aI X pins σ H s->t σ H Q->wpAny (model X.prog X.w) X.A (spliced (backTo pos (starEach es X.env))) (AP X pins σ Q) X.xe s
def PS (X:Cx) (st:Stmt) (t:TS):Prop:=
 ∀ (pins:List (Addr × Obj)) (s:Shared) (σ:St) (H:Hp) (D:kO),aI X pins σ H s->t D σ H->wpAny (model X.prog X.w) X.A (exec st X.env) (SP X pins D) X.xe s
def hZ (X:Cx) (st:List Stmt) (t:TS):Prop:=
 ∀ (pins:List (Addr × Obj)) (s:Shared) (σ:St) (H:Hp) (D:kO),aI X pins σ H s->t D σ H->wpAny (model X.prog X.w) X.A (execs st X.env) (SP X pins D) X.xe s
theorem dD {α:Type}{t:Sem α}{Q Q':α->Shared->Prop}{M:Model}{A:Around}{E:Value->Shared->Prop}{s:Shared} (h:wpAny M A t Q E s) (hQ:∀ a s,Q a s->Q' a s):wpAny M A t Q' E s:=Hu h hQ fun _ _ x=>x
end L2
namespace L2
open PySem PySem.Spec PyProof.Rows
section
variable {X:Cx}
def Eu (i:Nat):TE:=fun σ H Q=>∃ v,σ[i]?=some (some v)/\Q v H
def tC (v:V):TE:=fun _ H Q=>Q v H
theorem Df {i:Nat}{x:Str}{pos:Pos} (hN:X.N[i]?=some x) (hv:F5 X.env.scope x) (hd:(x == ("__debug__" : Str))=false:=by decide) (hcd:(x == ("__classdict__" : Str))=false:=by decide):PE X (.Name x pos) (Eu i):=by
 intro pins s σ H Q I h
 obtain ⟨v,e,h⟩:=h
 obtain ⟨m,hn,hl⟩:=I.loc
 obtain ⟨u,r,l⟩:=hl i x v hN e hv
 have fin:EP X pins σ Q u s:=⟨v,H,I,r,h⟩
 rcases l with ⟨hk,hm⟩ | ⟨hk,c,hc,hcell⟩
 ·exact wpAny_Name (wpAny_loadName_local I.ok.kind hk hn hm fin) hd
 ·rcases hk with hk | hk
  ·exact wpAny_Name (wpAny_loadName_cell I.ok.kind hk hc hcell fin) hd
  ·exact wpAny_Name (wpAny_loadName_free I.ok.kind hk hc hcell fin hcd) hd
theorem Dm {i j pos}:PE X (.Constant (.int i) j pos) (tC (.int i)):=fun _ _ _ H _ I h=>wpAny_Constant_int ⟨.int i,H,I.tok _,⟨_,rfl⟩,h⟩
theorem Ft {b j pos}:PE X (.Constant (.bool b) j pos) (tC (.bl b)):=fun _ _ _ H _ I h=>Constant_bool ⟨.bl b,H,I,rfl,h⟩
theorem Dk {j pos}:PE X (.Constant .none j pos) (tC .non):=fun _ _ _ H _ I h=>Constant_none ⟨.non,H,I,rfl,h⟩
theorem Dh {x j pos}:PE X (.Constant (.str x) j pos) (tC (.str x)):=fun _ _ _ H _ I h=>Calls.Constant_str ⟨.str x,H,I.tok _,⟨_,rfl⟩,h⟩
def Gl (X:Cx) (x:Str):Prop:=X.env.kindOf x=some .globalImplicit
theorem ke {E:Value->Shared->Prop}{pins:List (Addr × Obj)}{s:Shared}{σ:St}{H:Hp}{x:Str}{u:Value}{pos:Pos}{Q:Value->Shared->Prop} (I:aI X pins σ H s) (hg:Gl X x) (hm:X.mg x=some u) (h:Q u s)
  (hd:(x == ("__debug__" : Str))=false:=by decide):wpAny (model X.prog X.w) X.A (eval (.Name x pos) X.env) Q E s:=
 Calls.Name_function_global I.ok.kind hg (Calls.loadGlobal_global (by rw [I.ok.glob];exact I.mod.glob.keeps I.bk) hm h) hd
theorem jR {E:Value->Shared->Prop}{pins:List (Addr × Obj)}{s:Shared}{σ:St}{H:Hp}{x:Str}{u:Value}{pos:Pos}{Q:Value->Shared->Prop} (I:aI X pins σ H s) (hg:Gl X x) (hm:X.mg x=none) (hv:bootBuiltins x=some u) (h:Q u s)
  (hn:x ≠ "__name__" := by decide) (hd:(x == ("__debug__" : Str))=false:=by decide):wpAny (model X.prog X.w) X.A (eval (.Name x pos) X.env) Q E s:=by
 obtain ⟨mb,h1,h2⟩:=I.mod.blt
 exact Calls.Name_function_global I.ok.kind hg (Calls.loadGlobal_builtin (by rw [I.ok.glob];exact I.mod.glob.keeps I.bk) hm (by rw [I.ok.blt];exact h1.keeps I.bk) ((h2 x hn).trans hv) h) hd
theorem uF {x:Str}{v:V}{u:Value}{pos:Pos} (hg:Gl X x) (hm:X.mg x=some u) (r:bH v u) (hd:(x == ("__debug__" : Str))=false:=by decide):PE X (.Name x pos) (tC v):=
 fun _ _ _ H _ I h=>ke I hg hm ⟨v,H,I,r,h⟩ hd
theorem uG {x:Str}{v:V}{u:Value}{pos:Pos} (hg:Gl X x) (hm:X.mg x=none) (hv:bootBuiltins x=some u) (r:bH v u) (hn:x ≠ "__name__" := by decide) (hd:(x == ("__debug__" : Str))=false:=by decide):PE X (.Name x pos) (tC v):=
 fun _ _ _ H _ I h=>jR I hg hm hv ⟨v,H,I,r,h⟩ hn hd
variable {a b:Expr}{ta tb:TE}{pos:Pos}
variable {tA tB':TT}{rest:List Expr}
def Gn (t u:TT):TT:=fun σ H Q=>t σ H fun c H1=>if c=true then u σ H1 Q else Q false H1
def GT (t u:TT):TT:=fun σ H Q=>t σ H fun c H1=>if c=true then Q true H1 else u σ H1 Q
def Gh (t:TT):TT:=fun σ H Q=>t σ H fun c H1=>Q (!c) H1
theorem Ay (ha:PT X a tA):PW X (.BoolOp .And [a] pos) tA:=by
 intro wh pins s σ H Q I h
 refine isTrue_and (dD (ha pins s σ H Q I h) fun c s1 e=>?_)
 cases c with
 | true=>exact isTrue_and_nil e
 | false=>exact e
theorem C3 (ha:PT X a tA):PW X (.BoolOp .Or [a] pos) tA:=by
 intro wh pins s σ H Q I h
 refine isTrue_or (dD (ha pins s σ H Q I h) fun c s1 e=>?_)
 cases c with
 | false=>exact isTrue_or_nil e
 | true=>exact e
theorem C4 (ha:PT X a tA) (hb:PW X (.BoolOp .And (b::rest) pos) tB'):PW X (.BoolOp .And (a::b::rest) pos) (Gn tA tB'):=by
 intro wh pins s σ H Q I h
 refine isTrue_and (dD (ha pins s σ H _ I h) fun c s1 ⟨H1,I1,q1⟩=>?_)
 cases c with
 | true=>exact hb wh pins s1 σ H1 Q I1 q1
 | false=>exact ⟨H1,I1,q1⟩
theorem Fl (ha:PT X a tA) (hb:PW X (.BoolOp .Or (b::rest) pos) tB'):PW X (.BoolOp .Or (a::b::rest) pos) (GT tA tB'):=by
 intro wh pins s σ H Q I h
 refine isTrue_or (dD (ha pins s σ H _ I h) fun c s1 ⟨H1,I1,q1⟩=>?_)
 cases c with
 | true=>exact ⟨H1,I1,q1⟩
 | false=>exact hb wh pins s1 σ H1 Q I1 q1
theorem C5 (ha:PT X a tA):PT X (.UnaryOp .Not a pos) (Gh tA):=by
 intro pins s σ H Q I h
 exact isTrue_not (ha pins s σ H (fun c H1=>Q (!c) H1) I h)
def E9 (ta tb:TE):TE:=fun σ H Q=>ta σ H fun x H1=>∃ c,x=.bl c/\if c=true then tb σ H1 Q else Q (.bl false) H1
def E5 (ta:TE):TE:=fun σ H Q=>ta σ H fun x H1=>∃ c,x=.bl c/\Q (.bl (!c)) H1
theorem Di {op}{t:TE} (h:PE X a t):PE X (.BoolOp op [a] pos) t:=fun pins s σ H Q I hw=>BoolOp_one (h pins s σ H Q I hw)
theorem Dn (ha:PE X a ta) (hb:PE X (.BoolOp .And (b::rest) pos) tb):PE X (.BoolOp .And (a::b::rest) pos) (E9 ta tb):=by
 intro pins s σ H Q I h
 refine BoolOp_and (dD (ha pins s σ H _ I h) fun v s1 ⟨x,H1,I1,r1,q1⟩=>?_)
 obtain ⟨c,rfl,q1⟩:=q1
 cases r1
 refine Hv ?_
 cases c with
 | true=>exact hb pins s1 σ H1 Q I1 q1
 | false=>exact ⟨.bl false,H1,I1,rfl,q1⟩
theorem Dj (ha:PE X a ta):PE X (.UnaryOp .Not a pos) (E5 ta):=by
 intro pins s σ H Q I h
 refine UnaryOp_ (dD (ha pins s σ H _ I h) fun v s1 ⟨x,H1,I1,r1,q1⟩=>?_)
 obtain ⟨c,rfl,q1⟩:=q1
 cases r1
 exact not_of (Hv ⟨.bl (!c),H1,I1,rfl,q1⟩)
end
end L2
namespace L2
open PySem PySem.Spec PyProof.Rows
def eO (K:W.Frag) (H:Hp) (a:Addr) (xs:List V):Prop:=
 Rd H a (.lst xs) \/
  ∃ (o:Obj) (its:Array Value) (n:Nat),K.lookup a=some o/\o.cls=.type "list" /\ o.dict=none/\o.data=.seq its n/\its.size<=sizeLine/\aU xs its.toList
def d6 (K:W.Frag) (H:Hp) (a:Addr) (xs:List V):Prop:=
 Rd H a (.tup xs) \/
  ∃ (o:Obj) (its:Array Value) (n:Nat),K.lookup a=some o/\o.cls=.type "tuple" /\ o.data=.seq its n/\its.size<=sizeLine/\aU xs its.toList
def GC:Value->Option V
 | .none=>some .non
 | .bool b=>some (.bl b)
 | .int i _=>some (.int i)
 | .str x _=>some (.str x)
 | .bytes b _=>some (.byt b)
 | .float b _=>some (.flt b)
 | .ref a=>some (.ref a)
 | .type n=>some (.ty n)
 | _=>none
theorem bH.abs {x:V}{u:Value} (r:bH x u):GC u=some x:=by
 cases x with
 | non=>cases r;rfl
 | bl _=>cases r;rfl
 | int _=>obtain ⟨t,rfl⟩:=r;rfl
 | str _=>obtain ⟨t,rfl⟩:=r;rfl
 | byt _=>obtain ⟨t,rfl⟩:=r;rfl
 | flt _=>obtain ⟨t,rfl⟩:=r;rfl
 | ref _=>cases r;rfl
 | ty _=>cases r;rfl
theorem bH.inj {x y:V}{u:Value} (r:bH x u) (q:bH y u):x=y:=G8 (r.abs.symm.trans q.abs)
theorem aU.inj:∀ {xs ys:List V}{us:List Value},aU xs us->aU ys us->xs=ys
 | _,_,_,.nil,.nil=>rfl
 | _,_,_,.cons r t,.cons r' t'=>by rw [r.inj r',aU.inj t t']
section
variable {X:Cx}{pins:List (Addr × Obj)}{σ:St}{H:Hp}{s:Shared}{a:Addr}{xs ys:List V}
theorem eO.of {K:W.Frag} (h:H a=some (.lst xs)):eO K H a xs:=.inl (.inl h)
theorem d6.of {K:W.Frag} (h:H a=some (.tup xs)):d6 K H a xs:=.inl (.inl h)
theorem aI.list (I:aI X pins σ H s) (h:eO X.K H a xs):∃ its:List Value,aU xs its/\PlainL s.heap a its.toArray/\xs.length<=sizeLine:=by
 rcases h with h | ⟨o,its,n,hk,hc,hd,hs,hz,r⟩
 ·obtain ⟨z, its, n, r, e⟩ := h.ok I.hok
  exact ⟨its,r,⟨_,n,e,rfl,rfl,rfl⟩,z⟩
 ·refine ⟨its.toList, r, ⟨o, n, I.kIn a o hk, hc, hd, by simpa using hs⟩, ?_⟩
  have e:=r.length
  simp only [Hw] at e
  omega
theorem aI.tuple (I:aI X pins σ H s) (h:d6 X.K H a xs):∃ its:List Value,aU xs its/\IsTup s.heap a its.toArray/\xs.length<=sizeLine:=by
 rcases h with h | ⟨o,its,n,hk,hc,hs,hz,r⟩
 ·obtain ⟨z, its, r, p⟩ := h.ok I.hok
  exact ⟨its,r,p,z⟩
 ·refine ⟨its.toList, r, ⟨o, I.kIn a o hk, hc, n, by simpa using hs⟩, ?_⟩
  have e:=r.length
  simp only [Hw] at e
  omega
theorem aI.list_inj (I:aI X pins σ H s) (h:eO X.K H a xs) (h':eO X.K H a ys):xs=ys:=by
 obtain ⟨its,r,⟨o,n,e,_,_,d⟩,_⟩:=I.list h
 obtain ⟨its',r',⟨o',n',e',_,_,d'⟩,_⟩:=I.list h'
 rw [e] at e';cases e'
 rw [d] at d'
 injection d' with d1 _
 have:its=its':=by simpa using Hx Array.toList d1
 subst this
 exact r.inj r'
theorem aI.tuple_inj (I:aI X pins σ H s) (h:d6 X.K H a xs) (h':d6 X.K H a ys):xs=ys:=by
 obtain ⟨its,r,⟨o,e,_,n,d⟩,_⟩:=I.tuple h
 obtain ⟨its',r',⟨o',e',_,n',d'⟩,_⟩:=I.tuple h'
 rw [e] at e';cases e'
 rw [d] at d'
 injection d' with d1 _
 have:its=its':=by simpa using Hx Array.toList d1
 subst this
 exact r.inj r'
end
abbrev Cx.wish (X:Cx) (E:Value->Shared->Prop):Cx:={ X with xe:=E }
abbrev Cx.nox (X:Cx):Cx:=X.wish fun _ _=>False
theorem Cx.Ok.wish {X:Cx} (ok:X.Ok) (E:Value->Shared->Prop):(X.wish E).Ok:=
 ⟨ok.mod,ok.kind,ok.glob,ok.blt,ok.above,ok.inj,ok.has,ok.cab,ok.hd,ok.frames,ok.stk,ok.exf,ok.bs,ok.bsz,ok.noex,ok.exfs,ok.funs,ok.frf⟩
theorem Cx.Ok.unwish {X:Cx}{E:Value->Shared->Prop} (ok:(X.wish E).Ok):X.Ok:=
 ⟨ok.mod,ok.kind,ok.glob,ok.blt,ok.above,ok.inj,ok.has,ok.cab,ok.hd,ok.frames,ok.stk,ok.exf,ok.bs,ok.bsz,ok.noex,ok.exfs,ok.funs,ok.frf⟩
section
variable {X:Cx}{pins:List (Addr × Obj)}{σ:St}{H:Hp}{s:Shared}{E:Value->Shared->Prop}
theorem aI.wish (I:aI X pins σ H s) (E:Value->Shared->Prop):aI (X.wish E) pins σ H s:=⟨I.ok.wish E,I.os,I.bare,I.base,I.loc,I.cell,I.free,I.freeC,I.pin,I.hok,I.len⟩
theorem aI.unwish (I:aI (X.wish E) pins σ H s):aI X pins σ H s:=⟨I.ok.unwish,I.os,I.bare,I.base,I.loc,I.cell,I.free,I.freeC,I.pin,I.hok,I.len⟩
theorem SP.unwish {D:kO}{f:Flow}{s':Shared} (h:SP (X.wish E) pins D f s'):SP X pins D f s':=by
 cases f with
 | next=>obtain ⟨σ',H',I,q⟩:=h;exact ⟨σ',H',I.unwish,q⟩
 | brk=>obtain ⟨σ',H',I,q⟩:=h;exact ⟨σ',H',I.unwish,q⟩
 | cont=>obtain ⟨σ',H',I,q⟩:=h;exact ⟨σ',H',I.unwish,q⟩
 | ret u=>obtain ⟨v,σ',H',I,r,q⟩:=h;exact ⟨v,σ',H',I.unwish,r,q⟩
theorem hZ.nox {st:List Stmt}{t:TS} (h:hZ X.nox st t):hZ X st t:=fun pins s σ H D I hw=>
 Hu (h pins s σ H D (I.wish _) hw) (fun _ _ q=>q.unwish) fun _ _ z=>False.elim z
end
section
variable {X:Cx}{st:Stmt}{rest:List Stmt}{t u:TS}{e:Expr}{te:TE}{pos:Pos}
def E6:TS:=fun D σ H=>D.nx σ H
def Gf (t u:TS):TS:=fun D σ H=>t { D with nx:=u D } σ H
theorem AD:hZ X [] E6:=fun _ _ σ H _ I h=>Hy ⟨σ,H,I,h⟩
theorem yw (h1:PS X st t) (h2:hZ X rest u):hZ X (st::rest) (Gf t u):=by
 intro pins s σ H D I h
 refine wpAny_execs_cons (dD (h1 pins s σ H { D with nx:=u D } I h) fun f s1 q=>?_)
 cases f with
 | next=>
  obtain ⟨σ',H',I',q⟩:=q
  exact h2 pins s1 σ' H' D I' q
 | ret v=>exact q
 | brk=>exact q
 | cont=>exact q
theorem AC (h1:PS X st t):hZ X [st] t:=by
 intro pins s σ H D I h
 refine wpAny_execs_cons (dD (h1 pins s σ H D I h) fun f s1 q=>?_)
 cases f with
 | next=>exact Hy q
 | ret v=>exact q
 | brk=>exact q
 | cont=>exact q
def Gg (te:TE):TS:=fun D σ H=>te σ H D.rt
theorem C8 (he:PE X e te):PS X (.Return (some e) pos) (Gg te):=by
 intro pins s σ H D I h
 exact wpAny_Return_some (dD (he pins s σ H _ I h) fun v s1 ⟨x,H1,I1,r1,q1⟩=>⟨x,σ,H1,I1,r1,q1⟩)
def Gk (c:TT) (t u:TS):TS:=fun D σ H=>c σ H fun b H1=>if b=true then t D σ H1 else u D σ H1
theorem Fm {c:Expr}{a b:List Stmt}{tc:TT} (hc:PT X c tc) (ha:hZ X a t) (hb:hZ X b u):PS X (.If c a b pos) (Gk tc t u):=by
 intro pins s σ H D I h
 refine wpAny_If (dD (hc pins s σ H _ I h) fun d s1 ⟨H1,I1,q1⟩=>?_)
 cases d with
 | true=>exact ha pins s1 σ H1 D I1 q1
 | false=>exact hb pins s1 σ H1 D I1 q1
def Cv:TS:=fun _ _ _=>False
theorem yz:PS X st Cv:=fun _ _ _ _ _ _ h=>h.elim
end
abbrev TG:=V->St->Hp->(St->Hp->Prop)->Prop
abbrev zt:=List V->St->Hp->(St->Hp->Prop)->Prop
def PG (X:Cx) (target:Expr) (t:TG):Prop:=
 ∀ (pins:List (Addr × Obj)) (s:Shared) (σ:St) (H:Hp) (v:V) (u:Value) (Q:St->Hp->Prop),aI X pins σ H s->bH v u->t v σ H Q ->
  wpAny (model X.prog X.w) X.A (assign target X.env u) (fun _ s'=>∃ σ' H',aI X pins σ' H' s'/\Q σ' H') X.xe s
def sG (X:Cx) (ts:List Expr) (t:zt):Prop:=
 ∀ (pins:List (Addr × Obj)) (s:Shared) (σ:St) (H:Hp) (vs:List V) (us:List Value) (Q:St->Hp->Prop),aI X pins σ H s->aU vs us->t vs σ H Q ->
  wpAny (model X.prog X.w) X.A (assignInOrder ((assignEach ts X.env).map (·.2)) us) (fun _ s'=>∃ σ' H',aI X pins σ' H' s'/\Q σ' H') X.xe s
abbrev Cf:=V->V->V->Hp->(Hp->Prop)->Prop
def EO (X:Cx) (t:Cf):Prop:=
 ∀ (pins:List (Addr × Obj)) (s:Shared) (σ:St) (H:Hp) (o i v:V) (ov iv u:Value) (Q:Hp->Prop),aI X pins σ H s->bH o ov->bH i iv->bH v u->t o i v H Q ->
  wpAny (model X.prog X.w) X.A (setItem ov iv u) (fun _ s'=>∃ H',aI X pins σ H' s'/\Q H') X.xe s
section
variable {X:Cx}{pos:Pos}
def qK (i:Nat):TG:=fun v σ H Q=>Q (σ.set i (some v)) H
theorem AJ {i:Nat}{x:Str} (hN:X.N.Nodup) (hi:X.N[i]?=some x) (hx:zo X.env.scope x) (hf:X.fn x=true\/X.env.scope.names.lookup x=some .local:=by first | exact .inl rfl | exact .inr rfl | assumption):PG X (.Name x pos) (qK i):=by
 intro pins s σ H v u Q I r h
 exact wpAny_assign_Name (mT I hN hi hx r (fun s' I'=>⟨_,H,I',h⟩) hf)
def Gy:zt:=fun vs σ H Q=>vs=[]/\Q σ H
def FD (t:TG) (u:zt):zt:=fun vs σ H Q=>∃ v r,vs=v::r/\t v σ H fun σ' H'=>u r σ' H' Q
theorem AI:sG X [] Gy:=by
 intro pins s σ H vs us Q I r h
 obtain ⟨e,h⟩:=h
 subst e
 cases r
 exact assignInOrder_nil ⟨σ,H,I,h⟩
theorem yB {e:Expr}{es:List Expr}{t:TG}{u:zt} (h1:PG X e t) (h2:sG X es u)
  (hs:(assignEach (e::es) X.env).map (·.2)=assign e X.env::(assignEach es X.env).map (·.2):=by rfl):sG X (e::es) (FD t u):=by
 intro pins s σ H vs us Q I r h
 obtain ⟨v,vr,e1,h⟩:=h
 subst e1
 cases r with
 | cons r rr=>
  rw [hs]
  refine assignInOrder_cons (dD (h1 pins s σ H _ _ _ I r h) fun _ s1 ⟨σ1,H1,I1,q1⟩=>?_)
  exact h2 pins s1 σ1 H1 _ _ Q I1 rr q1
def Gw (K:W.Frag) (n:Nat) (t:zt):TG:=fun v σ H Q=>∃ a xs,v=.ref a/\d6 K H a xs/\xs.length=n/\t xs σ H Q
theorem Dd {es:List Expr}{k:Nat}{t:zt}{n:Nat} (hc:X.calm=true) (h:sG X es t)
  (hn:(assignEach es X.env).length=n:=by rfl) (hst:(assignEach es X.env).findIdx? (·.1)=none:=by rfl):PG X (.Tuple es k pos) (Gw X.K n t):=by
 intro pins s σ H v u Q I r hw
 obtain ⟨a,xs,e1,hq,hl,hw⟩:=hw
 subst e1
 cases r
 obtain ⟨its,rv,ht,hz⟩:=I.tuple hq
 refine assign_Tuple_tuple (I.ok.hd hc) ht (by simp [hn,<- hl,rv.length]) hst fun h' hx=>?_
 have I1:aI X pins σ H { s with heap:=h' }:=I.kept (t':=s.toks) fun b o e=>hx b o (Hd (G9 e)) e
 exact h pins _ σ H xs _ Q I1 (by simpa using rv) hw
def Gx (to ti:TE) (t:Cf):TG:=fun v σ H Q=>to σ H fun o H1=>ti σ H1 fun i H2=>t o i v H2 fun H3=>Q σ H3
theorem De {o i:Expr}{to ti:TE}{t:Cf} (ho:PE X o to) (hi:PE X i ti) (hs:EO X t)
  (ha : ∀ v, assign (.Subscript o i pos) X.env v = (do
   let ov <- holding [v] (eval o X.env)
   let iv <- holding [v,ov] (eval i X.env)
   standAt pos
   holding [v,ov,iv] (setItem ov iv v)
   release [v,ov,iv] []):=by intro _;rfl):PG X (.Subscript o i pos) (Gx to ti t):=by
 intro pins s σ H v u Q I r h
 rw [ha]
 refine HA (HB (dD (ho pins s σ H _ I h) fun ov s1 ⟨x,H1,I1,r1,q1⟩=>?_))
 refine HA (HB (dD (hi pins s1 σ H1 _ I1 q1) fun iv s2 ⟨y,H2,I2,r2,q2⟩=>?_))
 refine HA (HC (HA (HB (dD (hs pins s2 σ H2 x y v ov iv u _ I2 r1 r2 r q2) fun _ s3 ⟨H3,I3,q3⟩=>?_))))
 exact wpAny_release ⟨σ,H3,I3,q3⟩
def wJ (te:TE) (g:TG):TS:=fun D σ H=>te σ H fun x H1=>g x σ H1 D.nx
theorem Da {tg e:Expr}{te:TE}{g:TG} (he:PE X e te) (hg:PG X tg g) (hs:swapsWithSole [tg] e pos.line X.env=pure false:=by rfl) (hw:swappedStores [tg] e X.env=pure none:=by rfl)
  (h1:(assignEach [tg] X.env).map (·.2)=[assign tg X.env]:=by rfl):PS X (.Assign [tg] e pos) (wJ te g):=by
 intro pins s σ H D I h
 refine wpAny_Assign_stores (dD (he pins s σ H _ I h) fun v s1 ⟨x,H1,I1,r1,q1⟩=>?_) hs hw
 rw [h1]
 exact dD (hg pins s1 σ H1 x v _ I1 r1 q1) fun _ s2 q=>q
theorem C7 {i:Nat}{x:Str}{e:Expr}{te:TE}{pos':Pos} (hN:X.N.Nodup) (hi:X.N[i]?=some x) (hx:zo X.env.scope x) (he:PE X e te) (hs:swapsWith e (some (.Name x pos')) pos.line X.env=pure false:=by rfl) (hf:X.fn x=true\/X.env.scope.names.lookup x=some .local:=by first | exact .inl rfl | exact .inr rfl | assumption) :
  PS X (.Assign [.Name x pos'] e pos) (wJ te (qK i)):=by
 intro pins s σ H D I h
 refine wpAny_Assign_Name (dD (he pins s σ H _ I h) fun v s1 ⟨y,H1,I1,r1,q1⟩=>?_) hs
 exact mT I1 hN hi hx r1 (fun s2 I2=>⟨_,H1,I2,q1⟩) hf
end
section
variable {X:Cx}{pos:Pos}
end
structure It where
 go:Nat->Hp->Prop
 yld:Nat->Hp->V->Hp->Prop
 stop:Nat->Hp->Prop
def j7 (X:Cx) (pins:List (Addr × Obj)) (H:Hp) (b:Addr):Prop:=
 H b=none/\b≠X.env.locals/\b ∉ X.fs/\(b∈X.ex\/X.s₀.heap.objs.size<=b)/\(∀ x c,X.env.cells.lookup x=some c->c≠b)/\∀ p∈X.pn++pins,p.1≠b
theorem aI.fpOk {X:Cx}{pins:List (Addr × Obj)}{σ:St}{H H':Hp}{s:Shared}{b:Addr} (I:aI X pins σ H s) (hb:s.heap.objs.size<=b) (hn:H' b=none):j7 X pins H' b:=by
 refine ⟨hn,HD (Hb I.lt hb),I.nofs hb,.inr (Hg I.sz hb),fun x c e z=>?_,fun p hp z=>?_⟩
 ·obtain ⟨v, q⟩ := I.cell x c e
  exact absurd (Hb q.lt (by rw [z];exact hb)) (Hc _)
 ·exact absurd (Hb (G9 (I.pin p hp).1) (by rw [z];exact hb)) (Hc _)
structure vc (P:Program) (w:World) (K:W.Frag) (tg:Expr) (J:It) (fp:List Addr) (it:Addr) (tn:Nat->Heap->Prop):Prop where
 mem:it∈fp
 obj:∀ i h,tn i h->∀ b∈fp,∃ o,h.get? b=some o/\∀ v,o.data≠.cell v
 keep:∀ i h h',tn i h->(∀ b∈fp,∀ o,h.get? b=some o->h'.get? b=some o)->tn i h'
 item:∀ (X:Cx),X.prog=P->X.w=w->X.K=K->X.calm=true->∀ (i:Nat) (pins:List (Addr × Obj)) (s:Shared) (σ:St) (H:Hp) (E:Value->Shared->Prop),aI X pins σ H s->(∀ b∈fp,j7 X pins H b)->tn i s.heap->J.go i H ->
  wpAny (model P w) X.A (pyNext (.ref it)) (fun r s1=>∃ u,r=some u /\
   wpAny (model P w) X.A (letOwnedTupleGo tg (.ref it) u) (fun _ s2=>∃ x H',aI X pins σ H' s2/\bH x u/\J.yld i H x H'/\tn (i+1) s2.heap/\∀ b∈fp,H' b=none) E s1) E s
 done:∀ (X:Cx),X.prog=P->X.w=w->X.K=K->X.calm=true->∀ (i:Nat) (pins:List (Addr × Obj)) (s:Shared) (σ:St) (H:Hp) (E:Value->Shared->Prop),aI X pins σ H s->(∀ b∈fp,j7 X pins H b)->tn i s.heap->J.stop i H ->
  wpAny (model P w) X.A (pyNext (.ref it)) (fun r s1=>r=none/\aI X pins σ H s1) E s
 self:∀ (A:Around) (i:Nat) (s:Shared) (Q:Value->Shared->Prop) (E:Value->Shared->Prop),tn i s.heap->Q (.ref it) s->wpAny (model P w) A (pyIter (.ref it)) Q E s
abbrev TI:=St->Hp->(It->Hp->Prop)->Prop
def F6 (X:Cx) (pins:List (Addr × Obj)) (σ:St) (tg:Expr) (R:It->Hp->Prop) (itv:Value) (s2:Shared):Prop:=
 ∃ (it:Addr) (fp:List Addr) (tn:Nat->Heap->Prop) (J:It) (H':Hp),itv=.ref it/\aI X pins σ H' s2/\vc X.prog X.w X.K tg J fp it tn/\tn 0 s2.heap/\(∀ b∈fp,j7 X pins H' b)/\R J H'
def PI (X:Cx) (tg iter:Expr) (wi:TI):Prop:=
 ∀ (pins:List (Addr × Obj)) (s:Shared) (σ:St) (H:Hp) (R:It->Hp->Prop),aI X pins σ H s->wi σ H R ->
  wpAny (model X.prog X.w) X.A (eval iter X.env) (fun v s1=>wpAny (model X.prog X.w) X.A (pyIter v) (F6 X pins σ tg R) X.xe s1) X.xe s
theorem xf {M:Model}{A:Around}{E:Value->Shared->Prop}{s:Shared}{tg:Expr}{it:Addr}{u:Value}{o:Obj}{n:String}{vs:Array Value}{Q:Unit->Shared->Prop} (ho:s.heap.get? it=some o) (hc:o.cls=.type n) (hd:o.data=.fields vs)
  (hn:["enumerate", "zip", "dict_itemiterator", "dict_reverseitemiterator", "odict_iterator", "itertools.zip_longest", "itertools.pairwise"].contains n=false) (hQ:Q () s):wpAny M A (letOwnedTupleGo tg (.ref it) u) Q E s:=by
 unfold letOwnedTupleGo
 cases tg <;> first
  | exact HE hQ
  | (cases u <;> first
    | exact HE hQ
    | (refine HA (HF ho ?_)
       rw [hc,hd]
       show wpAny M A (if (["enumerate", "zip", "dict_itemiterator", "dict_reverseitemiterator", "odict_iterator", "itertools.zip_longest", "itertools.pairwise"].contains n && vs[0]? == some (rawInt _))=true then _ else _) Q E s
       rw [G7 (by intro h;rw [hn,Bool.false_and] at h;cases h)]
       exact HE hQ))
def FU (K:W.Frag) (a:Addr):It:=
 ⟨fun i H=>∃ xs x,eO K H a xs/\xs[i]?=some x,fun i H x H'=>H'=H/\∀ xs,eO K H a xs->xs[i]?=some x,fun i H=>∃ xs,eO K H a xs/\xs.length<=i⟩
def F8 (K:W.Frag) (a:Addr):It:=
 ⟨fun i H=>∃ xs x,d6 K H a xs/\xs[i]?=some x,fun i H x H'=>H'=H/\∀ xs,d6 K H a xs->xs[i]?=some x,fun i H=>∃ xs,d6 K H a xs/\xs.length<=i⟩
def El (lo:Int) (n:Nat):It:=⟨fun i _=>i<n,fun i H x H'=>H'=H/\x=.int (lo+i),fun i _=>n<=i⟩
theorem vk {P:Program}{w:World}{K:W.Frag}{tg:Expr} (a it:Addr):vc P w K tg (FU K a) [it] it (fun i h=>h.IsListIter it a i) where
 mem:=by simp
 obj:=fun i h st b hb=>by
  have e:b=it:=by simpa using hb
  subst e
  obtain ⟨o,e,c,d⟩:=st
  exact ⟨o,e,fun v z=>by rw [d] at z;cases z⟩
 keep:=fun i h h' st k=>st.at fun o e=>k it (by simp) o e
 item:=by
  intro X hP hw hK hc i pins s σ H E I hf st hg
  subst hP hw hK
  obtain ⟨xs,x,hq,hx⟩:=hg
  obtain ⟨its,rv,p,hz⟩:=I.list hq
  obtain ⟨u,hu,ru⟩:=rv.get hx
  obtain ⟨f0,f1,f2,f3,f4,f5⟩:=hf it (by simp)
  refine wpAny_pyNext_list_item st p.isList (x:=u) (by simpa using hu) fun h' st' sb=>?_
  have I1:aI X pins σ H { s with heap:=h' }:=I.turned (t':=s.toks) (fun b o hb e=>(sb.2 b hb).trans e) f0 f1 f3 f4 f5
  obtain ⟨o,e,c,d⟩:=id st'
  exact ⟨u,rfl,xf (s:={ s with heap:=h' }) e c d (by decide) ⟨x,H,I1,ru,⟨rfl,fun ys hy=>by rw [I.list_inj hy hq];exact hx⟩,st',fun b hb=>(hf b hb).1⟩⟩
 done:=by
  intro X hP hw hK hc i pins s σ H E I hf st hg
  subst hP hw hK
  obtain ⟨xs,hq,hx⟩:=hg
  obtain ⟨its,rv,p,hz⟩:=I.list hq
  obtain ⟨f0,f1,f2,f3,f4,f5⟩:=hf it (by simp)
  have hl:=rv.length
  exact wpAny_pyNext_list_end (I.ok.hd hc) st p.isList (by simp;omega) fun h' eb=>⟨rfl,I.turned (t':=s.toks) (fun b o hb e=>eb b o hb e) f0 f1 f3 f4 f5⟩
 self:=fun _ _ _ _ _ st h=>wpAny_pyIter_listiter st h
theorem tm {P:Program}{w:World}{K:W.Frag}{tg:Expr} (a it:Addr):vc P w K tg (F8 K a) [it] it (fun i h=>h.IsTupleIter it a i) where
 mem:=by simp
 obj:=fun i h st b hb=>by
  have e:b=it:=by simpa using hb
  subst e
  obtain ⟨o,e,c,d⟩:=st
  exact ⟨o,e,fun v z=>by rw [d] at z;cases z⟩
 keep:=fun i h h' st k=>st.at fun o e=>k it (by simp) o e
 item:=by
  intro X hP hw hK hc i pins s σ H E I hf st hg
  subst hP hw hK
  obtain ⟨xs,x,hq,hx⟩:=hg
  obtain ⟨its,rv,p,hz⟩:=I.tuple hq
  obtain ⟨u,hu,ru⟩:=rv.get hx
  obtain ⟨f0,f1,f2,f3,f4,f5⟩:=hf it (by simp)
  refine wpAny_pyNext_tuple_item st (show s.heap.IsTuple a its.toArray from p) (x:=u) (by simpa using hu) fun h' st' sb=>?_
  have I1:aI X pins σ H { s with heap:=h' }:=I.turned (t':=s.toks) (fun b o hb e=>(sb.2 b hb).trans e) f0 f1 f3 f4 f5
  obtain ⟨o,e,c,d⟩:=id st'
  exact ⟨u,rfl,xf (s:={ s with heap:=h' }) e c d (by decide) ⟨x,H,I1,ru,⟨rfl,fun ys hy=>by rw [I.tuple_inj hy hq];exact hx⟩,st',fun b hb=>(hf b hb).1⟩⟩
 done:=by
  intro X hP hw hK hc i pins s σ H E I hf st hg
  subst hP hw hK
  obtain ⟨xs,hq,hx⟩:=hg
  obtain ⟨its,rv,p,hz⟩:=I.tuple hq
  obtain ⟨f0,f1,f2,f3,f4,f5⟩:=hf it (by simp)
  have hl:=rv.length
  exact wpAny_pyNext_tuple_end (I.ok.hd hc) st (show s.heap.IsTuple a its.toArray from p) (by simp;omega) fun h' eb=>⟨rfl,I.turned (t':=s.toks) (fun b o hb e=>eb b o hb e) f0 f1 f3 f4 f5⟩
 self:=fun _ _ _ _ _ st h=>wpAny_pyIter_tupleiter st h
theorem tq {P:Program}{w:World}{K:W.Frag}{tg:Expr} (it:Addr) (lo:Int) (n:Nat):vc P w K tg (El lo n) [it] it (fun i h=>IsRangeIter h it (lo+(i:Nat) * 1) ((n:Int) - (i:Nat)) 1) where
 mem:=by simp
 obj:=fun i h st b hb=>by
  have e:b=it:=by simpa using hb
  subst e
  exact ⟨_,st,fun v z=>by
   have z':Data.fields _=Data.cell v:=z
   cases z'⟩
 keep:=fun i h h' st k=>k it (by simp) _ st
 item:=by
  intro X hP hw hK hc i pins s σ H E I hf st hg
  subst hP hw hK
  obtain ⟨f0,f1,f2,f3,f4,f5⟩:=hf it (by simp)
  have W:=Walks.range (prog:=X.prog) (w:=X.w) (I.ok.hd hc) it lo 1 n
  refine W.item i s _ _ hg st fun v h' tk hv st' kk=>?_
  obtain ⟨t,rfl⟩:=hv
  have I1:aI X pins σ H { s with heap:=h',toks:=tk }:=I.turned (fun b o hb e=>kk b o (by simpa using hb) e) f0 f1 f3 f4 f5
  refine ⟨_,rfl,xf (s:={ s with heap:=h',toks:=tk }) (n:="range_iterator") st' rfl rfl (by decide) ⟨.int (lo+i),H,I1,⟨t,?_⟩,⟨rfl,rfl⟩,st',fun b hb=>(hf b hb).1⟩⟩
  rw [Int.mul_one]
 done:=by
  intro X hP hw hK hc i pins s σ H E I hf st hg
  subst hP hw hK
  obtain ⟨f0,f1,f2,f3,f4,f5⟩:=hf it (by simp)
  exact wpAny_pyNext_range_end (I.ok.hd hc) st (by have:n<=i:=hg;omega) fun h' eb=>⟨rfl,I.turned (t':=s.toks) (fun b o hb e=>eb b o hb e) f0 f1 f3 f4 f5⟩
 self:=fun _ _ _ _ _ st h=>wpAny_pyIter_rangeiter st h
end L2
namespace L2
open PySem PySem.Spec PyProof.Rows
section
variable {X:Cx}{tg:Expr}
theorem rj {pins:List (Addr × Obj)}{σ:St}{H:Hp}{s:Shared}{R:It->Hp->Prop}{E:Value->Shared->Prop}{lo hi:Int}{t u v:Tok}{tk:Nat} (I:aI X pins σ H s) (h1:-(2 ^ 62)<=lo) (h2:lo<2 ^ 62) (h3:-(2 ^ 62)<=hi) (h4:hi<2 ^ 62)
  (q:R (El lo (hi - lo).toNat) H):wpAny (model X.prog X.w) X.A (pyIter (.ref s.heap.objs.size)) (F6 X pins σ tg R) E { s with heap:=s.heap.push { cls:=.type "range",data:=.fields #[.int lo t,.int hi u,.int 1 v] },toks:=tk }:=by
 refine wpAny_pyIter_range (IsRange.new ..) (small_one h1 h2 h3 h4) ?_
 have I1:aI X pins σ H { s with heap:=s.heap.push { cls:=.type "range",data:=.fields #[.int lo t,.int hi u,.int 1 v] },toks:=tk }:=I.kept fun b o e=>HG _ e
 refine ⟨(s.heap.push { cls:=.type "range",data:=.fields #[.int lo t,.int hi u,.int 1 v] }).objs.size,[(s.heap.push { cls:=.type "range",data:=.fields #[.int lo t,.int hi u,.int 1 v] }).objs.size],_,_,H,rfl,
  I1.kept (t':=tk) fun b o e=>HG _ e,tq _ lo (hi - lo).toNat,?_,fun b hb=>?_,q⟩
 ·have e1 : lo + ((0 : Nat) : Int) * 1 = lo := by simp
  have e2:(((hi - lo).toNat:Nat):Int) - ((0:Nat):Int)=Builtin.Range.rangeSize lo hi 1:=by rw [rangeSize_one];split <;> omega
  show IsRangeIter _ _ (lo+((0:Nat):Int) * 1) ((((hi - lo).toNat:Nat):Int) - ((0:Nat):Int)) 1
  rw [e1,e2]
  exact HH _ rfl
 ·have e : b = (s.heap.push { cls := .type "range", data := .fields #[.int lo t, .int hi u, .int 1 v] }).objs.size := by simpa using hb
  subst e
  exact I1.fpOk (HI _) (I1.hok.fresh (HI _))
def FC (ta:TA):TI:=fun σ H R=>ta σ H fun vs H1=>∃ j:Int,vs=[.int j]/\-(2 ^ 62)<=j/\j<2 ^ 62/\R (El 0 j.toNat) H1
def FA (ta:TA):TI:=fun σ H R=>ta σ H fun vs H1=>∃ i j:Int,vs=[.int i,.int j]/\(-(2 ^ 62)<=i/\i<2 ^ 62/\-(2 ^ 62)<=j/\j<2 ^ 62)/\R (El i (j - i).toNat) H1
theorem vG {a:Expr}{ta:TA}{p pos:Pos} (hg:Gl X "range") (hm:X.mg "range" = none) (ha:PA X [a] ta) (hs:starEach [a] X.env=[(false,eval a X.env)]:=by rfl):PI X tg (.Call (.Name "range" p) [a] [] pos) (FC ta):=by
 intro pins s σ H R I h
 refine Call_ (jR I hg hm boot_range (HJ (dD (ha pos pins s σ H _ I h) fun us s1 ⟨vs,H1,I1,r1,q1⟩=>?_) hs rfl))
 obtain ⟨j,e,q1,q2,q⟩:=q1
 subst e
 cases r1 with
 | cons r rr=>
  cases rr
  obtain ⟨t,rfl⟩:=r
  exact call_range_1 (rj I1 (by omega) (by omega) q1 q2 (by simpa using q))
theorem vF {a b:Expr}{ta:TA}{p pos:Pos} (hg:Gl X "range") (hm:X.mg "range" = none) (ha:PA X [a,b] ta) (hs:starEach [a,b] X.env=[(false,eval a X.env),(false,eval b X.env)]:=by rfl) (hs2:starEach [b] X.env=[(false,eval b X.env)]:=by rfl) :
  PI X tg (.Call (.Name "range" p) [a,b] [] pos) (FA ta):=by
 intro pins s σ H R I h
 refine Call_ (jR I hg hm boot_range (HJ (dD (ha pos pins s σ H _ I h) fun us s1 ⟨vs,H1,I1,r1,q1⟩=>?_) (by rw [hs,hs2]) (by rw [hs2];rfl)))
 obtain ⟨i,j,e,⟨q1,q2,q3,q4⟩,q⟩:=q1
 subst e
 cases r1 with
 | cons r rr=>
  cases rr with
  | cons r' rr=>
   cases rr
   obtain ⟨t,rfl⟩:=r
   obtain ⟨t',rfl⟩:=r'
   exact call_range_2 (rj I1 q1 q2 q3 q4 q)
def Gm (wi:TI) (g:TG) (tb:TS):TS:=fun D σ H=>wi σ H fun J H1=>∃ W:Nat->Nat->St->Hp->Prop,(∃ m,W 0 m σ H1)/\∀ i m σ H,W i m σ H ->
 (J.stop i H/\D.nx σ H)\/(J.go i H/\∃ N:St->Hp->Prop,(∀ σ' H',N σ' H'->∃ m',m'<m/\W (i+1) m' σ' H')/\∀ x H',J.yld i H x H'->g x σ H' fun σ2 H2=>tb { D with nx:=N,ct:=N,bk:=D.nx } σ2 H2)
def mI (fp:List Addr) (h:Heap):List (Addr × Obj):=fp.filterMap fun b=>(h.get? b).map fun o=>(b,o)
theorem iw {fp:List Addr}{h:Heap}{b:Addr}{o:Obj} (hb:b∈fp) (e:h.get? b=some o):(b,o)∈mI fp h:=HK.mpr ⟨b,hb,by rw [e];rfl⟩
theorem vO {fp:List Addr}{h:Heap}{p:Addr × Obj} (hp:p∈mI fp h):p.1∈fp/\h.get? p.1=some p.2:=by
 obtain ⟨b,hb,e⟩:=HK.mp hp
 cases q:h.get? b with
 | none=>rw [q] at e;cases e
 | some o=>
  rw [q] at e
  have e':(b,o)=p:=G8 e
  subst e'
  exact ⟨hb,q⟩
theorem aI.pinned {pins:List (Addr × Obj)}{σ:St}{H:Hp}{s:Shared}{fp:List Addr} (I:aI X pins σ H s) (hf:∀ b∈fp,j7 X pins H b) (ho:∀ b∈fp,∃ o,s.heap.get? b=some o/\∀ v,o.data≠.cell v):aI X (pins++mI fp s.heap) σ H s:=
 I.pins_of fun p hp=>(Hn.mp hp).elim (fun z=>I.pin p (HL _ z)) fun z=>by
  obtain ⟨hb,e⟩:=vO z
  obtain ⟨f0,f1,f2,_⟩:=hf p.1 hb
  obtain ⟨o,e',d⟩:=ho p.1 hb
  rw [e] at e';cases e'
  exact ⟨e,f0,f1,f2,d⟩
theorem aI.unpinned {pins pl:List (Addr × Obj)}{σ:St}{H:Hp}{s:Shared} (I:aI X (pins++pl) σ H s):aI X pins σ H s:=I.pins_of fun p hp=>I.pin p (HL _ (Ho _ hp))
theorem C9 {iter:Expr}{body:List Stmt}{wi:TI}{g:TG}{tb:TS}{pos:Pos} (hp:PassesOwn (model X.prog X.w) X.A X.env X.xe) (hc:X.calm=true) (hi:PI X tg iter wi) (hg:PG X tg g) (hb:hZ X body tb)
  (hs:∀ x,foldedSetIterable iter X.env x=pure x:=by intro _;rfl):PS X (.For tg iter body [] pos) (Gm wi g tb):=by
 intro pins s σ H D I h
 refine wpAny_For (dD (hi pins s σ H _ I h) fun v s1 h1=>dD h1 fun itv s2 h2=>?_) hs
 obtain ⟨it,fp,tn,J,H2,e,I2,T,st2,f2,W,⟨m0,w0⟩,turn⟩:=h2
 subst e
 have stat:∀ {H':Hp},(∀ b∈fp,H' b=none)->∀ b∈fp,j7 X pins H' b:=fun hn b hb=>⟨hn b hb,(f2 b hb).2⟩
 refine codeAny_forLoop_any (fun n s'=>∃ i σ' H',aI X pins σ' H' s'/\tn i s'.heap/\(∀ b∈fp,H' b=none)/\W i n σ' H') ?_ m0 ⟨0,σ,H2,I2,st2,fun b hb=>(f2 b hb).1,w0⟩
 rintro n s3 ⟨i,σ3,H3,I3,st3,fr3,w3⟩
 rcases turn i n σ3 H3 w3 with ⟨stop,qn⟩ | ⟨go,N,hN,step⟩
 ·refine HM hp (dD (T.done X rfl rfl rfl hc i pins s3 σ3 H3 X.xe I3 (stat fr3) st3 stop) fun r s4 ⟨hr, I4⟩ => ?_)
  subst hr
  exact Hy ⟨σ3,H3,I4,qn⟩
 ·refine HM hp (dD (T.item X rfl rfl rfl hc i pins s3 σ3 H3 X.xe I3 (stat fr3) st3 go) fun r s4 ⟨u, hr, h4⟩ => ?_)
  subst hr
  refine HM hp (dD h4 fun _ s5 ⟨x,H5,I5,r5,y5,st5,fr5⟩=>?_)
  have I5':=I5.pinned (stat fr5) (T.obj _ _ st5)
  refine HM hp (dD (hg _ s5 σ3 H5 x u _ I5' r5 (step x H5 y5)) fun _ s6 ⟨σ6,H6,I6,q6⟩=>?_)
  refine HM hp (dD (hb _ s6 σ6 H6 _ I6 q6) fun f s7 q7=>?_)
  have again:∀ {σ7:St}{H7:Hp},aI X (pins++mI fp s5.heap) σ7 H7 s7->N σ7 H7->∃ m,m<n/\∃ i σ' H',aI X pins σ' H' s7/\tn i s7.heap/\(∀ b∈fp,H' b=none)/\W i m σ' H':=fun {σ7 H7} I7 n7=>by
   obtain ⟨m',hm,w7⟩:=hN σ7 H7 n7
   refine ⟨m',hm,i+1,σ7,H7,I7.unpinned,T.keep _ _ _ st5 fun b hb o e=>(I7.pin (b,o) (HL _ (HL _ (iw hb e)))).1,fun b hb=>?_,w7⟩
   obtain ⟨o,e,d⟩:=T.obj _ _ st5 b hb
   exact (I7.pin (b,o) (HL _ (HL _ (iw hb e)))).2.1
  cases f with
  | next=>obtain ⟨σ7,H7,I7,n7⟩:=q7;exact again I7 n7
  | cont=>obtain ⟨σ7,H7,I7,n7⟩:=q7;exact again I7 n7
  | brk=>obtain ⟨σ7,H7,I7,q7⟩:=q7;exact ⟨σ7,H7,I7.unpinned,q7⟩
  | ret v=>obtain ⟨x7,σ7,H7,I7,r7,q7⟩:=q7;exact ⟨x7,σ7,H7,I7.unpinned,r7,q7⟩
end
end L2
namespace L2
open PySem PySem.Spec PyProof.Rows
abbrev R2:=V->V->Hp->VK->Prop
def iJ (X:Cx) (f:Value->Value->Sem Value) (r:R2):Prop:=
 ∀ (pins:List (Addr × Obj)) (s:Shared) (σ:St) (H:Hp) (x y:V) (v u:Value) (Q:VK),aI X pins σ H s->bH x v->bH y u->r x y H Q ->
  wpAny (model X.prog X.w) X.A (f v u) (EP X pins σ Q) X.xe s
def FP (X:Cx) (f:Value->Sem Value) (r:V->Hp->VK->Prop):Prop:=
 ∀ (pins:List (Addr × Obj)) (s:Shared) (σ:St) (H:Hp) (x:V) (v:Value) (Q:VK),aI X pins σ H s->bH x v->r x H Q ->
  wpAny (model X.prog X.w) X.A (f v) (EP X pins σ Q) X.xe s
def cj (X:Cx) (f:Value) (r:List V->Hp->VK->Prop):Prop:=
 ∀ (pins:List (Addr × Obj)) (s:Shared) (σ:St) (H:Hp) (xs:List V) (us:List Value) (Q:VK),aI X pins σ H s->aU xs us->r xs H Q ->
  wpAny (model X.prog X.w) X.A (call f us) (EP X pins σ Q) X.xe s
def GD (X:Cx) (r:V->Hp->(Bool->Hp->Prop)->Prop):Prop:=
 ∀ (pins:List (Addr × Obj)) (s:Shared) (σ:St) (H:Hp) (x:V) (v:Value) (Q:Bool->Hp->Prop),aI X pins σ H s->bH x v->r x H Q ->
  wpAny (model X.prog X.w) X.A (truthy v) (TP X pins σ Q) X.xe s
def FL (r:R2) (ta tb:TE):TE:=fun σ H Q=>ta σ H fun x H1=>tb σ H1 fun y H2=>r x y H2 Q
def GR (r:V->Hp->VK->Prop) (ta:TE):TE:=fun σ H Q=>ta σ H fun x H1=>r x H1 Q
def rI (C:Int->Int->Prop) (g:Int->Int->V):R2:=fun x y H Q=>∃ i j,x=.int i/\y=.int j/\C i j/\Q (g i j) H
def Er (g:Int->Int->V):R2:=fun x y H Q=>∃ i j,x=.int i/\y=.int j/\Q (g i j) H
def rU (g:Int->V):V->Hp->VK->Prop:=fun x H Q=>∃ i,x=.int i/\Q (g i) H
section
variable {X:Cx}{a b c:Expr}{ta tb tc:TE}{pos:Pos}
theorem Cd (ha:PE X a ta) (hb:PE X b tb) {pins:List (Addr × Obj)}{s:Shared}{σ:St}{H:Hp}{R:V->V->Hp->Prop} (I:aI X pins σ H s)
  (h:ta σ H fun x H1=>tb σ H1 fun y H2=>R x y H2) {Q:Value->Shared->Prop}{f:Value->Value->Sem Value}
  (hf:∀ v u s2 x y H2,aI X pins σ H2 s2->bH x v->bH y u->R x y H2->wpAny (model X.prog X.w) X.A (f v u) Q X.xe s2) :
  wpAny (model X.prog X.w) X.A (eval a X.env) (fun v s₁=>wpAny (model X.prog X.w) X.A (eval b X.env) (fun u s₂=>wpAny (model X.prog X.w) X.A (f v u) Q X.xe s₂) X.xe s₁) X.xe s:=by
 refine dD (ha pins s σ H _ I h) fun v s1 ⟨x,H1,I1,r1,q1⟩=>?_
 refine dD (hb pins s1 σ H1 _ I1 q1) fun u s2 ⟨y,H2,I2,r2,q2⟩=>?_
 exact hf v u s2 x y H2 I2 r1 r2 q2
theorem Fp {op:Operator}{r:R2} (ho:iJ X (binaryOp op) r) (ha:PE X a ta) (hb:PE X b tb):PE X (.BinOp a op b pos) (FL r ta tb):=by
 intro pins s σ H Q I h
 exact wpAny_BinOp (Cd ha hb I h fun v u s2 x y H2 I2 rx ry q=>ho pins s2 σ H2 x y v u Q I2 rx ry q)
theorem Fo {op:UnaryOp}{r:V->Hp->VK->Prop} (ho:FP X (unaryOp op) r) (ha:PE X a ta):PE X (.UnaryOp op a pos) (GR r ta):=by
 intro pins s σ H Q I h
 exact UnaryOp_ (dD (ha pins s σ H _ I h) fun v s1 ⟨x,H1,I1,r1,q1⟩=>ho pins s1 σ H1 x v Q I1 r1 q1)
theorem FM {f:Value->Value->Sem Value}{C:Int->Int->Prop}{g:Int->Int->Int}
  (rule:∀ (i j:Int) (t u:Tok) (s:Shared) (Q:Value->Shared->Prop) (E:Value->Shared->Prop),C i j->Q (.int (g i j) s.toks) { s with toks:=s.toks+1 }->wpAny (model X.prog X.w) X.A (f (.int i t) (.int j u)) Q E s) :
  iJ X f (rI C fun i j=>.int (g i j)):=by
 intro pins s σ H x y v u Q I rx ry h
 obtain ⟨i,j,rfl,rfl,hc,q⟩:=h
 obtain ⟨t,rfl⟩:=rx
 obtain ⟨t',rfl⟩:=ry
 exact rule i j t t' s _ _ hc ⟨.int (g i j),H,I.tok _,⟨_,rfl⟩,q⟩
theorem EH {f:Value->Value->Sem Value}{g:Int->Int->Int}
  (rule:∀ (i j:Int) (t u:Tok) (s:Shared) (Q:Value->Shared->Prop) (E:Value->Shared->Prop),Q (.int (g i j) s.toks) { s with toks:=s.toks+1 }->wpAny (model X.prog X.w) X.A (f (.int i t) (.int j u)) Q E s) :
  iJ X f (Er fun i j=>.int (g i j)):=by
 intro pins s σ H x y v u Q I rx ry h
 obtain ⟨i,j,rfl,rfl,q⟩:=h
 obtain ⟨t,rfl⟩:=rx
 obtain ⟨t',rfl⟩:=ry
 exact rule i j t t' s _ _ ⟨.int (g i j),H,I.tok _,⟨_,rfl⟩,q⟩
def zL (i j:Int):Prop:=0<j/\j<1073741824
def Ci (i j:Int):Prop:=0<=j/\j<=1000000/\i.natAbs<2 ^ 64
def qF (i j:Int):Prop:=(-(2 ^ 64)<i/\i<2 ^ 64)\/(-(2 ^ 64)<j/\j<2 ^ 64)
theorem qF.ok {i j:Int} (h:qF i j):IntMulOk i j:=by
 rcases h with ⟨h1,h2⟩ | ⟨h1,h2⟩
 ·exact .of_left (intBits_le_64 h1 h2)
 ·exact .of_right (intBits_le_64 h1 h2)
theorem Dy:iJ X (binaryOp .Add) (Er fun i j=>.int (i+j)):=EH fun _ _ _ _ _ _ _ q=>add_int q
theorem Dp:iJ X (binaryOp .Sub) (Er fun i j=>.int (i - j)):=EH fun _ _ _ _ _ _ _ q=>sub_int q
theorem Dt:iJ X (binaryOp .Mult) (rI qF fun i j=>.int (i * j)):=FM fun _ _ _ _ _ _ _ hc q=>mul_int q hc.ok
theorem AS:iJ X (binaryOp .FloorDiv) (rI zL fun i j=>.int (i / j)):=FM fun i j _ _ _ _ _ hc q=>by
 have h1:(0:Int)<j:=hc.1
 have h2:j<1073741824:=hc.2
 exact floordiv_int (by omega) (by rw [Int.fdiv_eq_ediv_of_nonneg i (by omega)];exact q) (.inl (PyProof.noPylong_small (by omega)))
theorem Du:iJ X (binaryOp .Mod) (rI (fun _ j=>0<j) fun i j=>.int (i % j)):=FM fun i j _ _ _ _ _ hc q=>by
 have h1:(0:Int)<j:=hc
 exact mod_int' (by omega) (by rw [Int.fmod_eq_emod_of_nonneg i (by omega)];exact q)
theorem Dr:iJ X (binaryOp .Pow) (rI Ci fun i j=>.int (i ^ j.toNat)):=FM fun _ _ _ _ _ _ _ hc q=>pow_int_small hc.1 hc.2.1 hc.2.2 q
theorem GQ {f:Value->Sem Value}{g:Int->Int}
  (rule:∀ (i:Int) (t:Tok) (s:Shared) (Q:Value->Shared->Prop) (E:Value->Shared->Prop),Q (.int (g i) s.toks) { s with toks:=s.toks+1 }->wpAny (model X.prog X.w) X.A (f (.int i t)) Q E s) :
  FP X f (rU fun i=>.int (g i)):=by
 intro pins s σ H x v Q I rx h
 obtain ⟨i,rfl,q⟩:=h
 obtain ⟨t,rfl⟩:=rx
 exact rule i t s _ _ ⟨.int (g i),H,I.tok _,⟨_,rfl⟩,q⟩
theorem Cp:FP X (unaryOp .USub) (rU fun i=>.int (-i)):=GQ fun _ _ _ _ _ q=>neg_int q
end
def Gq:V->V->Bool
 | .non,.non=>true | .non,.int _=>true | .int _,.non=>true | .non,.bl _=>true | .bl _,.non=>true | .non,.str _=>true | .str _,.non=>true
 | .int _,.int _=>true | .bl _,.bl _=>true | .str _,.str _=>true | .byt _,.byt _=>true
 | .int _,.str _=>true | .str _,.int _=>true | .bl _,.str _=>true | .str _,.bl _=>true
 | _,_=>false
def F3:R2:=fun x y H Q=>Gq x y=true/\Q (.bl (!decide (x=y))) H
theorem Br {i j:Int}:decide (V.int i=V.int j)=(i == j):=by
 rw [HN]
 simp
theorem Eh {i j:Bool}:decide (V.bl i=V.bl j)=(i == j):=by
 rw [HN]
 simp
theorem Bq {i j:Str}:decide (V.str i=V.str j)=(i == j):=by
 rw [HN]
 simp
theorem Bs {i j:Array UInt8}:decide (V.byt i=V.byt j)=(i.toList == j.toList):=by
 rw [HN]
 cases i
 cases j
 simp
section
variable {X:Cx}{a b c:Expr}{ta tb tc:TE}{pos:Pos}
theorem dg {pins:List (Addr × Obj)}{σ:St}{H:Hp}{s:Shared}{Q:VK}{k k':Bool} (I:aI X pins σ H s) (q:Q (.bl k) H) (e:k=k'):EP X pins σ Q (.bool k') s:=by
 subst e
 exact ⟨.bl k,H,I,rfl,q⟩
theorem Fv:iJ X (compareOp .NotEq) F3:=by
 intro pins s σ H x y v u Q I rx ry h
 obtain ⟨hs,q⟩:=h
 cases x with
 | non=>
  cases rx
  cases y with
  | non=>cases ry;exact PySem.EqNone.ne_none_none (dg I q (by simp))
  | bl j=>cases ry;exact PySem.EqNone.ne_none_bool (dg I q (by simp))
  | int j=>obtain ⟨t',rfl⟩:=ry;exact PySem.EqNone.ne_none_int (dg I q (by simp))
  | str j=>obtain ⟨t',rfl⟩:=ry;exact PySem.EqNone.ne_none_str (dg I q (by simp))
  | _=>exact absurd (show false=true from hs) HP
 | bl i=>
  cases rx
  cases y with
  | non=>cases ry;exact PySem.EqNone.ne_bool_none (dg I q (by simp))
  | bl j=>cases ry;exact ne_bool (dg I q (Hx not Eh))
  | str j=>obtain ⟨t',rfl⟩:=ry;exact PySem.EqMixed.ne_bool_str (dg I q (by simp))
  | _=>exact absurd (show false=true from hs) HP
 | int i=>
  obtain ⟨t,rfl⟩:=rx
  cases y with
  | non=>cases ry;exact PySem.EqNone.ne_int_none (dg I q (by simp))
  | int j=>obtain ⟨t',rfl⟩:=ry;exact ne_int (dg I q (Hx not Br))
  | str j=>obtain ⟨t',rfl⟩:=ry;exact PySem.EqMixed.ne_int_str (dg I q (by simp))
  | _=>exact absurd (show false=true from hs) HP
 | str i=>
  obtain ⟨t,rfl⟩:=rx
  cases y with
  | non=>cases ry;exact PySem.EqNone.ne_str_none (dg I q (by simp))
  | bl j=>cases ry;exact PySem.EqMixed.ne_str_bool (dg I q (by simp))
  | int j=>obtain ⟨t',rfl⟩:=ry;exact PySem.EqMixed.ne_str_int (dg I q (by simp))
  | str j=>obtain ⟨t',rfl⟩:=ry;exact ne_str (dg I q (Hx not Bq))
  | _=>exact absurd (show false=true from hs) HP
 | byt i=>
  obtain ⟨t,rfl⟩:=rx
  cases y with
  | byt j=>obtain ⟨t',rfl⟩:=ry;exact W.ne_bytes (dg I q (Hx not Bs))
  | _=>exact absurd (show false=true from hs) HP
 | _=>cases y <;> exact absurd (show false=true from hs) HP
theorem Dv:iJ X (compareOp .Is) (fun x y H Q=>y=.non/\Q (.bl (decide (x=.non))) H):=by
 intro pins s σ H x y v u Q I rx ry h
 obtain ⟨rfl,q⟩:=h
 cases ry
 refine is_none_gen (dg I q ?_)
 cases x <;> first
  | (cases rx;rfl)
  | (obtain ⟨t,rfl⟩:=rx;rfl)
theorem AQ:iJ X (compareOp .IsNot) (fun x y H Q=>y=.non/\Q (.bl (!decide (x=.non))) H):=by
 intro pins s σ H x y v u Q I rx ry h
 obtain ⟨rfl,q⟩:=h
 cases ry
 refine isnot_none_gen (dg I q ?_)
 cases x <;> first
  | (cases rx;rfl)
  | (obtain ⟨t,rfl⟩:=rx;rfl)
theorem iJ.or {f:Value->Value->Sem Value}{r r':R2} (h:iJ X f r) (h':iJ X f r'):iJ X f (fun x y H Q=>r x y H Q\/r' x y H Q):=by
 intro pins s σ H x y v u Q I rx ry q
 rcases q with q | q
 ·exact h pins s σ H x y v u Q I rx ry q
 ·exact h' pins s σ H x y v u Q I rx ry q
theorem AM {op:CmpOp}{r:R2} (ho:iJ X (compareOp op) r) (ha:PE X a ta) (hb:PE X b tb) (hm:behindInMarks op b=false):PE X (.Compare a [op] [b] pos) (FL r ta tb):=by
 intro pins s σ H Q I h
 exact wpAny_Compare1 (Cd ha hb I h fun v u s2 x y H2 I2 rx ry q=>ho pins s2 σ H2 x y v u Q I2 rx ry q) hm
def E2 (t:TE):TT:=fun σ H Q=>t σ H fun x H'=>∃ k,x=.bl k/\Q k H'
theorem AB {op:CmpOp}{r:R2} (ho:iJ X (compareOp op) r) (ha:PE X a ta) (hb:PE X b tb) (hm:behindInMarks op b=false):PT X (.Compare a [op] [b] pos) (E2 (FL r ta tb)):=by
 intro pins s σ H Q I h
 refine wpAny_isTrue_Compare1 (dD (ha pins s σ H _ I h) fun v s1 ⟨x,H1,I1,r1,q1⟩=>dD (hb pins s1 σ H1 _ I1 q1) fun u s2 ⟨y,H2,I2,r2,q2⟩=>
  dD (ho pins s2 σ H2 x y v u _ I2 r1 r2 q2) fun c s3 ⟨z,H3,I3,r3,k,e,q3⟩=>?_) hm
 subst e
 cases r3
 exact Hv ⟨H3,I3,q3⟩
def xr (r r':R2) (ta tb tc:TE):TE:=fun σ H Q=>ta σ H fun x H1=>tb σ H1 fun y H2=>r x y H2 fun z H3=>∃ k,z=.bl k /\
 (if k=true then tc σ H3 fun w' H4=>r' y w' H4 Q else Q (.bl false) H3)
theorem yF {op op':CmpOp}{r r':R2} (ho:iJ X (compareOp op) r) (ho':iJ X (compareOp op') r') (ha:PE X a ta) (hb:PE X b tb) (hc:PE X c tc)
  (hm:lastMarks [op,op'] [b,c]=false:=by with_unfolding_all rfl):PE X (.Compare a [op,op'] [b,c] pos) (xr r r' ta tb tc):=by
 intro pins s σ H Q I h
 refine Compare_chain (dD (ha pins s σ H _ I h) fun v s1 ⟨x,H1,I1,r1,q1⟩=>chain_link (dD (hb pins s1 σ H1 _ I1 q1) fun u s2 ⟨y,H2,I2,r2,q2⟩=>
  dD (ho pins s2 σ H2 x y v u _ I2 r1 r2 q2) fun d s3 ⟨z,H3,I3,r3,k,e,q3⟩=>?_)) hm
 subst e
 cases r3
 refine Hv ?_
 cases k with
 | false=>exact ite_ff ⟨.bl false,H3,I3,rfl,q3⟩
 | true=>exact ite_tt (chain_last (dD (hc pins s3 σ H3 _ I3 q3) fun w' s4 ⟨z',H4,I4,r4,q4⟩=>ho' pins s4 σ H4 y z' u w' Q I4 r2 r4 q4))
def Ce (K:W.Frag) (x:V) (H:Hp) (k:Bool):Prop:=
 match x with
 | .non=>k=false
 | .bl b=>k=b
 | .int i=>k=(i != 0)
 | .str y=>y.length<=sizeLine/\k=((y.length:Int) != 0)
 | .byt y=>y.size<=sizeLine/\k=((y.size:Int) != 0)
 | .ref p=>(∃ xs,eO K H p xs/\k=!xs.isEmpty)\/(∃ xs,d6 K H p xs/\k=!xs.isEmpty)\/∃ kvs,H p=some (.dK kvs)/\k=!kvs.isEmpty
 | _=>False
theorem tR {κ:Type}{kvs:List (κ × V)}{vs:List (κ × Value)} (r:KV kvs vs):(!vs.isEmpty)=!kvs.isEmpty:=by
 cases r <;> rfl
theorem nr {xs:List V}{its:List Value} (r:aU xs its):(!its.toArray.isEmpty)=!xs.isEmpty:=by
 cases r <;> simp
theorem kR:(sizeLine:Nat)<2 ^ 63:=by rw [HQ];decide
theorem Cs:GD X (fun x H Q=>∃ k,Ce X.K x H k/\Q k H):=by
 intro pins s σ H x v Q I rx h
 obtain ⟨k,e,q⟩:=h
 have hl:=kR
 have hs:sizeLine=16777216:=HQ
 cases x with
 | non=>
  cases rx
  have e':k=false:=e
  subst e'
  exact truthy_none ⟨H,I,q⟩
 | bl b=>
  cases rx
  have e':k=b:=e
  subst e'
  exact Hv ⟨H,I,q⟩
 | int i=>
  obtain ⟨t,rfl⟩:=rx
  have e':k=(i != 0):=e
  subst e'
  exact PySem.P.truthy_int ⟨H,I,q⟩
 | str y=>
  obtain ⟨t,rfl⟩:=rx
  obtain ⟨hy,e'⟩:y.length<=sizeLine/\k=((y.length:Int) != 0):=e
  subst e'
  exact PySem.P.truthy_str (by omega) ⟨H,I.tok _,q⟩
 | byt y=>
  obtain ⟨t,rfl⟩:=rx
  obtain ⟨hy,e'⟩:y.size<=sizeLine/\k=((y.size:Int) != 0):=e
  subst e'
  exact W.truthy_bytes (by omega) ⟨H,I.tok _,q⟩
 | ref p=>
  cases rx
  have e':(∃ xs,eO X.K H p xs/\k=!xs.isEmpty)\/(∃ xs,d6 X.K H p xs/\k=!xs.isEmpty)\/∃ kvs,H p=some (.dK kvs)/\k=!kvs.isEmpty:=e
  rcases e' with ⟨xs,hx,e'⟩ | ⟨xs,hx,e'⟩ | ⟨kvs,hx,e'⟩
  ·subst e'
   obtain ⟨its,r,pl,hz⟩:=I.list hx
   have hlen:=r.length
   exact wpAny_truthy_list pl.isList (by simp only [HR];omega) ⟨H,I.tok _,by rw [nr r];exact q⟩
  ·subst e'
   obtain ⟨its,r,pl,hz⟩:=I.tuple hx
   have hlen:=r.length
   exact truthy_tuple pl (by simp only [HR];omega) ⟨H,I.tok _,by rw [nr r];exact q⟩
  ·subst e'
   obtain ⟨hz,hS,vs,r,m⟩:kvs.length<=sizeLine/\(p == sysModules)=false/\∃ vs,KV kvs vs/\s.heap.DictOf (pQ X.prog X.w) p vs:=I.hok p _ hx
   have hlen:kvs.length=vs.length:=Paired.length r
   exact wpAny_truthy_dict hS m (by omega) ⟨H,I.tok _,by rw [tR r];exact q⟩
 | _=>exact (show False from e).elim
theorem yv (ha:PE X a ta) (he:∀ whole,isTrue a X.env whole=(do let v <- whole;standAt a.pos;holding [v] (truthy v))) :
  PT X a (fun σ H Q=>ta σ H fun x H'=>∃ k,Ce X.K x H' k/\Q k H'):=by
 intro pins s σ H Q I h
 exact isTrue_plain (dD (ha pins s σ H _ I h) fun v s1 ⟨x,H1,I1,r1,q1⟩=>Cs pins s1 σ H1 x v Q I1 r1 q1) (he _)
theorem tK:iJ X (binaryOp .Add) (fun x y H Q=>∃ i j,x=.str i/\y=.str j/\i.length+j.length<=sizeLine/\Q (.str (i++j)) H):=by
 intro pins s σ H x y v u Q I rx ry h
 obtain ⟨i,j,rfl,rfl,hz,q⟩:=h
 obtain ⟨t,rfl⟩:=rx
 obtain ⟨t',rfl⟩:=ry
 exact add_str (fun t' tk=>⟨.str (i++j),H,I.tok _,⟨_,rfl⟩,q⟩) hz
theorem dY {x:V}{us:List Value} (r:aU [x] us):∃ u,us=[u]/\bH x u:=by
 cases r with
 | cons r1 r2=>cases r2;exact ⟨_,rfl,r1⟩
theorem wX {x y:V}{us:List Value} (r:aU [x,y] us):∃ u w',us=[u,w']/\bH x u/\bH y w':=by
 cases r with
 | cons r1 r2=>
  cases r2 with
  | cons r3 r4=>cases r4;exact ⟨_,_,rfl,r1,r3⟩
theorem wk (hc:X.calm=true):cj X (.builtin "max") (fun xs H Q=>∃ i j,xs=[.int i,.int j]/\Q (.int (if j > i then j else i)) H):=by
 intro pins s σ H xs us Q I r h
 obtain ⟨i,j,rfl,q⟩:=h
 obtain ⟨u,w',rfl,⟨t,rfl⟩,⟨t',rfl⟩⟩:=wX r
 refine max_two_ints (I.ok.hd hc) fun h' tk k=>⟨_,H,I.kept k,?_,q⟩
 by_cases hj:j > i
 ·rw [G6 hj,G6 hj];exact ⟨_,rfl⟩
 ·rw [G7 hj,G7 hj];exact ⟨_,rfl⟩
theorem wg (hc:X.calm=true):cj X (.builtin "min") (fun xs H Q=>∃ i j,xs=[.int i,.int j]/\Q (.int (if j<i then j else i)) H):=by
 intro pins s σ H xs us Q I r h
 obtain ⟨i,j,rfl,q⟩:=h
 obtain ⟨u,w',rfl,⟨t,rfl⟩,⟨t',rfl⟩⟩:=wX r
 refine min_two_ints (I.ok.hd hc) fun h' tk k=>⟨_,H,I.kept k,?_,q⟩
 by_cases hj:j<i
 ·rw [G6 hj,G6 hj];exact ⟨_,rfl⟩
 ·rw [G7 hj,G7 hj];exact ⟨_,rfl⟩
theorem wu:cj X (.type "int") (fun xs H Q=>(∃ i,xs=[.int i]/\Q (.int i) H)\/∃ k,xs=[.bl k]/\Q (.int (if k then 1 else 0)) H):=by
 intro pins s σ H xs us Q I r h
 rcases h with ⟨i,rfl,q⟩ | ⟨k,rfl,q⟩
 ·obtain ⟨u, rfl, t, rfl⟩ := dY r
  exact call_int_int ⟨.int i,H,I,⟨_,rfl⟩,q⟩
 ·obtain ⟨u, rfl, r1⟩ := dY r
  cases r1
  exact call_int_bool ⟨.int (if k then 1 else 0),H,I.tok _,⟨_,rfl⟩,q⟩
def Cg (K:W.Frag) (x:V) (H:Hp) (n:Nat):Prop:=
 match x with
 | .str y=>y.length<=sizeLine/\n=y.length
 | .byt y=>y.size<=sizeLine/\n=y.size
 | .ref p=>(∃ xs,eO K H p xs/\n=xs.length)\/∃ xs,d6 K H p xs/\n=xs.length
 | _=>False
theorem ze:cj X (.builtin "len") (fun xs H Q=>∃ x n,xs=[x]/\Cg X.K x H n/\Q (.int n) H):=by
 intro pins s σ H xs us Q I r h
 obtain ⟨x,n,rfl,e,q⟩:=h
 obtain ⟨u,rfl,rx⟩:=dY r
 have hl:=kR
 have hs:sizeLine=16777216:=HQ
 cases x with
 | str y=>
  obtain ⟨t,rfl⟩:=rx
  obtain ⟨hy,e'⟩:y.length<=sizeLine/\n=y.length:=e
  subst e'
  exact len_str (by omega) ⟨.int _,H,I.tok _,⟨_,rfl⟩,q⟩
 | byt y=>
  obtain ⟨t,rfl⟩:=rx
  obtain ⟨hy,e'⟩:y.size<=sizeLine/\n=y.size:=e
  subst e'
  exact W.len_bytes (by omega) ⟨.int _,H,I.tok _,⟨_,rfl⟩,q⟩
 | ref p=>
  cases rx
  have e':(∃ xs,eO X.K H p xs/\n=xs.length)\/∃ xs,d6 X.K H p xs/\n=xs.length:=e
  rcases e' with ⟨xs,hx,e'⟩ | ⟨xs,hx,e'⟩
  ·subst e'
   obtain ⟨its,r',pl,hz⟩:=I.list hx
   have hlen:=r'.length
   exact Calls.call_len_list pl.isList (by simp only [HR];omega) ⟨.int xs.length,H,I.tok _,⟨_,by simp only [HR];rw [hlen]⟩,q⟩
  ·subst e'
   obtain ⟨its,r',pl,hz⟩:=I.tuple hx
   have hlen:=r'.length
   exact len_tuple pl (by simp only [HR];omega) ⟨.int xs.length,H,I.tok _,⟨_,by simp only [HR];rw [hlen]⟩,q⟩
 | _=>exact (show False from e).elim
end
end L2
namespace L2
open PySem PySem.Spec PyProof.Rows
structure GY (h:Heap) (x dx C:Addr) (mA:Str->Option Value):Prop where
 obj:h.get? x=some (W.instObj C dx)
 ns:h.Ns1 dx mA
 ne:dx≠x
section
variable {prog:Program}{w:World}{A:Around}{E:Value->Shared->Prop}{s:Shared}{K:W.Frag}{x dx C f:Addr}{mA:Str->Option Value}{name:Str}{v:Value}
end
section
variable {P:Program}{w:World}{H H':Hp}{h h':Heap}{a C dx:Addr}{fs fs':List (Str × V)}
end
structure GX (K:W.Frag) (C:Addr):Prop where
 pg:W.plainGet K C Str.empty=true
 hd:W.hasDictIn K C=true
 po:W.plainOver K C=true
 sa:W.findIn K (.ref C) "__setattr__" = some (some (.builtin "object.__setattr__"))
structure G1 (K:W.Frag) (C:Addr) (f:Str) (v:V) (u:Value):Prop where
 at_:W.findIn K (.ref C) f=some (some u)
 rel:bH v u
 get:W.specialIn K u "__get__" = some none
 cp:W.copiedNames.contains f=false
structure GZ (K:W.Frag) (C:Addr) (m:Str) (f:Addr):Prop where
 at_:W.findIn K (.ref C) m=some (some (.ref f))
 fn:W.isFn K (.ref f)=true
 kp:W.keepIn K (.ref f)=true
section
variable {X:Cx}{pins:List (Addr × Obj)}{σ:St}{H:Hp}{s:Shared}{a C dx:Addr}{fs:List (Str × V)}{f:Str}{v:V}{A:Around}{E:Value->Shared->Prop}
end
section
variable {X:Cx}{o e value:Expr}{f:Str}{pos pos' tpos:Pos}{ta tv:TE}
end
section
variable {X:Cx}{pins:List (Addr × Obj)}{σ:St}{H:Hp}{s:Shared}{A:Around}{E:Value->Shared->Prop}{Q:Value->Shared->Prop}{c:Value}{b:Bool}
inductive mq (K:W.Frag) (H:Hp):V->Value->Prop where
 | non:mq K H .non (.type "NoneType")
 | bl (x:Bool):mq K H (.bl x) (.type "bool")
 | int (i:Int):mq K H (.int i) (.type "int")
 | str (x:Str):mq K H (.str x) (.type "str")
 | flt (x:UInt64):mq K H (.flt x) (.type "float")
 | lst {a:Addr}{xs:List V} (e:H a=some (.lst xs)):mq K H (.ref a) (.type "list")
 | frz {a:Addr}{o:Obj}{xs:List V} (e:H a=some (.frz o (.lst xs))):mq K H (.ref a) (.type "list")
 | tup {a:Addr}{xs:List V} (e:H a=some (.tup xs)):mq K H (.ref a) (.type "tuple")
 | dK {a:Addr}{kvs:List (pq × V)} (e:H a=some (.dK kvs)):mq K H (.ref a) (.type "dict")
 | dT {a:Addr}{kvs:List (List pq × V)} (e:H a=some (.dT kvs)):mq K H (.ref a) (.type "dict")
 | ins {a C dx:Addr}{fs:List (Str × V)} (e:H a=some (.ins C dx fs)) (cl:GX K C) (ha:W.findIn K (.ref C) "__class__" = some (some (.builtin "object.__class__")))
   (hn:W.specialIn K (.builtin "object.__class__") "__get__" = some (some (.builtin "getset_descriptor.__get__"))) (htk:W.takesIn K (.builtin "object.__class__")=some true)
   (hm:W.mroIn K C (.type "object")=some true):mq K H (.ref a) (.ref C)
end
end L2
namespace L2
open PySem PySem.Spec PyProof.Rows
structure eP (k:Nat) (A:Around):Prop where
 hd:A.handled=none
 dp:A.depth+3 * k+5<recursionLimit
 un:A.units+16 * k+200<cLine
 gd:A.guards=some []
theorem eP.mono {j k:Nat}{A:Around} (r:eP k A) (h:j<=k):eP j A:=⟨r.hd,by have:=r.dp;omega,by have:=r.un;omega,r.gd⟩
theorem eP.deeper {k:Nat}{A:Around} (r:eP (k+1) A) (env:Env):eP k (A.deeper env):=
 ⟨r.hd,by have:=r.dp;show A.depth+1+3 * k+5<_;omega,by have:=r.un;show A.units+3+16 * k+200<_;omega,r.gd⟩
theorem eP.depth {k:Nat}{A:Around} (r:eP k A):A.depth<recursionLimit:=by have:=r.dp;omega
theorem eP.units {k:Nat}{A:Around} (r:eP k A):A.units+64<cLine:=by have:=r.un;omega
def Gi:TA:=fun _ H Q=>Q [] H
def E8 (ta:TE) (tr:TA):TA:=fun σ H Q=>ta σ H fun x H1=>tr σ H1 fun xs H2=>Q (x::xs) H2
section
variable {X:Cx}{e:Expr}{es:List Expr}{te:TE}{t:TA}{pos:Pos}
theorem mJ:PA X [] Gi:=fun _ _ _ _ H Q I h=>Calls.spliced_nil ⟨[],H,I,.nil,h⟩
theorem gp (ha:PE X e te) (hr:PA X es t) (hs:starEach (e::es) X.env=(false,eval e X.env)::starEach es X.env:=by rfl):PA X (e::es) (E8 te t):=by
 intro pos pins s σ H Q I h
 rw [hs]
 show wpAny _ _ (spliced ((false,eval e X.env)::backTo pos (starEach es X.env))) _ _ s
 refine Calls.spliced_cons (dD (ha pins s σ H _ I h) fun u s1 ⟨x,H1,I1,r1,q1⟩=>?_)
 exact dD (hr pos pins s1 σ H1 _ I1 q1) fun us s2 ⟨xs,H2,I2,r2,q2⟩=>⟨x::xs,H2,I2,.cons r1 r2,q2⟩
def Ge (t:TA):TE:=fun σ H Q=>t σ H fun xs H1=>xs.length<=sizeLine/\∀ p,H1 p=none->Q (.ref p) (bT H1 p (.tup xs))
def Gj (t:TA):TE:=fun σ H Q=>t σ H fun xs H1=>xs.length<=sizeLine/\∀ p,H1 p=none->Q (.ref p) (bT H1 p (.lst xs))
theorem Dg {x1} (h:PA X es t):PE X (.Tuple es x1 pos) (Ge t):=by
 intro pins s σ H Q I hq
 refine wpAny_Tuple_spliced (dD (h pos pins s σ H _ I hq) fun us s1 ⟨xs,H1,I1,r,z,q⟩=>⟨by rw [<- r.length];exact z,?_⟩)
 have hf:H1 s1.heap.objs.size=none:=I1.hok.fresh (HI _)
 refine ⟨.ref s1.heap.objs.size,bT H1 s1.heap.objs.size (.tup xs),I1.laid (t':=s1.toks) (fun b u e=>HG _ e) (HI _) ?_,rfl,q _ hf⟩
 exact ⟨z,us,r,⟨_,HH _ rfl,rfl,_,rfl⟩⟩
theorem Dl (h:PA X es t):PE X (.List es pos) (Gj t):=by
 intro pins s σ H Q I hq
 refine wpAny_List_spliced (dD (h pos pins s σ H _ I hq) fun us s1 ⟨xs,H1,I1,r,z,q⟩=>⟨by rw [<- r.length];exact z,?_⟩)
 have hf:H1 s1.heap.objs.size=none:=I1.hok.fresh (HI _)
 refine ⟨.ref s1.heap.objs.size,bT H1 s1.heap.objs.size (.lst xs),I1.laid (t':=s1.toks) (fun b u e=>HG _ e) (HI _) ?_,rfl,q _ hf⟩
 exact ⟨z,us,0,r,HH _ rfl⟩
end
abbrev Sp:=List V->Hp->VK->XK->Prop
abbrev qq:=List Env->Hp->Shared->XK->Value->Shared->Prop
structure vf (P:Program) (w:World) (K:W.Frag) (mg:Str->Option Value) (base:Heap) (A:Around) (outer:List Env) (s:Shared) (H:Hp):Prop where
 frames:A.frames=some outer
 mod:Mod K mg base
 bs:∀ b o,base.get? b=some o->s.heap.get? b=some o/\H b=none
 bsz:base.objs.size<=s.heap.objs.size
 funs:s.heap.FunFrames base outer
 frf:∀ b∈lM outer,H b=none
 hok:kK P w H s.heap
 bare:AllBare s.gens
def CE (outer:List Env) (P:Program) (w:World) (H:Hp) (s:Shared) (Q:VK) (u:Value) (s':Shared):Prop:=
 ∃ v H',s'.os=s.os/\AllBare s'.gens/\Un (lM outer) [] H H' s.heap s'.heap/\kK P w H' s'.heap/\bH v u/\Q v H'
def CR (CX:qq) (outer:List Env) (P:Program) (w:World) (H:Hp) (s:Shared) (Q:VK) (E:XK) (r:Result) (s':Shared):Prop:=
 match r with
 | .ok (.ret u)=>CE outer P w H s Q u s'
 | .ok _=>False
 | .error e=>CX outer H s E e s'
structure mr (P:Program) (w:World) (K:W.Frag) (mg:Str->Option Value) (base:Heap) (CX:qq) (k:Nat) (f:Addr) (fd:FuncData) (ps:List Str) (sp:Sp):Prop where
 len:∀ vs H Q E,sp vs H Q E->vs.length=ps.length
 run:∀ (A:Around) (outer:List Env) (s:Shared) (H:Hp) (args:Args) (us:List Value) (vs:List V) (Q:VK) (E:XK),eP k A->vf P w K mg base A outer s H->BindsTo s fd args (ps.zip us)->aU vs us->sp vs H Q E ->
  codeAny (model P w) A (.call (.ref f) args) (CR CX outer P w H s Q E) s
section
variable {X:Cx}{pins:List (Addr × Obj)}{σ:St}{H:Hp}{s s':Shared}
theorem aI.env0 (I:aI X pins σ H s):vf X.prog X.w X.K X.mg X.base X.A X.stack s H:=
 ⟨I.ok.frames,I.ok.mod,I.bs,Hg I.ok.bsz I.sz,I.stack,I.stkFree,I.hok,I.bare⟩
theorem aI.after {Q:VK}{u:Value} (I:aI X pins σ H s) (h:CE X.stack X.prog X.w H s Q u s'):EP X pins σ Q u s':=by
 obtain ⟨v,H',os,bare,un,hok,r,q⟩:=h
 obtain ⟨hh,g,d,t,os'⟩:=s'
 obtain rfl:os'=s.os:=os
 exact ⟨v,H',I.call (h':=hh) (g':=g) (d':=d) (t':=t) (ch:=[]) un hok bare (fun b z=>absurd z (by simp)),r,q⟩
end
def BD (sp:Sp) (dvs:List V) (E:XK) (t:TA):TE:=fun σ H Q=>t σ H fun vs H1=>sp (vs++dvs) H1 Q E
def ff (K:W.Frag) (fd:FuncData) (ps:List Str) (ds:List Value):Prop:=
 ∀ (s:Shared) (us:List Value),K.In s.heap->(us++ds).length=ps.length->BindsTo s fd ⟨us,[]⟩ (ps.zip (us++ds))
theorem ff.all {K:W.Frag}{fd:FuncData}{ps:List Str} (h:∀ us:List Value,us.length=ps.length->bindArgs fd ⟨us,[]⟩=pure (ps.zip us)):ff K fd ps []:=fun s us _ hl=>by
 rw [HS] at hl ⊢
 exact .of_eq (h us hl)
def jT (CX:qq) (X:Cx) (E:XK):Prop:=∀ (pins:List (Addr × Obj)) (σ:St) (H:Hp) (s:Shared) (e:Value) (s':Shared),aI X pins σ H s->CX X.stack H s E e s'->X.xe e s'
section
variable {X:Cx}{CX:qq}{k:Nat}{f C:Addr}{fd:FuncData}{ps:List Str}{sp:Sp}{dvs:List V}{ds:List Value}{E:XK}{x m:Str}{p pos apos:Pos}{e o:Expr}{es:List Expr}{ta:TE}{t:TA}
theorem C0 {pins:List (Addr × Obj)}{σ:St}{H:Hp}{s:Shared}{Q:VK}{us:List Value}{vs:List V} (F:mr X.prog X.w X.K X.mg X.base CX k f fd ps sp) (hr:eP k X.A) (hb:ff X.K fd ps ds) (hd:aU dvs ds) (hx:jT CX X E)
  (I:aI X pins σ H s) (r:aU vs us) (h:sp (vs++dvs) H Q E):wpAny (model X.prog X.w) X.A (call (.ref f) us) (EP X pins σ Q) X.xe s:=by
 have r2:aU (vs++dvs) (us++ds):=r.append hd
 have hl:(us++ds).length=ps.length:=by rw [<- r2.length];exact F.len _ _ _ _ h
 refine wpAny_call (HU (F.run X.A X.stack s H ⟨us,[]⟩ (us++ds) (vs++dvs) Q E hr I.env0 (hb s us I.kIn hl) r2 h) fun r s' hq=>?_)
 cases r with
 | error e=>exact hx pins σ H s e s' I hq
 | ok fl=>
  cases fl with
  | ret u=>exact I.after hq
  | next=>exact False.elim hq
  | brk=>exact False.elim hq
  | cont=>exact False.elim hq
theorem pO (F:mr X.prog X.w X.K X.mg X.base CX k f fd ps sp) (hr:eP k X.A) (hg:Gl X x) (hm:X.mg x=some (.ref f)) (hk:W.keepIn X.K (.ref f)=true) (hb:ff X.K fd ps ds) (hd:aU dvs ds) (hx:jT CX X E)
  (ha:PA X (e::es) t) (hdb:(x == ("__debug__" : Str))=false:=by decide) (he:starEach (e::es) X.env=(false,eval e X.env)::starEach es X.env:=by rfl) (hpl:(backTo pos (starEach es X.env)).any (·.1)=false:=by rfl) :
  PE X (.Call (.Name x p) (e::es) [] pos) (BD sp dvs E t):=by
 intro pins s σ H Q I h
 refine HV (ke I hg hm ?_ hdb)
 refine W.callWith_K (h₀:=X.base) I.ok.mod.kin hk (dD (ha pos pins s σ H _ I h) fun us s1 ⟨vs,H1,I1,r,q⟩=>⟨I1.kIn,?_⟩) he hpl
 exact C0 F hr hb hd hx I1 r q
structure Mk (K:W.Frag) (C f:Addr):Prop where
 makes:W.makesIn K C=true
 init:W.findIn K (.ref C) "__init__" = some (some (.ref f))
 fn:W.isFn K (.ref f)=true
 kp:W.keepIn K (.ref C)=true
end
section
variable {X:Cx}{CX:qq}{k:Nat}{f C:Addr}{fd:FuncData}{ps ks:List Str}{sp:Sp}{E:XK}{x m:Str}{p pos apos kpos:Pos}{e o:Expr}{es:List Expr}{kws:List Keyword}{te ta:TE}{t tk:TA}{nm:Option Str}
structure GG (K:W.Frag) (fd:FuncData) (ps ks:List Str) (g:List Value->List Value->List Value) (gV:List V->List V->List V):Prop where
 to:∀ (s:Shared) (us ws:List Value),K.In s.heap->(g us ws).length=ps.length->BindsTo s fd ⟨us,ks.zip ws⟩ (ps.zip (g us ws))
 rel:∀ {vs:List V}{us:List Value}{zs:List V}{ws:List Value},aU vs us->aU zs ws->aU (gV vs zs) (g us ws)
variable {g:List Value->List Value->List Value}{gV:List V->List V->List V}
end
structure aW (N P:List Str) (sc:Scope):Prop where
 kind:sc.kind=.function
 co:sc.isCoroutine=false
 gen:sc.isGenerator=false
 nd:N.Nodup
 pre:N.take P.length=P
 par:∀ x∈P,sc.names.lookup x=some .local\/sc.names.lookup x=some .cell
 nofree:∀ y∈sc.names,y.2≠.free
theorem oX {kindOf:Str->Option NameKind}{x:Str}:∀ {binds:List (Str × Value)}{m:Str->Option Value},(∀ v,(x,v) ∉ binds)->bindL kindOf binds m x=m x
 | [],_,_=>rfl
 | (n,v)::r,m,h=>by
  unfold bindL
  rw [oX fun w hw=>h w (Hk _ hw)]
  split
  ·have : x ≠ n := by rintro rfl; exact h v Hj
   simp [this]
  ·rfl
theorem oY {kindOf:Str->Option NameKind}{x:Str}:∀ {binds:List (Str × Value)}{m:Str->Option Value},(∀ v,(x,v) ∉ binds)->bindC kindOf binds m x=m x
 | [],_,_=>rfl
 | (n,v)::r,m,h=>by
  unfold bindC
  rw [oY fun w hw=>h w (Hk _ hw)]
  split
  ·rfl
  ·have : x ≠ n := by rintro rfl; exact h v Hj
   simp [this]
theorem lh {kindOf:Str->Option NameKind}{x:Str}{v:Value}:∀ {P:List Str}{vs:List Value}{i:Nat}{m:Str->Option Value},P.Nodup->P[i]?=some x->vs[i]?=some v->kindOf x=some .local ->
  bindL kindOf (P.zip vs) m x=some v
 | [],_,_,_,_,h,_,_=>by simp at h
 | _::_,[],_,_,_,_,h,_=>by simp at h
 | p::P,w::vs,0,m,nd,h1,h2,hk=>by
  simp at h1 h2;subst h1;subst h2
  show bindL kindOf ((p,w)::P.zip vs) m p=_
  unfold bindL
  rw [oX fun v hv=>(HW.mp nd).1 (HX hv).1,G6 hk]
  simp
 | p::P,w::vs,i+1,m,nd,h1,h2,hk=>by
  show bindL kindOf ((p,w)::P.zip vs) m x=_
  unfold bindL
  exact lh (i:=i) (HW.mp nd).2 (by simpa using h1) (by simpa using h2) hk
theorem lj {kindOf:Str->Option NameKind}{x:Str}{v:Value}:∀ {P:List Str}{vs:List Value}{i:Nat}{m:Str->Option Value},P.Nodup->P[i]?=some x->vs[i]?=some v->kindOf x≠some .local ->
  bindC kindOf (P.zip vs) m x=some v
 | [],_,_,_,_,h,_,_=>by simp at h
 | _::_,[],_,_,_,_,h,_=>by simp at h
 | p::P,w::vs,0,m,nd,h1,h2,hk=>by
  simp at h1 h2;subst h1;subst h2
  show bindC kindOf ((p,w)::P.zip vs) m p=_
  unfold bindC
  rw [oY fun v hv=>(HW.mp nd).1 (HX hv).1,G7 hk]
  simp
 | p::P,w::vs,i+1,m,nd,h1,h2,hk=>by
  show bindC kindOf ((p,w)::P.zip vs) m x=_
  unfold bindC
  exact lj (i:=i) (HW.mp nd).2 (by simpa using h1) (by simpa using h2) hk
def start (N:List Str) (vs:List V):St:=vs.map some++List.replicate (N.length - vs.length) none
def mn (CX:qq) (P:Program) (w:World) (K:W.Frag) (mg:Str->Option Value) (base:Heap) (N:List Str) (qual:Str) (scope:Scope) (f:Addr) (cd:Value) (A:Around) (outer:List Env) (s:Shared) (H:Hp) (E:XK):Cx where
 prog:=P
 w:=w
 K:=K
 mg:=mg
 base:=base
 A:=A.deeper (envOfC qual scope s.heap.objs.size f cd)
 N:=N
 s₀:=s
 H₀:=H
 env:=envOfC qual scope s.heap.objs.size f cd
 outer:=outer
 stack:=envOfC qual scope s.heap.objs.size f cd::outer
 ex:=[]
 calm:=true
 fn:=fun _=>true
 pn:=[]
 xe:=fun e s'=>wpAny (model P w) (A.deeper (envOfC qual scope s.heap.objs.size f cd)) (leaving (envOfC qual scope s.heap.objs.size f cd) e) (fun _ s''=>CX outer H s E e s'') (fun e' s''=>CX outer H s E e' s'') s'
theorem kr {sc:Scope}{n:Nat}{x:Str} (h:sc.names.lookup x=some .cell):∃ c,(cellsFrom n sc.names []).lookup x=some c:=by
 have q:=W.cellsFrom_some sc.names n [] (.inl h)
 exact HY.mp q
theorem vW {CX:qq}{P:Program}{w:World}{K:W.Frag}{mg:Str->Option Value}{base:Heap}{N ps:List Str}{qual:Str}{scope:Scope}{f:Addr}{cd:Value}{A:Around}{outer:List Env}{s s1:Shared}{H:Hp}{E:XK}{us:List Value}{vs:List V}
  (S:aW N ps scope) (hd:A.handled=none) (e0:vf P w K mg base A outer s H) (hl:vs.length=ps.length) (r:aU vs us)
  (x:InCallC s s.heap.objs.size (bindL (envOfC qual scope s.heap.objs.size f cd).kindOf (ps.zip us) fun _=>none) (cellsFrom (s.heap.objs.size+1) scope.names []) (bindC (envOfC qual scope s.heap.objs.size f cd).kindOf (ps.zip us) fun _=>none) s1) :
  aI (mn CX P w K mg base N qual scope f cd A outer s H E) [] (start N vs) H s1:=by
 have hpl:ps.length<=N.length:=by have:=Hx List.length S.pre;rw [HZ] at this;omega
 obtain ⟨h1,tk,rfl,hk⟩:=x.done
 have noA:∀ b:Addr,b ∉ (mn CX P w K mg base N qual scope f cd A outer s H E).ex:=fun b z=>absurd (show b∈([]:List Addr) from z) (by simp)
 refine ⟨⟨e0.mod,S.kind,rfl,rfl,HI _,fun y z c h1 h2=>?_,fun y hy=>?_,fun y c _ h=>?_,fun _=>hd,Around.frames_deeper e0.frames,.inr ⟨rfl,rfl⟩,fun b z=>absurd z (noA b),e0.bs,e0.bsz,fun b _ _=>noA b,fun b z=>absurd z (noA b),e0.funs,e0.frf⟩,
  rfl,e0.bare,Un.kept hk,⟨_,x.toInCall.ns,fun i y v h1 h2 h3=>?_⟩,fun y c h=>⟨_,x.cell y c h⟩,e0.hok.fresh (HI _),fun y c h=>?_,fun p hp=>absurd (show p∈([]:List (Addr × Obj)) from hp) (by simp),e0.hok.kept hk,?_⟩
 ·exact name_of_addr x.apart (Ib h1) (Ib h2)
 ·have hy : scope.names.lookup y = some .cell \/ scope.names.lookup y = some .free := hy
  rcases hy with hy | hy
  ·exact kr hy
  ·exact absurd rfl (S.nofree _ (Ib hy))
 ·exact Hh (x.above y c (Ib h))
 ·have hi:i<vs.length:=by
   unfold start at h2
   by_cases hi:i<vs.length
   ·exact hi
   ·rw [Ic (by simpa using hi)] at h2
    rw [Ie] at h2
    split at h2 <;> cases h2
  have ha:vs[i]?=some v:=by
   unfold start at h2
   rw [Ig (by simpa using hi),Ih] at h2
   cases e:vs[i]? with
   | none=>rw [e] at h2;cases h2
   | some a=>rw [e] at h2;cases h2;rfl
  obtain ⟨u,hu,rv⟩:=r.get ha
  have hp:ps[i]?=some y:=by
   rw [<- S.pre,Ii (by omega)];exact h1
  have ndP:ps.Nodup:=by rw [<- S.pre];exact S.nd.sublist (List.take_sublist _ _)
  refine ⟨u,rv,?_⟩
  rcases S.par y (Ij hp) with k | k
  ·exact .inl ⟨k,lh ndP hp hu k⟩
  ·obtain ⟨c, e⟩ := kr (n := s.heap.objs.size + 1) k
   refine .inr ⟨.inl k,c,e,?_⟩
   have q:=x.cell y c e
   rw [lj ndP hp hu (by show scope.names.lookup y≠_;rw [k];decide)] at q
   exact q
 ·exact e0.hok.fresh (Hh (x.above y c (Ib h)))
 ·unfold start
  show _=N.length
  rw [Ik,Il,List.length_replicate]
  omega
theorem BR {CX:qq}{P:Program}{w:World}{K:W.Frag}{mg:Str->Option Value}{base:Heap}{k:Nat}{f:Addr}{name qual:Str}{params:Arguments}{body:List Stmt}{scope:Scope}{dV kV doc pm cdv ct oc:Value}{an od:Option Addr}
  {osl:Array (Option Value)}{N ps:List Str}{sp:Sp} (lk:K.lookup f=some ⟨oc,od,.func (W.fnOf name qual params body scope dV kV doc pm an cdv ct),osl⟩) (hcd:W.codeIn K cdv qual=true) (S:aW N ps scope)
  (len:∀ vs H Q E,sp vs H Q E->vs.length=ps.length)
  (hbody : ∀ (A : Around) (outer : List Env) (s : Shared) (H : Hp) (vs : List V) (Q : VK) (E : XK), eP k (A.deeper (envOfC qual scope s.heap.objs.size f cdv)) -> sp vs H Q E ->
   ∃ t,hZ (mn CX P w K mg base N qual scope f cdv A outer s H E) body t/\t { nx:=fun _ H'=>Q .non H',rt:=Q } (start N vs) H) :
  mr P w K mg base CX (k+1) f (W.fnOf name qual params body scope dV kV doc pm an cdv ct) ps sp:=by
 refine ⟨len,fun A outer s H args us vs Q E hr e0 hb r hsp=>?_⟩
 have hl:=len _ _ _ _ hsp
 have KX:K.In s.heap:=e0.mod.kin.keeps fun b o e=>(e0.bs b o e).1
 have lim:s.heap.NoLimit:=e0.mod.nolimit.keeps fun b o e=>(e0.bs b o e).1
 have hkind:∀ y∈ps.zip us,scope.names.lookup y.1=some .local\/(scope.names.lookup y.1=some .cell/\((cellsFrom (s.heap.objs.size+1) scope.names []).lookup y.1).isSome=true):=fun ⟨n,v⟩ hy=>by
  rcases S.par n (HX hy).1 with q | q
  ·exact .inl q
  ·exact .inr ⟨q,W.cellsFrom_some _ _ _ (.inl q)⟩
 refine codeAny_call_function hr.depth (KX _ _ lk) rfl S.co S.gen rfl (W.codeRec_of KX hcd) (hb _ _ _ _ ?_)
 refine wpAny_newFunctionEnv_cells S.kind hkind fun env he s1 x=>?_
 subst he
 refine ⟨lim.keeps x.toInCall.keep,codeAny_func ?_⟩
 obtain ⟨t,ht,hq⟩:=hbody A outer s H vs Q E (hr.deeper _) hsp
 have I:aI (mn CX P w K mg base N qual scope f cdv A outer s H E) [] (start N vs) H s1:=vW S hr.hd e0 hl r x
 refine Hu (ht [] s1 (start N vs) H _ I hq) (fun fl s' hs=>?_) fun e s' hs=>hs
 have fin:∀ {σ':St}{H':Hp}{v:V}{u:Value},aI (mn CX P w K mg base N qual scope f cdv A outer s H E) [] σ' H' s'->bH v u->Q v H'->CE outer P w H s Q u s':=
  fun {σ' H' v u} J rv q=>⟨v,H',J.os,J.bare,J.base,J.hok,rv,q⟩
 cases fl with
 | ret u=>
  obtain ⟨v,σ',H',J,rv,q⟩:=hs
  exact fin J rv q
 | next=>
  obtain ⟨σ',H',J,q⟩:=hs
  exact fin (v:=V.non) (u:=Value.none) J rfl q
 | brk=>
  obtain ⟨_,_,_,q⟩:=hs
  exact False.elim q
 | cont=>
  obtain ⟨_,_,_,q⟩:=hs
  exact False.elim q
end L2
namespace L2
open PySem PySem.Spec PyProof.Rows
section
variable {X:Cx}{x:Str}{p pos:Pos}{e:Expr}{es:List Expr}{t:TA}{id T:String}{r:List V->Hp->VK->Prop}
def GH (r:List V->Hp->VK->Prop) (t:TA):TE:=fun σ H Q=>t σ H fun vs H1=>r vs H1 Q
theorem kj (hc:cj X (.builtin id) r) (hg:Gl X x) (hm:X.mg x=none) (hv:bootBuiltins x=some (.builtin id)) (ha:PA X (e::es) t) (hn:x ≠ "__name__" := by decide) (hdb:(x == ("__debug__" : Str))=false:=by decide)
  (he:starEach (e::es) X.env=(false,eval e X.env)::starEach es X.env:=by rfl) (hpl:(backTo pos (starEach es X.env)).any (·.1)=false:=by rfl):PE X (.Call (.Name x p) (e::es) [] pos) (GH r t):=by
 intro pins s σ H Q I h
 refine HV (jR I hg hm hv ?_ hn hdb)
 exact PyProof.Rows.callWith_builtin1 (dD (ha pos pins s σ H _ I h) fun us s1 ⟨vs,H1,I1,r1,q1⟩=>hc pins s1 σ H1 vs us Q I1 r1 q1) he hpl
theorem oC (hc:cj X (.type T) r) (hg:Gl X x) (hm:X.mg x=none) (hv:bootBuiltins x=some (.type T)) (ha:PA X (e::es) t) (hn:x ≠ "__name__" := by decide) (hdb:(x == ("__debug__" : Str))=false:=by decide)
  (he:starEach (e::es) X.env=(false,eval e X.env)::starEach es X.env:=by rfl) (hpl:(backTo pos (starEach es X.env)).any (·.1)=false:=by rfl):PE X (.Call (.Name x p) (e::es) [] pos) (GH r t):=by
 intro pins s σ H Q I h
 refine HV (jR I hg hm hv ?_ hn hdb)
 exact HJ (dD (ha pos pins s σ H _ I h) fun us s1 ⟨vs,H1,I1,r1,q1⟩=>hc pins s1 σ H1 vs us Q I1 r1 q1) he hpl
end
end L2
namespace HT
open PySem PyProof.Rows
section
open PySem.SeqAt
open PySem.AutoSeq1 (wpAny_loadPart')
open PySem.MeetsSeq PySem.MeetsSeq2 PySem.MeetsSeq3
end
section
variable {prog:Program}{w:World}{A:Around}{E:Value->Shared->Prop}{s:Shared}
theorem cat_tup {t b:Addr}{vs ws:List Value}{Q:Value->Shared->Prop} (ht:IsTup s.heap t vs.toArray) (hb:IsTup s.heap b ws.toArray) (hv:vs≠[])
  (h1:ws=[]->Q (.ref t) s) (h2:ws≠[]->Q (.ref s.heap.objs.size) { s with heap:=s.heap.push { cls:=.type "tuple",data:=.seq (vs++ws).toArray } })
  (hsz:vs.length+ws.length<=sizeLine):wpAny (model prog w) A (binaryOp .Add (.ref t) (.ref b)) Q E s:=by
 obtain ⟨⟨cls,dd,data,sl⟩,ho,hc,n,hd⟩:=id ht
 obtain ⟨⟨cls2,dd2,data2,sl2⟩,ho2,hc2,n2,hd2⟩:=id hb
 simp only at hc hd hc2 hd2
 subst hc hd hc2 hd2
 have e:vs.toArray++ws.toArray=(vs++ws).toArray:=by simp
 by_cases hw:ws=[]
 ·exact concat_meets ⟨_,ho,rfl⟩ ⟨_,ho2,rfl⟩ Im seq_tuple_add Io Ip (Iq _ _)
   (tuple_addW1 t b vs.toArray ws.toArray n n2 dd dd2 sl sl2 (by simpa using hv) (by simp [hw])) ⟨ho,ho2,h1 hw⟩
 ·refine concat_meets ⟨_,ho,rfl⟩ ⟨_,ho2,rfl⟩ Im seq_tuple_add Io Ip (Iq _ _)
   (tuple_addW2 t b vs.toArray ws.toArray n n2 dd dd2 sl sl2 (by simpa using hv) (by simpa using hw) (by rw [HR,HR];exact hsz)) ⟨ho,ho2,?_⟩
  rw [e]
  exact h2 hw
def sIx (n d:Nat):Option Int->Nat
 | none=>d
 | some v=>if v<0 then (v+(n:Int)).toNat else min v.toNat n
theorem sIx_none (n d:Nat):sIx n d none=d:=rfl
theorem sIx_nat (n d k:Nat):sIx n d (some (k:Int))=min k n:=by
 show (if (k:Int)<0 then ((k:Int)+(n:Int)).toNat else min (k:Int).toNat n)=min k n
 rw [G7 (by omega),Ir]
theorem CZ (n d:Nat) (hd:d<=n) (o:Option Int):sIx n d o<=n:=by
 cases o with
 | none=>exact hd
 | some v=>
  show (if v<0 then (v+(n:Int)).toNat else min v.toNat n)<=n
  by_cases hv:v<0
  ·rw [G6 hv];omega
  ·rw [G7 hv];exact Nat.min_le_right _ _
theorem uY (v:Int) (n d:Nat):(if v<0 then max (v+(n:Int)) 0 else min v (n:Int))=((sIx n d (some v):Nat):Int):=by
 show (if v<0 then max (v+(n:Int)) 0 else min v (n:Int))=(((if v<0 then (v+(n:Int)).toNat else min v.toNat n):Nat):Int)
 by_cases hv:v<0
 ·simp only [G6 hv];omega
 ·simp only [G7 hv];omega
theorem ud (lo hi:Option Int) (n:Nat):Builtin.Slice.sliceAdjust lo hi 1 (n:Int)=(((sIx n 0 lo:Nat):Int),((sIx n n hi:Nat):Int)):=by
 have h1:¬ ((1:Int)<0):=by omega
 unfold Builtin.Slice.sliceAdjust
 simp only [h1,Iu]
 refine Prod.ext ?_ ?_
 ·cases lo with
  | none=>rfl
  | some v=>exact uY v n 0
 ·cases hi with
  | none=>rfl
  | some v=>exact uY v n n
theorem tI (i j:Nat):Builtin.Slice.slicePlaces (i:Int) (j:Int) 1=j - i:=by
 unfold Builtin.Slice.slicePlaces
 have h1:(1:Int) > 0:=by omega
 simp only [h1,Iv,Int.ediv_one]
 split <;> omega
theorem ni {v:Value}{o:Option Int}{Q:Option Int->Shared->Prop} (p:IsPart v o) (h:Q o s):wpAny (model prog w) A (Builtin.Slice.slicePartIndex v) Q E s:=by
 cases p with
 | none=>exact slicePart_none h
 | int i t=>exact slicePart_int h
theorem sliceApplied_gen {sl:Addr}{vl vu:Value}{lo hi:Option Int}{n:Nat}{Q:Int × Int × Nat->Shared->Prop} (hs:s.heap.IsSliceOf sl vl vu .none) (pl:IsPart vl lo) (pu:IsPart vu hi)
  (h:Q (((sIx n 0 lo:Nat):Int),1,sIx n n hi - sIx n 0 lo) s):wpAny (model prog w) A (Builtin.Slice.sliceApplied (.ref sl) (pure (n:Int))) Q E s:=by
 obtain ⟨os,hos,hcs,hds⟩:=id hs
 unfold Builtin.Slice.sliceApplied Builtin.Slice.sliceFields
 refine HA (HA (Iw hos hds (x:=vl) rfl (HA (Iw hos hds (x:=vu) rfl (HA (Iw hos hds (x:=.none) rfl (HE ?_)))))))
 refine HA (slicePart_none ?_)
 show wpAny _ _ (if ((1:Int) == 0)=true then _ else _) _ _ s
 rw [G7 (by decide)]
 refine HA (ni pl (HA (ni pu (HA (HE ?_)))))
 show wpAny _ _ (match Builtin.Slice.sliceAdjust lo hi 1 (n:Int) with | (lo,hi)=>pure (lo,(1:Int),Builtin.Slice.slicePlaces lo hi 1)) _ _ s
 rw [ud lo hi n]
 show wpAny _ _ (pure (((sIx n 0 lo:Nat):Int),(1:Int),Builtin.Slice.slicePlaces ((sIx n 0 lo:Nat):Int) ((sIx n n hi:Nat):Int) 1)) _ _ s
 rw [tI]
 exact HE h
theorem yA (xs:Array Value) (i k:Nat):((List.range k).filterMap fun (m:Nat)=>xs[((i:Int)+(m:Int) * 1).toNat]?).toArray=((xs.toList.drop i).take k).toArray:=by
 have e:(fun (m:Nat)=>xs[((i:Int)+(m:Int) * 1).toNat]?)=fun m=>xs[i+m]?:=by
  funext m
  have:((i:Int)+(m:Int) * 1).toNat=i+m:=by omega
  rw [this]
 rw [e]
 have:=pick_run xs i k
 rw [List.filterMap_map] at this
 have e2:((fun x=>xs[x]?) ∘ fun x=>i+x)=fun m=>xs[i+m]?:=rfl
 rw [e2] at this
 rw [this]
theorem getItem_tuple_cut {t sl:Addr}{items:Array Value}{vl vu:Value}{lo hi:Option Int}{Q:Value->Shared->Prop} (ht:IsTup s.heap t items) (hs:s.heap.IsSliceOf sl vl vu .none) (pl:IsPart vl lo) (pu:IsPart vu hi)
  (hw:¬ (sIx items.size 0 lo=0/\sIx items.size items.size hi=items.size))
  (h:Q (.ref s.heap.objs.size) { s with heap:=s.heap.push { cls:=.type "tuple",data:=.seq ((items.toList.drop (sIx items.size 0 lo)).take (sIx items.size items.size hi - sIx items.size 0 lo)).toArray } })
  (hsz:items.size<=sizeLine):wpAny (model prog w) A (getItem (.ref t) (.ref sl)) Q E s:=by
 have htake:sizeOk (.seq ((items.toList.drop (sIx items.size 0 lo)).take (sIx items.size items.size hi - sIx items.size 0 lo)).toArray):=by
  show ((items.toList.drop (sIx items.size 0 lo)).take (sIx items.size items.size hi - sIx items.size 0 lo)).toArray.size<=sizeLine
  rw [HR,HZ,Iy,Hw]
  omega
 have hj:sIx items.size items.size hi<=items.size:=CZ _ _ (HI _) hi
 obtain ⟨os,hos,hcs,hds⟩:=id hs
 have hTs:s.TypeIs (.ref sl) "slice" := ⟨os,hos,hcs⟩
 unfold getItem
 try with_reducible refine HB ?_
 first | refine HA (HE ?_) | skip
 refine HA (wpAny_sequenceKey ht.typeIs (by decide) ?_)
 refine HA (Iz (name:=Str.ofString "__getitem__") ht.typeIs IA
  (IC IA ht.typeIs entry_tuple_getitem ?_ (args_tuple_getitem _ _)))
 show wpAny _ _ (Builtin.Tuple.tupleItemsOf (.ref t) >>= _) _ _ s
 refine HA (tupleItemsOf_ ht ?_)
 refine HA (ID hTs ?_)
 rw [G6 (by decide)]
 refine HA (sliceApplied_gen hs pl pu ?_)
 have hno:¬ ((((sIx items.size 0 lo:Nat):Int) == 0 && (1:Int) == 1 && (sIx items.size items.size hi - sIx items.size 0 lo) == items.size)=true):=by
  intro q
  rw [IE,IE] at q
  have q1:((sIx items.size 0 lo:Nat):Int)=0:=eq_of_beq q.1.1
  have q2:sIx items.size items.size hi - sIx items.size 0 lo=items.size:=eq_of_beq q.2
  exact hw ⟨by omega,by omega⟩
 show wpAny _ _ (if (((sIx items.size 0 lo:Nat):Int) == 0 && (1:Int) == 1 && (sIx items.size items.size hi - sIx items.size 0 lo) == items.size)=true then _ else _) _ _ s
 rw [G7 hno,yA]
 first
  | exact HA (m:=Builtin.Tuple.tupleExact _) (IF (HE ⟨_,rfl,HE h⟩) htake)
  | exact HA (m:=Builtin.Tuple.tupleExact _) (IF (HA (HE (HE ⟨_,rfl,HE h⟩))) htake)
  | exact HA (HA (m:=Builtin.Tuple.tupleExact _) (IF (HE (HE ⟨_,rfl,HE h⟩)) htake))
  | exact HA (HA (m:=Builtin.Tuple.tupleExact _) (IF (HE ⟨_,rfl,HE h⟩) htake))
end
end HT
namespace L2
open PySem PySem.Spec PyProof.Rows
abbrev TO:=St->Hp->(Option Int->Hp->Prop)->Prop
def PO (X:Cx) (e:Option Expr) (t:TO):Prop:=
 ∀ (pins:List (Addr × Obj)) (s:Shared) (σ:St) (H:Hp) (Q:Option Int->Hp->Prop),aI X pins σ H s->t σ H Q ->
  wpAny (model X.prog X.w) X.A (evalPart e X.env) (fun u s'=>∃ o H',aI X pins σ H' s'/\IsPart u o/\Q o H') X.xe s
def zV:TO:=fun _ H Q=>Q none H
def E4 (t:TE):TO:=fun σ H Q=>t σ H fun x H1=>∃ i,x=.int i/\Q (some i) H1
theorem dN {ns:List Int}:∀ {us:List Value},aU (ns.map V.int) us->IntsAre us ns:=by
 induction ns with
 | nil=>intro us r;rw [IG] at r;cases r;exact .nil
 | cons n ns ih=>
  intro us r
  rw [IH] at r
  cases r with
  | cons r1 r2=>
   obtain ⟨t,e⟩:=r1
   subst e
   exact .cons n t (ih r2)
section
variable {X:Cx}{e:Expr}{te:TE}{lo hi:Option Expr}{tl th:TO}{pos p2:Pos}
theorem AG:PO X none zV:=by
 intro pins s σ H Q I h
 rw [evalPart_none]
 exact HE ⟨none,H,I,.none,h⟩
theorem AF (h:PE X e te):PO X (some e) (E4 te):=by
 intro pins s σ H Q I hw
 rw [evalPart_some]
 refine dD (h pins s σ H _ I hw) fun u s1 ⟨x,H1,I1,r1,q1⟩=>?_
 obtain ⟨i,rfl,q⟩:=q1
 obtain ⟨t,rfl⟩:=r1
 exact ⟨some i,H1,I1,.int i t,q⟩
def zv (X:Cx) (r:V->Option Int->Option Int->Hp->VK->Prop):Prop:=
 ∀ (pins:List (Addr × Obj)) (s:Shared) (σ:St) (H:Hp) (x:V) (v vl vu:Value) (lo hi:Option Int) (sl:Addr) (Q:VK),aI X pins σ H s->bH x v->s.heap.IsSliceOf sl vl vu .none->IsPart vl lo->IsPart vu hi->r x lo hi H Q ->
  ∃ T id,typeLookup (.type T) "__getitem__" = pure (some (.builtin id))/\s.TypeIs v T/\wpAny (model X.prog X.w) X.A (getItem v (.ref sl)) (EP X pins σ Q) X.xe s
theorem zv.or {r r':V->Option Int->Option Int->Hp->VK->Prop} (h:zv X r) (h':zv X r'):zv X (fun x lo hi H Q=>r x lo hi H Q\/r' x lo hi H Q):=by
 intro pins s σ H x v vl vu lo hi sl Q I rx hs pl pu q
 rcases q with q | q
 ·exact h pins s σ H x v vl vu lo hi sl Q I rx hs pl pu q
 ·exact h' pins s σ H x v vl vu lo hi sl Q I rx hs pl pu q
def GS (r:V->Option Int->Option Int->Hp->VK->Prop) (te:TE) (tl th:TO):TE:=fun σ H Q=>te σ H fun x H1=>tl σ H1 fun l H2=>th σ H2 fun u H3=>r x l u H3 Q
theorem yC {r:V->Option Int->Option Int->Hp->VK->Prop} (hr:zv X r) (he:PE X e te) (hl:PO X lo tl) (hu:PO X hi th):PE X (.Subscript e (.Slice lo hi none p2) pos) (GS r te tl th):=by
 intro pins s σ H Q I h
 refine Subscript_ (dD (he pins s σ H _ I h) fun v s1 ⟨x,H1,I1,r1,q1⟩=>?_)
 refine wpAny_Slice (dD (hl pins s1 σ H1 _ I1 q1) fun vl s2 ⟨l,H2,I2,pl,q2⟩=>dD (hu pins s2 σ H2 _ I2 q2) fun vu s3 ⟨u,H3,I3,pu,q3⟩=>?_)
 rw [evalPart_none]
 refine HE ?_
 have I4:aI X pins σ H3 { s3 with heap:=s3.heap.push { cls:=.type "slice",data:=.fields #[vl,vu,.none] } }:=I3.kept (t':=s3.toks) fun b ob q=>HG _ q
 obtain ⟨T,id,hT,ht,hg⟩:=hr pins { s3 with heap:=s3.heap.push { cls:=.type "slice",data:=.fields #[vl,vu,.none] } } σ H3 x v vl vu l u s3.heap.objs.size Q I4 r1 (Heap.IsSliceOf.new ..) pl pu q3
 show wpAny (model X.prog X.w) X.A (subscriptTail e (.Slice lo hi none p2) v (.ref s3.heap.objs.size)) (EP X pins σ Q) X.xe { s3 with heap:=s3.heap.push { cls:=.type "slice",data:=.fields #[vl,vu,.none] } }
 exact tail_any (ops:=[.ref s3.heap.objs.size,v]) ht hT hg (by with_unfolding_all rfl)
def qB (xs:List V) (lo hi:Option Int):List V:=(xs.drop (HT.sIx xs.length 0 lo)).take (HT.sIx xs.length xs.length hi - HT.sIx xs.length 0 lo)
theorem lG (xs:List V) (lo hi:Option Int):(qB xs lo hi).length<=xs.length:=by
 unfold qB
 rw [HZ,Iy]
 omega
def Ew (K:W.Frag):V->Option Int->Option Int->Hp->VK->Prop:=fun x lo hi H Q=>∃ a xs,x=.ref a/\d6 K H a xs /\
 ¬ (HT.sIx xs.length 0 lo=0/\HT.sIx xs.length xs.length hi=xs.length)/\∀ p,H p=none->Q (.ref p) (bT H p (.tup (qB xs lo hi)))
theorem CK:zv X (Ew X.K):=by
 intro pins s σ H x v vl vu lo hi sl Q I rx hs pl pu h
 obtain ⟨a,xs,rfl,hx,hw,q⟩:=h
 cases rx
 obtain ⟨its,r,ht,hz⟩:=I.tuple hx
 have hlen:its.toArray.size=xs.length:=by rw [HR];exact r.length.symm
 refine ⟨"tuple",_,IA.lookup,ht.typeIs,?_⟩
 refine HT.getItem_tuple_cut ht hs pl pu (by rw [hlen];exact hw) ?_ (by rw [hlen];exact hz)
 rw [hlen]
 refine ⟨.ref s.heap.objs.size,_,I.laid (t':=s.toks) (o:=.tup (qB xs lo hi)) (fun b ob q=>HG _ q) (HI _) ?_,rfl,q _ (I.hok.fresh (HI _))⟩
 exact ⟨Hg (lG xs lo hi) hz,_,(r.drop (HT.sIx xs.length 0 lo)).take (HT.sIx xs.length xs.length hi - HT.sIx xs.length 0 lo),IsTup.new _ _⟩
def Fk (K:W.Frag):R2:=fun x y H Q=>∃ a b xs ys,x=.ref a/\y=.ref b/\d6 K H a xs/\d6 K H b ys/\xs≠[]/\xs.length+ys.length<=sizeLine /\
 (ys=[]->Q (.ref a) H)/\(ys≠[]->∀ p,H p=none->Q (.ref p) (bT H p (.tup (xs++ys))))
theorem aU.nil_iff {xs:List V}{us:List Value} (r:aU xs us):us=[]↔xs=[]:=by
 cases r with
 | nil=>simp
 | cons _ _=>simp
theorem AV:iJ X (binaryOp .Add) (Fk X.K):=by
 intro pins s σ H x y v u Q I rx ry h
 obtain ⟨a,b,xs,ys,rfl,rfl,ha,hb,hx,hz,q1,q2⟩:=h
 cases rx
 cases ry
 obtain ⟨its,r1,p1,_⟩:=I.tuple ha
 obtain ⟨its2,r2,p2,_⟩:=I.tuple hb
 refine HT.cat_tup p1 p2 (fun z=>hx (r1.nil_iff.mp z)) (fun z=>⟨.ref a,H,I,rfl,q1 (r2.nil_iff.mp z)⟩) (fun z=>?_) (by rw [<- r1.length,<- r2.length];exact hz)
 refine ⟨.ref s.heap.objs.size,_,I.laid (t':=s.toks) (o:=.tup (xs++ys)) (fun b ob q=>HG _ q) (HI _) ?_,rfl,q2 (fun w=>z (r2.nil_iff.mpr w)) _ (I.hok.fresh (HI _))⟩
 exact ⟨by rw [Ik];exact hz,_,r1.append r2,IsTup.new _ _⟩
end
end L2
namespace L2
open PySem PySem.Spec PyProof.Rows
def sD (n:Nat) (i:Int):Option Nat:=if 0<=i then (if i<n then some i.toNat else none) else if -(n:Int)<=i then some (i+n).toNat else none
def atI {α:Type} (xs:List α) (i:Int):Option α:=(sD xs.length i).bind fun j=>xs[j]?
theorem pR {n:Nat}{i:Int}{j:Nat} (h:sD n i=some j):seqIndex? i n=some j/\j<n/\-(n:Int)<=i/\i<n:=by
 unfold sD at h
 by_cases h0:0<=i
 ·rw [G6 h0] at h
  by_cases h1:i<n
  ·rw [G6 h1] at h
   have e:i.toNat=j:=G8 h
   exact ⟨by rw [seqIndex_of h0 h1,e],by omega,by omega,h1⟩
  ·rw [G7 h1] at h;cases h
 ·rw [G7 h0] at h
  by_cases h1:-(n:Int)<=i
  ·rw [G6 h1] at h
   have e:(i+n).toNat=j:=G8 h
   exact ⟨by rw [seqIndex_neg (by omega) h1,e],by omega,h1,by omega⟩
  ·rw [G7 h1] at h;cases h
theorem pY {α:Type}{xs:List α}{i:Int}{v:α} (h:atI xs i=some v):∃ j,seqIndex? i xs.length=some j/\xs[j]?=some v/\j<xs.length/\-(xs.length:Int)<=i/\i<xs.length:=by
 unfold atI at h
 cases e:sD xs.length i with
 | none=>rw [e] at h;cases h
 | some j=>
  rw [e] at h
  obtain ⟨h1,h2,h3,h4⟩:=pR e
  exact ⟨j,h1,h,h2,h3,h4⟩
theorem pX {α:Type}{xs:List α}{j:Nat}{v:α} (h:xs[j]?=some v):atI xs (j:Int)=some v:=by
 have hj:j<xs.length:=(Hq.mp h).1
 have e:sD xs.length (j:Int)=some j:=by
  unfold sD
  rw [G6 (by omega),G6 (by omega)];simp
 unfold atI;rw [e];exact h
def pZ (b:Expr):Prop:=∀ o i,subscripted b false o i=operate [o,i] (getItem o i)
def zx (X:Cx) (r:R2):Prop:=
 ∀ (value slice:Expr) (pins:List (Addr × Obj)) (s:Shared) (σ:St) (H:Hp) (x y:V) (v u:Value) (Q:VK),aI X pins σ H s->bH x v->bH y u->r x y H Q ->
  subscripted slice false v u=operate [v,u] (getItem v u)->wpAny (model X.prog X.w) X.A (subscriptTail value slice v u) (EP X pins σ Q) X.xe s
def GN (X:Cx) (id:String) (r:V->List V->Hp->VK->Prop):Prop:=
 ∀ (pins:List (Addr × Obj)) (s:Shared) (σ:St) (H:Hp) (x:V) (xs:List V) (v:Value) (us:List Value) (Q:VK),aI X pins σ H s->bH x v->aU xs us->r x xs H Q ->
  wpAny (model X.prog X.w) X.A (call (.builtin id) (v::us)) (EP X pins σ Q) X.xe s
section
variable {X:Cx}{a b:Expr}{ta tb:TE}{pos:Pos}
theorem zx.or {r r':R2} (h:zx X r) (h':zx X r'):zx X (fun x y H Q=>r x y H Q\/r' x y H Q):=by
 intro value slice pins s σ H x y v u Q I rx ry q hs
 rcases q with q | q
 ·exact h value slice pins s σ H x y v u Q I rx ry q hs
 ·exact h' value slice pins s σ H x y v u Q I rx ry q hs
theorem Fq {r:R2} (hr:zx X r) (ha:PE X a ta) (hb:PE X b tb) (hs:pZ b):PE X (.Subscript a b pos) (FL r ta tb):=by
 intro pins s σ H Q I h
 exact Subscript_ (Cd ha hb I h fun v u s2 x y H2 I2 rx ry q=>hr a b pins s2 σ H2 x y v u Q I2 rx ry q (hs _ _))
def EC (K:W.Frag):R2:=fun x y H Q=>∃ p xs i v,x=.ref p/\y=.int i/\eO K H p xs/\atI xs i=some v/\Q v H
def EA (K:W.Frag):R2:=fun x y H Q=>∃ p xs i v,x=.ref p/\y=.int i/\d6 K H p xs/\atI xs i=some v/\Q v H
def EB:R2:=fun x y H Q=>∃ z i c,x=.str z/\y=.int i/\z.length<=sizeLine/\atI z.cps.toList i=some c/\Q (.str ⟨#[c]⟩) H
theorem Bf:zx X (EC X.K):=by
 intro value slice pins s σ H x y v u Q I rx ry h hs
 obtain ⟨p,xs,i,z,rfl,rfl,hq,he,q⟩:=h
 cases rx
 obtain ⟨t,rfl⟩:=ry
 obtain ⟨its,r,pl,hz⟩:=I.list hq
 obtain ⟨j,h1,h2,h3,h4,h5⟩:=pY he
 obtain ⟨w,ew,rw'⟩:=r.get h2
 have hl:=r.length
 have hn:=kR
 have fin:EP X pins σ Q w s:=⟨z,H,I,rw',q⟩
 by_cases h0:0<=i
 ·have hj:i.toNat=j:=by
   rw [seqIndex_of h0 h5] at h1
   exact G8 h1
  exact item_listR pl.isList h0 (by omega) (by rw [hj];simpa using ew) fin hs
 ·have hj:(i+(its.toArray.size:Int)).toNat=j:=by
   rw [seqIndex_neg (by omega) h4] at h1
   rw [HR,<- hl]
   exact G8 h1
  exact subscriptTail_builtinR (x:=w) pl.isList.typeIs slot_list_getitem.lookup
   (wpAny_getItem_list_neg (Q:=fun r s'=>r=w/\EP X pins σ Q r s') pl.isList (by omega) (by rw [HR] <;> omega) (by omega) (by rw [hj];simpa using ew) ⟨rfl,fin⟩) hs
theorem DV:zx X (EA X.K):=by
 intro value slice pins s σ H x y v u Q I rx ry h hs
 obtain ⟨p,xs,i,z,rfl,rfl,hq,he,q⟩:=h
 cases rx
 obtain ⟨t,rfl⟩:=ry
 obtain ⟨its,r,pl,hz⟩:=I.tuple hq
 obtain ⟨j,h1,h2,h3,h4,h5⟩:=pY he
 obtain ⟨w,ew,rw'⟩:=r.get h2
 have hl:=r.length
 have hn:=kR
 have fin:EP X pins σ Q w s:=⟨z,H,I,rw',q⟩
 exact subscriptTail_builtinR (x:=w) pl.typeIs slot_tuple_getitem.lookup
  (getItem_tuple (j:=j) (Q:=fun r s'=>r=w/\EP X pins σ Q r s') pl (by omega) (by omega) (by rw [HR,<- hl];exact h1) (by simpa using ew) ⟨rfl,fin⟩) hs
theorem DW:zx X EB:=by
 intro value slice pins s σ H x y v u Q I rx ry h hs
 obtain ⟨z,i,c,rfl,rfl,hz,he,q⟩:=h
 obtain ⟨t,rfl⟩:=rx
 obtain ⟨t',rfl⟩:=ry
 obtain ⟨j,h1,h2,h3,h4,h5⟩:=pY he
 have hl:z.cps.toList.length=z.length:=by simp [Str.length]
 rw [hl] at h1 h4 h5
 have hn:=kR
 exact tail_any (typeIs_str s z t) slot_str_getitem.lookup (getItem_str (c:=c) (by
  have e1:decide (i < -(2 ^ 63:Int))=false:=G3 (by omega)
  have e2:decide (i ≥ 2 ^ 63)=false:=G3 (by omega)
  rw [e1,e2,Bool.or_false]) (by rw [h1];simpa using h2) ⟨.str ⟨#[c]⟩,H,I.tok _,⟨_,rfl⟩,q⟩) hs
def GJ (K:W.Frag):R2:=fun x y H Q=>EC K x y H Q\/EA K x y H Q\/EB x y H Q
theorem DY:zx X (GJ X.K):=Bf.or (DV.or DW)
theorem tO (its:List Value) (n j:Nat) (u:Value):Obj.mapSeq (·.setIfInBounds j u) { cls:=.type "list",data:=.seq its.toArray n }={ cls:=.type "list",data:=.seq (its.set j u).toArray n }:=by
 simp [Obj.mapSeq]
theorem aI.lst {pins:List (Addr × Obj)}{σ:St}{H:Hp}{s:Shared}{p:Addr}{xs:List V} (I:aI X pins σ H s) (h:H p=some (.lst xs)) :
  ∃ (its:List Value) (n:Nat),aU xs its/\s.heap.get? p=some { cls:=.type "list",data:=.seq its.toArray n }/\xs.length<=sizeLine:=by
 obtain ⟨z,its,n,r,e⟩:=I.hok p _ h
 exact ⟨its,n,r,e,z⟩
theorem aI.lstUpd {pins:List (Addr × Obj)}{σ:St}{H:Hp}{s:Shared}{p:Addr}{xs ys:List V}{its its':List Value}{n n':Nat}{f:Obj->Obj} (I:aI X pins σ H s) (h:H p=some (.lst xs))
  (ho:s.heap.get? p=some { cls:=.type "list",data:=.seq its.toArray n }) (hf:f { cls:=.type "list",data:=.seq its.toArray n }={ cls:=.type "list",data:=.seq its'.toArray n' }) (r:aU ys its') (hz:ys.length<=sizeLine) (t:Nat) :
  aI X pins σ (bT H p (.lst ys)) { s with heap:=s.heap.update p f,toks:=t }:=by
 have e:(s.heap.update p f).get? p=some { cls:=.type "list",data:=.seq its'.toArray n' }:=by
  rw [II f ho (by rw [hf] <;> rfl),hf]
 refine I.write (x:=p) (e:=p) (by rw [h];trivial) (.inl rfl) (fun b u hb q=>(Heap.get?_update_other _ _ (Hm hb)).trans q) ⟨_,e⟩ ?_
 exact ⟨hz,its',n',r,e⟩
def BF:V->V->V->Hp->(Hp->Prop)->Prop:=fun o i v H Q=>∃ p xs k j,o=.ref p/\i=.int k/\H p=some (.lst xs)/\sD xs.length k=some j/\Q (bT H p (.lst (xs.set j v)))
theorem ye:EO X BF:=by
 intro pins s σ H o i v ov iv u Q I ro ri rv h
 obtain ⟨p,xs,k,j,rfl,rfl,hp,hj,q⟩:=h
 cases ro
 obtain ⟨t,rfl⟩:=ri
 obtain ⟨its,n,r,ho,hz⟩:=I.lst hp
 obtain ⟨h1,h2,h3,h4⟩:=pR hj
 have hl:=r.length
 have hn:=kR
 have I':aI X pins σ (bT H p (.lst (xs.set j v))) { s with heap:=s.heap.update p (Obj.mapSeq (·.setIfInBounds j u)) }:=
  I.lstUpd hp ho (tO its n j u) (r.set rv j) (by rw [List.length_set];exact hz) s.toks
 by_cases h0:0<=k
 ·have hk:k.toNat=j:=by
   rw [seqIndex_of h0 h4] at h1
   exact G8 h1
  exact W.ki_setAt ho h0 (by omega) (by rw [HR,<- hl];exact h4) (by rw [hk];exact ⟨_,I',q⟩)
 ·have hk:(k+(its.toArray.size:Int)).toNat=j:=by
   rw [seqIndex_neg (by omega) h3] at h1
   rw [HR,<- hl]
   exact G8 h1
  exact W.ki_setBack ho (by omega) (by rw [HR,<- hl];exact h3) (by omega) (by rw [hk];exact ⟨_,I',q⟩)
theorem p8 (lo hi:Option Int) (n:Nat):(sliceBounds lo hi none n).1=((HT.sIx n 0 lo:Nat):Int)/\(sliceBounds lo hi none n).2.1=((HT.sIx n n hi:Nat):Int)/\(sliceBounds lo hi none n).2.2=1:=by
 refine ⟨?_,?_,rfl⟩
 ·cases lo with
  | none=>simp [sliceBounds,HT.sIx]
  | some i=>
   simp only [sliceBounds,HT.sIx,Option.getD_none,show (1:Int) > 0 by decide,Iv]
   by_cases h:i<0
   ·simp only [h,Iv] <;> omega
   ·simp only [h,Iu] <;> omega
 ·cases hi with
  | none=>simp [sliceBounds,HT.sIx]
  | some i=>
   simp only [sliceBounds,HT.sIx,Option.getD_none,show (1:Int) > 0 by decide,Iv]
   by_cases h:i<0
   ·simp only [h,Iv] <;> omega
   ·simp only [h,Iu] <;> omega
theorem nP (its:List Value) (lo hi:Option Int):slicePick its.toArray lo hi none=((its.drop (HT.sIx its.length 0 lo)).take (HT.sIx its.length its.length hi - HT.sIx its.length 0 lo)).toArray:=by
 obtain ⟨h1,h2,h3⟩:=p8 lo hi its.toArray.size
 unfold slicePick
 rw [h1,h2,h3]
 simp only [sliceRange_one,pick_run,HR] <;> rfl
def Ex (K:W.Frag):V->Option Int->Option Int->Hp->VK->Prop:=fun x lo hi H Q=>∃ a xs,x=.ref a/\eO K H a xs/\∀ p,H p=none->Q (.ref p) (bT H p (.lst (qB xs lo hi)))
theorem Aj:zv X (Ex X.K):=by
 intro pins s σ H x v vl vu lo hi sl Q I rx hs pl pu h
 obtain ⟨a,xs,rfl,hx,q⟩:=h
 cases rx
 obtain ⟨its,r,ht,hz⟩:=I.list hx
 have hlen:=r.length
 refine ⟨"list",_,slot_list_getitem.lookup,ht.isList.typeIs,?_⟩
 refine wpAny_getItem_list_slice ht.isList hs pl pu .none (by simp) ?_ (by rw [HR] <;> omega)
 rw [nP,<- hlen]
 refine ⟨.ref s.heap.objs.size,_,I.laid (t':=s.toks) (o:=.lst (qB xs lo hi)) (fun b ob q=>HG _ q) (HI _) ?_,rfl,q _ (I.hok.fresh (HI _))⟩
 exact ⟨Hg (lG xs lo hi) hz,_,0,(r.drop (HT.sIx xs.length 0 lo)).take (HT.sIx xs.length xs.length hi - HT.sIx xs.length 0 lo),HH _ rfl⟩
def iP:V->Bool
 | .non=>true
 | .bl _=>true
 | .int _=>true
 | .str _=>true
 | _=>false
def ue:V->V->Bool
 | .non,.non=>true
 | .bl a,.bl b=>a == b
 | .bl a,.int b=>(if a then 1 else 0) == b
 | .int a,.bl b=>a == (if b then 1 else 0)
 | .int a,.int b=>a == b
 | .str a,.str b=>a == b
 | _,_=>false
theorem Ec {A:Around}{s:Shared}{y x:V}{u v:Value} (ry:bH y u) (rx:bH x v) (fy:iP y=true) (fx:iP x=true):SeqAt.EqAt A s u v (ue y x):=by
 cases y with
 | non=>
  cases ry
  cases x with
  | non=>cases rx;exact SeqAt.EqAt.same _
  | bl b=>cases rx;exact SeqAt.EqAt.none_bool b
  | int b=>obtain ⟨t,rfl⟩:=rx;exact SeqAt.EqAt.none_int b t
  | str b=>obtain ⟨t,rfl⟩:=rx;exact SeqAt.EqAt.none_str b t
  | _=>exact absurd (show false=true from fx) HP
 | bl a=>
  cases ry
  cases x with
  | non=>cases rx;exact SeqAt.EqAt.bool_none a
  | bl b=>cases rx;exact SeqAt.EqAt.bool_bool a b
  | int b=>obtain ⟨t,rfl⟩:=rx;exact SeqAt.EqAt.bool_int a b t
  | str b=>obtain ⟨t,rfl⟩:=rx;exact SeqAt.EqAt.bool_str a b t
  | _=>exact absurd (show false=true from fx) HP
 | int a=>
  obtain ⟨t',rfl⟩:=ry
  cases x with
  | non=>cases rx;exact SeqAt.EqAt.int_none a t'
  | bl b=>cases rx;exact SeqAt.EqAt.int_bool a t' b
  | int b=>obtain ⟨t,rfl⟩:=rx;exact SeqAt.EqAt.int_int a t' b t
  | str b=>obtain ⟨t,rfl⟩:=rx;exact SeqAt.EqAt.int_str a t' b t
  | _=>exact absurd (show false=true from fx) HP
 | str a=>
  obtain ⟨t',rfl⟩:=ry
  cases x with
  | non=>cases rx;exact SeqAt.EqAt.str_none a t'
  | bl b=>cases rx;exact SeqAt.EqAt.str_bool a t' b
  | int b=>obtain ⟨t,rfl⟩:=rx;exact SeqAt.EqAt.str_int a t' b t
  | str b=>obtain ⟨t,rfl⟩:=rx;exact SeqAt.EqAt.str_str a t' b t
  | _=>exact absurd (show false=true from fx) HP
 | _=>exact absurd (show false=true from fy) HP
def B2 (x:V) (u:Value):Bool:=match u with
 | .none=>ue .non x
 | .bool b=>ue (.bl b) x
 | .int i _=>ue (.int i) x
 | .str z _=>ue (.str z) x
 | _=>false
theorem sX {x y:V}{u:Value} (r:bH y u) (f:iP y=true):B2 x u=ue y x:=by
 cases y with
 | non=>cases r;rfl
 | bl b=>cases r;rfl
 | int i=>obtain ⟨t,rfl⟩:=r;rfl
 | str z=>obtain ⟨t,rfl⟩:=r;rfl
 | _=>exact absurd (show false=true from f) HP
theorem mY {A:Around}{s:Shared}{x:V}{v:Value} (rx:bH x v) (fx:iP x=true):∀ {xs:List V}{us:List Value},aU xs us->xs.all iP=true->∀ u∈us,SeqAt.EqAt A s u v (B2 x u)
 | _,_,.nil,_=>fun u hu=>by cases hu
 | y::xs,u::us,.cons r t,f=>fun u' hu=>by
  rw [IJ,IE] at f
  rcases Hl.mp hu with rfl | hu
  ·rw [sX r f.1];exact Ec r rx f.1 fx
  ·exact mY rx fx t f.2 u' hu
theorem cj.or {f:Value}{r r':List V->Hp->VK->Prop} (h:cj X f r) (h':cj X f r'):cj X f (fun xs H Q=>r xs H Q\/r' xs H Q):=by
 intro pins s σ H xs us Q I rs q
 rcases q with q | q
 ·exact h pins s σ H xs us Q I rs q
 ·exact h' pins s σ H xs us Q I rs q
theorem qj:cj X (.type "list") (fun xs H Q=>∃ p ys,xs=[.ref p]/\(eO X.K H p ys\/d6 X.K H p ys)/\∀ l,H l=none->Q (.ref l) (bT H l (.lst ys))):=by
 intro pins s σ H xs us Q I r h
 obtain ⟨p,ys,rfl,hq,q⟩:=h
 obtain ⟨u,rfl,rx⟩:=dY r
 cases rx
 have fin:∀ (its:List Value),aU ys its->ys.length<=sizeLine->∀ (h':Heap) (c':Nat),(∀ b o',s.heap.get? b=some o'->h'.get? b=some o') ->
   h'.get? s.heap.objs.size=some { cls:=.type "list",dict:=none,data:=.seq its.toArray c',slots:=#[] }->EP X pins σ Q (.ref s.heap.objs.size) { s with heap:=h' }:=fun its r' hz h' c' kp e=>
  ⟨.ref s.heap.objs.size,_,I.laid (t':=s.toks) kp (HI _) (show cW X.prog X.w _ h' _ (.lst ys) from ⟨hz,its,c',r',e⟩),rfl,q _ (I.hok.fresh (HI _))⟩
 rcases hq with hq | hq
 ·obtain ⟨its, r', pl, hz⟩ := I.list hq
  have hlen:=r'.length
  obtain ⟨o,ho,hc,n,hd⟩:=pl.isList
  exact call_list_seq p (.inl rfl) ho hc hd (fun h' c' kp e=>fin its r' hz h' c' kp e) (by simp only [HR] <;> omega)
 ·obtain ⟨its, r', pl, hz⟩ := I.tuple hq
  have hlen:=r'.length
  obtain ⟨o,ho,hc,n,hd⟩:=pl
  exact call_list_seq p (.inr rfl) ho hc hd (fun h' c' kp e=>fin its r' hz h' c' kp e) (by simp only [HR] <;> omega)
theorem nW:cj X (.type "tuple") (fun xs H Q=>∃ p ys,xs=[.ref p]/\((eO X.K H p ys/\∀ l,H l=none->Q (.ref l) (bT H l (.tup ys)))\/(d6 X.K H p ys/\Q (.ref p) H))):=by
 intro pins s σ H xs us Q I r h
 obtain ⟨p,ys,rfl,h⟩:=h
 obtain ⟨u,rfl,rx⟩:=dY r
 cases rx
 rcases h with ⟨hq,q⟩ | ⟨hq,q⟩
 ·obtain ⟨its, r', pl, hz⟩ := I.list hq
  have hlen:=r'.length
  refine call_tuple_list pl.isList (fun h' kp=>?_) (by simp only [HR] <;> omega)
  have I1:aI X pins σ H { s with heap:=h' }:=I.kept (t':=s.toks) kp
  have I2:aI X pins σ (bT H h'.objs.size (.tup ys)) { s with heap:=h'.push { cls:=.type "tuple",data:=.seq its.toArray } }:=
   I1.laid (t':=s.toks) (fun b o e=>HG _ e) (HI _) (show cW X.prog X.w _ _ _ (.tup ys) from ⟨hz,its,r',IsTup.new _ _⟩)
  exact ⟨.ref h'.objs.size,_,I2,rfl,q _ (I1.hok.fresh (HI _))⟩
 ·obtain ⟨its, r', pl, hz⟩ := I.tuple hq
  exact call_tuple_same pl ⟨.ref p,H,I,rfl,q⟩
def F1 (K:W.Frag) (T:String) (x:V) (H:Hp):Prop:=match x with
 | .str _=>T = "str"
 | .int _=>T = "int"
 | .ref p=>(T = "list" /\ ∃ xs,eO K H p xs)\/(T = "tuple" /\ ∃ o,K.lookup p=some o/\o.cls=.type "tuple" /\ o.dict=none) \/
   (T = "dict" /\ ((∃ kvs,H p=some (.dK kvs))\/∃ kvs,H p=some (.dT kvs)))\/(T = "set" /\ ∃ S n,H p=some (.set S n))
 | _=>False
theorem Cq {pins:List (Addr × Obj)}{σ:St}{H:Hp}{s:Shared}{T:String}{x:V}{v:Value} (I:aI X pins σ H s) (r:bH x v) (ty:F1 X.K T x H) :
  s.TypeIs v T/\∀ a,v=.ref a->∃ ob,s.heap.get? a=some ob/\ob.dict=none:=by
 cases x with
 | str z=>
  obtain ⟨t,rfl⟩:=r
  cases (show T = "str" from ty)
  exact ⟨typeIs_str s z t,fun _ e=>nomatch e⟩
 | int i=>
  obtain ⟨t,rfl⟩:=r
  cases (show T = "int" from ty)
  exact ⟨typeIs_int s i t,fun _ e=>nomatch e⟩
 | ref p=>
  cases r
  rcases ty with ⟨rfl,xs,hq⟩ | ⟨rfl,o,hk,hc,hd⟩ | ⟨rfl,hk⟩ | ⟨rfl,S,n,hk⟩
  ·obtain ⟨its, _, pl, _⟩ := I.list hq
   refine ⟨pl.isList.typeIs,fun a e=>?_⟩
   cases e
   obtain ⟨o,n,e,c,hd,_⟩:=pl
   exact ⟨o,e,hd⟩
  ·refine ⟨⟨o, I.kIn p o hk, hc⟩, fun a e => ?_⟩
   cases e
   exact ⟨o,I.kIn _ o hk,hd⟩
  ·have z:∃ o,s.heap.get? p=some o/\o.ExactDict:=by
    rcases hk with ⟨kvs,hk⟩ | ⟨kvs,hk⟩
    ·obtain ⟨_, _, _, _, o, _, _, e, ex, _⟩ := I.hok p _ hk
     exact ⟨o,e,ex⟩
    ·obtain ⟨_, _, _, _, o, _, _, e, ex, _⟩ := I.hok p _ hk
     exact ⟨o,e,ex⟩
   obtain ⟨o,e,ex⟩:=z
   refine ⟨⟨o,e,ex.1⟩,fun a e2=>?_⟩
   cases e2
   exact ⟨o,e,ex.2.1⟩
  ·obtain ⟨o, _, _, _, e, ex, _⟩ := I.hok p _ hk
   refine ⟨⟨o,e,ex.1⟩,fun a e2=>?_⟩
   cases e2
   exact ⟨o,e,ex.2.1⟩
 | _=>exact False.elim ty
def GU (K:W.Frag) (T:String) (r:V->List V->Hp->VK->Prop) (to:TE) (t:TA):TE:=fun σ H Q=>to σ H fun x H1=>F1 K T x H1/\t σ H1 fun xs H2=>r x xs H2 Q
variable {o e:Expr}{es:List Expr}{to:TE}{t:TA}{name:Str}{apos cpos:Pos}{T id:String}{r:V->List V->Hp->VK->Prop}
theorem Fs (pa:PlainAttrs T) (slot:Slot T name id) (hty:typeOf (.builtin id)=pure (.type "method_descriptor")) (hm:GN X id r) (ho:PE X o to) (ha:PA X (e::es) t)
  (hbase:attributeBase o name X.env (eval o X.env)=eval o X.env:=by rfl)
  (hfew : ((backTo cpos (starEach (e :: es) X.env)).all (fun x => !x.1) && (backToKw cpos (keywordEach [] X.env)).all (fun x => x.1.isSome)
   && decide ((e::es).length+([]:List Keyword).length+(if ([]:List Keyword).isEmpty then 0 else 1)<30))=true:=by rfl)
  (hline:(apos.endLine == cpos.line)=true:=by rfl) (hs:starEach (e::es) X.env=(false,eval e X.env)::starEach es X.env:=by rfl) (hplain:(backTo cpos (starEach es X.env)).any (·.1)=false:=by rfl) :
  PE X (.Call (.Attribute o name apos) (e::es) [] cpos) (GU X.K T r to t):=by
 intro pins s σ H Q I h
 refine wpAny_Call_method_late hbase hfew hline rfl (dD (ho pins s σ H _ I h) fun v s1 ⟨x,H1,I1,r1,ty,q1⟩=>?_)
 obtain ⟨h1,h2⟩:=Cq I1 r1 ty
 refine ⟨T,id,pa,slot,hty,h1,h2,?_⟩
 have hA:=ha cpos pins s1 σ H1 _ I1 q1
 rw [hs] at hA ⊢
 refine Calls.callWith_builtin (by show (false || (backTo cpos (starEach es X.env)).any (·.1))=false;rw [hplain] <;> rfl) (Calls.evalArgs_plain ?_)
 exact dD hA fun us s2 ⟨vs,H2,I2,r2,q2⟩=>hm pins s2 σ H2 x vs v us Q I2 r1 r2 q2
end
end L2
namespace L2
open PySem PySem.Spec PyProof.Rows
def FR (X:Cx) (id:String) (r:V->List V->Hp->VK->Prop):Prop:=
 ∀ (pins:List (Addr × Obj)) (s:Shared) (σ:St) (H:Hp) (x:V) (xs:List V) (v:Value) (us:List Value) (Q:VK),aI X pins σ H s->bH x v->aU xs us->r x xs H Q ->
  wpAny (model X.prog X.w) X.A (call (.builtin id) (v::us)) (EP X pins σ Q) X.xe s
theorem aU.one:∀ {x:V}{us:List Value},aU [x] us->∃ u,us=[u]/\bH x u
 | _,_,.cons r .nil=>⟨_,rfl,r⟩
theorem aU.eraseIdx:∀ {xs:List V}{us:List Value} (i:Nat),aU xs us->aU (xs.eraseIdx i) (us.eraseIdx i)
 | _,_,_,.nil=>.nil
 | _,_,0,.cons _ t=>t
 | _,_,i+1,.cons r t=>.cons r (aU.eraseIdx i t)
theorem aU.rep {xs:List V}{us:List Value} (h:aU xs us):∀ k:Nat,aU (List.replicate k xs).flatten (List.replicate k us).flatten
 | 0=>.nil
 | k+1=>by
  rw [IK,IK,IL,IL]
  exact aU.append h (aU.rep h k)
theorem oF {α:Type}:∀ (l:List α) (i:Nat),(l.eraseIdx i).length<=l.length
 | [],_=>HI _
 | _::_,0=>IM _
 | _::r,i+1=>Nat.succ_le_succ (oF r i)
theorem oQ (its:List Value):∀ (k:Nat) (acc:List Value),
  List.foldl (fun x1 x2=>x1++x2) acc.toArray (List.replicate k its.toArray)=(acc++(List.replicate k its).flatten).toArray
 | 0,acc=>by simp
 | k+1,acc=>by
  have e:acc.toArray++its.toArray=(acc++its).toArray:=by simp
  have e2:(acc++its)++(List.replicate k its).flatten=acc++(List.replicate (k+1) its).flatten:=by
   rw [IK,IL,IP]
  rw [<- e2,<- oQ its k (acc++its),<- e,IK,IQ]
section
variable {X:Cx}{pins:List (Addr × Obj)}{σ:St}{H:Hp}{s:Shared}{l b:Addr}{xs ys zs:List V}
theorem aI.lset {its its':List Value}{n:Nat}{f:Array Value->Array Value}{t':Nat} (I:aI X pins σ H s) (hH:H l=some (.lst xs))
  (e:s.heap.get? l=some { cls:=.type "list",data:=.seq its.toArray n }) (hf:f its.toArray=its'.toArray) (hv:aU ys its') (hz:ys.length<=sizeLine) :
  aI X pins σ (bT H l (.lst ys)) { s with heap:=s.heap.update l (Obj.mapSeq f),toks:=t' }:=by
 have q:=PySem.IsL.update e f
 rw [hf] at q
 refine I.write (x:=l) (e:=l) (by rw [hH];exact trivial) (.inl rfl) (fun b' u hb hu=>(Heap.get?_update_other s.heap (Obj.mapSeq f) (Hm hb)).trans hu) ⟨_,q⟩ ?_
 exact ⟨hz,its',_,hv,q⟩
theorem aI.lnew {its:List Value}{t':Nat} (I:aI X pins σ H s) (hv:aU ys its) (hz:ys.length<=sizeLine) :
  aI X pins σ (bT H s.heap.objs.size (.lst ys)) { s with heap:=s.heap.push { cls:=.type "list",data:=.seq its.toArray },toks:=t' }:=
 I.laid (fun _ _ q=>HG _ q) (HI _) ⟨hz,its,0,hv,HH _ rfl⟩
theorem aI.fresh (I:aI X pins σ H s):H s.heap.objs.size=none:=I.hok.fresh (HI _)
theorem aI.lstM (I:aI X pins σ H s) (hH:H l=some (.lst xs)):xs.length<=sizeLine/\∃ (its:List Value) (n:Nat),aU xs its/\xs.length=its.length/\s.heap.get? l=some { cls:=.type "list",data:=.seq its.toArray n }:=by
 obtain ⟨z,its,n,r,e⟩:=I.hok l _ hH
 exact ⟨z,its,n,r,r.length,e⟩
theorem yM {n:Nat} (h:n<=sizeLine):Builtin.List.listTooLong n=false:=by
 unfold Builtin.List.listTooLong
 exact G3 (by omega)
end
section
variable {X:Cx}
def Ax:V->List V->Hp->VK->Prop:=fun x vs H Q=>∃ l xs y,x=.ref l/\vs=[y]/\H l=some (.lst xs)/\xs.length<sizeLine/\Q .non (bT H l (.lst (xs++[y])))
theorem vR:FR X "list.append" Ax:=by
 intro pins s σ H x vs v us Q I rx rv h
 obtain ⟨l,xs,y,rfl,rfl,hH,hz,q⟩:=h
 cases rx
 obtain ⟨u,rfl,ru⟩:=rv.one
 obtain ⟨z,its,n,r,hl,e⟩:=I.lstM hH
 refine IR F.slot_list_append ⟨_,e,rfl⟩ F.entry_list_append (F.args_list_append_2 _ _) (PySem.list_append l its.toArray n u (by rw [HR];omega)) ⟨e,?_⟩
 refine ⟨.non,_,I.lset (its':=its++[u]) hH e (by simp) (r.append (.cons ru .nil)) ?_,rfl,q⟩
 rw [Ik,IS]
 omega
def xE:V->List V->Hp->VK->Prop:=fun x vs H Q=>∃ l xs i k y,x=.ref l/\vs=[.int i]/\H l=some (.lst xs)/\-(2 ^ 63)<=i/\i<2 ^ 63/\seqIndex? i xs.length=some k/\xs[k]?=some y/\Q y (bT H l (.lst (xs.eraseIdx k)))
theorem yP:FR X "list.pop" xE:=by
 intro pins s σ H x vs v us Q I rx rv h
 obtain ⟨l,xs,i,k,y,rfl,rfl,hH,h1,h2,hk,hy,q⟩:=h
 cases rx
 obtain ⟨u,rfl,ru⟩:=rv.one
 obtain ⟨t,rfl⟩:=ru
 obtain ⟨z,its,n,r,hl,e⟩:=I.lstM hH
 obtain ⟨w,hw,rw'⟩:=r.get hy
 refine IR F.slot_list_pop ⟨_,e,rfl⟩ F.entry_list_pop (F.args_list_pop_2 _ _)
  (MeetsSeq.list_pop_at l its.toArray n i t k w (fitsIndex_both h1 h2) (by rw [HR,<- hl];exact hk) (by rw [<- IT];exact hw) (by rw [HR];omega)) ⟨e,?_⟩
 refine ⟨y,_,I.lset (its':=its.eraseIdx k) hH e ?_ (r.eraseIdx k) ?_,rw',q⟩
 ·show its.toArray.eraseIdxIfInBounds k = (its.eraseIdx k).toArray
  rw [List.eraseIdxIfInBounds_toArray]
 ·have := oF xs k
  omega
def EF:R2:=fun x y H Q=>∃ l b xs zs,x=.ref l/\y=.ref b/\H l=some (.lst xs)/\H b=some (.lst zs)/\xs.length+zs.length<=sizeLine/\∀ p,H p=none->Q (.ref p) (bT H p (.lst (xs++zs)))
theorem Dx:iJ X (binaryOp .Add) EF:=by
 intro pins s σ H x y v u Q I rx ry h
 obtain ⟨l,b,xs,zs,rfl,rfl,hH,hB,hz,q⟩:=h
 cases rx
 cases ry
 obtain ⟨z,its,n,r,hl,e⟩:=I.lstM hH
 obtain ⟨z2,its2,n2,r2,hl2,e2⟩:=I.lstM hB
 refine PySem.P.add_list e e2 ?_ (by rw [HR,HR];omega)
 have ea:its.toArray++its2.toArray=(its++its2).toArray:=by simp
 rw [ea]
 exact ⟨.ref _,_,I.lnew (t':=s.toks) (r.append r2) (by rw [Ik];omega),rfl,q _ I.fresh⟩
def Ez:R2:=fun x y H Q=>∃ l k xs,x=.ref l/\y=.int k/\H l=some (.lst xs)/\-(2 ^ 63)<=k/\k<2 ^ 63/\xs.length * k.toNat<=sizeLine /\
 ∀ p,H p=none->Q (.ref p) (bT H p (.lst (List.replicate k.toNat xs).flatten))
theorem Bc {α:Type} (xs:List α) (k:Nat):(List.replicate k xs).flatten.length=k * xs.length:=by
 induction k with
 | zero=>simp
 | succ k ih=>rw [IK,IL,Ik,ih,Nat.succ_mul,Nat.add_comm]
theorem Dq:iJ X (binaryOp .Mult) Ez:=by
 intro pins s σ H x y v u Q I rx ry h
 obtain ⟨l,k,xs,rfl,rfl,hH,h1,h2,hz,q⟩:=h
 cases rx
 obtain ⟨t,rfl⟩:=ry
 obtain ⟨z,its,n,r,hl,e⟩:=I.lstM hH
 have hlen:its.toArray.size * k.toNat<=sizeLine:=by rw [HR,<- hl];exact hz
 have hcap:¬ its.toArray.size * k.toNat > (2 ^ 63 - 1) / 8:=by
  have:(sizeLine:Nat)<=(2 ^ 63 - 1) / 8:=by decide
  omega
 have hfit:¬ (!Builtin.List.listFitsIndex k)=true:=by
  rw [fitsIndex_both h1 h2]
  exact HP
 have hlong:¬ Builtin.List.listTooLong (its.toArray.size * k.toNat)=true:=by
  rw [yM hlen]
  exact HP
 have hnew:List.foldl (fun x1 x2=>x1++x2) #[] (List.replicate (if its.toArray.isEmpty=true then 0 else k.toNat) its.toArray)=(List.replicate k.toNat its).flatten.toArray:=by
  have f0:∀ m:Nat,List.foldl (fun x1 x2=>x1++x2) #[] (List.replicate m its.toArray)=(List.replicate m its).flatten.toArray:=fun m=>by
   have:=oQ its m []
   rw [IU] at this
   exact this
  rw [f0]
  cases its with
  | nil=>simp
  | cons a r'=>rw [G7 (by simp)]
 refine wpAny_binaryOp_repeat_ref (T:="list") (U:="int") (by decide) ⟨_,e,rfl⟩ (fun s'=>typeIs_int s' k t) noFill_list_mul F.fills_int_mul F.slot_int_rmul repeat_list F.slot_int_index.lookup
  (IR F.slot_int_rmul (typeIs_int s k t) F.entry_int_rmul (F.args_int_rmul_2 _ _) (int___rmul___int_list k t l its.toArray n)
   ⟨e,rfl,⟨_,e,rfl⟩,IR F.slot_list_mul ⟨_,e,rfl⟩ F.entry_list_mul (F.args_list_mul_2 _ _) (AutoListH.list___mul___list_int_3 l its.toArray n k t hfit hcap hlong) ⟨e,?_⟩⟩)
 rw [hnew]
 exact ⟨.ref _,_,I.lnew (t':=s.toks) (r.rep k.toNat) (by rw [Bc,Nat.mul_comm];exact hz),rfl,q _ I.fresh⟩
end
section
variable {prog:Program}{w:World}{A:Around}{E:Value->Shared->Prop}{s:Shared}
end
section
variable {X:Cx}
end
end L2
namespace Att
open PySem PySem.W PySem.Calls PyProof.Rows
theorem lU {P:Params}{h:Heap}:∀ (ns:List Int) (vs:List Value),WellAll P h vs (ns.map WData.int)->IntsAre vs ns:=by
 intro ns
 induction ns with
 | nil=>
  intro vs w
  rw [IG] at w
  cases w
  exact .nil
 | cons n ns ih=>
  intro vs w
  rw [IH] at w
  cases w with
  | cons a b=>
   cases a
   exact .cons _ _ (ih _ b)
theorem vB {l:OpenLaw}{n:Nat} (hn:l.most=some n) {P:Params}{h:Heap}{args:List WData}{vals:List Value}
  (hpre:l.row.toRowW.claim.pre args=true) (hwl:WellAll P h vals args) :
  ∃ a vs ns,vals=[Value.ref a]/\args=[WData.list (ns.map WData.int)]/\h.get? a=some { cls:=.type "list",data:=.seq vs.toArray }/\IntsAre vs ns/\ns.length<=n:=by
 have hsh:WShape.hasAll [] args [.list .int]=true:=(pre_splitW hpre).1
 have hc:l.pre.holds [] { args:=args }=true:=(pre_splitW hpre).2
 obtain ⟨d,r,rfl,h1,h2⟩:=hasAllW_cons hsh
 obtain rfl:=hasAllW_nil h2
 obtain ⟨xs,rfl,h3⟩:=hasW_list h1
 obtain ⟨ns,rfl⟩:=items_int h3
 have hlen:ns.length<=n:=by
  unfold OpenLaw.pre at hc
  have h4:(WTm.not (.lt (.lit (.int (n:Int))) (.len (.arg 0)))).holds [] { args:=[.list (ns.map .int)] }=true:=by
   have h4:=(holds_andW hc).1
   rw [hn] at h4
   exact h4
  have h5:=condW_of h4 (w_not (w_lt w_lit (w_len_list (w_arg rfl))))
  rw [Il] at h5
  refine Nat.le_of_not_lt fun q=>?_
  have q':(n:Int)<((ns.length:Nat):Int):=by omega
  first
   | (rw [IV q'] at h5;exact absurd h5 (by decide))
   | (simp at h5;omega)
 cases hwl with
 | cons w1 w2=>
  cases w2
  cases w1 with
  | list ho hall=>exact ⟨_,_,ns,rfl,rfl,ho,lU ns _ hall,hlen⟩
theorem vE (l:OpenLaw) (args:List WData):l.row.toRowW.claim.post args (.bool true) args=true:=
 postW_of (r:=l.row.toRowW) (X:=(true == true))
  (show WShape.has [] (.bool true) .bool=true by first | rfl | decide | simp [WShape.has,WShape.arms,WShape.armsAll])
  (show (WTm.eq .res (.lit (.bool true))).value [] { args:=args,res:=some (.bool true),after:=args }=some (.bool (true == true)) from w_eq_bool (w_res rfl) w_lit) rfl
theorem attach_call {l:OpenLaw}{n:Nat}{q:Program}{loose:List Str}{XP:(Str->Option Value)->Heap->Prop}{YP:World->Heap->Prop}{d:DefRec}
  (hn:l.most=some n) (hdf:d.params.defaults=[])
  (call : ∀ (w : World) (s₀ s₁ : Shared) (mg mb : Str -> Option Value) (fa : Addr) (o : Obj) (pm cd doc : Value) (a : Addr) (vs : List Value) (ns : List Int),
   Ground q loose [] XP w s₀ mg mb s₁.heap->YP w s₁.heap ->
   s₁.heap.get? fa=some o->o.data=.func (docDef d.name d.params d.body d.scope pm cd doc)->s₁.heap.CodeRec cd d.name->mg d.name=some (.ref fa) ->
   s₁.heap.get? a=some { cls:=.type "list",data:=.seq vs.toArray }->IntsAre vs ns->ns.length<=n->s₁.gens=#[] ->
   codeAny (model l.prog w) callerA (.call (.ref fa) ⟨[.ref a],[]⟩) (fun r s'=>r=.ok (.ret (.bool true))/\OldK s₁.heap s'.heap/\s'.os=s₁.os/\AllBare s'.gens) s₁) :
  WalkO q loose XP YP l.row.toRowW d [] (fun f vs=>PySem.call f vs):=by
 intro w s₀ s₁ mg mb G Y fa o pm cd doc dV kV ho hd hcd hD hmg hg args vals as hpre hlay hrd hwl hlo
 obtain rfl:dV=.none:=Dflts.none hD hdf
 obtain rfl:kV=.none:=Dflts.noKw hD
 obtain ⟨a,vs,ns,rfl,rfl,hobj,hints,hlen⟩:=vB hn hpre hwl
 refine enter_call (HU (call w s₀ s₁ mg mb fa o pm cd doc a vs ns G Y ho (fd_plain hd) hcd hmg hobj hints hlen hg) fun r s' hq=>?_)
 obtain ⟨rfl,h2,h3,h4⟩:=hq
 exact ⟨.inl ⟨.bool true,.bool true,[],rfl,fun _=>rfl,.bool true,vE l _,fun _=>⟨List.Pairwise.nil,fun _ hm=>(nomatch hm)⟩⟩,h2,h3,h4⟩
section
variable {prog:Program}{w:World}{A:Around}{E:Value->Shared->Prop}{s:Shared}{K:Frag}
end
end Att
namespace L2
open PySem PySem.Spec PyProof.Rows
theorem ot:∀ {vs:List Value}{ns:List Int},IntsAre vs ns->aU (ns.map V.int) vs
 | _,_,.nil=>.nil
 | _,_,.cons n t h=>.cons ⟨t,rfl⟩ (ot h)
def zH (H:Hp):Prop:=∀ b,H b=none\/∃ o xs,H b=some (.frz o (.lst xs))
theorem yT {P:Program}{w:World}{K:W.Frag}{mg mb:Str->Option Value}{CX:qq}{k:Nat}{fa a:Addr}{fd:FuncData}{x:Str}{sp:Sp}{s₁:Shared}{vs:List Value}{ns:List Int}
  (KX:K.In s₁.heap) (hns:s₁.heap.Ns mainGlobals mg) (hb:s₁.heap.Ns builtinsNs mb) (hbb:∀ x:Str,x ≠ "__name__" -> mb x=bootBuiltins x) (hlim:s₁.heap.NoLimit) (hg:s₁.gens=#[])
  (ha:s₁.heap.get? a=some { cls:=.type "list",data:=.seq vs.toArray }) (hi:IntsAre vs ns) (hl:ns.length<=sizeLine) (hr:eP k callerA)
  (F:∀ base:Heap,K.In base->base.Ns mainGlobals mg->mr P w K mg base CX k fa fd [x] sp) (hbind:∀ (s:Shared) (u:Value),BindsTo s fd ⟨[u],[]⟩ [(x,u)])
  (hsp:∀ H:Hp,zH H->eO K H a (ns.map V.int)->sp [.ref a] H (fun v _=>v=.bl true) fun _ _ _=>False)
  (hCX:∀ H e s',CX [] H s₁ (fun _ _ _=>False) e s'->False) :
  codeAny (model P w) callerA (.call (.ref fa) ⟨[.ref a],[]⟩) (fun r s'=>r=.ok (.ret (.bool true))/\OldK s₁.heap s'.heap/\s'.os=s₁.os/\AllBare s'.gens) s₁:=by
 have rv:=ot hi
 have lenV:=hi.length
 have core:∀ H:Hp,zH H->eO K H a (ns.map V.int)->kK P w H s₁.heap->(∀ b,H b≠none->b=a)->(H a≠none->K.lookup a=none) ->
   codeAny (model P w) callerA (.call (.ref fa) ⟨[.ref a],[]⟩) (fun r s'=>r=.ok (.ret (.bool true))/\OldK s₁.heap s'.heap/\s'.os=s₁.os/\AllBare s'.gens) s₁:=by
  intro H hO hS hok hA hK
  have base_of:∀ {b:Addr}{o:Obj},s₁.heap.get? b=some o->H b=none->(pC s₁.heap H).get? b=some o:=fun e n=>yY e n
  have noA:∀ {b:Addr}{o:Obj}{es:Array DictEntry}{ep:Nat},s₁.heap.get? b=some o->o.data=.dict es ep->H b=none:=fun {b o es ep} e d=>by
   cases q:H b with
   | none=>rfl
   | some u=>
    have e':b=a:=hA b (by rw [q];simp)
    subst e'
    rw [ha] at e;cases e
    have d':Data.seq vs.toArray _=Data.dict es ep:=d
    cases d'
  have nsK:∀ {b:Addr}{m:Str->Option Value},s₁.heap.Ns b m->(pC s₁.heap H).Ns b m:=fun {b m} ⟨o,es,ep,e,d,r⟩=>⟨o,es,ep,base_of e (noA e d),d,r⟩
  have hKb:K.In (pC s₁.heap H):=fun b o e=>base_of (KX b o e) (by
   cases q:H b with
   | none=>rfl
   | some u=>
    have e':b=a:=hA b (by rw [q];simp)
    subst e'
    rw [hK (by rw [q];simp)] at e;cases e)
  have hM:Mod K mg (pC s₁.heap H):=⟨hKb,nsK hns,⟨mb,nsK hb,hbb⟩,let ⟨mc,h1,h2⟩:=hlim;⟨mc,nsK h1,h2⟩⟩
  have e0:vf P w K mg (pC s₁.heap H) callerA [] s₁ H:=⟨rfl,hM,fun b o e=>A2 e,IW (vY _ _),trivial,fun b hb=>absurd (show b∈([]:List Addr) from hb) (by simp),hok,.of_eq hg⟩
  refine HU ((F _ hKb (nsK hns)).run callerA [] s₁ H ⟨[.ref a],[]⟩ [.ref a] [.ref a] _ _ hr e0 (hbind s₁ (.ref a)) (.cons rfl .nil) (hsp H hO hS)) fun r s' h=>?_
  cases r with
  | error e=>exact (hCX H e s' h).elim
  | ok fl=>
   cases fl with
   | next=>exact False.elim h
   | brk=>exact False.elim h
   | cont=>exact False.elim h
   | ret u=>
    obtain ⟨v,H',os,bare,un,hok',r',q⟩:=h
    have q':v=.bl true:=q
    subst q'
    obtain rfl:u=Value.bool true:=r'
    refine ⟨rfl,OldK.of_keep fun b o e=>?_,os,bare⟩
    cases q:H b with
    | none=>exact un.keep b o e q (by intro z;exact absurd (show b∈([]:List Addr) from z) (by simp)) (by simp)
    | some u=>
     rcases hO b with z | ⟨ob,xs,z⟩
     ·rw [q] at z;cases z
     ·have z2 := un.frzs b ob _ z
      obtain ⟨e1,_⟩:=hok b _ z
      obtain ⟨e2,_⟩:=hok' b _ z2
      rw [e] at e1;cases e1
      exact e2
 cases hk:K.lookup a with
 | some o=>
  have e:=KX a o hk
  rw [ha] at e
  cases e
  refine core (fun _=>none) (fun _=>.inl rfl) (.inr ⟨_,vs.toArray,_,hk,rfl,rfl,rfl,by rw [HR,lenV];exact hl,by simpa using rv⟩) (fun b u z=>by have z':(none:Option HO)=some u:=z;cases z') (fun b z=>absurd rfl z) fun z=>absurd rfl z
 | none=>
  refine core (fun b=>if b=a then some (.frz { cls:=.type "list",data:=.seq vs.toArray } (.lst (ns.map V.int))) else none) (fun b=>?_) (.inl (.inr ⟨{ cls:=.type "list",data:=.seq vs.toArray },G6 rfl⟩)) (fun b u z=>?_) (fun b z=>?_) fun _=>hk
  ·by_cases hb : b = a
   ·exact .inr ⟨_,_,G6 hb⟩
   ·exact .inl (G7 hb)
  ·by_cases hb : b = a
   ·have z' := (G6 hb).symm.trans z
    cases z'
    subst hb
    exact ⟨ha,by rw [Il];exact hl,vs,_,rv,ha⟩
   ·have z' := (G7 hb).symm.trans z
    cases z'
  ·by_cases hb : b = a
   ·exact hb
   ·exact absurd (G7 hb) z
end L2
namespace L2
open PySem PySem.Spec PyProof.Rows
theorem walk_of {l:W.OpenLaw}{n k:Nat}{q:Program}{loose:List Str}{XP:(Str->Option Value)->Heap->Prop}{YP:World->Heap->Prop}{d:DefRec}{K:Params->W.Frag}{CX:World->qq}{sp:World->Sp}{x:Str}
  (hn:l.most=some n) (hn2:n<=sizeLine) (hdf:d.params.defaults=[]) (hr:eP k callerA)
  (hY:∀ (w:World) (h:Heap),YP w h->(K w.params).In h)
  (F : ∀ (w : World) (mg : Str -> Option Value) (fa : Addr) (h : Heap), (K w.params).In h -> h.Ns mainGlobals mg -> mg d.name = some (.ref fa) ->
   ∃ fd:FuncData,(∀ (s:Shared) (u:Value),BindsTo s fd ⟨[u],[]⟩ [(x,u)]) /\
    ∀ base:Heap,(K w.params).In base->base.Ns mainGlobals mg->mr l.prog w (K w.params) mg base (CX w) k fa fd [x] (sp w))
  (hsp:∀ (w:World) (H:Hp) (a:Addr) (ns:List Int),ns.length<=n->zH H->eO (K w.params) H a (ns.map V.int)->sp w [.ref a] H (fun v _=>v=.bl true) fun _ _ _=>False)
  (hCX:∀ (w:World) (H:Hp) (s:Shared) (e:Value) (s':Shared),CX w [] H s (fun _ _ _=>False) e s'->False) :
  W.WalkO q loose XP YP l.row.toRowW d [] (fun f vs=>PySem.call f vs):=by
 refine Att.attach_call hn hdf fun w s₀ s₁ mg mb fa o pm cd doc a vs ns G Y ho hd hcd hmg hobj hints hlen hg=>?_
 have KX:=hY w _ Y
 obtain ⟨fd,hb,hF⟩:=F w mg fa _ KX G.T.g hmg
 exact yT KX G.T.g G.T.b G.T.builtins G.T.nolimit hg hobj hints (Hg hlen hn2) hr hF hb (fun H hO hS=>hsp w H a ns hlen hO hS) fun H e s'=>hCX w H s₁ e s'
end L2
namespace L2
open PySem PySem.Spec PyProof.Rows
def dn (s:Stmt):Arguments:=match s with
 | .FunctionDef _ a _ _ _ _ _ _ _ _=>a
 | _=>{ posonlyargs:=[],args:=[],vararg:=none,kwonlyargs:=[],kw_defaults:=[],kwarg:=none,defaults:=[] }
def bO (s:Stmt):List Stmt:=match s with
 | .FunctionDef _ _ b _ _ _ _ _ _ _=>b
 | _=>[]
def ar (s:Stmt):Scope:=match s with
 | .FunctionDef _ _ _ _ _ _ sc _ _ _=>sc
 | _=>{ kind:=.function,names:=[],isGenerator:=false,isCoroutine:=false }
abbrev sH:qq:=fun _ _ _ _ _ _=>False
abbrev E0:XK:=fun _ _ _=>False
theorem xb {X:Cx}:jT sH X E0:=fun _ _ _ _ _ _ _ h=>h.elim
structure gM (K:W.Frag) (x qual:Str) (st:Stmt) (f:Addr) (fd:FuncData):Prop where
 ex:∃ (oc:Value) (od:Option Addr) (kV doc pm:Value) (an:Option Addr) (cdv ct:Value) (osl:Array (Option Value)),
  fd=W.fnOf x qual (dn st) (bO st) (ar st) .none kV doc pm an cdv ct/\K.lookup f=some ⟨oc,od,.func fd,osl⟩/\W.codeIn K cdv qual=true
 kp:W.keepIn K (.ref f)=true
section
variable {P:Program}{w:World}{K:W.Frag}{mg:Str->Option Value}{base:Heap}
theorem gM.ok {x qual:Str}{st:Stmt}{f:Addr}{fd:FuncData}{N ps:List Str}{k:Nat}{sp:Sp} (F:gM K x qual st f fd) (S:aW N ps (ar st)) (len:∀ vs H Q E,sp vs H Q E->vs.length=ps.length)
  (hbody : ∀ (cdv : Value) (A : Around) (outer : List Env) (s : Shared) (H : Hp) (vs : List V) (Q : VK) (E : XK), eP k (A.deeper (envOfC qual (ar st) s.heap.objs.size f cdv)) -> sp vs H Q E ->
   ∃ t,hZ (mn sH P w K mg base N qual (ar st) f cdv A outer s H E).nox (bO st) t/\t { nx:=fun _ H'=>Q .non H',rt:=Q } (start N vs) H):mr P w K mg base sH (k+1) f fd ps sp:=by
 obtain ⟨oc,od,kV,doc,pm,an,cdv,ct,osl,rfl,lk,hcd⟩:=F.ex
 refine BR lk hcd S len fun A outer s H vs Q E hr hsp=>?_
 obtain ⟨t,h,q⟩:=hbody cdv A outer s H vs Q E hr hsp
 exact ⟨t,h.nox,q⟩
theorem gM.binds {x qual:Str}{st:Stmt}{f:Addr}{fd:FuncData}{ps:List Str} (F:gM K x qual st f fd)
  (h:∀ (kV doc pm:Value) (an:Option Addr) (cdv ct:Value) (us:List Value),us.length=ps.length->bindArgs (W.fnOf x qual (dn st) (bO st) (ar st) .none kV doc pm an cdv ct) ⟨us,[]⟩=pure (ps.zip us)):ff K fd ps []:=by
 obtain ⟨oc,od,kV,doc,pm,an,cdv,ct,osl,rfl,lk,hcd⟩:=F.ex
 exact .all (h kV doc pm an cdv ct)
theorem D4 {x qual:Str}{st:Stmt}{f:Addr}{oc:Value}{od an:Option Addr}{osl:Array (Option Value)}{kV doc pm cdv ct:Value} (l:K.lookup f=some ⟨oc,od,.func (W.fnOf x qual (dn st) (bO st) (ar st) .none kV doc pm an cdv ct),osl⟩)
  (c:W.codeIn K cdv qual=true) (k:W.keepIn K (.ref f)=true):gM K x qual st f (W.fnOf x qual (dn st) (bO st) (ar st) .none kV doc pm an cdv ct):=⟨⟨oc,od,kV,doc,pm,an,cdv,ct,osl,rfl,l,c⟩,k⟩
end
section
variable {X:Cx}
end
theorem EL {A B:Prop} (h:B):if false=true then A else B:=by
 rw [G7 HP]
 exact h
theorem EK {A B:Prop} (h:A):if true=true then A else B:=by
 rw [G6 rfl]
 exact h
end L2
namespace Lw
open PySem PySem.Spec PyProof.Rows L2
def top (i:Nat):Stmt:=PySem.Challenge.pw_rootwebs_k04_webs_renamed.main.body.getD i (.Pass ⟨0,0,0,0⟩)
abbrev gA:Stmt:=top 11
abbrev dq:Stmt:=top 12
abbrev gB:Stmt:=top 13
abbrev eE:Stmt:=top 14
abbrev iu:Stmt:=top 17
abbrev ir:Stmt:=top 18
abbrev gZ:Stmt:=top 19
abbrev eH:Stmt:=top 21
abbrev fY:Stmt:=top 20
abbrev dF:Stmt:=top 23
abbrev fI:Stmt:=top 24
abbrev eK:Stmt:=top 25
abbrev fJ:Stmt:=top 26
abbrev eW:Stmt:=top 27
abbrev dE:Stmt:=top 28
abbrev cS:Stmt:=top 29
abbrev cG:Stmt:=top 30
abbrev fm:Stmt:=top 31
abbrev dy:Stmt:=top 32
abbrev aV:Stmt:=top 33
abbrev eJ:Stmt:=top 34
abbrev fH:Stmt:=top 35
abbrev iS:Stmt:=top 36
noncomputable def en (P:Params) (n:Str) (t:Tok) (v:Value):DictEntry:=⟨PyData.keyHash P n,.str n t,v⟩
noncomputable def fo (n:Str) (st:Stmt) (m:Str) (t:Tok) (c:Addr):Obj:=⟨.type "function",none,.func (W.fnOf n n (dn st) (bO st) (ar st) .none .none .none (.str m t) none (.ref c) .none),#[]⟩
noncomputable def co (n:Str) (t:Tok) (l k i:Int) (a:Addr) (p:Bool) (u:Nat):Obj:=⟨.type "code",none,.fields #[.str n t,.str n (t+1),.str "/claim/cut.py" (t+2),.int l 0,.int k 0,.int 0 0,.int 0 0,.int 3 0,.ref a,.bool true,.int i 0,.ref (a+1),.none,bif p then .ref (a+2) else .none,bif p then .ref (a+3) else .none,.ref (bif p then a+4 else a+2),.int u 0,.int l 0,.str "/claim/cut.py" (u+1)],#[]⟩
noncomputable def Kz (P:Params):W.Frag:=[(3,⟨.type "dict",none,.dict #[en P "__name__" 165 (.str "law_rootwebs_k04_webs_renamed" 435),en P "__doc__" 166 .none,en P "__package__" 167 .none,en P "__loader__" 168 (.builtin "__main__.__loader__#opaque"),en P "__spec__" 169 .none,en P "__annotations__" 170 (.ref 6),en P "__builtins__" 171 (.ref 4),en P "__file__" 173 (.str "/claim/cut.py" 172),en P "__cached__" 174 .none,en P "RootError" 206 (.ref 24),en P "NoPlace" 222 (.ref 37),en P "NoNumber" 238 (.ref 49),en P "NoLine" 254 (.ref 61),en P "NoRoot" 270 (.ref 73),en P "NoTree" 286 (.ref 85),en P "NoWeb" 311 (.ref 104),en P "NoText" 336 (.ref 123),en P "TooGreat" 363 (.ref 142),en P "is_whole" 372 (.ref 151),en P "is_whole_from" 381 (.ref 158),en P "is_place" 389 (.ref 165),en P "is_places" 395 (.ref 170),en P "MOST_PLACES" 399 (.int 6 398),en P "is_many" 406 (.ref 177),en P "is_pair" 414 (.ref 184),en P "web_of" 420 (.ref 189),en P "renamed" 426 (.ref 194),en P "is_renaming" 434 (.ref 201),en P "_law_cell_at" 444 (.ref 208),en P "_law_next" 451 (.ref 215),en P "_law_pen_of" 459 (.ref 222),en P "_law_draw" 468 (.ref 229),en P "_law_whole" 475 (.ref 236),en P "_law_kind_of" 483 (.ref 243),en P "_law_named" 489 (.ref 248),en P "_law_names_by" 495 (.ref 253),en P "_law_far" 501 (.ref 258),en P "_law_steps" 507 (.ref 263),en P "_law_sparse_by" 513 (.ref 268),en P "_law_web_by" 525 (.ref 275),en P "_law_told" 534 (.ref 282),en P "law" 540 (.ref 287)] 42,#[]⟩),
 (23,⟨.type "dict",none,.dict #[en P "__module__" 196 (.str "rootwebs.errors" 187),en P "__firstlineno__" 200 (.int 2 199),en P "__static_attributes__" 201 (.ref 22),en P "__weakref__" 203 (.ref 25),en P "__doc__" 204 .none] 3,#[]⟩),
 (24,⟨.type "type",none,.cls ⟨"RootError",[(.type "ValueError")],[(.ref 24),(.type "ValueError"),(.type "Exception"),(.type "BaseException"),(.type "object")],23, "RootError",true,[],[(.ref 37),(.ref 49),(.ref 61),(.ref 73),(.ref 85),(.ref 104),(.ref 123),(.ref 142)],false,none,false⟩,#[some (.ref 15),none,some (.str "RootError" 189),some (.str "RootError" 197),some (.builtin "ValueError.__new__"),some (.bool true)]⟩),
 (36,⟨.type "dict",none,.dict #[en P "__module__" 214 (.str "rootwebs.errors" 187),en P "__firstlineno__" 218 (.int 4 217),en P "__static_attributes__" 219 (.ref 35),en P "__doc__" 220 .none] 2,#[]⟩),
 (37,⟨.type "type",none,.cls ⟨"NoPlace",[(.ref 24)],[(.ref 37),(.ref 24),(.type "ValueError"),(.type "Exception"),(.type "BaseException"),(.type "object")],36, "NoPlace",true,[],[],false,none,false⟩,#[some (.ref 28),none,some (.str "NoPlace" 207),some (.str "NoPlace" 215),some (.builtin "ValueError.__new__"),some (.bool true)]⟩),
 (48,⟨.type "dict",none,.dict #[en P "__module__" 230 (.str "rootwebs.errors" 187),en P "__firstlineno__" 234 (.int 6 233),en P "__static_attributes__" 235 (.ref 47),en P "__doc__" 236 .none] 2,#[]⟩),
 (49,⟨.type "type",none,.cls ⟨"NoNumber",[(.ref 24)],[(.ref 49),(.ref 24),(.type "ValueError"),(.type "Exception"),(.type "BaseException"),(.type "object")],48, "NoNumber",true,[],[],false,none,false⟩,#[some (.ref 40),none,some (.str "NoNumber" 223),some (.str "NoNumber" 231),some (.builtin "ValueError.__new__"),some (.bool true)]⟩),
 (60,⟨.type "dict",none,.dict #[en P "__module__" 246 (.str "rootwebs.errors" 187),en P "__firstlineno__" 250 (.int 8 249),en P "__static_attributes__" 251 (.ref 59),en P "__doc__" 252 .none] 2,#[]⟩),
 (61,⟨.type "type",none,.cls ⟨"NoLine",[(.ref 24)],[(.ref 61),(.ref 24),(.type "ValueError"),(.type "Exception"),(.type "BaseException"),(.type "object")],60, "NoLine",true,[],[],false,none,false⟩,#[some (.ref 52),none,some (.str "NoLine" 239),some (.str "NoLine" 247),some (.builtin "ValueError.__new__"),some (.bool true)]⟩),
 (72,⟨.type "dict",none,.dict #[en P "__module__" 262 (.str "rootwebs.errors" 187),en P "__firstlineno__" 266 (.int 10 265),en P "__static_attributes__" 267 (.ref 71),en P "__doc__" 268 .none] 2,#[]⟩),
 (73,⟨.type "type",none,.cls ⟨"NoRoot",[(.ref 24)],[(.ref 73),(.ref 24),(.type "ValueError"),(.type "Exception"),(.type "BaseException"),(.type "object")],72, "NoRoot",true,[],[],false,none,false⟩,#[some (.ref 64),none,some (.str "NoRoot" 255),some (.str "NoRoot" 263),some (.builtin "ValueError.__new__"),some (.bool true)]⟩),
 (84,⟨.type "dict",none,.dict #[en P "__module__" 278 (.str "rootwebs.errors" 187),en P "__firstlineno__" 282 (.int 12 281),en P "__static_attributes__" 283 (.ref 83),en P "__doc__" 284 .none] 2,#[]⟩),
 (85,⟨.type "type",none,.cls ⟨"NoTree",[(.ref 24)],[(.ref 85),(.ref 24),(.type "ValueError"),(.type "Exception"),(.type "BaseException"),(.type "object")],84, "NoTree",true,[],[],false,none,false⟩,#[some (.ref 76),none,some (.str "NoTree" 271),some (.str "NoTree" 279),some (.builtin "ValueError.__new__"),some (.bool true)]⟩),
 (103,⟨.type "dict",none,.dict #[en P "__module__" 294 (.str "rootwebs.errors" 187),en P "__firstlineno__" 298 (.int 14 297),en P "__init__" 306 (.ref 101),en P "__static_attributes__" 308 (.ref 102),en P "__doc__" 309 .none] 2,#[]⟩),
 (104,⟨.type "type",none,.cls ⟨"NoWeb",[(.ref 24)],[(.ref 104),(.ref 24),(.type "ValueError"),(.type "Exception"),(.type "BaseException"),(.type "object")],103, "NoWeb",true,[],[],false,none,false⟩,#[some (.ref 88),none,some (.str "NoWeb" 287),some (.str "NoWeb" 295),some (.builtin "ValueError.__new__"),some (.bool true)]⟩),
 (122,⟨.type "dict",none,.dict #[en P "__module__" 319 (.str "rootwebs.errors" 187),en P "__firstlineno__" 323 (.int 18 322),en P "__init__" 331 (.ref 120),en P "__static_attributes__" 333 (.ref 121),en P "__doc__" 334 .none] 2,#[]⟩),
 (123,⟨.type "type",none,.cls ⟨"NoText",[(.ref 24)],[(.ref 123),(.ref 24),(.type "ValueError"),(.type "Exception"),(.type "BaseException"),(.type "object")],122, "NoText",true,[],[],false,none,false⟩,#[some (.ref 107),none,some (.str "NoText" 312),some (.str "NoText" 320),some (.builtin "ValueError.__new__"),some (.bool true)]⟩),
 (141,⟨.type "dict",none,.dict #[en P "__module__" 344 (.str "rootwebs.errors" 187),en P "__firstlineno__" 348 (.int 22 347),en P "__init__" 357 (.ref 139),en P "__static_attributes__" 360 (.ref 140),en P "__doc__" 361 .none] 2,#[]⟩),
 (142,⟨.type "type",none,.cls ⟨"TooGreat",[(.ref 24)],[(.ref 142),(.ref 24),(.type "ValueError"),(.type "Exception"),(.type "BaseException"),(.type "object")],141, "TooGreat",true,[],[],false,none,false⟩,#[some (.ref 126),none,some (.str "TooGreat" 337),some (.str "TooGreat" 345),some (.builtin "ValueError.__new__"),some (.bool true)]⟩),
 (150,co "is_whole" 366 28 1 181 145 true 370),
 (151,fo "is_whole" gA "rootwebs.kinds" 364 150),
 (157,co "is_whole_from" 373 30 3 181 152 true 379),
 (158,fo "is_whole_from" dq "rootwebs.kinds" 364 157),
 (164,co "is_place" 382 32 2 181 159 true 387),
 (165,fo "is_place" gB "rootwebs.kinds" 364 164),
 (169,co "is_places" 390 34 2 181 166 false 393),
 (170,fo "is_places" eE "rootwebs.kinds" 364 169),
 (176,co "is_many" 400 38 1 181 171 true 404),
 (177,fo "is_many" iu "rootwebs.webs" 396 176),
 (183,co "is_pair" 407 40 2 181 178 true 412),
 (184,fo "is_pair" ir "rootwebs.webs" 396 183),
 (188,co "web_of" 415 42 2 181 185 false 418),
 (189,fo "web_of" gZ "rootwebs.webs" 396 188),
 (193,co "renamed" 421 49 2 181 190 false 424),
 (194,fo "renamed" fY "rootwebs.webs" 396 193),
 (200,co "is_renaming" 427 54 2 181 195 true 432),
 (201,fo "is_renaming" eH "rootwebs.webs" 396 200),
 (207,co "_law_cell_at" 437 57 2 181 202 true 442),
 (208,fo "_law_cell_at" dF "law_rootwebs_k04_webs_renamed" 435 207),
 (214,co "_law_next" 445 61 1 181 209 true 449),
 (215,fo "_law_next" fI "law_rootwebs_k04_webs_renamed" 435 214),
 (221,co "_law_pen_of" 452 64 1 181 216 true 457),
 (222,fo "_law_pen_of" eK "law_rootwebs_k04_webs_renamed" 435 221),
 (228,co "_law_draw" 460 67 2 181 223 true 466),
 (229,fo "_law_draw" fJ "law_rootwebs_k04_webs_renamed" 435 228),
 (235,co "_law_whole" 469 74 1 181 230 true 473),
 (236,fo "_law_whole" eW "law_rootwebs_k04_webs_renamed" 435 235),
 (242,co "_law_kind_of" 476 76 1 181 237 true 481),
 (243,fo "_law_kind_of" dE "law_rootwebs_k04_webs_renamed" 435 242),
 (247,co "_law_named" 484 82 2 181 244 false 487),
 (248,fo "_law_named" cS "law_rootwebs_k04_webs_renamed" 435 247),
 (252,co "_law_names_by" 490 85 2 181 249 false 493),
 (253,fo "_law_names_by" cG "law_rootwebs_k04_webs_renamed" 435 252),
 (257,co "_law_far" 496 88 1 181 254 false 499),
 (258,fo "_law_far" fm "law_rootwebs_k04_webs_renamed" 435 257),
 (262,co "_law_steps" 502 99 2 181 259 false 505),
 (263,fo "_law_steps" dy "law_rootwebs_k04_webs_renamed" 435 262),
 (267,co "_law_sparse_by" 508 105 1 181 264 false 511),
 (268,fo "_law_sparse_by" aV "law_rootwebs_k04_webs_renamed" 435 267),
 (274,co "_law_web_by" 514 124 1 181 269 true 523),
 (275,fo "_law_web_by" eJ "law_rootwebs_k04_webs_renamed" 435 274),
 (281,co "_law_told" 526 137 2 181 276 true 532),
 (282,fo "_law_told" fH "law_rootwebs_k04_webs_renamed" 435 281),
 (286,co "law" 535 142 1 181 283 false 538),
 (287,fo "law" iS "law_rootwebs_k04_webs_renamed" 435 286)]
noncomputable def Qz:Program:=W.view PySem.Challenge.pw_rootwebs_k04_webs_renamed [1,2,3,4,5,6,7,8,9,11,12,13,14,16,17,18,19,20,21,23,24,25,26,27,28,29,30,31,32,33,34,35,36]
noncomputable abbrev Hz:W.Hook:=W.kHook Kz [3,23,24,36,37,48,49,60,61,72,73,84,85,103,104,122,123,141,142,150,151,157,158,164,165,169,170,176,177,183,184,188,189,193,194,200,201,207,208,214,215,221,222,228,229,235,236,242,243,247,248,252,253,257,258,262,263,267,268,274,275,281,282,286,287] fun _=>by kernel_rfl
theorem Cj:PySem.Challenge.rw_rootwebs_k04_webs_renamed.wellSaid=true:=by kernel_rfl
noncomputable abbrev Xz (s:Shared):Bool:=W.xlAt Qz [] s && W.recOk (W.RowW.records (W.OpenRow.toRowW (W.OpenLaw.row PySem.Challenge.rw_rootwebs_k04_webs_renamed))) s
theorem Ck:W.LeftO PySem.Challenge.rw_rootwebs_k04_webs_renamed.row.prog Qz [] Xz (W.Hook.obs Hz) (W.Hook.val Hz) 5506:=fun w=>by kernel_rfl
end Lw
namespace L2
open PySem PySem.Spec PyProof.Rows
theorem dG {x:Str}:∀ {names:List (Str × NameKind)}{k:NameKind},names.lookup x=some k->(x,k)∈names
 | [],_,h=>by simp at h
 | (n,j)::r,k,h=>by
  rw [IX] at h
  cases hx:x == n with
  | true=>
   rw [hx] at h
   have e:x=n:=eq_of_beq hx
   cases h
   rw [e];exact Hj
  | false=>rw [hx] at h;exact Hk _ (dG h)
theorem jd {env:Env}{x:Str}:∀ {names:List (Str × NameKind)},
  (names.map fun (n, k) => if (k == NameKind.free && env.scope.kind == .function && env.kindOf n == some .cell) then (n, NameKind.cell) else (n, k)).lookup x =
   (names.lookup x).map fun k=>if (k == NameKind.free && env.scope.kind == .function && env.kindOf x == some .cell) then NameKind.cell else k
 | []=>rfl
 | (n,k)::r=>by
  have ih:=jd (env:=env) (x:=x) (names:=r)
  rw [IH]
  show List.lookup x ((if (k == NameKind.free && env.scope.kind == .function && env.kindOf n == some .cell)=true then (n,NameKind.cell) else (n,k))::_)=_
  cases hx:x == n with
  | true=>
   have e:x=n:=eq_of_beq hx
   subst e
   by_cases hc:(k == NameKind.free && env.scope.kind == .function && env.kindOf x == some .cell)=true
   ·rw [G6 hc,IX,hx,IX,hx];show some NameKind.cell=some (if _ then _ else _);rw [G6 hc]
   ·rw [G7 hc,IX,hx,IX,hx];show some k=some (if _ then _ else _);rw [G7 hc]
  | false=>
   by_cases hc:(k == NameKind.free && env.scope.kind == .function && env.kindOf n == some .cell)=true
   ·rw [G6 hc,IX,hx,IX,hx];exact ih
   ·rw [G7 hc,IX,hx,IX,hx];exact ih
theorem jW {env:Env}{f:Str × NameKind->List (Str × Addr)->Sem (ForInStep (List (Str × Addr)))}
  (h1:∀ n c acc,env.cells.lookup n=some c->f (n,.free) acc=pure (.yield ((n,c)::acc))) (h2:∀ n k acc,k≠.free->f (n,k) acc=pure (.yield acc)) :
  ∀ (names:List (Str × NameKind)) (acc:List (Str × Addr)),(∀ y∈names,y.2=.free->∃ c,env.cells.lookup y.1=some c)->(∀ x c,acc.lookup x=some c->env.cells.lookup x=some c) ->
   ∃ cl,forIn names acc f=(pure cl:Sem (List (Str × Addr)))/\(∀ x c,cl.lookup x=some c->env.cells.lookup x=some c)/\(∀ x,(acc.lookup x).isSome=true->(cl.lookup x).isSome=true)/\(∀ y∈names,y.2=.free->(cl.lookup y.1).isSome=true)
 | [],acc,_,ha=>⟨acc,rfl,ha,fun _ h=>h,fun y hy=>by simp at hy⟩
 | (n,k)::r,acc,hn,ha=>by
  by_cases hk:k=.free
  ·subst hk
   obtain ⟨c,hc⟩:=hn (n,.free) Hj rfl
   obtain ⟨cl,e1,e2,e3,e4⟩:=jW h1 h2 r ((n,c)::acc) (fun y hy=>hn y (Hk _ hy)) (fun x d h=>by
    rw [IX] at h
    cases hx:x == n with
    | true=>rw [hx] at h;cases h;rw [eq_of_beq hx];exact hc
    | false=>rw [hx] at h;exact ha x d h)
   refine ⟨cl,?_,e2,fun x h=>e3 x ?_,fun y hy hf=>?_⟩
   ·rw [List.forIn_cons,h1 n c acc hc];exact e1
   ·rw [IX];cases hx:x == n <;> simp [h]
   ·rcases Hl.mp hy with z | z
    ·subst z;exact e3 n (by simp [IX])
    ·exact e4 y z hf
  ·obtain ⟨cl, e1, e2, e3, e4⟩ := jW h1 h2 r acc (fun y hy => hn y (Hk _ hy)) ha
   refine ⟨cl,?_,e2,e3,fun y hy hf=>?_⟩
   ·rw [List.forIn_cons,h2 n k acc hk];exact e1
   ·rcases Hl.mp hy with z | z
    ·subst z;exact absurd hf hk
    ·exact e4 y z hf
theorem sy {env:Env}{n:Str}{c:Addr} (h:env.cells.lookup n=some c):cellOf env n=pure c:=by
 unfold cellOf;rw [h]
def uo (env:Env) (x:Str × NameKind) (r:List (Str × Addr)):Sem (ForInStep (List (Str × Addr))):=
 match x with | (name,kind)=>if kind == .free then do let c <- cellOf env name;pure (.yield ((name,c)::r)) else pure (.yield r)
theorem tZ {scope:Scope}{env:Env} (hn:∀ y∈scope.names,y.2=.free->∃ c,env.cells.lookup y.1=some c) :
  ∃ cl,closureFor scope env=pure cl/\(∀ x c,cl.lookup x=some c->env.cells.lookup x=some c)/\(∀ y∈scope.names,y.2=.free->(cl.lookup y.1).isSome=true):=by
 obtain ⟨cl,e1,e2,_,e4⟩:=jW (env:=env) (f:=uo env)
  (fun n c acc h=>by unfold uo;simp only [IY,Iv];rw [sy h];rfl)
  (fun n k acc h => by
   unfold uo
   have:(k == NameKind.free)=false:=by simpa using h
   simp only [this,IZ,Iu]) scope.names [] hn (fun x c h=>by simp at h)
 refine ⟨cl,?_,e2,e4⟩
 show (forIn scope.names [] (uo env) >>= fun s=>pure s)=pure cl
 rw [e1];rfl
def gN (X:Cx) (Nc:List Str) (scope:Scope) (cl:List (Str × Addr)) (C:Addr) (s:Shared) (H:Hp) (fp:List Addr):Cx where
 prog:=X.prog
 w:=X.w
 K:=X.K
 mg:=X.mg
 base:=X.base
 A:=X.A
 N:=Nc
 s₀:=s
 H₀:=H
 env:=compEnvC scope (cellsFrom (C+1) scope.names cl) C X.env
 outer:=X.stack
 stack:=X.stack
 ex:=fp
 fn:=fun x=>scope.names.lookup x == some .cell
 calm:=X.calm
 pn:=[]
 xe:=fun _ _=>False
def mD (cap:List (Option Nat)) (σ:St):St:=cap.map fun o=>o.bind fun j=>(σ[j]?).join
def eQ (N:List Str) (env:Env) (scope:Scope):List Str->List (Option Nat)->Bool
 | [],[]=>true
 | _::Nc,none::cap=>eQ N env scope Nc cap
 | x::Nc,some j::cap=>(N[j]? == some x) && (scope.names.lookup x == some .free) && eQ N env scope Nc cap
 | _,_=>false
theorem lb {N:List Str}{env:Env}{scope:Scope}:∀ {Nc:List Str}{cap:List (Option Nat)},eQ N env scope Nc cap=true->cap.length=Nc.length
 | [],[],_=>rfl
 | [],_::_,h=>by simp [eQ] at h
 | _::_,[],h=>by simp [eQ] at h
 | _::Nc,none::cap,h=>by rw [I0,I0,lb (Nc:=Nc) (cap:=cap) h]
 | x::Nc,some j::cap,h=>by
  have h':eQ N env scope Nc cap=true:=by unfold eQ at h;simp only [IE] at h;exact h.2
  rw [I0,I0,lb h']
theorem m7 {N:List Str}{env:Env}{scope:Scope}:∀ {Nc:List Str}{cap:List (Option Nat)}{i j:Nat}{x:Str},eQ N env scope Nc cap=true->cap[i]?=some (some j)->Nc[i]?=some x->N[j]?=some x/\scope.names.lookup x=some .free
 | [],_,_,_,_,_,_,e=>by simp at e
 | _::_,[],_,_,_,h,_,_=>by simp [eQ] at h
 | y::Nc,none::cap,0,j,x,h,e,_=>by simp at e
 | y::Nc,some k::cap,0,j,x,h,e,e2=>by
  simp at e e2;subst e;subst e2
  unfold eQ at h;simp only [IE] at h
  exact ⟨eq_of_beq h.1.1,eq_of_beq h.1.2⟩
 | y::Nc,none::cap,i+1,j,x,h,e,e2=>m7 (Nc:=Nc) (cap:=cap) (i:=i) h (by simpa using e) (by simpa using e2)
 | y::Nc,some k::cap,i+1,j,x,h,e,e2=>by
  have h':eQ N env scope Nc cap=true:=by unfold eQ at h;simp only [IE] at h;exact h.2
  exact m7 (Nc:=Nc) (cap:=cap) (i:=i) h' (by simpa using e) (by simpa using e2)
structure bP (N:List Str) (env:Env) (scope:Scope) (Nc:List Str) (cap:List (Option Nat)):Prop where
 kind:scope.kind=.function
 nd:∀ y∈scope.names,scope.names.lookup y.1=some y.2
 free:∀ y∈scope.names,y.2=.free->env.kindOf y.1=some .cell\/env.kindOf y.1=some .free
 cap:eQ N env scope Nc cap=true
theorem jm {n0:Nat}{x:Str}{c:Addr}:∀ {names:List (Str × NameKind)}{cl:List (Str × Addr)}{n:Nat},n0<=n->((x,NameKind.cell)∈names\/∃ c',cl.lookup x=some c'/\n0<=c')->(cellsFrom n names cl).lookup x=some c->n0<=c
 | [],cl,n,_,h,e=>by
  rcases h with z | ⟨c',z1,z2⟩
  ·simp at z
  ·have e' : cl.lookup x = some c := e
   rw [z1] at e';cases e';exact z2
 | (y,k)::r,cl,n,hn,h,e=>by
  unfold cellsFrom at e
  split at e
  ·rename_i hk
   refine jm (n:=n+1) (by omega) ?_ e
   cases hx:x == y with
   | true=>exact .inr ⟨n,by rw [IX,hx],hn⟩
   | false=>
    rcases h with z | ⟨c',z1,z2⟩
    ·rcases Hl.mp z with q | q
     ·have : x = y := Hx Prod.fst q
      rw [this] at hx;simp at hx
     ·exact .inl q
    ·exact .inr ⟨c',by rw [IX,hx];exact z1,z2⟩
  ·rename_i hk
   refine jm hn ?_ e
   rcases h with z | z
   ·rcases Hl.mp z with q | q
    ·have : k = .cell := (Hx Prod.snd q).symm
     exact absurd (by rw [this];rfl) hk
    ·exact .inl q
   ·exact .inr z
theorem g9 {x:Str}:∀ {names:List (Str × NameKind)}{cl:List (Str × Addr)}{n:Nat},(x,NameKind.cell) ∉ names->(cellsFrom n names cl).lookup x=cl.lookup x
 | [],cl,n,_=>rfl
 | (y,k)::r,cl,n,hn=>by
  unfold cellsFrom
  have hr:(x,NameKind.cell) ∉ r:=fun z=>hn (Hk _ z)
  split
  ·rename_i hk
   rw [g9 hr,IX]
   cases hx:x == y with
   | true=>exact absurd (by rw [eq_of_beq hx,(eq_of_beq hk:k=.cell)];exact Hj) hn
   | false=>rfl
  ·exact g9 hr
theorem la {n0:Nat}:∀ {names:List (Str × NameKind)}{cl:List (Str × Addr)}{n:Nat},n0<=n->(∀ x y c,cl.lookup x=some c->cl.lookup y=some c->n0<=c->x=y)->(∀ x c,cl.lookup x=some c->c<n) ->
  ∀ x y c,(cellsFrom n names cl).lookup x=some c->(cellsFrom n names cl).lookup y=some c->n0<=c->x=y
 | [],cl,n,_,h,_=>h
 | (z,k)::r,cl,n,hn,h,hb=>by
  unfold cellsFrom
  split
  ·refine la (n := n + 1) (by omega) (fun x y c e1 e2 hc => ?_) (fun x c e => ?_)
   ·rw [IX] at e1 e2
    cases hx:x == z with
    | true=>
     cases hy:y == z with
     | true=>rw [eq_of_beq hx,eq_of_beq hy]
     | false=>
      rw [hx] at e1;rw [hy] at e2
      cases e1
      exact absurd (hb y _ e2) (Hc _)
    | false=>
     cases hy:y == z with
     | true=>
      rw [hx] at e1;rw [hy] at e2
      cases e2
      exact absurd (hb x _ e1) (Hc _)
     | false=>rw [hx] at e1;rw [hy] at e2;exact h x y c e1 e2 hc
   ·rw [IX] at e
    cases hx:x == z with
    | true=>rw [hx] at e;cases e;exact Ja _
    | false=>rw [hx] at e;exact Jb (hb x c e)
  ·exact la hn h hb
theorem i7 {x:Str}{c:Addr}:∀ {names:List (Str × NameKind)}{cl:List (Str × Addr)}{h:Heap},(cellsFrom h.objs.size names cl).lookup x=some c->cl.lookup x=some c\/(pushCells h names).IsCell c none
 | [],cl,h,e=>.inl e
 | (y,k)::r,cl,h,e=>by
  unfold cellsFrom at e
  unfold pushCells
  split at e
  ·rename_i hk
   rw [G6 hk]
   have e':(cellsFrom (h.push { cls:=.type "cell",data:=.cell none }).objs.size r ((y,h.objs.size)::cl)).lookup x=some c:=by rw [Jc];exact e
   rcases i7 e' with q | q
   ·rw [IX] at q
    cases hx:x == y with
    | true=>
     rw [hx] at q;cases q
     exact .inr ⟨_,Jd _ _ _ _ (HH _ rfl),rfl⟩
    | false=>rw [hx] at q;exact .inl q
   ·exact .inr q
  ·rename_i hk
   rw [G7 hk]
   exact i7 e
theorem vX {X:Cx}{pins:List (Addr × Obj)}{σ:St}{H:Hp}{s:Shared}{h':Heap}{t':Nat}{fp:List Addr}{Nc:List Str}{scope:Scope}{cl:List (Str × Addr)}{cap:List (Option Nat)}
  (I:aI X pins σ H s) (hf:∀ b∈fp,j7 X pins H b) (hfs:∀ b∈fp,b<s.heap.objs.size) (S:bP X.N X.env scope Nc cap)
  (hcl:∀ x c,cl.lookup x=some c->X.env.cells.lookup x=some c) (hall:∀ y∈scope.names,y.2=.free->(cl.lookup y.1).isSome=true)
  (hn:h'.Ns s.heap.objs.size (fun _=>none)) (hk:∀ b o,s.heap.get? b=some o->h'.get? b=some o) (hce:∀ x c,(cellsFrom (s.heap.objs.size+1) scope.names cl).lookup x=some c->cl.lookup x=some c\/h'.IsCell c none) :
  aI (gN X Nc scope cl s.heap.objs.size s H fp) [] (mD cap σ) H { s with heap:=h',toks:=t' }:=by
 have hrl:∀ x,(gN X Nc scope cl s.heap.objs.size s H fp).env.kindOf x=(scope.names.lookup x).map fun k=>if (k == NameKind.free && X.env.scope.kind == .function && X.env.kindOf x == some .cell) then NameKind.cell else k:=fun x=>jd
 have hcf:∀ x,((gN X Nc scope cl s.heap.objs.size s H fp).env.kindOf x=some .cell\/(gN X Nc scope cl s.heap.objs.size s H fp).env.kindOf x=some .free)->scope.names.lookup x=some .free\/scope.names.lookup x=some .cell:=fun x hx=>by
  rw [hrl] at hx
  cases e:scope.names.lookup x with
  | none=>rw [e] at hx;rcases hx with z | z <;> cases z
  | some k=>
   rw [e] at hx
   by_cases hkf:k=.free
   ·rw [hkf];exact .inl rfl
   ·have : (k == NameKind.free) = false := by simpa using hkf
    simp only [this,Bool.false_and,Option.map_some] at hx
    rcases hx with z | z
    ·have z' : k = .cell := by simpa using z
     rw [z'];exact .inr rfl
    ·have z' : k = .free := by simpa using z
     exact absurd z' hkf
 have hclx:∀ x,scope.names.lookup x=some .free->∃ c,cl.lookup x=some c:=fun x e=>HY.mp (hall (x,.free) (dG e) rfl)
 have hcb:∀ x c,cl.lookup x=some c->c<s.heap.objs.size:=fun x c e=>by
  obtain ⟨v,q⟩:=I.cell x c (hcl x c e)
  exact q.lt
 have hcell:∀ x c,(cellsFrom (s.heap.objs.size+1) scope.names cl).lookup x=some c->(cl.lookup x=some c/\c<s.heap.objs.size)\/(s.heap.objs.size+1<=c/\h'.IsCell c none):=fun x c e=>by
  by_cases hm:(x,NameKind.cell)∈scope.names
  ·have h1 := jm (HI _) (.inl hm) e
   rcases hce x c e with z | z
   ·have := hcb x c z
    exact absurd (Hb (Jb this) h1) (Hc _)
   ·exact .inr ⟨h1,z⟩
  ·rw [g9 hm] at e
   exact .inl ⟨e,hcb x c e⟩
 have hinj:∀ x y c,(cellsFrom (s.heap.objs.size+1) scope.names cl).lookup x=some c->(cellsFrom (s.heap.objs.size+1) scope.names cl).lookup y=some c->x=y:=fun x y c e1 e2=>by
  rcases hcell x c e1 with ⟨a1,a2⟩ | ⟨a1,a2⟩
  ·rcases hcell y c e2 with ⟨b1, b2⟩ | ⟨b1, b2⟩
   ·exact I.ok.inj x y c (hcl x c a1) (hcl y c b1)
   ·exact absurd (Hb (Jb a2) b1) (Hc _)
  ·exact la (HI _) (fun x y c q _ hc=>absurd (Hb (Jb (hcb x c q)) hc) (Hc _)) (fun x c q=>Jb (hcb x c q)) x y c e1 e2 a1
 refine ⟨⟨I.ok.mod,S.kind,I.ok.glob,I.ok.blt,HI _,fun x y c e1 e2=>hinj x y c e1 e2,fun x hx=>?_,fun x c e e2=>?_,I.ok.hd,I.ok.frames,.inl rfl,
  fun b hb=>⟨Hd (hfs b hb),fun x c e=>?_⟩,I.bs,Hg I.ok.bsz I.sz,fun b o e hb=>?_,fun b hb z=>?_,I.stack,I.stkFree⟩,
  rfl,I.bare,Un.kept hk,⟨_,hn,fun i x v e1 e2 e3=>?_⟩,fun x c e=>?_,I.hok.fresh (HI _),fun x c e=>?_,fun p hp=>absurd (show p∈([]:List (Addr × Obj)) from hp) (by simp),I.hok.kept hk,?_⟩
 ·rcases hcf x hx with q | q
  ·by_cases hm : (x, NameKind.cell) ∈ scope.names
   ·rcases HY.mp (W.cellsFrom_some scope.names (s.heap.objs.size + 1) cl (.inl (S.nd (x, .cell) hm))) with ⟨c, e⟩
    exact ⟨c,e⟩
   ·obtain ⟨c, e⟩ := hclx x q
    exact ⟨c,(g9 hm).trans e⟩
  ·obtain ⟨c, e⟩ := HY.mp (W.cellsFrom_some scope.names (s.heap.objs.size + 1) cl (.inl q))
   exact ⟨c,e⟩
 ·have hm : (x, NameKind.cell) ∈ scope.names := dG (eq_of_beq (show (scope.names.lookup x == some .cell) = true from e))
  exact Nat.le_of_succ_le (jm (HI _) (.inl hm) e2)
 ·rcases hcell x c e with ⟨a1, a2⟩ | ⟨a1, a2⟩
  ·exact (hf b hb).2.2.2.2.1 x c (hcl x c a1)
  ·exact fun z=>absurd (Hb (Jb (hfs b hb)) (by rw [<- z];exact a1)) (Hc _)
 ·rcases (hf b hb).2.2.2.1 with z | z
  ·exact I.ok.noex b o e z
  ·exact absurd (Hb (Hb (G9 e) I.ok.bsz) z) (Hc _)
 ·rcases Hl.mp (I.stkSub b z) with q | q
  ·exact (hf b hb).2.1 q
  ·exact (hf b hb).2.2.1 q
 ·have e2':∃ j,cap[i]?=some (some j)/\σ[j]?=some (some v):=by
   unfold mD at e2
   rw [Ih] at e2
   cases hc:cap[i]? with
   | none=>rw [hc] at e2;cases e2
   | some o=>
    rw [hc] at e2
    cases o with
    | none=>cases e2
    | some j=>
     refine ⟨j,rfl,?_⟩
     simp only [Option.map_some,Option.bind_some] at e2
     cases hj:σ[j]? with
     | none=>rw [hj] at e2;cases e2
     | some q=>
      rw [hj] at e2
      simp only [Option.join_some] at e2
      rw [G8 e2]
  obtain ⟨j,hj,hv⟩:=e2'
  obtain ⟨hN,hx⟩:=m7 S.cap hj e1
  have hkx:=S.free (x,.free) (dG hx) rfl
  obtain ⟨m,hm,hl⟩:=I.loc
  obtain ⟨u,r,l⟩:=hl j x v hN hv (hkx.elim (fun z=>.inr (.inl z)) (fun z=>.inr (.inr z)))
  refine ⟨u,r,.inr ⟨?_,?_⟩⟩
  ·rw [hrl, hx]
   show some (if _ then _ else _)=_\/some (if _ then _ else _)=_
   by_cases hc:(NameKind.free == NameKind.free && X.env.scope.kind == .function && X.env.kindOf x == some .cell)=true
   ·rw [G6 hc];exact .inl rfl
   ·rw [G7 hc];exact .inr rfl
  ·obtain ⟨c, ec⟩ := hclx x hx
   have hm:(x,NameKind.cell) ∉ scope.names:=fun z=>by
    have:=S.nd (x,.cell) z
    rw [hx] at this;cases this
   refine ⟨c,(g9 hm).trans ec,?_⟩
   rcases l with ⟨k,_⟩ | ⟨k,c',ec',z⟩
   ·rcases hkx with q | q <;> (rw [k] at q;cases q)
   ·have q := hcl x c ec
    rw [ec'] at q;cases q
    obtain ⟨o,ho,hd⟩:=z
    exact ⟨o,hk _ o ho,hd⟩
 ·rcases hcell x c e with ⟨a1, a2⟩ | ⟨a1, a2⟩
  ·obtain ⟨v, o, ho, hd⟩ := I.cell x c (hcl x c a1)
   exact ⟨v,o,hk _ o ho,hd⟩
  ·exact ⟨none,a2⟩
 ·rcases hcell x c e with ⟨a1, a2⟩ | ⟨a1, a2⟩
  ·exact I.freeC x c (hcl x c a1)
  ·exact I.hok.fresh (Nat.le_of_succ_le a1)
 ·show (cap.map _).length = Nc.length
  rw [Il,lb S.cap]
abbrev ug:Value->Shared->Prop:=fun _ _=>False
def pL (ifs:List Expr) (env:Env):Sem Bool:=forIn ifs true fun c r=>if r=true then do let ok <- isTrue c env (eval c env);pure (ForInStep.yield ok) else pure (ForInStep.yield r)
def qo (X:Cx) (ifs:List Expr) (t:TT):Prop:=
 ∀ (pins:List (Addr × Obj)) (s:Shared) (σ:St) (H:Hp) (Q:Bool->Hp->Prop),aI X pins σ H s->t σ H Q->wpAny (model X.prog X.w) X.A (pL ifs X.env) (TP X pins σ Q) X.xe s
def E1:TT:=fun _ H Q=>Q true H
theorem AA {X:Cx}:qo X [] E1:=fun _ _ _ H _ I h=>HE ⟨H,I,h⟩
theorem Az {X:Cx}{c:Expr}{t:TT} (h:PT X c t):qo X [c] t:=fun pins s σ H Q I q=>wpAny_tests_one (h pins s σ H Q I q)
def Ee (e:Expr) (acc:Value) (env:Env):Sem Unit:=match e with
 | .ListComp elt _ _ _=>do let _ <- call (.builtin "list.append") [acc,<- eval elt env]
 | .SetComp elt _ _ _=>do let v <- eval elt env;standAt elt.pos;let _ <- call (.builtin "set.add") [acc,v]
 | _=>unsupported "internal:not-a-comprehension"
def mK:Expr->Bool
 | .ListComp ..=>true
 | .SetComp ..=>true
 | _=>false
def ka (M:Model) (A:Around) (e:Expr) (k:Nat) (acc:Value) (env:Env) (C:Shared->Prop) (E:Value->Shared->Prop) (s:Shared):Prop:=match (clausesOf e)[k]? with
 | some g=>wpAny M A (eval g.iter env) (fun x s1=>wpAny M A (foldedSetIterable g.iter env x) (fun x s2=>wpAny M A (pyIter x) (fun it s3=>
   codeAny M A (.compStart e k it acc env) (fun r s4=>(∃ f,r=.ok f)/\C s4) s3) E s2) E s1) E s
 | none=>wpAny M A (Ee e acc env) (fun _ s1=>C s1) E s
theorem rW {M:Model}{A:Around}{e:Expr}{k:Nat}{acc:Value}{env:Env}{C C':Shared->Prop}{E:Value->Shared->Prop}{s:Shared} (hC:∀ s,C s->C' s) (h:ka M A e k acc env C ug s):ka M A e k acc env C' E s:=by
 unfold ka at h ⊢
 split at h
 ·exact Hu h (fun _ _ h=>Hu h (fun _ _ h=>Hu h (fun _ _ h=>HU h fun _ _ h=>⟨h.1,hC _ h.2⟩) fun _ _ z=>z.elim) fun _ _ z=>z.elim) fun _ _ z=>z.elim
 ·exact Hu h (fun _ _ h=>hC _ h) fun _ _ z=>z.elim
theorem zN {M:Model}{A:Around}{E:Value->Shared->Prop}{s:Shared}{e:Expr}{d:Nat}{g:Comprehension}{it acc:Value}{env:Env}{Q:Fin->Shared->Prop} (he:mK e=true) (hz:∀ g∈clausesOf e,g.is_async=0) (hg:(clausesOf e)[d]?=some g)
  (h : wpAny M A (pyNext it) (fun r s₁ => match r with
   | none=>Q (.done .next) s₁
   | some v=>wpAny M A (letOwnedTupleGo g.target it v) (fun _ s₁'=>wpAny M A (assign g.target env v) (fun _ s₂=>wpAny M A (pL g.ifs env) (fun ok s₃=>
     if ok=true then ka M A e (d+1) acc env (fun s₄=>wpAny M A (again (.compLoop e d it acc env)) Q E s₄) E s₃ else wpAny M A (again (.compLoop e d it acc env)) Q E s₃) E s₂) E s₁') E s₁) E s) :
  wpAny M A (compTurn e d it acc env) Q E s:=by
 have h0:=hz g (Ij hg)
 have h1:∀ g',(clausesOf e)[d+1]?=some g'->g'.is_async=0:=fun g' h=>hz g' (Ij h)
 unfold compTurn
 cases e <;> first
  | exact absurd (show false=true from he) HP
  | (rename_i elt gens sc pos
     have hg':gens[d]?=some g:=hg
     have h1':∀ g',gens[d+1]?=some g'->g'.is_async=0:=h1
     dsimp only
     rw [hg']
     dsimp only
     rw [h0]
     refine HA (HC ?_)
     show wpAny M A (pyNext it >>= _) Q E s
     refine HA (Hu h (fun r s₁ h₁=>?_) fun _ _ z=>z)
     cases r with
     | none=>exact HE h₁
     | some v=>
      refine HA (Hu h₁ (fun _ s₁' h₁'=>?_) fun _ _ z=>z)
      refine HA (Hu h₁' (fun _ s₂ h₂=>?_) fun _ _ z=>z)
      refine HA (Hu h₂ (fun ok s₃ h₃=>?_) fun _ _ z=>z)
      cases ok with
      | false=>exact h₃
      | true=>
       simp only [Iv] at h₃ ⊢
       unfold ka at h₃
       dsimp only [clausesOf] at h₃
       cases e2:gens[d+1]? with
       | none=>
        rw [e2] at h₃
        exact HA h₃
       | some g'=>
        rw [e2] at h₃
        have e3:=h1' g' e2
        simp only [e3]
        refine HA (Hu h₃ (fun x s₄ h₄=>?_) fun _ _ z=>z)
        refine HA (HC ?_)
        show wpAny M A (foldedSetIterable g'.iter env x >>= _) Q E s₄
        refine HA (Hu h₄ (fun x s₅ h₅=>?_) fun _ _ z=>z)
        refine HA (HB ?_)
        show wpAny M A (pyIter x) _ E s₅
        refine Hu h₅ (fun it' s₆ h₆=>?_) fun _ _ z=>z
        refine HA (wpAny_runOwn (HU h₆ fun r s₇ h₇=>?_))
        obtain ⟨⟨f,rfl⟩,hc⟩:=h₇
        exact hc)
section
variable {prog:Program}{w:World}{A:Around}{R:Result->Shared->Prop}{s:Shared}
theorem vn {e:Expr}{k:Nat}{g:Comprehension}{it acc:Value}{env:Env} (he:mK e=true) (hz:∀ g∈clausesOf e,g.is_async=0) (hg:(clausesOf e)[k]?=some g)
  (h0:codeAny (model prog w) A (.compLoop e k it acc env) R s) (h:wpAny (model prog w) A (pyIter it) (fun it' s'=>codeAny (model prog w) A (.compLoop e k it' acc env) R s') ug s) :
  codeAny (model prog w) A (.compStart e k it acc env) R s:=by
 have ha:=hz g (Ij hg)
 cases e <;> first
  | exact absurd (show false=true from he) HP
  | (refine Je ?_
     show wpAny _ _ ((compStart _ k it acc env).onRaise (fun x=>do noteFrame x env;standAt theWindowsPlace)) _ _ s
     refine wpAny_notedAt ?_
     unfold compStart
     rw [hg]
     have e1:((some g).elim false fun x=>x.is_async != 0)=false:=by show (g.is_async != 0)=false;rw [ha];rfl
     rw [e1]
     simp only [IZ,Iu]
     refine HA (Jf (wpAny_ite ?_))
     split
     ·exact HE (And.intro rfl h0)
     ·refine HA (Jg ?_)
      refine HA (HC ?_)
      exact HA (Hu h (fun it' s' h'=>HE (And.intro rfl h')) fun _ _ z=>z.elim))
theorem vT {e:Expr}{d:Nat}{g:Comprehension}{it acc:Value}{env:Env} (he:mK e=true) (hz:∀ g∈clausesOf e,g.is_async=0) (hg:(clausesOf e)[d]?=some g) (I:Nat->Shared->Prop)
  (turn : ∀ n s, I n s -> wpAny (model prog w) A (pyNext it) (fun r s₁ => match r with
   | none=>R (.ok .next) s₁
   | some v=>wpAny (model prog w) A (letOwnedTupleGo g.target it v) (fun _ s₁'=>wpAny (model prog w) A (assign g.target env v) (fun _ s₂=>
     wpAny (model prog w) A (pL g.ifs env) (fun ok s₃=>
      if ok=true then ka (model prog w) A e (d+1) acc env (fun s₅=>∃ m,m<n/\I m s₅) ug s₃
      else ∃ m,m<n/\I m s₃) ug s₂) ug s₁') ug s₁) ug s)
  (n:Nat) (h:I n s):codeAny (model prog w) A (.compLoop e d it acc env) R s:=by
 refine codeAny_loop (by cases e <;> first | exact absurd (show false=true from he) HP | rfl) I (fun n s hI=>?_) n h
 cases e <;> first
  | exact absurd (show false=true from he) HP
  | (show wpAny _ A ((compTurn _ d it acc env).onRaise (fun x => do noteFrame x env; theTreesLotGoes x)) _ _ s
     refine wpAny_noted (zN he hz hg (Hu (turn n s hI) (fun r s₁ h₁=>?_) fun _ _ z=>z.elim))
     cases r with
     | none=>exact h₁
     | some v=>
      refine Hu h₁ (fun _ s₂ h₂=>Hu h₂ (fun _ s₃ h₃=>Hu h₃ (fun ok s₄ h₄=>?_) fun _ _ z=>z.elim) fun _ _ z=>z.elim) fun _ _ z=>z.elim
      cases ok with
      | false=>exact HE ⟨rfl,h₄⟩
      | true=>
       simp only [Iv] at h₄ ⊢
       exact rW (fun s₅ h₅=>HE ⟨rfl,h₅⟩) h₄)
end
abbrev zu:=St->Hp->(St->Hp->Prop)->Prop
def zw (X:Cx) (e:Expr) (k:Nat) (acc:Addr) (t:zu):Prop:=
 ∀ (pins:List (Addr × Obj)) (s:Shared) (σ:St) (H:Hp) (N:St->Hp->Prop),aI X pins σ H s->t σ H N->ka (model X.prog X.w) X.A e k (.ref acc) X.env (fun s'=>∃ σ' H',aI X pins σ' H' s'/\N σ' H') ug s
def F2 (J:It) (g:TG) (tt:TT) (tb:zu) (N:St->Hp->Prop) (σ:St) (H:Hp):Prop:=∃ W:Nat->Nat->St->Hp->Prop,(∃ m,W 0 m σ H)/\∀ i m σ1 H,W i m σ1 H ->
 (J.stop i H/\N σ1 H)\/(J.go i H/\∃ N':St->Hp->Prop,(∀ σ' H',N' σ' H'->∃ m',m'<m/\W (i+1) m' σ' H')/\∀ x H',J.yld i H x H'->g x σ1 H' fun σ2 H2=>tt σ2 H2 fun b H3=>if b=true then tb σ2 H3 N' else N' σ2 H3)
section
variable {X:Cx}{e:Expr}{d:Nat}{cl:Comprehension}{g:TG}{tt:TT}{tb:zu}{acc:Addr}
theorem sx {J:It}{fp:List Addr}{it:Addr}{tn:Nat->Heap->Prop}{pins:List (Addr × Obj)}{N:St->Hp->Prop}{σ:St}{H:Hp}{s:Shared} (he:mK e=true) (hz:∀ g∈clausesOf e,g.is_async=0) (hg:(clausesOf e)[d]?=some cl) (hxe:X.xe=ug) (hc:X.calm=true)
  (T:vc X.prog X.w X.K cl.target J fp it tn) (hgc:PG X cl.target g) (htc:qo X cl.ifs tt) (hb:zw X e (d+1) acc tb) (I:aI X pins σ H s) (st:tn 0 s.heap) (fr:∀ b∈fp,j7 X pins H b) (h:F2 J g tt tb N σ H) :
  codeAny (model X.prog X.w) X.A (.compLoop e d (.ref it) (.ref acc) X.env) (fun r s'=>r=.ok .next/\∃ σ' H',aI X pins σ' H' s'/\N σ' H') s:=by
 obtain ⟨W,⟨m0,w0⟩,turn⟩:=h
 have stat:∀ {H':Hp},(∀ b∈fp,H' b=none)->∀ b∈fp,j7 X pins H' b:=fun hn b hb=>⟨hn b hb,(fr b hb).2⟩
 refine vT he hz hg (fun n s'=>∃ i σ' H',aI X pins σ' H' s'/\tn i s'.heap/\(∀ b∈fp,H' b=none)/\W i n σ' H') ?_ m0 ⟨0,_,_,I,st,fun b hb=>(fr b hb).1,w0⟩
 rintro n s5 ⟨i,σ5,H5,I5,st5,fr5,w5⟩
 rcases turn i n σ5 H5 w5 with ⟨stop,qn⟩ | ⟨go,N',hN,step⟩
 ·refine dD (T.done X rfl rfl rfl hc i pins s5 σ5 H5 ug I5 (stat fr5) st5 stop) fun r s6 ⟨hr, I6⟩ => ?_
  subst hr
  exact ⟨rfl,_,_,I6,qn⟩
 ·refine dD (T.item X rfl rfl rfl hc i pins s5 σ5 H5 ug I5 (stat fr5) st5 go) fun r s6 ⟨u, hr, h6⟩ => ?_
  subst hr
  refine dD h6 fun _ s7 ⟨x,H7,I7,r7,y7,st7,fr7⟩=>?_
  have I7':=I7.pinned (stat fr7) (T.obj _ _ st7)
  have z1:=hgc _ s7 σ5 H7 x u _ I7' r7 (step x H7 y7)
  rw [hxe] at z1
  refine dD z1 fun _ s8 ⟨σ8,H8,I8,q8⟩=>?_
  have z2:=htc _ s8 σ8 H8 _ I8 q8
  rw [hxe] at z2
  refine dD z2 fun b s9 ⟨H9,I9,q9⟩=>?_
  have again:∀ {σa:St}{Ha:Hp}{sa:Shared},aI X (pins++mI fp s7.heap) σa Ha sa->N' σa Ha->∃ m,m<n/\∃ i σ' H',aI X pins σ' H' sa/\tn i sa.heap/\(∀ b∈fp,H' b=none)/\W i m σ' H':=fun {σa Ha sa} Ia na=>by
   obtain ⟨m',hm,wa⟩:=hN σa Ha na
   refine ⟨m',hm,i+1,σa,Ha,Ia.unpinned,T.keep _ _ _ st7 fun b hb o e=>(Ia.pin (b,o) (HL _ (HL _ (iw hb e)))).1,fun b hb=>?_,wa⟩
   obtain ⟨o,e,d⟩:=T.obj _ _ st7 b hb
   exact (Ia.pin (b,o) (HL _ (HL _ (iw hb e)))).2.1
  cases b with
  | false=>
   rw [G7 HP] at q9 ⊢
   exact again I9 q9
  | true=>
   rw [G6 rfl] at q9 ⊢
   exact rW (fun s' ⟨σ',H',I',n'⟩=>again I' n') (hb _ s9 σ8 H9 _ I9 q9)
def BC (te:TE) (acc:Addr):zu:=fun σ H N=>te σ H fun y H4=>∃ ys,H4 acc=some (.lst ys)/\ys.length<sizeLine/\N σ (bT H4 acc (.lst (ys++[y])))
theorem rl {te:TE}{elt:Expr}{gens:List Comprehension}{scope:Scope}{pos:Pos} (hg:gens[d]?=none) (hxe:X.xe=ug) (hel:PE X elt te):zw X (.ListComp elt gens scope pos) d acc (BC te acc):=by
 intro pins s σ H N I h
 unfold ka
 show (match gens[d]? with | some g=>_ | none=>_:Prop)
 rw [hg]
 show wpAny _ _ (do let _ <- call (.builtin "list.append") [.ref acc,<- eval elt X.env]) _ _ _
 have z:=hel pins s σ H _ I h
 rw [hxe] at z
 refine HA (dD z fun v10 s10 ⟨y,H10,I10,r10,ys,hy,hz,nn⟩=>?_)
 have z4:=vR (X:=X) pins s10 σ H10 (.ref acc) [y] (.ref acc) [v10] (fun _ H'=>N σ H') I10 rfl (.cons r10 .nil) ⟨_,ys,y,rfl,rfl,hy,hz,nn⟩
 rw [hxe] at z4
 exact HA (dD z4 fun v11 s11 ⟨y',H11,I11,r11,n11⟩=>HE ⟨_,_,I11,n11⟩)
end
theorem y8 {M:Model}{A:Around}{E:Value->Shared->Prop}{s:Shared}{scope:Scope}{cl:List (Str × Addr)}{env:Env}{Q:Env->Shared->Prop}
  (hQ : ∀ h', h'.Ns s.heap.objs.size (fun _ => none) -> (∀ b o, s.heap.get? b = some o -> h'.get? b = some o) -> (∀ x c, (cellsFrom (s.heap.objs.size + 1) scope.names cl).lookup x = some c -> cl.lookup x = some c \/ h'.IsCell c none) ->
   ∀ cenv:Env,({ cenv with scope:=relabel scope env }:Env)=compEnvC scope (cellsFrom (s.heap.objs.size+1) scope.names cl) s.heap.objs.size env->cenv.locals=s.heap.objs.size->Q cenv { s with heap:=h' }) :
  wpAny M A (newFunctionEnv scope env.globals cl [] env.qual none .none (some env)) Q E s:=by
 simp only [newFunctionEnv,Option.isSome_some,Iv]
 refine HA (wpAny_alloc ?_)
 refine HA (wpAny_layCells _ (fun name kind cells=>by cases hkc:kind == NameKind.cell <;> simp [hkc]) _ _ _ _ ?_)
 have hsz:(s.heap.push { cls:=.type "dict",data:=.dict #[] }).objs.size=s.heap.objs.size+1:=Jc ..
 refine HA (HE (HE ?_))
 show Q _ { s with heap:=pushCells (s.heap.push { cls:=.type "dict",data:=.dict #[] }) scope.names }
 refine hQ _ ((Heap.Ns.new s.heap (.type "dict")).keeps (Jd _ _)) (fun b o e=>Jd _ _ b o (HG _ e)) (fun x c e=>?_) _ ?_ rfl
 ·rw [<- hsz] at e
  exact i7 e
 ·show _ = _
  unfold compEnvC
  rw [<- hsz]
def kP (o0:Addr->HO) (wi:TI) (cap:List (Option Nat)) (g:TG) (tt:TT) (tb:Addr->zu):TE:=fun σ H Q=>wi σ H fun J H1=>∀ acc,H1 acc=none->F2 J g tt (tb acc) (fun _ H'=>Q (.ref acc) H') (mD cap σ) (bT H1 acc (o0 acc))
def wY (wi:TI) (cap:List (Option Nat)) (g:TG) (tt:TT) (te:TE):TE:=kP (fun _=>.lst []) wi cap g tt (BC te)
def F7 (X:Cx) (newAcc:Sem Value) (o0:Addr->HO):Prop:=∀ (pins:List (Addr × Obj)) (s:Shared) (σ:St) (H:Hp) (Q:Value->Shared->Prop),aI X pins σ H s ->
 (∀ s',aI X pins σ (bT H s.heap.objs.size (o0 s.heap.objs.size)) s'->(∀ b o,s.heap.get? b=some o->s'.heap.get? b=some o)->s.heap.objs.size<s'.heap.objs.size->Q (.ref s.heap.objs.size) s')->wpAny (model X.prog X.w) X.A newAcc Q X.xe s
theorem rB {X:Cx}:F7 X (newList []) (fun _=>.lst []):=fun pins s σ H Q I h=>
 IF (h _ (I.lnew (t':=s.toks) (ys:=[]) (its:=[]) .nil (Jh _)) (fun b o e=>HG _ e) (by rw [Jc];exact Ja _))
section
variable {X:Cx}{e:Expr}{cl0:Comprehension}{rest:List Comprehension}{scope:Scope}{Nc:List Str}{cap:List (Option Nat)}{wi:TI}{g:TG}{tt:TT}{tb:Addr->zu}{pos':Pos}{o0:Addr->HO}{newAcc:Sem Value}
theorem k9 {use:Option (Value->Sem Unit)}{pins:List (Addr × Obj)}{s:Shared}{σ:St}{H:Hp}{Q:VK}{QQ:Value->Shared->Prop}
  (he:mK e=true) (hz:∀ g∈clausesOf e,g.is_async=0) (hcl0:clausesOf e=cl0::rest) (hmk:F7 X newAcc o0)
  (hc:X.calm=true) (S:bP X.N X.env scope Nc cap) (hi:PI X cl0.target cl0.iter wi)
  (hg:∀ cl C s H fp,PG (gN X Nc scope cl C s H fp) cl0.target g) (ht:∀ cl C s H fp,qo (gN X Nc scope cl C s H fp) cl0.ifs tt) (hb:∀ cl C s H fp acc,zw (gN X Nc scope cl C s H fp) e 1 acc (tb acc))
  (I:aI X pins σ H s) (h:kP o0 wi cap g tt tb σ H Q)
  (hfin:∀ C acc s' H',aI X pins σ H' s'->j7 X pins H' C->(∃ m,s'.heap.Ns C m)->Q (.ref acc) H'->compPost (model X.prog X.w) X.A X.xe use QQ (.ref acc) C (.ok .next) s')
  (hs:∀ x,foldedSetIterable cl0.iter X.env x=pure x) :
  wpAny (model X.prog X.w) X.A (comprehension e scope X.env pos' newAcc false (eval cl0.iter X.env) use) QQ X.xe s:=by
 obtain ⟨cl,hclos,hcl,hall⟩:=tZ (scope:=scope) (env:=X.env) (fun y hy hf=>I.ok.has y.1 (S.free y hy hf))
 have hg0:(clausesOf e)[0]?=some cl0:=by rw [hcl0];rfl
 refine wpAny_comprehension_free hcl0 hs hclos S.kind (fun x hx e=>by rw [S.nd x hx,e]) ?_
 refine dD (hi pins s σ H _ I h) fun v s1 h1=>dD h1 fun itv s2 h2=>?_
 obtain ⟨it,fp,tn,J,H2,e',I2,T,st2,f2,rd⟩:=h2
 subst e'
 have rd:=rd _ I2.fresh
 refine hmk pins s2 σ H2 _ I2 fun s3 I3 hk3 hsz3=>?_
 have st3:tn 0 s3.heap:=T.keep _ _ _ st2 fun b _ o e=>hk3 b o e
 have fpn:∀ b∈fp,b≠s2.heap.objs.size:=fun b hb=>by
  obtain ⟨o,eo,_⟩:=T.obj _ _ st2 b hb
  exact Hd (G9 eo)
 have f3:∀ b∈fp,j7 X pins (bT H2 s2.heap.objs.size (o0 s2.heap.objs.size)) b:=fun b hb=>⟨by rw [aY (fpn b hb)];exact (f2 b hb).1,(f2 b hb).2⟩
 have hfs:∀ b∈fp,b<s3.heap.objs.size:=fun b hb=>by
  obtain ⟨o,eo,_⟩:=T.obj _ _ st3 b hb
  exact G9 eo
 refine y8 fun h1 hns1 hk1 hce cenv ecenv elc=>?_
 rw [ecenv]
 have IB:aI (gN X Nc scope cl s3.heap.objs.size s3 (bT H2 s2.heap.objs.size (o0 s2.heap.objs.size)) fp) [] (mD cap σ) (bT H2 s2.heap.objs.size (o0 s2.heap.objs.size)) { s3 with heap:=h1,toks:=s3.toks }:=
  vX I3 f3 hfs S hcl hall hns1 hk1 hce
 have stB:tn 0 h1:=T.keep _ _ _ st3 fun b _ o e=>hk1 b o e
 rw [elc]
 have frB:∀ b∈fp,j7 (gN X Nc scope cl s3.heap.objs.size s3 (bT H2 s2.heap.objs.size (o0 s2.heap.objs.size)) fp) [] (bT H2 s2.heap.objs.size (o0 s2.heap.objs.size)) b:=fun b hb=>
  ⟨(f3 b hb).1,(IB.ok.exf b hb).1,IB.ok.exfs b hb,.inl hb,(IB.ok.exf b hb).2,fun p hp=>absurd (show p∈([]:List (Addr × Obj)) from hp) (by simp)⟩
 have loop:=sx (X:=gN X Nc scope cl s3.heap.objs.size s3 (bT H2 s2.heap.objs.size (o0 s2.heap.objs.size)) fp) he hz hg0 rfl hc T (hg _ _ _ _ _) (ht _ _ _ _ _) (hb _ _ _ _ _ _) IB stB frB rd
 have fin:∀ r s',(r=.ok .next/\∃ σ' H',aI (gN X Nc scope cl s3.heap.objs.size s3 (bT H2 s2.heap.objs.size (o0 s2.heap.objs.size)) fp) [] σ' H' s'/\Q (.ref s2.heap.objs.size) H')->compPost (model X.prog X.w) X.A X.xe use QQ (.ref s2.heap.objs.size) s3.heap.objs.size r s':=by
  rintro r s' ⟨rfl,σ',H',J',q⟩
  have I5:aI X pins σ H' s':=I3.call' (ch:=fp) J'.os J'.base J'.hok J'.bare fun b hbf=>⟨(f3 b hbf).2.2.2.1,(f3 b hbf).2.1,(f3 b hbf).2.2.2.2.1,(f3 b hbf).2.2.2.2.2⟩
  obtain ⟨mm,hnn,_⟩:=J'.loc
  exact hfin _ _ s' H' I5 (I3.fpOk (HI _) J'.free) ⟨mm,hnn⟩ q
 exact vn he hz hg0 (HU loop fin) (T.self _ 0 _ _ _ stB (HU loop fin))
variable {elt:Expr}{pos:Pos}
theorem yE (hc:X.calm=true) (hz:∀ g∈cl0::rest,g.is_async=0) (S:bP X.N X.env scope Nc cap) (hi:PI X cl0.target cl0.iter wi)
  (hg:∀ cl C s H fp,PG (gN X Nc scope cl C s H fp) cl0.target g) (ht:∀ cl C s H fp,qo (gN X Nc scope cl C s H fp) cl0.ifs tt) (hb:∀ cl C s H fp acc,zw (gN X Nc scope cl C s H fp) (.ListComp elt (cl0::rest) scope pos) 1 acc (tb acc))
  (hs:∀ x,foldedSetIterable cl0.iter X.env x=pure x):PE X (.ListComp elt (cl0::rest) scope pos) (kP (fun _=>.lst []) wi cap g tt tb):=by
 intro pins s σ H Q I h
 have h0:=hz cl0 Hj
 obtain ⟨tg0,it0,if0,as0⟩:=cl0
 have h0':as0=0:=h0
 subst h0'
 rw [arm_eval_ListComp]
 refine k9 (e:=.ListComp elt (_::rest) scope pos) (Q:=Q) rfl hz rfl rB hc S hi hg ht hb I h (fun C acc s' H' I' hf hn q=>?_) hs
 obtain ⟨m,hn⟩:=hn
 refine ⟨m,hn,fun h' sb=>⟨.ref acc,H',?_,rfl,q⟩⟩
 exact I'.turned (t':=s'.toks) (it:=C) (fun b o hb e=>(sb.2 b hb).trans e) hf.1 hf.2.1 hf.2.2.2.1 hf.2.2.2.2.1 hf.2.2.2.2.2
theorem yy {i:Nat}{x:Str}{pos1:Pos}{pos2:Pos} (hc:X.calm=true) (hz:∀ g∈cl0::rest,g.is_async=0) (hN:X.N.Nodup) (hix:X.N[i]?=some x) (hx:X.env.scope.names.lookup x=some .local) (S:bP X.N X.env scope Nc cap) (hi:PI X cl0.target cl0.iter wi)
  (hg:∀ cl C s H fp,PG (gN X Nc scope cl C s H fp) cl0.target g) (ht:∀ cl C s H fp,qo (gN X Nc scope cl C s H fp) cl0.ifs tt) (hb:∀ cl C s H fp acc,zw (gN X Nc scope cl C s H fp) (.ListComp elt (cl0::rest) scope pos) 1 acc (tb acc))
  (hsw:swapsWith (.ListComp elt (cl0::rest) scope pos) (some (.Name x pos1)) pos2.line X.env=pure true) (hs:∀ x,foldedSetIterable cl0.iter X.env x=pure x) :
  PS X (.Assign [.Name x pos1] (.ListComp elt (cl0::rest) scope pos) pos2) (wJ (kP (fun _=>.lst []) wi cap g tt tb) (qK i)):=by
 intro pins s σ H D I h
 have h0:=hz cl0 Hj
 obtain ⟨tg0,it0,if0,as0⟩:=cl0
 have h0':as0=0:=h0
 subst h0'
 rw [exec_Assign_Name_used _ _ _ _ hsw]
 refine HA (HC (HA ?_))
 show wpAny _ X.A (do let _ <- comprehension (.ListComp elt (⟨tg0,it0,if0,0⟩::rest) scope pos) scope X.env _ (newList []) false (eval it0 X.env) (some (assign (.Name x pos1) X.env))) _ _ s
 refine HA (Hu (k9 (e:=.ListComp elt (_::rest) scope pos) (use:=some (assign (.Name x pos1) X.env)) (Q:=fun v H1=>D.nx (σ.set i (some v)) H1) (QQ:=fun _ s'=>SP X pins D .next s') rfl hz rfl rB hc S hi hg ht hb I h (fun C acc s' H' I' hf hn q=>?_) hs)
  (fun _ s' hq=>HE (HE hq)) fun _ _ e=>e)
 obtain ⟨m,hn⟩:=hn
 show wpAny _ X.A (assign (.Name x pos1) X.env (.ref acc)) _ _ _
 refine wpAny_assign_Name (ou I' hN hix (.inl hx) (show bH (.ref acc) (.ref acc) from rfl) (fun s'' I'' hsb=>?_) (.inr hx))
 obtain ⟨a,sb,ha⟩:=hsb
 have hCa:C≠a:=by
  rcases ha with z | z
  ·rw [z];exact hf.2.1
  ·exact fun e=>hf.2.2.2.2.1 x a z e.symm
 refine ⟨m,hn.sameBut sb hCa,fun h' sb'=>⟨_,H',?_,q⟩⟩
 exact I''.turned (t':=s''.toks) (it:=C) (fun b o hb e=>(sb'.2 b hb).trans e) hf.1 hf.2.1 hf.2.2.2.1 hf.2.2.2.2.1 hf.2.2.2.2.2
variable {tg iter:Expr}{ifs:List Expr}{te:TE}
theorem oE:∀ g∈([⟨tg,iter,ifs,0⟩]:List Comprehension),g.is_async=0:=fun g hg=>by rw [Ji.mp hg]
theorem AL (hc:X.calm=true) (S:bP X.N X.env scope Nc cap) (hi:PI X tg iter wi)
  (hg:∀ cl C s H fp,PG (gN X Nc scope cl C s H fp) tg g) (ht:∀ cl C s H fp,qo (gN X Nc scope cl C s H fp) ifs tt) (he:∀ cl C s H fp,PE (gN X Nc scope cl C s H fp) elt te)
  (hs:∀ x,foldedSetIterable iter X.env x=pure x:=by intro _;rfl):PE X (.ListComp elt [⟨tg,iter,ifs,0⟩] scope pos) (wY wi cap g tt te):=
 yE (cl0:=⟨tg,iter,ifs,0⟩) hc oE S hi hg ht (fun cl C s H fp acc=>rl rfl rfl (he cl C s H fp)) hs
theorem AE {i:Nat}{x:Str}{pos1:Pos}{pos2:Pos} (hc:X.calm=true) (hN:X.N.Nodup) (hix:X.N[i]?=some x) (hx:X.env.scope.names.lookup x=some .local) (S:bP X.N X.env scope Nc cap) (hi:PI X tg iter wi)
  (hg:∀ cl C s H fp,PG (gN X Nc scope cl C s H fp) tg g) (ht:∀ cl C s H fp,qo (gN X Nc scope cl C s H fp) ifs tt) (he:∀ cl C s H fp,PE (gN X Nc scope cl C s H fp) elt te)
  (hsw:swapsWith (.ListComp elt [⟨tg,iter,ifs,0⟩] scope pos) (some (.Name x pos1)) pos2.line X.env=pure true) (hs:∀ x,foldedSetIterable iter X.env x=pure x:=by intro _;rfl) :
  PS X (.Assign [.Name x pos1] (.ListComp elt [⟨tg,iter,ifs,0⟩] scope pos) pos2) (wJ (wY wi cap g tt te) (qK i)):=
 yy (cl0:=⟨tg,iter,ifs,0⟩) hc oE hN hix hx S hi hg ht (fun cl C s H fp acc=>rl rfl rfl (he cl C s H fp)) hsw hs
end
end L2
namespace RS
open PySem PySem.W PyProof.Rows
open AutoSeq1 (wpAny_loadPart')
section
variable {prog:Program}{w:World}{A:Around}{E:Value->Shared->Prop}{s:Shared}
theorem qi {it t:Addr}{i:Nat}{items}{x:Value}{Q:Value->Shared->Prop} (hit:s.heap.IsTupleIter it t i) (ht:s.heap.IsTuple t items) (hx:items[i]?=some x)
  (hQ:∀ h',h'.IsTupleIter it t (i+1)->Heap.SameBut it s.heap h'->Q x { s with heap:=h' }):wpAny (model prog w) A (Builtin.SmallTypes.nextOf (.ref it)) Q E s:=by
 obtain ⟨o,ho,hc,hd⟩:=id hit
 obtain ⟨ol,hol,_,nl,hdl⟩:=ht
 unfold Builtin.SmallTypes.nextOf
 refine HA (Iz (name:=Str.ofString "__next__") hit.typeIs Jj (IC Jj hit.typeIs Jk ?_ (Jl _)))
 show wpAny _ _ (field (.ref it) 0 >>= _) _ _ s
 refine HA (Iw ho hd (x:=.ref t) rfl ?_)
 show wpAny _ _ (if (Value.ref t == Value.none)=true then _ else _) _ _ s
 rw [G7 (show ¬ ((Value.ref t == Value.none)=true) from HP)]
 show wpAny _ _ (field (.ref it) 1 >>= _) _ _ s
 refine HA (Iw ho hd (x:=.int i 0) rfl ?_)
 show wpAny _ _ (seqItems? (.ref t) >>= _) _ _ s
 refine HA (Jm hol hdl ?_)
 simp only [Ir,hx]
 refine HA (wpAny_setField ho hd (by simp) (HE ⟨x,rfl,HE (hQ _ ?_ (Jn ..))⟩))
 exact ⟨_,II _ ho (Obj.isFreed_of_fields (Obj.data_mapFields hd _)),(Obj.cls_mapFields ..).trans hc,by rw [Obj.data_mapFields hd];simp [rawInt]⟩
theorem lx {it t:Addr}{i:Nat}{items}{Q:Value->Shared->Prop} (hh:A.handled=none) (hit:s.heap.IsTupleIter it t i) (ht:s.heap.IsTuple t items) (hx:items[i]?=none)
  (hE:∀ h' e,Heap.ExtBut it s.heap h'->(∃ o,h'.get? e=some o/\o.cls=.type "StopIteration")->E (.ref e) { s with heap:=h' }):wpAny (model prog w) A (Builtin.SmallTypes.nextOf (.ref it)) Q E s:=by
 obtain ⟨o,ho,hc,hd⟩:=id hit
 obtain ⟨ol,hol,_,nl,hdl⟩:=ht
 unfold Builtin.SmallTypes.nextOf
 refine HA (Iz (name:=Str.ofString "__next__") hit.typeIs Jj (IC Jj hit.typeIs Jk ?_ (Jl _)))
 show wpAny _ _ (field (.ref it) 0 >>= _) _ _ s
 refine HA (Iw ho hd (x:=.ref t) rfl ?_)
 show wpAny _ _ (if (Value.ref t == Value.none)=true then _ else _) _ _ s
 rw [G7 (show ¬ ((Value.ref t == Value.none)=true) from HP)]
 show wpAny _ _ (field (.ref it) 1 >>= _) _ _ s
 refine HA (Iw ho hd (x:=.int i 0) rfl ?_)
 show wpAny _ _ (seqItems? (.ref t) >>= _) _ _ s
 refine HA (Jm hol hdl ?_)
 simp only [Ir,hx]
 refine HA (Jg (HA (wpAny_setField ho hd (by simp) ?_)))
 show wpAny _ _ (newExc (.type "StopIteration") [] >>= _) _ _ _
 refine HA ?_
 simp only [newExc,newTuple]
 refine HA (IF ?_ (by size_fits))
 refine HA (m:=firstArgMember _ _) (Jo (a:=Value.none) (by first | rfl | (simp only [firstArgMember];rfl)) ?_)
 refine IF ?_ (by size_fits)
 simp only [raiseNew]
 refine HA (wpAny_handled ?_)
 first | rw [show A.in1.handled=none from hh] | rw [hh]
 refine HA (HE (wpAny_throw ?_))
 exact hE _ _ (((Jn ..).extBut.push _).push _) ⟨_,HH _ rfl,rfl⟩
end
theorem Ef {prog:Program}{w:World}{A:Around} (hh:A.handled=none) (it l:Addr) (hne:l≠it) (items:Array Value) :
  Draws prog w A it [it,l] items.size (fun i v=>items[i]?=some v) (fun i h=>h.IsTupleIter it l i/\h.IsTuple l items) where
 live:=fun _ _ st=>let ⟨o,ho,_⟩:=st.1;⟨o,ho⟩
 frame:=fun _ _ _ st hk=>⟨by
  obtain ⟨o,ho,r⟩:=st.1
  exact ⟨o,hk it (by simp) o ho,r⟩,by
  obtain ⟨o,ho,r⟩:=st.2
  exact ⟨o,hk l (by simp) o ho,r⟩⟩
 item:=fun i s Q E hi st hQ=>by
  refine qi st.1 st.2 (x:=items[i]) (by simp [hi]) fun h' hit' hs'=>?_
  refine hQ _ h' s.toks (by simp [hi]) ⟨hit',?_⟩ hs'
  obtain ⟨o,ho,r⟩:=st.2
  exact ⟨o,(hs'.2 l hne).trans ho,r⟩
 done:=fun s Q E st hE=>lx hh st.1 st.2 (by simp) hE
theorem sh (l:Addr) (items:Array Value) (n:Nat) (dct:Option Addr) (sl:Array (Option Value)) :
  Meets (Builtin.«enumerate.__new__» ⟨[.type "enumerate",.ref l],[]⟩) (fun _ R s=>s.heap.get? l=some { cls:=.type "tuple",dict:=dct,data:=.seq items n,slots:=sl } /\
   R (.ok (.ret (.ref (s.heap.push { cls:=.type "tuple_iterator",data:=.fields #[.ref l,.int 0 0] }).objs.size)))
    { s with heap:=(s.heap.push { cls:=.type "tuple_iterator",data:=.fields #[.ref l,.int 0 0] }).push { cls:=.type "enumerate",data:=.fields #[.none,.bool false,.ref s.heap.objs.size,rawInt 0,.none,.none] } }):=
 .of_wp fun prog w A R s h=>by
  obtain ⟨hp,g,d,tk,os⟩:=s;obtain ⟨hl,h⟩:=h
  have hsub:=sub_enumerate
  have hL:Heap.IsTuple (Shared.heap ⟨hp,g,d,tk,os⟩) l items:=⟨_,hl,rfl,n,rfl⟩
  wp_walk using wpAny_loadPart' hl
  refine wpAny_stack_any fun st=>HE ?_
  split
  ·rename_i c _ _ _ _ _
   cases (c == Value.type "enumerate")
   ·wp_walk using wpAny_loadPart' hl, Jp hL
    exact ⟨_,rfl,h⟩
   ·wp_walk using wpAny_loadPart' hl, Jp hL
    exact ⟨_,rfl,h⟩
  ·wp_walk using wpAny_loadPart' hl, Jp hL
   exact ⟨_,rfl,h⟩
section
variable {prog:Program}{w:World}{A:Around}{E:Value->Shared->Prop}{s:Shared}
theorem uc {l:Addr}{items:Array Value}{Q:Value->Shared->Prop} (hL:s.heap.IsTuple l items)
  (h : ∀ h', IsEnum h' (s.heap.objs.size + 1) s.heap.objs.size 0 .none -> h'.IsTupleIter s.heap.objs.size l 0 -> h'.objs.size = s.heap.objs.size + 2 ->
   (∀ b o,s.heap.get? b=some o->h'.get? b=some o)->Q (.ref (s.heap.objs.size+1)) { s with heap:=h' }) :
  wpAny (model prog w) A (call (.type "enumerate") [.ref l]) Q E s:=by
 obtain ⟨⟨c,dct,dt,sl⟩,hl,hc,n,hd⟩:=hL
 replace hc:c=.type "tuple" := hc
 replace hd:dt=.seq items n:=hd
 subst hc hd
 refine callType_new F.called_enumerate (by decide) (F.typeCall_enumerate_1 _) (F.newCall_enumerate_1 _) (fun obj=>F.args_object_init_2 obj _) F.entry_enumerate_new (sh l items n dct sl) ⟨hl,?_⟩
 have hz:(s.heap.push { cls:=.type "tuple_iterator",data:=.fields #[.ref l,.int 0 0] }).objs.size=s.heap.objs.size+1:=Jc ..
 show _/\_
 rw [hz]
 have he:IsEnum ((s.heap.push { cls:=.type "tuple_iterator",data:=.fields #[.ref l,.int 0 0] }).push
   { cls:=.type "enumerate",data:=.fields #[.none,.bool false,.ref s.heap.objs.size,rawInt 0,.none,.none] }) (s.heap.objs.size+1) s.heap.objs.size 0 .none:=by
  have:=HH (s.heap.push { cls:=.type "tuple_iterator",data:=.fields #[.ref l,.int 0 0] })
   (o:={ cls:=.type "enumerate",data:=.fields #[.none,.bool false,.ref s.heap.objs.size,rawInt 0,.none,.none] }) rfl
  rw [hz] at this;exact this
 exact ⟨⟨_,he,rfl⟩,h _ he ⟨_,HG _ (HH _ rfl),rfl,rfl⟩ (by rw [Jc,hz]) fun b o x=>HG _ (HG _ x)⟩
end
end RS
namespace L2
open PySem PySem.Spec PyProof.Rows RS
def Sq (b:Bool) (K:W.Frag) (H:Hp) (a:Addr) (xs:List V):Prop:=if b=true then eO K H a xs else d6 K H a xs
def F9 (b:Bool) (K:W.Frag) (a:Addr):It:=
 ⟨fun i H => ∃ xs x, Sq b K H a xs /\ xs[i]? = some x,
  fun i H x H'=>∃ q y,x=.ref q/\H q=none/\H'=bT H q (.tup [.int i,y])/\∀ xs,Sq b K H a xs->xs[i]?=some y,
  fun i H=>∃ xs,Sq b K H a xs/\xs.length=i⟩
def pD (b:Bool) (h:Heap) (it a:Addr) (i:Nat):Prop:=if b=true then h.IsListIter it a i else h.IsTupleIter it a i
theorem pD.obj {b:Bool}{h:Heap}{it a:Addr}{i:Nat} (x:pD b h it a i):∃ o,h.get? it=some o/\∀ v,o.data≠.cell v:=by
 cases b with
 | true=>obtain ⟨o,e,c,d⟩:=(show h.IsListIter it a i from x);exact ⟨o,e,fun v z=>by rw [d] at z;cases z⟩
 | false=>obtain ⟨o,e,c,d⟩:=(show h.IsTupleIter it a i from x);exact ⟨o,e,fun v z=>by rw [d] at z;cases z⟩
theorem pD.keep {b:Bool}{h h':Heap}{it a:Addr}{i:Nat} (x:pD b h it a i) (k:∀ o,h.get? it=some o->h'.get? it=some o):pD b h' it a i:=by
 cases b with
 | true=>obtain ⟨o,e,r⟩:=(show h.IsListIter it a i from x);exact (show h'.IsListIter it a i from ⟨o,k o e,r⟩)
 | false=>obtain ⟨o,e,r⟩:=(show h.IsTupleIter it a i from x);exact (show h'.IsTupleIter it a i from ⟨o,k o e,r⟩)
theorem rQ {X:Cx}{pins:List (Addr × Obj)}{σ:St}{H:Hp}{s:Shared}{b:Bool}{a it:Addr}{xs:List V} (I:aI X pins σ H s) (hc:X.calm=true) (hq:Sq b X.K H a xs) (hne:a≠it) :
  ∃ (its:Array Value) (St:Nat->Heap->Prop),aU xs its.toList/\Draws X.prog X.w X.A.in1 it [it,a] its.size (fun i v=>its[i]?=some v) St/\(∀ i,pD b s.heap it a i->St i s.heap)/\∀ i h,St i h->pD b h it a i:=by
 have hh:X.A.in1.handled=none:=by simpa using I.ok.hd hc
 cases b with
 | true=>
  obtain ⟨its,rv,p,hz⟩:=I.list (show eO X.K H a xs from hq)
  exact ⟨its.toArray,_,by simpa using rv,Draws.list hh it a hne its.toArray,fun i h=>⟨h,p.isList⟩,fun i h st=>st.1⟩
 | false=>
  obtain ⟨its,rv,p,hz⟩:=I.tuple (show d6 X.K H a xs from hq)
  exact ⟨its.toArray,_,by simpa using rv,Ef hh it a hne its.toArray,fun i h=>⟨h,p⟩,fun i h st=>st.1⟩
theorem CH {X:Cx}{pins:List (Addr × Obj)}{σ:St}{H:Hp}{s:Shared}{b:Bool}{a:Addr}{xs ys:List V} (I:aI X pins σ H s) (h1:Sq b X.K H a xs) (h2:Sq b X.K H a ys):xs=ys:=by
 cases b with
 | true=>exact I.list_inj h1 h2
 | false=>exact I.tuple_inj h1 h2
theorem aI.turns {X:Cx}{pins:List (Addr × Obj)}{σ:St}{H:Hp}{s:Shared}{h':Heap}{t':Nat}{ch:List Addr} (I:aI X pins σ H s) (k:∀ b o,b ∉ ch->s.heap.get? b=some o->h'.get? b=some o) (hf:∀ b∈ch,j7 X pins H b):aI X pins σ H { s with heap:=h',toks:=t' }:=by
 have nit:∀ b u,H b=some u->b ∉ ch:=fun b u e z=>by rw [(hf b z).1] at e;cases e
 refine I.step (g':=s.gens) (d':=s.drawn) (ch:=ch) (fun b hb=>?_) (fun b o _ _ hc e _=>k b o hc e) (fun b o _ _ hc e _=>⟨o.slots,k b o hc e⟩) (fun _ _ _ _ n=>n)
  (fun b o hc e=>⟨o,k b o hc e⟩) (fun _ _ e=>e) (fun _ _ _ e=>e) (fun b ps e=>⟨#[],by rw [e];simp⟩) (fun m hm=>?_) (fun b u e=>?_) I.bare
 ·obtain ⟨f0, f1, f2, f3, f4, f5⟩ := hf b hb
  exact ⟨f3,f1,f4,f5⟩
 ·obtain ⟨o, es, ep, ho, r⟩ := hm
  exact ⟨o,es,ep,k _ o (fun z=>(hf _ z).2.1 rfl) ho,r⟩
 ·refine (I.hok b u e).stay (fun c v hc q => k c v ?_ q) (fun _ q => q) fun _ _ q => q
  rcases hc with z | z
  ·rw [z];exact nit b u e
  ·exact nit c _ z
theorem vm {P:Program}{w:World}{K:W.Frag}{elts:List Expr}{k1:Nat}{pos:Pos}{b:Bool} (a it e:Addr) (hei:e≠it) (hai:a≠it) (hae:a≠e) :
  vc P w K (.Tuple elts k1 pos) (F9 b K a) [e,it] e (fun i h=>(∃ old,IsEnum h e it (i:Nat) old)/\pD b h it a i) where
 mem:=by simp
 obj:=fun i h st x hx=>by
  obtain ⟨⟨old,he⟩,hi⟩:=st
  rcases Hl.mp hx with rfl | hx
  ·exact ⟨_,he,fun v z=>by cases z⟩
  ·rw [Ji.mp hx];exact hi.obj
 keep:=fun i h h' st k=>by
  obtain ⟨⟨old,he⟩,hi⟩:=st
  exact ⟨⟨old,k e (by simp) _ he⟩,hi.keep fun o eo=>k it (by simp) o eo⟩
 item:=by
  intro X hP hw hK hc i pins s σ H E I hf st hg
  subst hP hw hK
  obtain ⟨⟨old,he⟩,hi⟩:=st
  obtain ⟨xs,x,hq,hx⟩:=hg
  obtain ⟨its,St,rv,D,d1,d2⟩:=rQ I hc hq hai
  obtain ⟨u,hu,ru⟩:=rv.get hx
  have hlt:i<its.size:=by
   have:=(Hq.mp hu).1
   simpa using this
  have hef:e ∉ [it,a]:=by
   simp only [Hl,Jq,Jr,not_or];exact ⟨hei,Hm hae⟩
  obtain ⟨f0,f1,f2,f3,f4,f5⟩:=hf e (by simp)
  obtain ⟨g0,g1,g2,g3,g4,g5⟩:=hf it (by simp)
  have helt:e<s.heap.objs.size:=G9 he
  have hilt:it<s.heap.objs.size:=by obtain ⟨o,eo,_⟩:=hi.obj;exact G9 eo
  refine wpAny_pyNext_enum_itemD D he (d1 i hi) hlt hei hef fun y h' tk hy ho hst' ht hsz hk=>?_
  have ey:y=u:=by
   rw [<- IT,hu] at hy
   exact (G8 hy).symm
  subst ey
  refine ⟨_,rfl,?_⟩
  refine wpAny_letOwnedTupleGo_enum (s:={ s with heap:=h',toks:=tk+1 }) ho fun h2 he2 hs2=>?_
  replace hs2:Heap.SameBut e h' h2:=hs2
  have hold:∀ b o,b≠e->b≠it->s.heap.get? b=some o->h2.get? b=some o:=fun b o h1 h3 q=>(hs2.2 b h1).trans (hk b o h1 h3 q)
  have ht2:h2.get? s.heap.objs.size=some { cls:=.type "tuple",data:=.seq #[.int i tk,y] }:=(hs2.2 _ (HD helt)).trans ht
  have hqn:H s.heap.objs.size=none:=I.hok.fresh (HI _)
  have I1:aI X pins σ (bT H s.heap.objs.size (.tup [.int i,x])) { s with heap:=s.heap.push { cls:=.type "tuple",data:=.seq #[.int i tk,y] },toks:=tk }:=by
   refine I.laid (t':=tk) (fun b o eo=>HG _ eo) (HI _) ?_
   exact ⟨by show 2<=sizeLine;decide,[.int i tk,y],.cons ⟨tk,rfl⟩ (.cons ru .nil),_,HH _ rfl,rfl,0,rfl⟩
  have hne:∀ b∈[e,it],b≠s.heap.objs.size:=fun b hb=>by
   rcases Hl.mp hb with rfl | hb
   ·exact Hd helt
   ·rw [Ji.mp hb];exact Hd hilt
  have hf':∀ b∈[e,it],j7 X pins (bT H s.heap.objs.size (.tup [.int i,x])) b:=fun b hb=>by
   obtain ⟨k0,k1⟩:=hf b hb
   exact ⟨by rw [aY (hne b hb)];exact k0,k1⟩
  have I2:aI X pins σ (bT H s.heap.objs.size (.tup [.int i,x])) { s with heap:=h2,toks:=tk+1 }:=by
   refine aI.turns (s:={ s with heap:=s.heap.push { cls:=.type "tuple",data:=.seq #[.int i tk,y] },toks:=tk }) I1 (ch:=[e,it]) (t':=tk+1) (fun b o hb eo=>?_) hf'
   simp only [Hl,Jq,Jr,not_or] at hb
   by_cases hbq:b=s.heap.objs.size
   ·subst hbq
    have:=(HH s.heap (o:={ cls:=.type "tuple",data:=.seq #[.int i tk,y] }) rfl).symm.trans eo
    rw [ht2];exact this
   ·have:s.heap.get? b=some o:=by
     rw [Js _ _ _ hbq] at eo;exact eo
    exact hold b o hb.1 hb.2 this
  refine ⟨.ref s.heap.objs.size,_,I2,rfl,⟨_,x,rfl,hqn,rfl,fun ys hy=>by rw [CH I hy hq];exact hx⟩,⟨⟨y,by simpa using he2⟩,?_⟩,fun b hb=>(hf' b hb).1⟩
  refine (d2 (i+1) h' hst').keep fun o eo=>?_
  exact (hs2.2 it (Hm hei)).trans eo
 done:=by
  intro X hP hw hK hc i pins s σ H E I hf st hg
  subst hP hw hK
  obtain ⟨⟨old,he⟩,hi⟩:=st
  obtain ⟨xs,hq,hx⟩:=hg
  obtain ⟨its,St,rv,D,d1,d2⟩:=rQ I hc hq hai
  have hil:its.size=i:=by
   have h1:=rv.length
   have h2:its.toList.length=its.size:=Hw
   omega
  subst hil
  refine wpAny_pyNext_enum_endD D he (d1 _ hi) fun h' hx=>⟨rfl,?_⟩
  refine I.turns (ch:=[e,it]) (t':=s.toks) (fun b o hb eo=>hx b o (fun z=>hb (by rw [z];simp)) eo) hf
 self:=fun _ _ _ _ _ st h=>by
  obtain ⟨⟨old,he⟩,hi⟩:=st
  exact wpAny_pyIter_enum he h
section
variable {X:Cx}{tg:Expr}
def D2 (K:W.Frag) (ta:TA):TI:=fun σ H R=>ta σ H fun vs H1=>∃ a b,vs=[.ref a]/\(∃ xs,Sq b K H1 a xs)/\R (F9 b K a) H1
theorem AH {a:Expr}{ta:TA}{p pos tpos:Pos}{elts:List Expr}{k1:Nat} (hg:Gl X "enumerate") (hm:X.mg "enumerate" = none) (ha:PA X [a] ta) (hs:starEach [a] X.env=[(false,eval a X.env)]:=by rfl):PI X (.Tuple elts k1 tpos) (.Call (.Name "enumerate" p) [a] [] pos) (D2 X.K ta):=by
 intro pins s σ H R I h
 refine Call_ (jR I hg hm (by rfl) (HJ (dD (ha pos pins s σ H _ I h) fun us s1 ⟨vs,H1,I1,r1,q1⟩=>?_) hs rfl))
 obtain ⟨l,b,e,⟨xs,hq⟩,q⟩:=q1
 subst e
 obtain ⟨u,rfl,ru⟩:=dY r1
 cases ru
 have fin:∀ h',IsEnum h' (s1.heap.objs.size+1) s1.heap.objs.size 0 .none->pD b h' s1.heap.objs.size l 0->l<s1.heap.objs.size->h'.objs.size=s1.heap.objs.size+2->(∀ b o,s1.heap.get? b=some o->h'.get? b=some o) ->
   wpAny (model X.prog X.w) X.A (pyIter (.ref (s1.heap.objs.size+1))) (F6 X pins σ (.Tuple elts k1 tpos) R) X.xe { s1 with heap:=h' }:=by
  intro h' he hi hl hsz hk
  have I2:aI X pins σ H1 { s1 with heap:=h' }:=I1.kept (t':=s1.toks) hk
  refine wpAny_pyIter_enum he ?_
  refine ⟨_,[s1.heap.objs.size+1,s1.heap.objs.size],_,_,H1,rfl,I2,vm (b:=b) l s1.heap.objs.size (s1.heap.objs.size+1) (Nat.succ_ne_self _) (Hd hl) (Hd (Jb hl)),⟨⟨.none,he⟩,hi⟩,fun b hb=>?_,q⟩
  rcases Hl.mp hb with rfl | hb
  ·exact I1.fpOk (IM _) (I1.hok.fresh (IM _))
  ·rw [Ji.mp hb];exact I1.fpOk (HI _) (I1.hok.fresh (HI _))
 cases b with
 | true=>
  obtain ⟨its,rv,pl,hz⟩:=I1.list (show eO X.K H1 l xs from hq)
  have hl:l<s1.heap.objs.size:=by obtain ⟨o,eo,_⟩:=pl.isList;exact G9 eo
  exact call_enumerate_list pl.isList fun h' he hi hsz hk=>fin h' he hi hl hsz hk
 | false=>
  obtain ⟨its,rv,pl,hz⟩:=I1.tuple (show d6 X.K H1 l xs from hq)
  have hl:l<s1.heap.objs.size:=by obtain ⟨o,eo,_⟩:=pl;exact G9 eo
  exact uc pl fun h' he hi hsz hk=>fin h' he hi hl hsz hk
end
end L2
namespace RS
open PySem
def u6 (mask:Nat):Nat->Nat->Nat->List Nat
 | 0,_,_=>[]
 | n+1,i,pe=>(List.range (SetTable.runEnd mask i+1 - i)).map (i+·)++u6 mask n (SetTable.leap mask i pe).1 (SetTable.leap mask i pe).2
def cq (mask:Nat) (h:Int):List Nat:=u6 mask (SetTable.turns mask) (SetTable.bits h % (mask+1)) (SetTable.bits h)
def fS (t:SetTable):Nat->SetTable.Probe->List Nat
 | 0,_=>[]
 | n+1,p=>p.j::fS t n (t.advance p)
def kb (mask i pe:Nat) (d:Option Nat):SetTable.Probe:={ j:=i,more:=SetTable.runEnd mask i - i,i,perturb:=pe,dummy:=d }
theorem qT (t:SetTable):∀ (m n:Nat) (p:SetTable.Probe),p.more=m ->
  fS t (m+1+n) p=(List.range (m+1)).map (p.j+·)++fS t n (kb t.mask (SetTable.leap t.mask p.i p.perturb).1 (SetTable.leap t.mask p.i p.perturb).2 p.dummy)
 | 0,n,p,h=>by
  have e:0+1+n=n+1:=by omega
  rw [e]
  show p.j::fS t n (t.advance p)=_
  have ea:t.advance p=kb t.mask (SetTable.leap t.mask p.i p.perturb).1 (SetTable.leap t.mask p.i p.perturb).2 p.dummy:=by
   unfold SetTable.advance
   rw [G7 (by omega)]
   rfl
  rw [ea]
  simp
 | m+1,n,p,h=>by
  have e:m+1+1+n=(m+1+n)+1:=by omega
  rw [e]
  show p.j::fS t (m+1+n) (t.advance p)=_
  have ea:t.advance p={ p with j:=p.j+1,more:=p.more - 1 }:=by
   unfold SetTable.advance
   rw [G6 (by omega)]
  rw [ea,qT t m n { p with j:=p.j+1,more:=p.more - 1 } (by show p.more - 1=m;omega)]
  rw [Jt (n:=m+1),IH,Ju]
  show p.j::((List.range (m+1)).map (p.j+1+·)++_)=(p.j+0)::(List.map _ _)++_
  rw [Nat.add_zero]
  show p.j::(_++_)=p.j::(_++_)
  congr 2
  apply Jv
  intro a _
  show p.j+1+a=p.j+(a+1)
  omega
theorem xv (mask i:Nat):i<=SetTable.runEnd mask i/\SetTable.runEnd mask i<=i+9:=by
 unfold SetTable.runEnd;split <;> omega
theorem mR (t:SetTable):∀ (n i pe:Nat) (d:Option Nat),fS t (u6 t.mask n i pe).length (kb t.mask i pe d)=u6 t.mask n i pe
 | 0,_,_,_=>rfl
 | n+1,i,pe,d=>by
  have hr:=xv t.mask i
  show fS t ((List.range (SetTable.runEnd t.mask i+1 - i)).map (i+·)++_).length _=_
  rw [Ik,Il,Jw]
  have e:SetTable.runEnd t.mask i+1 - i=(SetTable.runEnd t.mask i - i)+1:=by omega
  rw [e,qT t (SetTable.runEnd t.mask i - i) _ (kb t.mask i pe d) rfl]
  show _++fS t (u6 t.mask n (SetTable.leap t.mask i pe).1 (SetTable.leap t.mask i pe).2).length (kb t.mask (SetTable.leap t.mask i pe).1 (SetTable.leap t.mask i pe).2 d)=_
  rw [mR t n]
  show _=(List.range (SetTable.runEnd t.mask i+1 - i)).map (i+·)++_
  rw [e];rfl
theorem pM (mask:Nat):∀ (n i pe:Nat),(u6 mask n i pe).length<=10 * n
 | 0,_,_=>Jh _
 | n+1,i,pe=>by
  have hr:=xv mask i
  have ih:=pM mask n (SetTable.leap mask i pe).1 (SetTable.leap mask i pe).2
  show ((List.range (SetTable.runEnd mask i+1 - i)).map (i+·)++_).length<=_
  rw [Ik,Il,Jw]
  omega
theorem pS (t:SetTable) (hashAt:Nat->Int) (h:Int):∀ (pre:List Nat) (j:Nat) (post:List Nat) (fuel:Nat) (p:SetTable.Probe),fS t (pre.length+1+post.length) p=pre++j::post->pre.length<fuel->p.dummy=none ->
  (∀ k∈pre,∃ i,t.slot k=.live i/\hashAt i≠h) ->
  (t.slot j=.empty->SetTable.probe.go t hashAt h fuel p=some (.empty j none))/\(∀ i,t.slot j=.live i->hashAt i=h->∃ nx,SetTable.probe.go t hashAt h fuel p=some (.candidate j i nx))
 | [],j,post,0,p,_,hf,_,_=>by simp at hf
 | [],j,post,fuel+1,p,hw,_,hd,_=>by
  have ew:fS t (([]:List Nat).length+1+post.length) p=p.j::fS t post.length (t.advance p):=by
   rw [Jx,show 0+1+post.length=post.length+1 from by omega];rfl
  rw [ew,IU] at hw
  have ej:p.j=j:=(Jy hw).1
  refine ⟨fun he=>?_,fun i hl hh=>?_⟩
  ·show (match t.slot p.j with | .empty => _ | .dummy => _ | .live i => _) = _
   rw [ej,he,hd]
  ·refine ⟨t.advance p, ?_⟩
   show (match t.slot p.j with | .empty=>_ | .dummy=>_ | .live i=>_)=_
   rw [ej,hl]
   show (if (hashAt i == h)=true then _ else _)=_
   rw [G6 (by simpa using hh)]
 | x::pre,j,post,0,p,_,hf,_,_=>by simp at hf
 | x::pre,j,post,fuel+1,p,hw,hf,hd,hp=>by
  have ew:fS t ((x::pre).length+1+post.length) p=p.j::fS t (pre.length+1+post.length) (t.advance p):=by
   rw [I0,show pre.length+1+1+post.length=(pre.length+1+post.length)+1 from by omega];rfl
  rw [ew,Jz] at hw
  have ej:p.j=x:=(Jy hw).1
  have er:=(Jy hw).2
  obtain ⟨i,hl,hne⟩:=hp x Hj
  have hda:(t.advance p).dummy=none:=by
   unfold SetTable.advance
   split
   ·exact hd
   ·exact hd
  have ih:=pS t hashAt h pre j post fuel (t.advance p) er (by rw [I0] at hf;omega) hda (fun k hk=>hp k (Hk _ hk))
  have eg:SetTable.probe.go t hashAt h (fuel+1) p=SetTable.probe.go t hashAt h fuel (t.advance p):=by
   show (match t.slot p.j with | .empty=>_ | .dummy=>_ | .live i=>_)=_
   rw [ej,hl]
   show (if (hashAt i == h)=true then _ else _)=_
   rw [G7 (by simpa using hne)]
  rw [eg]
  exact ih
def zm (xs:List Nat):Prop:=xs.Pairwise (·<·)
theorem nc (xs:Array Nat) (j:Nat):∀ (fuel lo hi:Nat),lo<=hi->hi<=xs.size->hi - lo<=fuel->(∀ i k,i<k->k<xs.size->xs.getD i j<xs.getD k j)->(∀ i,i<lo->xs.getD i j<j)->(∀ i,hi<=i->i<xs.size->j<=xs.getD i j) ->
  let b:=SetTable.below.go xs j fuel lo hi
  b<=xs.size/\(∀ i,i<b->xs.getD i j<j)/\(∀ i,b<=i->i<xs.size->j<=xs.getD i j)
 | 0,lo,hi,h1,h2,h3,hr,ha,hb=>by
  have e:lo=hi:=by omega
  subst e
  exact ⟨h2,ha,hb⟩
 | fuel+1,lo,hi,h1,h2,h3,hr,ha,hb=>by
  by_cases hlt:lo<hi
  ·simp only [SetTable.below.go, hlt, Iv]
   by_cases hc:xs.getD ((lo+hi) / 2) j<j
   ·rw [G6 hc]
    refine nc xs j fuel _ hi (by omega) h2 (by omega) hr (fun i hi'=>?_) hb
    by_cases e:i=(lo+hi) / 2
    ·rw [e];exact hc
    ·have := hr i ((lo + hi) / 2) (by omega) (by omega)
     omega
   ·rw [G7 hc]
    refine nc xs j fuel lo _ (by omega) (by omega) (by omega) hr ha (fun i hi' hs=>?_)
    by_cases e:i=(lo+hi) / 2
    ·rw [e];omega
    ·have := hr ((lo + hi) / 2) i (by omega) hs
     omega
  ·have e : lo = hi := by omega
   subst e
   simp only [SetTable.below.go,hlt,Iu]
   exact ⟨h2,ha,hb⟩
theorem pN {xs:Array Nat} (h:zm xs.toList) (j:Nat):∀ i k,i<k->k<xs.size->xs.getD i j<xs.getD k j:=fun i k hik hk=>by
 have hi:i<xs.size:=by omega
 have:=List.pairwise_iff_getElem.mp h i k (by simpa using hi) (by simpa using hk) hik
 simpa [Array.getD,hi,hk] using this
theorem jX {xs:Array Nat} (h:zm xs.toList) (j:Nat):SetTable.below xs j<=xs.size/\(∀ i,i<SetTable.below xs j->xs.getD i j<j)/\(∀ i,SetTable.below xs j<=i->i<xs.size->j<=xs.getD i j):=
 nc xs j xs.size 0 xs.size (Jh _) (HI _) (by omega) (pN h j) (fun i hi=>by omega) (fun i h1 h2=>by omega)
theorem wz {xs:Array Nat} (h:zm xs.toList) {i j:Nat} (e:xs[i]?=some j):SetTable.below xs j=i:=by
 obtain ⟨h1,h2,h3⟩:=jX h j
 have hi:i<xs.size:=by
  rcases JA.mp e with ⟨q,_⟩;exact q
 have ei:xs.getD i j=j:=by
  rcases JA.mp e with ⟨q,z⟩
  simp [Array.getD,hi,z]
 by_cases hlt:SetTable.below xs j<i
 ·have a := h3 (SetTable.below xs j) (HI _) (by omega)
  have b:=pN h j (SetTable.below xs j) i hlt hi
  omega
 ·by_cases hgt : i < SetTable.below xs j
  ·have:=h2 i hgt;omega
  ·omega
theorem iF {α:Type} (xs:Array α) (p:Nat) (x:α):(SetTable.insertAt xs p x).toList=xs.toList.take p++x::xs.toList.drop p:=by
 unfold SetTable.insertAt
 simp [JB]
theorem ix {α:Type} (p:α->Prop):∀ (l:List α),(∃ x∈l,p x)->∃ pre x post,l=pre++x::post/\p x/\∀ y∈pre,¬ p y
 | [],h=>by obtain ⟨x,hx,_⟩:=h;simp at hx
 | a::l,h=>by
  by_cases ha:p a
  ·exact ⟨[],a,l,rfl,ha,fun y hy=>by simp at hy⟩
  ·obtain ⟨x, hx, px⟩ := h
   rcases Hl.mp hx with z | z
   ·rw [z] at px;exact absurd px ha
   ·obtain ⟨pre, y, post, e, py, hp⟩ := ix p l ⟨x, z, px⟩
    refine ⟨a::pre,y,post,by rw [e];rfl,py,fun w hw=>?_⟩
    rcases Hl.mp hw with q | q
    ·rw [q];exact ha
    ·exact hp w q
structure n6 (t:SetTable) (es:Array (Int × Value)) (Z:List (Nat × Int × Value)):Prop where
 place:t.place.toList=Z.map (·.1)
 ents:es.toList=Z.map (·.2)
 ris:zm (Z.map (·.1))
 top:∀ z∈Z,z.1<=t.mask
 dum:t.dummies=#[]
 reach:∀ z∈Z,∃ pre post,cq t.mask z.2.1=pre++z.1::post/\∀ k∈pre,k∈Z.map (·.1)
theorem n6.size {t:SetTable}{es:Array (Int × Value)}{Z:List (Nat × Int × Value)} (T:n6 t es Z):t.place.size=Z.length/\es.size=Z.length:=by
 have a:=Hx List.length T.place
 have b:=Hx List.length T.ents
 simp at a b
 exact ⟨a,b⟩
theorem n6.fill {t:SetTable}{es:Array (Int × Value)}{Z:List (Nat × Int × Value)} (T:n6 t es Z):t.fill=Z.length:=by
 unfold SetTable.fill;rw [T.size.1,T.dum];rfl
theorem oM (j:Nat):SetTable.has #[] j=false:=by
 unfold SetTable.has;simp
theorem n6.slot_empty {t:SetTable}{es:Array (Int × Value)}{Z:List (Nat × Int × Value)} (T:n6 t es Z) {j:Nat} (h:j ∉ Z.map (·.1)):t.slot j=.empty:=by
 unfold SetTable.slot
 have hn:¬ (t.place[SetTable.below t.place j]? == some j)=true:=by
  intro e
  have e':t.place[SetTable.below t.place j]?=some j:=by simpa using e
  apply h
  rw [<- T.place]
  rw [<- IT] at e'
  exact Ij e'
 simp only [hn,T.dum,oM]
 rfl
theorem n6.slot_live {t:SetTable}{es:Array (Int × Value)}{Z:List (Nat × Int × Value)} (T:n6 t es Z) {i:Nat}{z:Nat × Int × Value} (h:Z[i]?=some z):t.slot z.1=.live i:=by
 have e:t.place[i]?=some z.1:=by
  rw [<- IT,T.place,Ih,h];rfl
 have r:zm t.place.toList:=by rw [T.place];exact T.ris
 have eb:=wz r e
 unfold SetTable.slot
 have hc:(t.place[SetTable.below t.place z.1]? == some z.1)=true:=by rw [eb,e];simp
 simp only [hc,Iv]
 rw [eb]
theorem n6.hashAt {t:SetTable}{es:Array (Int × Value)}{Z:List (Nat × Int × Value)} (T:n6 t es Z) {i:Nat}{z:Nat × Int × Value} (h:Z[i]?=some z):es[i]?=some z.2:=by
 rw [<- IT,T.ents,Ih,h];rfl
theorem gT {α:Type}:∀ {l1 l2:List α},l1.Nodup->(∀ x∈l1,x∈l2)->l1.length<=l2.length
 | [],_,_,_=>Jh _
 | a::r,l2,hn,hs=>by
  obtain ⟨s,t,e⟩:=List.append_of_mem (hs a Hj)
  have hn':=HW.mp hn
  have ih:=gT (l1:=r) (l2:=s++t) hn'.2 (fun x hx=>by
   have hx2:=hs x (Hk _ hx)
   rw [e] at hx2
   rcases Hn.mp hx2 with q | q
   ·exact Ho _ q
   ·rcases Hl.mp q with q | q
    ·rw [q] at hx;exact absurd hx hn'.1
    ·exact HL _ q)
  rw [e,Ik,I0,I0]
  rw [Ik] at ih
  omega
theorem uz (mask:Nat):∀ (n i pe:Nat),i<=mask->∀ j∈u6 mask n i pe,j<=mask
 | 0,_,_,_,j,h=>by simp [u6] at h
 | n+1,i,pe,hi,j,h=>by
  rcases Hn.mp h with q | q
  ·obtain ⟨k, hk, e⟩ := JC.mp q
   have hk':=Hf.mp hk
   have:SetTable.runEnd mask i<=mask:=by unfold SetTable.runEnd;split <;> omega
   have e':i+k=j:=e
   omega
  ·refine uz mask n _ _ ?_ j q
   show (i * 5+1+pe / 32) % (mask+1)<=mask
   exact Nat.le_of_lt_succ (Nat.mod_lt _ (Nat.succ_pos mask))
theorem g6 {mask:Nat}{h:Int}{j:Nat} (e:j∈cq mask h):j<=mask:=by
 refine uz mask _ _ _ ?_ j e
 exact Nat.le_of_lt_succ (Nat.mod_lt _ (Nat.succ_pos mask))
theorem oO {m:Nat}{l:List Nat} (h:l.length<=m):∃ j,j<=m/\j ∉ l:=by
 refine JD fun hn=>?_
 have hall:∀ j∈List.range (m+1),j∈l:=fun j hj=>by
  refine JD fun hj'=>hn ⟨j,?_,hj'⟩
  have:=Hf.mp hj;omega
 have:=gT (JE (n:=m+1)) hall
 rw [Jw] at this
 omega
theorem n6.search {t:SetTable}{es:Array (Int × Value)}{Z:List (Nat × Int × Value)} (T:n6 t es Z) {h:Int} (cov:∀ j,j<=t.mask->j∈cq t.mask h) (hz:Z.length<=t.mask) (hA:Nat->Int) (hAe:∀ i z,Z[i]?=some z->hA i=z.2.1) :
  (∃ i z nx,Z[i]?=some z/\z.2.1=h/\t.probe hA h (t.probeStart h)=some (.candidate z.1 i nx)) \/
  ((∀ z∈Z,z.2.1≠h)/\∃ j pre post,t.probe hA h (t.probeStart h)=some (.empty j none)/\j<=t.mask/\j ∉ Z.map (·.1)/\cq t.mask h=pre++j::post/\∀ k∈pre,k∈Z.map (·.1)):=by
 obtain ⟨j0,hj0,hn0⟩:=oO (m:=t.mask) (l:=Z.map (·.1)) (by rw [Il];exact hz)
 obtain ⟨pre,j,post,e,hs,hp⟩:=ix (fun j=>j ∉ Z.map (·.1)\/∃ z∈Z,z.1=j/\z.2.1=h) (cq t.mask h) ⟨j0,cov j0 hj0,.inl hn0⟩
 have hw:fS t (pre.length+1+post.length) (t.probeStart h)=pre++j::post:=by
  have q:=mR t (SetTable.turns t.mask) (SetTable.bits h % (t.mask+1)) (SetTable.bits h) none
  have el:(u6 t.mask (SetTable.turns t.mask) (SetTable.bits h % (t.mask+1)) (SetTable.bits h)).length=pre.length+1+post.length:=by
   show (cq t.mask h).length=_
   rw [e,Ik,I0];omega
  rw [el] at q
  exact q.trans e
 have hlen:pre.length<10 * SetTable.turns t.mask:=by
  have q:=pM t.mask (SetTable.turns t.mask) (SetTable.bits h % (t.mask+1)) (SetTable.bits h)
  have el:(u6 t.mask (SetTable.turns t.mask) (SetTable.bits h % (t.mask+1)) (SetTable.bits h)).length=pre.length+1+post.length:=by
   show (cq t.mask h).length=_
   rw [e,Ik,I0];omega
  omega
 have occ:∀ k∈pre,k∈Z.map (·.1):=fun k hk=>by
  refine JD fun q=>hp k hk (.inl q)
 have hpre:∀ k∈pre,∃ i,t.slot k=.live i/\hA i≠h:=fun k hk=>by
  obtain ⟨z,hzm,ez⟩:=JC.mp (occ k hk)
  obtain ⟨i,hi⟩:=JF hzm
  refine ⟨i,ez ▸ T.slot_live hi,fun q=>hp k hk (.inr ⟨z,hzm,ez,?_⟩)⟩
  rw [<- hAe i z hi];exact q
 obtain ⟨g1,g2⟩:=pS t hA h pre j post (10 * SetTable.turns t.mask) (t.probeStart h) hw hlen rfl hpre
 by_cases hany:∃ z∈Z,z.2.1=h
 ·obtain ⟨z, hzm, ez⟩ := hany
  obtain ⟨pz,qz,ezz,hoz⟩:=T.reach z hzm
  rw [ez] at ezz
  have hjo:j∈Z.map (·.1):=by
   have e2:pre++j::post=pz++z.1::qz:=by rw [<- e,<- ezz]
   rcases List.append_eq_append_iff.mp e2 with ⟨a,h1,h2⟩ | ⟨c,h1,h2⟩
   ·cases a with
    | nil=>
     simp only [IU] at h2
     rw [(Jy h2).1];exact JG hzm
    | cons x a=>
     rw [Jz] at h2
     have:j∈pz:=by rw [h1,(Jy h2).1];simp
     exact hoz j this
   ·cases c with
    | nil=>
     simp only [IU] at h2
     rw [<- (Jy h2).1];exact JG hzm
    | cons x c=>
     rw [Jz] at h2
     have:z.1∈pre:=by rw [h1,(Jy h2).1];simp
     exact absurd (.inr ⟨z,hzm,rfl,ez⟩) (hp z.1 this)
  rcases hs with q | ⟨z',hz',e1,e2⟩
  ·exact absurd hjo q
  ·obtain ⟨i, hi⟩ := JF hz'
   obtain ⟨nx,en⟩:=g2 i (e1 ▸ T.slot_live hi) (by rw [hAe i z' hi];exact e2)
   exact .inl ⟨i,z',nx,hi,e2,by rw [e1];exact en⟩
 ·have hno : ∀ z ∈ Z, z.2.1 ≠ h := fun z hz' e' => hany ⟨z, hz', e'⟩
  rcases hs with q | ⟨z',hz',e1,e2⟩
  ·have hjm : j <= t.mask := g6 (h := h) (by rw [e]; simp)
   exact .inr ⟨hno,j,pre,post,g1 (T.slot_empty q),hjm,q,e,occ⟩
  ·exact absurd e2 (hno z' hz')
theorem tH {l:List Nat}{j p:Nat} (h:zm l) (h1:∀ x∈l.take p,x<j) (h2:∀ x∈l.drop p,j<x):zm (l.take p++j::l.drop p):=by
 unfold zm at *
 have h':(l.take p++l.drop p).Pairwise (·<·):=by rw [JH];exact h
 rw [List.pairwise_append] at h' ⊢
 refine ⟨h'.1,JI.mpr ⟨fun x hx=>h2 x hx,h'.2.1⟩,fun a ha b hb=>?_⟩
 rcases Hl.mp hb with q | q
 ·rw [q];exact h1 a ha
 ·exact h'.2.2 a ha b q
theorem n6.put {t:SetTable}{es:Array (Int × Value)}{Z:List (Nat × Int × Value)} (T:n6 t es Z) {j:Nat}{h:Int}{x:Value}{pre post:List Nat} (hj:j<=t.mask) (hn:j ∉ Z.map (·.1)) (e:cq t.mask h=pre++j::post) (hp:∀ k∈pre,k∈Z.map (·.1)) :
  ∃ Z',n6 (t.put j).1 (SetTable.insertAt es (t.put j).2 (h,x)) Z'/\Z'.Perm ((j,h,x)::Z)/\(t.put j).1={ t with place:=SetTable.insertAt t.place (SetTable.below t.place j) j }:=by
 have e1:(t.put j).1={ t with place:=SetTable.insertAt t.place (SetTable.below t.place j) j }:=by
  unfold SetTable.put
  simp only [T.dum,oM]
  rw [G7 HP]
 have e2:(t.put j).2=SetTable.below t.place j:=rfl
 have r:zm t.place.toList:=by rw [T.place];exact T.ris
 obtain ⟨b1,b2,b3⟩:=jX r j
 generalize hb:SetTable.below t.place j=p at *
 refine ⟨Z.take p++(j,h,x)::Z.drop p,⟨?_,?_,?_,fun z hz=>?_,by rw [e1];exact T.dum,fun z hz=>?_⟩,?_,e1⟩
 ·rw [e1]
  show (SetTable.insertAt t.place p j).toList=_
  rw [iF,T.place,JJ,IH,JK,JL]
 ·rw [e2,iF,T.ents,JJ,IH,JK,JL]
 ·rw [JJ, IH, JK, JL]
  have hlen:t.place.size=(Z.map (·.1)).length:=by rw [<- T.place];simp
  refine tH T.ris (fun y hy=>?_) (fun y hy=>?_)
  ·obtain ⟨i, hi⟩ := JF hy
   rw [List.getElem?_take] at hi
   split at hi
   ·rename_i hlt
    have q:=b2 i hlt
    rw [<- T.place,IT] at hi
    simp only [JM,hi,JN] at q
    exact q
   ·cases hi
  ·obtain ⟨i, hi⟩ := JF hy
   rw [List.getElem?_drop] at hi
   have hmem:y∈Z.map (·.1):=Ij hi
   rw [<- T.place,IT] at hi
   have hlt:p+i<t.place.size:=(JA.mp hi).1
   have q:=b3 (p+i) (by omega) hlt
   simp only [JM,hi,JN] at q
   have:y≠j:=fun ey=>hn (ey ▸ hmem)
   omega
 ·rw [e1]
  show z.1<=t.mask
  rcases Hn.mp hz with q | q
  ·exact T.top z (JO q)
  ·rcases Hl.mp q with q | q
   ·rw [q];exact hj
   ·exact T.top z (JP q)
 ·rw [e1]
  show ∃ pre post,cq t.mask z.2.1=pre++z.1::post/\_
  have sub:∀ k∈Z.map (·.1),k∈(Z.take p++(j,h,x)::Z.drop p).map (·.1):=fun k hk=>by
   rw [<- JH p Z,JJ] at hk
   rw [JJ,IH]
   rcases Hn.mp hk with q | q
   ·exact Ho _ q
   ·exact HL _ (Hk _ q)
  have old:∀ z∈Z,∃ pre post,cq t.mask z.2.1=pre++z.1::post/\∀ k∈pre,k∈(Z.take p++(j,h,x)::Z.drop p).map (·.1):=fun z hz=>by
   obtain ⟨a,b,c,d⟩:=T.reach z hz
   exact ⟨a,b,c,fun k hk=>sub k (d k hk)⟩
  rcases Hn.mp hz with q | q
  ·exact old z (JO q)
  ·rcases Hl.mp q with q | q
   ·rw [q];exact ⟨pre,post,e,fun k hk=>sub k (hp k hk)⟩
   ·exact old z (JP q)
 ·have q : (Z.take p ++ (j, h, x) :: Z.drop p).Perm ((j, h, x) :: (Z.take p ++ Z.drop p)) := List.perm_middle
  rw [JH] at q
  exact q
theorem oP (mask:Nat) (owner:Array (Option Nat)):∀ (n i pe:Nat),
  SetTable.layClean.free mask owner n i pe=(u6 mask n i pe).find? fun j=>(owner.getD j (some 0)).isNone
 | 0,_,_=>rfl
 | n+1,i,pe=>by
  show (match (List.range (SetTable.runEnd mask i+1 - i)).find? fun k=>(owner.getD (i+k) (some 0)).isNone with | some k=>_ | none=>_)=_
  show _=((List.range (SetTable.runEnd mask i+1 - i)).map (i+·)++u6 mask n (SetTable.leap mask i pe).1 (SetTable.leap mask i pe).2).find? _
  rw [List.find?_append,List.find?_map,<- oP mask owner n]
  have ec:((fun j=>(owner.getD j (some 0)).isNone) ∘ fun x=>i+x)=fun k=>(owner.getD (i+k) (some 0)).isNone:=rfl
  rw [ec]
  cases (List.range (SetTable.runEnd mask i+1 - i)).find? fun k=>(owner.getD (i+k) (some 0)).isNone with
  | some k=>rfl
  | none=>rfl
structure B4 (mask:Nat) (hs:List Int) (owner:Array (Option Nat)):Prop where
 size:owner.size=mask+1
 all:∀ (i:Nat) (h:Int),hs[i]?=some h->∃ j:Nat,j<=mask/\owner[j]?=some (some i)/\∃ pre post,cq mask h=pre++j::post/\∀ k∈pre,∃ i':Nat,owner[k]?=some (some i')
 lt:∀ (j i:Nat),owner[j]?=some (some i)->i<hs.length
 inj:∀ (j j' i:Nat),owner[j]?=some (some i)->owner[j']?=some (some i)->j=j'
theorem AO (mask:Nat):B4 mask [] (Array.replicate (mask+1) none):=by
 have hno:∀ (j i:Nat),(Array.replicate (mask+1) (none:Option Nat))[j]?≠some (some i):=fun j i e=>by
  rw [Array.getElem?_replicate] at e
  split at e <;> cases e
 exact ⟨by simp,fun i h e=>by simp at e,fun j i e=>absurd e (hno j i),fun j j' i e=>absurd e (hno j i)⟩
theorem yI {mask:Nat}{hs:List Int}{owner:Array (Option Nat)} (O:B4 mask hs owner) (hl:hs.length<=mask):∃ j,j<=mask/\owner[j]?=some none:=by
 refine JD fun hn=>?_
 have hall:∀ j,j<=mask->∃ i,owner[j]?=some (some i):=fun j hj=>by
  have hs':j<owner.size:=by rw [O.size];omega
  cases e:owner[j]? with
  | none=>rw [JQ] at e;omega
  | some o=>
   cases o with
   | none=>exact absurd ⟨j,hj,e⟩ hn
   | some i=>exact ⟨i,rfl⟩
 have key:∀ n,n<=mask+1->∃ l:List Nat,l.length=n/\l.Nodup/\(∀ i∈l,i<hs.length)/\∀ i∈l,∃ j,j<n/\owner[j]?=some (some i):=by
  intro n
  induction n with
  | zero=>exact fun _=>⟨[],rfl,JR,fun _ h=>by simp at h,fun _ h=>by simp at h⟩
  | succ n ih=>
   intro hn'
   obtain ⟨l,h1,h2,h3,h4⟩:=ih (by omega)
   obtain ⟨i,hi⟩:=hall n (by omega)
   refine ⟨i::l,by rw [I0,h1],HW.mpr ⟨fun hm=>?_,h2⟩,fun x hx=>?_,fun x hx=>?_⟩
   ·obtain ⟨j, hj, ej⟩ := h4 i hm
    have:=O.inj j n i ej hi
    omega
   ·rcases Hl.mp hx with q | q
    ·rw [q];exact O.lt n i hi
    ·exact h3 x q
   ·rcases Hl.mp hx with q | q
    ·rw [q];exact ⟨n,by omega,hi⟩
    ·obtain ⟨j, hj, ej⟩ := h4 x q
     exact ⟨j,by omega,ej⟩
 obtain ⟨l,h1,h2,h3,_⟩:=key (mask+1) (HI _)
 have:=gT h2 (l2:=List.range hs.length) (fun x hx=>Hf.mpr (h3 x hx))
 rw [Jw,h1] at this
 omega
theorem yH {mask:Nat}{hs:List Int}{owner:Array (Option Nat)}{h:Int} (O:B4 mask hs owner) (hl:hs.length<=mask) (cov:∀ j,j<=mask->j∈cq mask h) :
  ∃ j,SetTable.layClean.free mask owner (SetTable.turns mask) (SetTable.bits h % (mask+1)) (SetTable.bits h)=some j/\B4 mask (hs++[h]) (owner.setIfInBounds j (some hs.length)):=by
 obtain ⟨j0,hj0,e0⟩:=yI O hl
 have none_iff:∀ j,((owner.getD j (some 0)).isNone=true)↔owner[j]?=some none:=fun j=>by
  rw [JM]
  cases owner[j]? with
  | none=>simp
  | some o=>cases o <;> simp
 obtain ⟨pre,j,post,e,hs',hp⟩:=ix (fun j=>owner[j]?=some none) (cq mask h) ⟨j0,cov j0 hj0,e0⟩
 have hjm:j<=mask:=g6 (h:=h) (by rw [e];simp)
 have hjs:j<owner.size:=by rw [O.size];omega
 have hocc:∀ k∈pre,∃ i',owner[k]?=some (some i'):=fun k hk=>by
  have hkm:k<=mask:=g6 (h:=h) (by rw [e];simp [hk])
  cases q:owner[k]? with
  | none=>
   rw [JQ,O.size] at q
   omega
  | some o=>
   cases o with
   | none=>exact absurd q (hp k hk)
   | some i=>exact ⟨i,rfl⟩
 have hset:∀ k,(owner.setIfInBounds j (some hs.length))[k]?=if j=k then some (some hs.length) else owner[k]?:=fun k=>by
  rw [Array.getElem?_setIfInBounds]
  by_cases q:j=k
  ·rw [G6 q,G6 q,G6 hjs]
  ·rw [G7 q,G7 q]
 have keep:∀ k i',owner[k]?=some (some i')->(owner.setIfInBounds j (some hs.length))[k]?=some (some i'):=fun k i' q=>by
  rw [hset,G7]
  ·exact q
  ·intro ej;rw [<- ej,hs'] at q;cases q
 refine ⟨j,?_,by simp [O.size],fun i h' ei=>?_,fun k i ei=>?_,fun k k' i e1 e2=>?_⟩
 ·rw [oP]
  show (cq mask h).find? _=some j
  rw [e,List.find?_append]
  have e1:pre.find? (fun j=>(owner.getD j (some 0)).isNone)=none:=by
   rw [List.find?_eq_none]
   intro k hk q
   exact hp k hk ((none_iff k).mp q)
  simp only [e1,Option.none_or,List.find?_cons,(none_iff j).mpr hs']
 ·by_cases hi : i < hs.length
  ·rw [Ig hi] at ei
   obtain ⟨j',a1,a2,pr,po,a3,a4⟩:=O.all i h' ei
   exact ⟨j',a1,keep j' i a2,pr,po,a3,fun k hk=>(a4 k hk).elim fun i' q=>⟨i',keep k i' q⟩⟩
  ·have hi':i=hs.length:=by
    have:=(Hq.mp ei).1
    simp at this;omega
   subst hi'
   rw [Ic (HI _),Nat.sub_self] at ei
   have eh:h=h':=by simpa using ei
   subst eh
   exact ⟨j,hjm,by rw [hset,G6 rfl],pre,post,e,fun k hk=>(hocc k hk).elim fun i' q=>⟨i',keep k i' q⟩⟩
 ·rw [hset] at ei
  rw [Ik,IS]
  split at ei
  ·cases ei;omega
  ·have:=O.lt k i ei;omega
 ·rw [hset] at e1 e2
  split at e1
  ·rename_i q1
   cases e1
   split at e2
   ·rename_i q2;rw [<- q1,q2]
   ·have:=O.lt k' _ e2;omega
  ·split at e2
   ·cases e2
    have:=O.lt k _ e1;omega
   ·exact O.inj k k' i e1 e2
theorem rm {mask:Nat}:∀ (hs0 hs1:List Int) (owner:Array (Option Nat)),B4 mask hs0 owner->hs0.length+hs1.length<=mask+1->(∀ h∈hs1,∀ j,j<=mask->j∈cq mask h) ->
  ∃ owner',hs1.foldl (fun (acc:Option (Array (Option Nat) × Nat)) h=>do
   let (owner,k) <- acc
   let j <- SetTable.layClean.free mask owner (SetTable.turns mask) (SetTable.bits h % (mask+1)) (SetTable.bits h)
   pure (owner.setIfInBounds j (some k),k+1)) (some (owner,hs0.length))=some (owner',(hs0++hs1).length)/\B4 mask (hs0++hs1) owner'
 | hs0,[],owner,O,_,_=>⟨owner,by simp,by simpa using O⟩
 | hs0,h::hs1,owner,O,hl,cov=>by
  rw [I0] at hl
  obtain ⟨j,ej,O'⟩:=yH (h:=h) O (by omega) (cov h Hj)
  obtain ⟨ow,e1,e2⟩:=rm (hs0++[h]) hs1 _ O' (by rw [Ik,IS];omega) (fun x hx=>cov x (Hk _ hx))
  rw [IP,List.singleton_append] at e1 e2
  refine ⟨ow,?_,e2⟩
  rw [IQ]
  show List.foldl _ ((SetTable.layClean.free mask owner (SetTable.turns mask) (SetTable.bits h % (mask+1)) (SetTable.bits h)).bind fun j=>some (owner.setIfInBounds j (some hs0.length),hs0.length+1)) hs1=_
  rw [ej]
  show List.foldl _ (some (owner.setIfInBounds j (some hs0.length),hs0.length+1)) hs1=_
  rw [Ik,IS] at e1
  exact e1
theorem rk {α:Type}:∀ l:List α,(List.range l.length).filterMap (fun i=>l[i]?)=l
 | []=>rfl
 | a::l=>by
  rw [I0,Jt,Hi]
  show a::List.filterMap _ _=_
  rw [List.filterMap_map]
  show a::List.filterMap (fun i=>l[i]?) _=_
  rw [rk l]
theorem Bd {mask:Nat}{hs:List Int} (hl:hs.length<=mask+1) (cov:∀ h∈hs,∀ j,j<=mask->j∈cq mask h):∃ owner,SetTable.layClean mask hs.toArray=some owner/\B4 mask hs owner:=by
 obtain ⟨ow,e1,e2⟩:=rm [] hs _ (AO mask) (by rw [Jx,Nat.zero_add];exact hl) cov
 refine ⟨ow,?_,by simpa using e2⟩
 unfold SetTable.layClean
 rw [List.foldl_toArray']
 ·show Option.map (·.1) (hs.foldl _ (some (Array.replicate (mask + 1) none, ([] : List Int).length))) = _
  rw [e1];rfl
 ·simp
theorem nj {t:SetTable}{es:Array (Int × Value)}{wanted mask:Nat} (hm:SetTable.sizeAbove wanted - 1=mask) (hl:es.size<=mask) (cov:∀ e∈es.toList,∀ j,j<=mask->j∈cq mask e.1) :
  ∃ t' order Z',t.relaid (es.map (·.1)) wanted=some (t',order)/\n6 t' (order.filterMap (es[·]?)) Z'/\(Z'.map (·.2)).Perm es.toList/\t'.mask=mask/\t'.led=t.led/\t'.plain=t.plain/\order.toList.Perm (List.range es.size):=by
 have ea:es.map (·.1)=(es.toList.map (·.1)).toArray:=by rw [<- Array.toList_map]
 obtain ⟨ow,e1,O⟩:=Bd (mask:=mask) (hs:=es.toList.map (·.1)) (by simp;omega) (fun h hh=>by
  obtain ⟨e,he,q⟩:=JC.mp hh
  rw [<- q];exact cov e he)
 let live:List (Nat × Nat):=(List.range (mask+1)).filterMap fun j=>(ow.getD j none).map (j,·)
 have hlive:∀ j i,(j,i)∈live↔(j<=mask/\ow[j]?=some (some i)):=fun j i=>by
  simp only [live,HK,Hf]
  constructor
  ·rintro ⟨k, hk, q⟩
   rw [JM] at q
   cases e:ow[k]? with
   | none=>rw [e] at q;cases q
   | some o=>
    rw [e] at q
    cases o with
    | none=>cases q
    | some i'=>
     simp only [JN,Option.map_some,Option.some.injEq,Prod.mk.injEq] at q
     obtain ⟨q1,q2⟩:=q
     subst q1;subst q2
     exact ⟨by omega,e⟩
  ·rintro ⟨hj, e⟩
   refine ⟨j,by omega,?_⟩
   rw [JM,e];rfl
 have hfst:(live.map (·.1)).Pairwise (·<·):=by
  have gen:∀ (l:List Nat),l.Pairwise (·<·)->((l.filterMap fun j=>(ow.getD j none).map (j,·)).map (·.1)).Pairwise (·<·)/\∀ x∈((l.filterMap fun j=>(ow.getD j none).map (j,·)).map (·.1)),x∈l:=by
   intro l
   induction l with
   | nil=>intro _;exact ⟨List.Pairwise.nil,fun x hx=>by simp at hx⟩
   | cons a l ih=>
    intro hp
    obtain ⟨h1,h2⟩:=JI.mp hp
    obtain ⟨i1,i2⟩:=ih h2
    rw [Hi]
    cases q:(ow.getD a none).map (a,·) with
    | none=>exact ⟨i1,fun x hx=>Hk _ (i2 x hx)⟩
    | some p=>
     have ep:p.1=a:=by
      cases hq:ow.getD a none with
      | none=>rw [hq] at q;cases q
      | some i=>rw [hq] at q;cases q;rfl
     show (p.1::List.map _ _).Pairwise _/\∀ x∈p.1::List.map _ _,x∈a::l
     rw [ep]
     exact ⟨JI.mpr ⟨fun x hx=>h1 x (i2 x hx),i1⟩,fun x hx=>by
      rcases Hl.mp hx with z | z
      ·rw [z];exact Hj
      ·exact Hk _ (i2 x z)⟩
  exact (gen _ JS).1
 have hnd:live.Nodup:=by
  have:=hfst.imp (fun h=>Hd h)
  exact List.Pairwise.of_map (·.1) (fun a b h e=>h (by rw [e])) this
 have hsz:∀ j i,(j,i)∈live->i<es.size:=fun j i h=>by
  have:=O.lt j i ((hlive j i).mp h).2
  simpa using this
 have hsnd:(live.map (·.2)).Perm (List.range es.size):=by
  refine (JT ?_ JE).mpr fun i=>?_
  ·refine List.Pairwise.map _ (fun a b h => ?_) (List.Pairwise.and_mem.mp hnd)
   obtain ⟨ha,hb,hne⟩:=h
   intro e
   have q1:=((hlive a.1 a.2).mp ha).2
   have q2:=((hlive b.1 b.2).mp hb).2
   rw [<- e] at q2
   exact hne (Prod.ext (O.inj _ _ _ q1 q2) e)
  ·rw [Hf, JC]
   constructor
   ·rintro ⟨p,hp,e⟩;rw [<- e];exact hsz p.1 p.2 hp
   ·intro hi
    obtain ⟨j,hj,q,_⟩:=O.all i (es[i].1) (by rw [Ih,IT,JU hi];rfl)
    exact ⟨(j,i),(hlive j i).mpr ⟨hj,q⟩,rfl⟩
 let Z':List (Nat × Int × Value):=live.filterMap fun p=>(es[p.2]?).map fun e=>(p.1,e)
 have hZ1:Z'.map (·.1)=live.map (·.1):=by
  have gen:∀ l:List (Nat × Nat),(∀ p∈l,p.2<es.size)->(l.filterMap fun p=>(es[p.2]?).map fun e=>(p.1,e)).map (·.1)=l.map (·.1):=by
   intro l
   induction l with
   | nil=>intro _;rfl
   | cons p l ih=>
    intro h
    rw [Hi,JU (h p Hj)]
    show p.1::List.map _ _=p.1::List.map _ _
    rw [ih fun q hq=>h q (Hk _ hq)]
  exact gen live fun p hp=>hsz p.1 p.2 hp
 have hZ2:Z'.map (·.2)=(live.map (·.2)).filterMap (es[·]?):=by
  have gen:∀ l:List (Nat × Nat),(l.filterMap fun p=>(es[p.2]?).map fun e=>(p.1,e)).map (·.2)=(l.map (·.2)).filterMap (es[·]?):=by
   intro l
   induction l with
   | nil=>rfl
   | cons p l ih=>
    rw [Hi,IH,Hi]
    cases es[p.2]? with
    | none=>exact ih
    | some e=>show e::List.map _ _=e::_;rw [ih]
  exact gen live
 have hes:(List.range es.size).filterMap (es[·]?)=es.toList:=by
  have q:=rk es.toList
  rw [Hw] at q
  simpa only [IT] using q
 refine ⟨{ mask,place:=(live.map (·.1)).toArray,dummies:=#[],finger:=t.finger,led:=t.led,moves:=t.movedTo mask,plain:=t.plain },(live.map (·.2)).toArray,Z',?_,⟨?_,?_,?_,fun z hz=>?_,rfl,fun z hz=>?_⟩,?_,rfl,rfl,rfl,hsnd⟩
 ·unfold SetTable.relaid SetTable.laid
  rw [hm,ea,e1]
  rfl
 ·show (live.map (·.1))=_;rw [hZ1]
 ·rw [hZ2];simp
 ·rw [hZ1];exact hfst
 ·have : z.1 ∈ live.map (·.1) := by rw [<- hZ1]; exact JG hz
  obtain ⟨p,hp,q⟩:=JC.mp this
  rw [<- q];exact ((hlive p.1 p.2).mp hp).1
 ·obtain ⟨p, hp, q⟩ := HK.mp hz
  rw [JU (hsz p.1 p.2 hp)] at q
  have ez:z=(p.1,es[p.2]'(hsz p.1 p.2 hp)):=(G8 q).symm
  obtain ⟨hj,ho⟩:=(hlive p.1 p.2).mp hp
  obtain ⟨j,a1,a2,pre,post,a3,a4⟩:=O.all p.2 (es[p.2]'(hsz p.1 p.2 hp)).1 (by rw [Ih,IT,JU (hsz p.1 p.2 hp)];rfl)
  have ejp:j=p.1:=O.inj _ _ _ a2 ho
  refine ⟨pre,post,by rw [ez];rw [ejp] at a3;exact a3,fun k hk=>?_⟩
  obtain ⟨i',hi'⟩:=a4 k hk
  rw [hZ1]
  have hkm:k<=mask:=g6 (h:=(es[p.2]'(hsz p.1 p.2 hp)).1) (by rw [a3];simp [hk])
  exact JC.mpr ⟨(k,i'),(hlive k i').mpr ⟨hkm,hi'⟩,rfl⟩
 ·rw [hZ2, <- hes]
  exact hsnd.filterMap _
def prs:List (List Int):=((List.range 36).filter fun n=>n / 6<n % 6).map fun n=>[((n / 6:Nat):Int),((n % 6:Nat):Int)]
def hsh (ks:List Int):Int:=reduceHash (Builtin.Tuple.tupleHashOf (ks.map hashInt))
theorem xM {prog:Program}{w:World} (ks:List Int):tupleKeyHash (intKind prog w) ks=hsh ks:=rfl
def Cc (mask:Nat):Bool:=prs.all fun ks=>(List.range (mask+1)).all fun j=>(cq mask (hsh ks)).contains j
theorem GB:Cc 7=true:=by decide +kernel
theorem BS:Cc 31=true:=by decide +kernel
theorem Fz:(prs.map hsh).Nodup:=by decide +kernel
theorem uE:prs.length=15:=by decide +kernel
theorem sY {mask:Nat} (h:Cc mask=true) {ks:List Int} (hk:ks∈prs):∀ j,j<=mask->j∈cq mask (hsh ks):=fun j hj=>by
 have a:=JV.mp h ks hk
 have b:=JV.mp a j (Hf.mpr (by omega))
 simpa using b
theorem D1 {l:List (List Int)} (h:(l.map hsh).Nodup) {a b:List Int} (ha:a∈l) (hb:b∈l) (e:hsh a=hsh b):a=b:=by
 induction l with
 | nil=>simp at ha
 | cons c l ih=>
  rw [IH] at h
  obtain ⟨h1,h2⟩:=HW.mp h
  rcases Hl.mp ha with qa | qa <;> rcases Hl.mp hb with qb | qb
  ·rw [qa,qb]
  ·exact absurd (by rw [<- qa,e];exact JG qb) h1
  ·exact absurd (by rw [<- qb,<- e];exact JG qa) h1
  ·exact ih h2 qa qb
theorem Bj {a b:List Int} (ha:a∈prs) (hb:b∈prs) (e:hsh a=hsh b):a=b:=D1 Fz ha hb e
theorem uD {a b:Int} (h1:0<=a) (h2:a<b) (h3:b<6):[a,b]∈prs:=by
 have key:∀ x:Nat,x<6->∀ y:Nat,y<6->x<y->[(x:Int),(y:Int)]∈prs:=by decide +kernel
 have:=key a.toNat (by omega) b.toNat (by omega) (by omega)
 rw [JW h1,JW (by omega)] at this
 exact this
end RS
namespace RS
open PySem PyProof.Rows
abbrev KP:=List Int × Addr
structure df (w:World) (h:Heap) (a:Addr) (qs:List (Int × Value)) (o:Obj) (es:Array (Int × Value)) (ep:Nat) (t:SetTable) (Z:List (Nat × Int × Value)):Prop where
 ho:h.get? a=some o
 ex:o.ExactSet
 hd:o.data=.set es ep t
 tab:n6 t es Z
 plain:t.plain=true
 led:t.led=!w.params.followText "set-order"
 big:(t.mask=7/\Z.length<=4)\/(t.mask=31/\Z.length<=18)
 perm:(Z.map (·.2)).Perm qs
def sM (p:KP):Int × Value:=(hsh p.1,Value.ref p.2)
def bJ (w:World) (h:Heap) (a:Addr) (ps:List KP):Prop:=∃ o es ep t Z,df w h a (ps.map sM) o es ep t Z/\(∀ p∈ps,p.1∈prs)/\(ps.map (·.1)).Nodup
theorem df.len {w:World}{h:Heap}{a:Addr}{ps:List (Int × Value)}{o es ep t Z} (S:df w h a ps o es ep t Z):Z.length=ps.length:=by
 have:=S.perm.length_eq
 simpa using this
theorem jg {ps:List KP} (hk:∀ p∈ps,p.1∈prs) (hn:(ps.map (·.1)).Nodup):ps.length<=15:=by
 have:=gT hn (l2:=prs) (fun x hx=>by obtain ⟨p,hp,e⟩:=JC.mp hx;rw [<- e];exact hk p hp)
 rw [Il,uE] at this
 exact this
theorem df.fits {w:World}{h:Heap}{a:Addr}{ps:List (Int × Value)}{o es ep t Z} (S:df w h a ps o es ep t Z):t.fits es.size=true:=by
 unfold SetTable.fits
 rw [S.tab.fill,S.tab.size.1,S.tab.size.2]
 rcases S.big with ⟨h1,h2⟩ | ⟨h1,h2⟩ <;> simp [h1] <;> omega
theorem df.cov {w:World}{h:Heap}{a:Addr}{ps:List (Int × Value)}{o es ep t Z} (S:df w h a ps o es ep t Z) {k:List Int} (hk:k∈prs):∀ j,j<=t.mask->j∈cq t.mask (hsh k):=by
 rcases S.big with ⟨h1,h2⟩ | ⟨h1,h2⟩ <;> rw [h1]
 ·exact sY GB hk
 ·exact sY BS hk
theorem bJ.keeps {w:World}{h h':Heap}{a:Addr}{ps:List KP} (S:bJ w h a ps) (k:∀ o,h.get? a=some o->h'.get? a=some o):bJ w h' a ps:=by
 obtain ⟨o,es,ep,t,Z,S,hk,hn⟩:=S
 exact ⟨o,es,ep,t,Z,⟨k o S.ho,S.ex,S.hd,S.tab,S.plain,S.led,S.big,S.perm⟩,hk,hn⟩
section
variable {prog:Program}{w:World}{A:Around}{E:Value->Shared->Prop}{s:Shared}
abbrev Tk (prog:Program) (w:World) (h:Heap) (k:List Int) (r:Addr):Prop:=IsTupleKey (intKind prog w) h k r
theorem items_int {k:List Int}{vs:List Value} (h:ItemsAre (intKind prog w) k vs):∀ v∈vs,∃ i t,v=.int i t:=by
 induction h with
 | nil=>intro v hv;simp at hv
 | @cons k v' ks vs h1 _ ih=>
  intro v hv
  rcases Hl.mp hv with q | q
  ·obtain ⟨t, e⟩ := G2 (k := k) (v := v') h1
   exact ⟨k,t,by rw [q,e]⟩
  ·exact ih v q
theorem rq {k:List Int}{r:Addr}{Q:Bool->Shared->Prop} (hk:Tk prog w s.heap k r) (h:Q false s):wpAny (model prog w) A (ofAClassStatement 8 (.ref r)) Q E s:=by
 have hT:=hk.typeIs
 obtain ⟨o,items,n,ho,hc,hd,hi⟩:=hk
 unfold ofAClassStatement
 refine HA (ID hT ?_)
 dsimp only
 simp only [IY,Iv]
 refine HA (HE ?_)
 simp only [JX,IZ,Iu]
 refine HA (Jm ho hd ?_)
 dsimp only
 refine HA ?_
 show wpAny _ _ (forIn items _ _) _ _ s
 rw [<- Array.forIn_toList]
 refine JY _ (fun rest r s'=>r.1=none/\s'=s/\∀ v∈rest,∃ i t,v=.int i t) _ ?_ ?_ _ _ ⟨rfl,rfl,items_int hi⟩
 ·rintro v rest r s' ⟨hr, rfl, hall⟩
  obtain ⟨i,t,e⟩:=hall v Hj
  subst e
  unfold ofAClassStatement
  refine HA (HE ?_)
  simp only [IZ,Iu]
  exact HE ⟨rfl,rfl,fun u hu'=>hall u (Hk _ hu')⟩
 ·rintro ⟨r1, r2⟩ s' ⟨hr, rfl, _⟩
  simp only at hr
  subst hr
  exact HE h
theorem nV {k:List Int}{r:Addr}{Q:Bool->Shared->Prop} (hk:Tk prog w s.heap k r) (h:Q true s):wpAny (model prog w) A (hashByValue 8 (.ref r)) Q E s:=by
 have hT:=hk.typeIs
 obtain ⟨o,items,n,ho,hc,hd,hi⟩:=hk
 unfold hashByValue
 refine HA (wpAny_specialOf hT F.slot_tuple_hash.lookup ?_)
 dsimp only
 refine HA (Jm ho hd ?_)
 refine HA ?_
 show wpAny _ _ (forIn items _ _) _ _ s
 rw [<- Array.forIn_toList]
 refine JY _ (fun rest r s'=>r.1=none/\s'=s/\∀ v∈rest,∃ i t,v=.int i t) _ ?_ ?_ _ _ ⟨rfl,rfl,items_int hi⟩
 ·rintro v rest r s' ⟨hr, rfl, hall⟩
  obtain ⟨i,t,e⟩:=hall v Hj
  subst e
  unfold hashByValue
  refine HA (HE ?_)
  simp only [JX,IZ,Iu]
  exact HE ⟨rfl,rfl,fun u hu'=>hall u (Hk _ hu')⟩
 ·rintro ⟨r1, r2⟩ s' ⟨hr, rfl, _⟩
  simp only at hr
  subst hr
  exact HE h
theorem yL {k:List Int}{r:Addr}{ys:List Value}{Q:Bool->Shared->Prop} (hk:Tk prog w s.heap k r) (hy:∀ y∈ys,∃ k' r',y=.ref r'/\Tk prog w s.heap k' r') (h:Q false s):wpAny (model prog w) A (searchCouldBeSeen (.ref r) ys) Q E s:=by
 unfold searchCouldBeSeen
 refine HA ?_
 refine JY _ (fun rest r' s'=>r'.1=none/\s'=s/\∀ y∈rest,∃ k' r',y=.ref r'/\Tk prog w s.heap k' r') _ ?_ ?_ _ _ ⟨rfl,rfl,hy⟩
 ·rintro v rest q s' ⟨hr, rfl, hall⟩
  obtain ⟨k',r',e,hk'⟩:=hall v Hj
  subst e
  have hrest:=fun u hu'=>hall u (Hk _ hu')
  dsimp only
  by_cases hv:(r == r' || carriedByValue (Value.ref r) && carriedByValue (Value.ref r'))=true
  ·rw [G6 hv]
   exact HE ⟨rfl,rfl,hrest⟩
  ·rw [G7 hv]
   refine HA (wpAny_eqIsQuiet_tuple hk ?_)
   simp only [JX,IZ,Iu]
   refine HA (wpAny_eqIsQuiet_tuple hk' ?_)
   simp only [JX,IZ,Iu]
   refine HA (rq hk ?_)
   simp only [IZ,Iu]
   refine HA (rq hk' ?_)
   simp only [IZ,Iu]
   exact HE ⟨rfl,rfl,hrest⟩
 ·rintro ⟨r1, r2⟩ s' ⟨hr, rfl, _⟩
  simp only at hr
  subst hr
  exact HE h
end
end RS
namespace RS
open PySem PyProof.Rows
section
variable {prog:Program}{w:World}{A:Around}{E:Value->Shared->Prop}{s:Shared}
theorem xR {h:Heap}{a:Addr}{ps:List KP}{o es ep t Z} (S:df w h a (ps.map sM) o es ep t Z) {z:Nat × Int × Value} (hz:z∈Z):∃ p∈ps,z.2=(hsh p.1,Value.ref p.2):=by
 have:z.2∈Z.map (·.2):=JG hz
 obtain ⟨p,hp,e⟩:=JC.mp (S.perm.mem_iff.mp this)
 exact ⟨p,hp,e.symm⟩
theorem Ed {h:Heap}{a:Addr}{ps:List KP}{o es ep t Z} (S:df w h a (ps.map sM) o es ep t Z) {p:KP} (hp:p∈ps):∃ z∈Z,z.2=(hsh p.1,Value.ref p.2):=by
 have:sM p∈ps.map sM:=JG hp
 obtain ⟨z,hz,e⟩:=JC.mp (S.perm.mem_iff.mpr this)
 exact ⟨z,hz,e⟩
theorem vg {a r:Addr}{k:List Int}{ps:List KP}{o es ep t Z}{Q:SetFound->Shared->Prop} (S:df w s.heap a (ps.map sM) o es ep t Z) (hks:∀ p∈ps,p.1∈prs) (hk:k∈prs) (hr:Tk prog w s.heap k r) (hps:∀ p∈ps,Tk prog w s.heap p.1 p.2) (hu:A.units<cLine)
  (h1:k∈ps.map (·.1)->Q (.there none) s)
  (h2:k ∉ ps.map (·.1)->∀ j pre post,j<=t.mask->j ∉ Z.map (·.1)->cq t.mask (hsh k)=pre++j::post->(∀ x∈pre,x∈Z.map (·.1))->Q (.free j false) s) :
  wpAny (model prog w) A (setSearch a (.ref r) (hsh k) true) Q E s:=by
 have hodd:t.gaveWay=false:=by
  unfold SetTable.gaveWay
  rcases S.big with ⟨q,_⟩ | ⟨q,_⟩ <;> rw [q] <;> decide
 have hz:Z.length<=t.mask:=by rcases S.big with ⟨q,q2⟩ | ⟨q,q2⟩ <;> omega
 unfold setSearch setSearchFrom
 refine HA (JZ S.ho S.hd S.fits ?_)
 dsimp only
 rw [hodd]
 simp only [IZ,Iu]
 generalize hpr:SetTable.probe t _ (hsh k) (Option.getD none (t.probeStart (hsh k)))=pr
 have key:∀ (hA:Nat->Int) pr,(∀ i z,Z[i]?=some z->hA i=z.2.1)->t.probe hA (hsh k) (t.probeStart (hsh k))=pr ->
   (∃ i z nx,Z[i]?=some z/\z.2.1=hsh k/\pr=some (.candidate z.1 i nx)) \/
   ((∀ z∈Z,z.2.1≠hsh k)/\∃ j pre post,pr=some (.empty j none)/\j<=t.mask/\j ∉ Z.map (·.1)/\cq t.mask (hsh k)=pre++j::post/\∀ x∈pre,x∈Z.map (·.1)):=fun hA pr hAe e=>by
  subst e
  exact S.tab.search (S.cov hk) hz hA hAe
 rcases key _ pr (fun i z hi=>by show (Option.map (·.1) es[i]?).getD 0=_;rw [S.tab.hashAt hi];rfl) hpr with ⟨i,z,nx,hi,ez,e⟩ | ⟨hno,j,pre,post,e,hj,hn,e2,hp⟩
 ·subst e
  dsimp only
  have hzm:z∈Z:=Ij hi
  obtain ⟨p,hp,ep'⟩:=xR S hzm
  have ek:p.1=k:=Bj (hks p hp) hk (by rw [<- ez,ep'])
  have hin:k∈ps.map (·.1):=by rw [<- ek];exact JG hp
  have rest:wpAny (model prog w) A (do
    let some (_,y):=es[i]? | unsupported "internal:set-entry"
    let equal <- holding [y] (eqBool y (.ref r))
    let (es',_,t') <- setState a
    if true && equal then return SetFound.there none
    let some same:=t'.sameMemory t.moves t.mask | unsupported "set.changed-during-lookup:is-the-new-block-at-the-old-address"
    let still <- match (if same then t'.slot z.1 else .empty) with
     | .live i'=>match es'[i']? with
      | some (_,y')=>do pure (if <- isSame y' y then some i' else none)
      | none=>pure none
     | _=>pure none
    match still with
    | none=>rule "set.search.anew";setSearchFrom a (.ref r) (hsh k) true 99999 none
    | some i'=>if equal then return .there (some i') else setSearchFrom a (.ref r) (hsh k) true 99999 (some nx)) Q E s:=by
   rw [S.tab.hashAt hi,ep']
   dsimp only
   refine HA (HB (wpAny_eqBool_tuple hu (hps p hp) hr ?_))
   refine HA (JZ S.ho S.hd S.fits ?_)
   dsimp only
   rw [ek,IV rfl]
   simp only [J0,Iv]
   exact HE (h1 hin)
  by_cases hl:(!t.led)=true
  ·rw [G6 hl]
   refine HA (yL hr (fun y hy=>?_) ?_)
   ·obtain ⟨e', he', q⟩ := JC.mp hy
    have he2:e'∈es.toList:=by
     have:=Array.mem_filter.mp (J1.mp he')
     exact J1.mpr this.1
    rw [S.tab.ents] at he2
    obtain ⟨z',hz',q2⟩:=JC.mp he2
    obtain ⟨p',hp',q3⟩:=xR S hz'
    exact ⟨p'.1,p'.2,by rw [<- q,<- q2,q3],hps p' hp'⟩
   ·simp only [IZ, Iu]
    exact rest
  ·rw [G7 hl]
   exact rest
 ·subst e
  dsimp only
  refine HE (h2 (fun hin=>?_) j pre post hj hn e2 hp)
  obtain ⟨p,hpm,ek⟩:=JC.mp hin
  obtain ⟨z,hzm,ez⟩:=Ed S hpm
  exact hno z hzm (by rw [ez,<- ek])
end
end RS
namespace RS
open PySem PyProof.Rows
def fR (ps:List KP) (k:List Int) (r:Addr):List KP:=if k∈ps.map (·.1) then ps else ps++[(k,r)]
section
variable {prog:Program}{w:World}{A:Around}{E:Value->Shared->Prop}{s:Shared}
theorem xn {a r:Addr}{k:List Int}{ps:List KP}{Q:Bool->Shared->Prop} (S:bJ w s.heap a ps) (hk:k∈prs) (hr:Tk prog w s.heap k r) (hps:∀ p∈ps,Tk prog w s.heap p.1 p.2) (hu:A.units<cLine)
  (h:∀ b h',Heap.SameBut a s.heap h'->bJ w h' a (fR ps k r)->Q b { s with heap:=h' }):wpAny (model prog w) A (setAddHashed a (.ref r) (hsh k)) Q E s:=by
 obtain ⟨o,es,ep,t,Z,S,hk0,hn0⟩:=S
 unfold setAddHashed setAddHashedIn
 refine HB (HA (JZ S.ho S.hd S.fits ?_))
 dsimp only
 have hsc:byScan (Value.ref r) es=false:=rfl
 rw [hsc]
 simp only [IZ,Iu]
 refine HA (vg S hk0 hk hr hps hu (fun hin=>?_) fun hin j pre post hj hn e hp=>?_)
 ·dsimp only
  refine HE ?_
  have q:=h false s.heap (Heap.SameBut.refl a s.heap) (by unfold fR;rw [G6 hin];exact ⟨o,es,ep,t,Z,S,hk0,hn0⟩)
  cases s;exact q
 ·dsimp only
  refine HA (JZ S.ho S.hd S.fits ?_)
  dsimp only
  obtain ⟨Z',T',hperm,et⟩:=S.tab.put (x:=Value.ref r) hj hn e hp
  have e2:(t.put j).2=SetTable.below t.place j:=rfl
  have hpl:(t.put j).1.plain=true:=by rw [et];exact S.plain
  have hled:(t.put j).1.led=t.led:=by rw [et]
  have hmask:(t.put j).1.mask=t.mask:=by rw [et]
  have hperm':(Z'.map (·.2)).Perm ((ps++[(k,r)]).map sM):=by
   have q1:=hperm.map (·.2)
   refine q1.trans ?_
   rw [IH,JJ]
   refine List.Perm.trans (List.Perm.cons _ S.perm) ?_
   exact (List.perm_append_singleton _ _).symm
  have hkeys:∀ p∈ps++[(k,r)],p.1∈prs:=fun p hp'=>by
   rcases Hn.mp hp' with q | q
   ·exact hk0 p q
   ·rw [Ji] at q;rw [q];exact hk
  have hnd:((ps++[(k,r)]).map (·.1)).Nodup:=by
   rw [JJ]
   refine J2.mpr ⟨hn0,by simp,fun x hx y hy=>?_⟩
   simp at hy
   rw [hy];rintro rfl;exact hin hx
  have hlen15:=jg hkeys hnd
  have hZ':Z'.length=ps.length+1:=by rw [hperm.length_eq,I0,S.len,Il]
  have hesz:(SetTable.insertAt es (t.put j).2 (hsh k,Value.ref r)).size=Z'.length:=T'.size.2
  have hadd:fR ps k r=ps++[(k,r)]:=by unfold fR;rw [G7 hin]
  rw [hadd] at h
  rw [Ik,IS] at hlen15
  generalize ht1:(t.put j).1=t1 at *
  generalize hes1:SetTable.insertAt es (t.put j).2 (hsh k,Value.ref r)=es1 at *
  have hline:es1.size<=sizeLine:=by rw [hesz,hZ'];exact Hg hlen15 (by decide)
  rw [hpl]
  simp only [Iv]
  refine HA (nV hr ?_)
  simp only [Iv]
  refine HA (J3 S.ho S.hd ?_ hline)
  have hg:(s.heap.update a (Obj.putSet es1 t1)).get? a=some { o with data:=.set es1 (ep+1) t1 }:=by
   have:=II (Obj.putSet es1 t1) S.ho (by rw [J4 es1 t1 S.hd];rfl)
   rw [J4 es1 t1 S.hd] at this;exact this
  have hsb1:=Jn s.heap a (Obj.putSet es1 t1)
  have hfill:t1.fill=ps.length+1:=by rw [T'.fill,hZ']
  by_cases hfull:t1.tooFull=true
  ·simp only [hfull, J6, J0, Iv]
   have hm7:t.mask=7/\ps.length=4:=by
    unfold SetTable.tooFull at hfull
    rw [hfill,hmask] at hfull
    have hf:(ps.length+1) * 5 ≥ t.mask * 3:=by simpa using hfull
    have hl:=S.len
    rw [Il] at hl
    rcases S.big with ⟨q,q2⟩ | ⟨q,q2⟩
    ·rw [q] at hf;exact ⟨q,by omega⟩
    ·rw [q] at hf;omega
   have hes0:es.size=4:=by rw [S.tab.size.2,S.len,Il,hm7.2]
   have hsz1:es1.size=5:=by rw [hesz,hZ',hm7.2]
   have hgr:SetTable.grown (es.size+1)=20:=by rw [hes0];rfl
   rw [hgr]
   unfold setRelay
   have hfits1:t1.fits es1.size=true:=by
    unfold SetTable.fits
    rw [T'.fill,T'.size.1,hesz,hmask,hm7.1,hZ',hm7.2];rfl
   refine HA (HA (JZ hg rfl hfits1 ?_))
   dsimp only
   rw [G7 (by decide)]
   obtain ⟨t2,order,Z2,er,T2,hp2,hm2,hl2,hpl2,_⟩:=nj (t:=t1) (es:=es1) (wanted:=20) (mask:=31) (by rfl) (by rw [hsz1];decide) (fun e' he'=>by
    rw [T'.ents] at he'
    obtain ⟨p,hp',q⟩:=JC.mp (hperm'.mem_iff.mp he')
    rw [<- q]
    exact sY BS (hkeys p hp'))
   rw [er]
   have hZ2:Z2.length=5:=by
    have:=hp2.length_eq
    simp at this
    omega
   have hes2:(order.filterMap (es1[·]?)).size=5:=by rw [T2.size.2,hZ2]
   have hne:((order.filterMap (es1[·]?)).size != es1.size)=false:=by rw [hes2,hsz1];rfl
   refine HA ?_
   show wpAny _ A (if ((order.filterMap (es1[·]?)).size != es1.size)=true then _ else _) _ _ _
   rw [hne]
   simp only [IZ,Iu]
   refine HE ?_
   refine J3 hg rfl ?_ (by rw [hes2];decide)
   have hg2:((s.heap.update a (Obj.putSet es1 t1)).update a (Obj.putSet (order.filterMap (es1[·]?)) t2)).get? a=some { o with data:=.set (order.filterMap (es1[·]?)) (ep+1+1) t2 }:=by
    have:=II (Obj.putSet (order.filterMap (es1[·]?)) t2) hg (by rw [J4 _ t2 rfl];rfl)
    rw [J4 _ t2 rfl] at this;exact this
   refine HE ?_
   refine h true _ (hsb1.trans (Jn _ a _)) ⟨_,_,_,t2,Z2,⟨hg2,S.ex,rfl,T2,by rw [hpl2];exact hpl,by rw [hl2,hled];exact S.led,.inr ⟨hm2,by omega⟩,?_⟩,hkeys,hnd⟩
   refine hp2.trans ?_
   rw [T'.ents];exact hperm'
  ·have hf : t1.tooFull = false := by simpa using hfull
   simp only [hf,Bool.and_false,IZ,Iu]
   refine HE ?_
   refine h true _ hsb1 ⟨_,_,_,t1,Z',⟨hg,S.ex,rfl,T',hpl,by rw [hled];exact S.led,?_,hperm'⟩,hkeys,hnd⟩
   unfold SetTable.tooFull at hf
   rw [hfill,hmask] at hf
   have hf':¬ ((ps.length+1) * 5 ≥ t.mask * 3):=by simpa using hf
   rw [hmask,hZ']
   rcases S.big with ⟨q,q2⟩ | ⟨q,q2⟩
   ·rw [q] at hf' ⊢;exact .inl ⟨rfl,by omega⟩
   ·rw [q] at hf' ⊢;exact .inr ⟨rfl,by omega⟩
end
def dM (qs:List KP):List KP:=qs.foldl (fun ps p=>fR ps p.1 p.2) []
theorem sA (qs:List KP) (p:KP):dM (qs++[p])=fR (dM qs) p.1 p.2:=by unfold dM;rw [J7];rfl
theorem ng {ps:List KP}{k:List Int}{r:Addr}{p:KP} (h:p∈fR ps k r):p∈ps\/p=(k,r):=by
 unfold fR at h
 split at h
 ·exact .inl h
 ·rcases Hn.mp h with q | q
  ·exact .inl q
  ·exact .inr (Ji.mp q)
theorem lI:∀ {qs ps:List KP}{p:KP},p∈qs.foldl (fun ps p=>fR ps p.1 p.2) ps->p∈ps\/p∈qs
 | [],_,_,h=>.inl h
 | q::qs,ps,p,h=>by
  rw [IQ] at h
  rcases lI h with z | z
  ·rcases ng z with z | z
   ·exact .inl z
   ·exact .inr (by rw [z];exact Hj)
  ·exact .inr (Hk _ z)
theorem jY {qs:List KP}{p:KP} (h:p∈dM qs):p∈qs:=(lI h).elim (fun z=>by simp at z) id
theorem nz {ps:List KP}{k:List Int}{r:Addr} (h:(ps.map (·.1)).Nodup):((fR ps k r).map (·.1)).Nodup:=by
 unfold fR
 split
 ·exact h
 ·rename_i hn
  rw [JJ]
  refine J2.mpr ⟨h,by simp,fun x hx y hy=>?_⟩
  simp at hy
  rw [hy];rintro rfl;exact hn hx
theorem jH:∀ {qs ps:List KP},(ps.map (·.1)).Nodup->((qs.foldl (fun ps p=>fR ps p.1 p.2) ps).map (·.1)).Nodup
 | [],_,h=>h
 | q::qs,ps,h=>by rw [IQ];exact jH (nz h)
theorem qk {qs:List KP}:((dM qs).map (·.1)).Nodup:=jH (ps:=[]) JR
def jD (w:World):Bool:=!w.params.followText "set-order"
theorem i6 {w:World}{h:Heap}{a:Addr} (e:h.get? a=some { cls:=.type "set",dict:=none,data:=.set #[] 0 (.fresh 0 0 (jD w)) }):bJ w h a []:=
 ⟨_,_,_,_,[],⟨e,⟨rfl,rfl,rfl⟩,rfl,⟨rfl,rfl,List.Pairwise.nil,fun z hz=>by simp at hz,rfl,fun z hz=>by simp at hz⟩,rfl,rfl,.inl ⟨rfl,by decide⟩,List.Perm.nil⟩,fun p hp=>by simp at hp,JR⟩
section
variable {prog:Program}{w:World}{A:Around}{R:Result->Shared->Prop}{I:Addr}{fp wr:List Addr}{G:Array GenState->Array GenState->Prop}{P:Nat->Value->Prop}{St:Nat->Shared->Prop}
structure wV (prog:Program) (w:World) (u:Nat) (S:Addr) (vs:List Value) (J:Nat->Heap->Prop):Prop where
 keep:∀ i h h',(∀ b o,b<=S->h.get? b=some o->h'.get? b=some o)->J i h->J i h'
 add:∀ (A:Around) (i:Nat) (v:Value) (s:Shared) (E:Value->Shared->Prop) (Q:Bool->Shared->Prop),A.units<=u->vs[i]?=some v->J i s.heap ->
  (∀ b h' tk,s.toks<=tk->Heap.SameBut S s.heap h'->J (i+1) h'->Q b { s with heap:=h',toks:=tk })->wpAny (model prog w) A (setAdd S v) Q E s
theorem rD {u:Nat}{vs:List Value}{J:Nat->Heap->Prop} (W:WalksS prog w A.in1 I fp wr G vs.length P St) (S:Addr) (hSf:S ∉ fp) (hwr:∀ b∈wr,S<b) (hP:∀ (i:Nat) v,P i v->vs[i]?=some v) (hJ:wV prog w u S vs J) (hu:A.units+1<=u) :
  ∀ (k i:Nat) (s:Shared),vs.length - i=k->i<=vs.length->St i s->J i s.heap ->
   (∀ s',Moved (S::wr) G s s'->J vs.length s'.heap->R (.ok (.ret .none)) s') ->
   codeAny (model prog w) A (.builtin "set.update.loop" ⟨[.ref S,.ref I],[]⟩) R s:=by
 have hSw:S ∉ wr:=fun h=>hSf (W.sub _ h)
 have hsub:∀ b∈wr,b∈S::wr:=fun b hb=>Hk _ hb
 have hle:∀ b,b<=S->b ∉ wr:=fun b hb z=>Hc _ (Hb (hwr b z) hb)
 intro k
 induction k with
 | zero=>
  intro i s ek hi hst hS hR
  have hin:i=vs.length:=by omega
  subst hin
  refine J8 F.entry_set_update_loop ?_
  rw [J9 Ka _]
  show wpAny _ A.in1 (pyNext (.ref I) >>= _) _ _ s
  refine HA (W.done s _ _ hst fun s' hm=>?_)
  show wpAny _ A.in1 (ret Value.none) _ _ s'
  exact HE (hR s' (hm.mono hsub) (hJ.keep _ _ _ (fun b o hb e=>hm.heap b o (hle b hb) e) hS))
 | succ k ih=>
  intro i s ek hi hst hS hR
  have hlt:i<vs.length:=by omega
  refine J8 F.entry_set_update_loop ?_
  rw [J9 Ka _]
  show wpAny _ A.in1 (pyNext (.ref I) >>= _) _ _ s
  refine HA (W.item i s _ _ hlt hst fun v s' hPv hst' hm=>?_)
  have hv:=hP i v hPv
  have hS':=hJ.keep i _ s'.heap (fun b o hb e=>hm.heap b o (hle b hb) e) hS
  show wpAny _ A.in1 (holding [v] (setAdd S v) >>= _) _ _ s'
  refine HA (HB ?_)
  refine hJ.add A.in1 i v s' _ _ (by show A.units+1<=u;exact hu) hv hS' fun b h' tk ht hsb hS2=>?_
  have hkeep:∀ b o,b≠S->s'.heap.get? b=some o->h'.get? b=some o:=fun b o hb e=>(hsb.2 b hb).trans e
  refine HE ⟨plainId_quiet Ka _,ih (i+1) _ (by omega) hlt (W.frame _ s' _ _ hst' ht fun b hb o e=>hkeep b o (fun z=>hSf (by rw [<- z];exact hb)) e) hS2 fun s'' hm'' hS''=>?_⟩
  refine hR s'' (Moved.trans W.gtrans ((hm.mono hsub).then_heap ht fun b o hb e=>?_) hm'') hS''
  exact hkeep b o (fun z=>hb (by rw [z];exact Hj)) e
end
section
variable {prog:Program}{w:World}{A:Around}{E:Value->Shared->Prop}{s:Shared}
theorem kD (a:Value) {Q1:Value->Shared->Prop}
  (h:Q1 (.ref s.heap.objs.size) { s with heap:=s.heap.push { cls:=.type "set",dict:=none,data:=.set #[] 0 (.fresh 0 0 (jD w)) } }) :
  codeAny (model prog w) A (.call (.builtin "set.__new__") ⟨[.type "set",a],[]⟩) (wants Q1 E) s:=by
 refine Je ?_
 show wpAny _ A.in1 (do checkBuiltinCall "set.__new__" ⟨[.type "set",a],[]⟩;again (.builtin "set.__new__" ⟨[.type "set",a],[]⟩)) _ _ s
 refine HA (Jo (F.newCall_set_1 a) (HE ⟨plainId_quiet F.plain_set_new _,J8 F.entry_set_new ?_⟩))
 rw [J9 F.plain_set_new _]
 unfold Builtin.«set.__new__» Builtin.Frozenset.newClass
 have hsub:=sub_set_self
 obtain ⟨hp,g,d,tk,os⟩:=s
 dsimp only
 wp_walk
 refine Jf (HE ?_)
 dsimp only
 simp only [newObj]
 refine HA (wpAny_alloc (HE ?_))
 exact HE h
namespace F
theorem sub_list_set:isSubtype (.type "list") (.type "set")=pure false:=by rw [Kb];kernel_rfl
theorem sub_list_frozenset:isSubtype (.type "list") (.type "frozenset")=pure false:=by rw [Kb];kernel_rfl
end F
theorem kv {l:Addr}{items:Array Value}{J:Nat->Heap->Prop}{Q:Value->Shared->Prop}
  (hh:A.handled=none) (hl:s.heap.IsList l items) (hJ:wV prog w (A.units+20) s.heap.objs.size items.toList J)
  (h0:∀ h',(∀ b o,s.heap.get? b=some o->h'.get? b=some o)->h'.get? s.heap.objs.size=some { cls:=.type "set",dict:=none,data:=.set #[] 0 (.fresh 0 0 (jD w)) }->J 0 h')
  (h:∀ (h':Heap) (tk:Nat),J items.size h'->(∀ b o,b<s.heap.objs.size->s.heap.get? b=some o->h'.get? b=some o)->Q (.ref s.heap.objs.size) { s with heap:=h',toks:=tk }) :
  wpAny (model prog w) A (call (.type "set") [.ref l]) Q E s:=by
 obtain ⟨c,tl,hmro⟩:=Kc.mro
 have hmade:=Kc.made
 have hsub:=Kc.sub
 refine wpAny_call (Je ?_)
 show wpAny _ _ (callAny (.type "set") _) _ _ _
 refine HE ⟨Kd _ (by decide +kernel),J8 PySem.F.entry_type_call ?_⟩
 rw [Around.under_plain (weight_type_call_type "set" [.ref l] []) rfl]
 have h1:=Kc.notType
 have h2:=Kc.canCreate
 have hct:=PySem.F.typeCall_set_1 (.ref l)
 repeat (any_goals (first | assumption | wp_step))
 refine HU (kD (.ref l) (E:=E) (Q1:=fun obj s1=>obj=.ref s.heap.objs.size/\s1={ s with heap:=s.heap.push { cls:=.type "set",dict:=none,data:=.set #[] 0 (.fresh 0 0 (jD w)) } }) ⟨rfl,rfl⟩) fun r s1 hr=>?_
 cases r with
 | error e=>exact hr
 | ok fl=>
  cases fl with
  | ret obj=>
   obtain ⟨rfl,rfl⟩:=hr
   generalize hled:jD w=led
   have hS:(s.heap.push { cls:=.type "set",dict:=none,data:=.set #[] 0 (.fresh 0 0 led) }).get? s.heap.objs.size=some { cls:=.type "set",dict:=none,data:=.set #[] 0 (.fresh 0 0 led) }:=HH _ rfl
   have hTy:Shared.TypeIs { s with heap:=s.heap.push { cls:=.type "set",dict:=none,data:=.set #[] 0 (.fresh 0 0 led) } } (.ref s.heap.objs.size) "set" := ⟨_,hS,rfl⟩
   have hli:=Kc.init.lookup
   have hbi:=Kc.init.bind (.ref s.heap.objs.size)
   repeat (any_goals (first | assumption | wp_step))
   refine HU (Ke (R:=wants (fun r s2=>r=.none/\∃ h' tk,s2={ s with heap:=h',toks:=tk }/\J items.size h' /\
     (∀ b o,b<s.heap.objs.size->s.heap.get? b=some o->h'.get? b=some o)) E) Kc.init.plain PySem.F.entry_set_init (check_set_init_1 hTy ?_)) fun r2 s2 hr2=>?_
   ·obtain ⟨ol, hol, hcl, nl, hdl⟩ := hl
    obtain ⟨ocls,odict,odata,oslots⟩:=ol
    simp only at hcl hdl
    subst hcl;subst hdl
    have hol':(s.heap.push { cls:=.type "set",dict:=none,data:=.set #[] 0 (.fresh 0 0 led) }).get? l=some { cls:=.type "list",dict:=odict,data:=.seq items nl,slots:=oslots }:=HG _ hol
    have hsls:=F.sub_list_set
    have hslf:=F.sub_list_frozenset
    have hne:(Value.type "list" == Value.type "dict")=false:=by decide
    have hl1:(s.heap.push { cls:=.type "set",dict:=none,data:=.set #[] 0 (.fresh 0 0 led) }).IsList l items:=⟨_,hol',rfl,nl,rfl⟩
    unfold Builtin.«set.__init__» noKeywords Builtin.Frozenset.updateFrom
    generalize hPI:pyIter=PI
    wp_walk
    subst hPI
    refine Kf hl1 ?_
    refine HA (Kg ?_)
    have hlS:l<s.heap.objs.size:=G9 hol
    have hh3:A.in1.in1.in1.handled=none:=by simp [hh]
    have hneI:l≠(s.heap.push { cls:=.type "set",dict:=none,data:=.set #[] 0 (.fresh 0 0 led) }).objs.size:=by
     rw [Jc];exact Hd (Jb hlS)
    have hSf:s.heap.objs.size ∉ [(s.heap.push { cls:=.type "set",dict:=none,data:=.set #[] 0 (.fresh 0 0 led) }).objs.size,l]:=by
     rw [Jc];simp only [Hl,Ji,Jq,Jr,not_or]
     exact ⟨Hd (Ja _),HD hlS⟩
    have W:=(Walks.list (prog:=prog) (w:=w) hh3 (s.heap.push { cls:=.type "set",dict:=none,data:=.set #[] 0 (.fresh 0 0 led) }).objs.size l hneI items).toS
    rw [show items.size=items.toList.length by rw [Hw]] at W
    refine rD W s.heap.objs.size hSf (fun b hb=>?_) (fun i v hv=>by rw [IT];exact hv) hJ (by simp only [Around.in1];omega) (items.toList.length - 0) 0 _ (by omega) (Jh _)
     ⟨⟨_,HH _ rfl,rfl,rfl⟩,?hL⟩ ?hS0 ?hR
    case hL=>
     obtain ⟨o,ho,rest⟩:=hl1
     exact ⟨o,HG _ ho,rest⟩
    case hS0=>
     refine h0 _ (fun b o e=>HG _ (HG _ e)) ?_
     rw [hled]
     exact HG _ hS
    case hR=>
     intro s' hm hS'
     obtain ⟨h',g',d',tk',os'⟩:=s'
     have eg:g'=s.gens:=hm.gens
     have ed:d'=s.drawn:=hm.drawn
     have eo:os'=s.os:=hm.os
     subst eg;subst ed;subst eo
     show wpAny _ _ _ _ _ _
     refine HE ?_
     show wpAny _ _ (ret Value.none) _ _ _
     refine HE ⟨rfl,h',tk',rfl,by rw [Hw] at hS';exact hS',fun b o hb e=>?_⟩
     have hb1:b≠s.heap.objs.size:=Hd hb
     have hb2:b≠(s.heap.push { cls:=.type "set",dict:=none,data:=.set #[] 0 (.fresh 0 0 led) }).objs.size:=by
      rw [Jc];exact Hd (Jb hb)
     exact hm.heap b o (by simp only [Hl,Ji,Jq,Jr,not_or];exact ⟨hb1,hb2⟩) (HG _ (HG _ e))
    ·rw [Jc] at hb
     rw [Ji.mp hb]
     exact Ja _
   ·cases r2 with
    | error e=>exact hr2
    | ok fl2=>
     cases fl2 with
     | ret r=>
      obtain ⟨rfl,h',tk,rfl,hS',hk'⟩:=hr2
      repeat (any_goals (first | assumption | wp_step))
      exact h _ _ hS' hk'
     | _=>exact hr2.elim
  | _=>exact hr.elim
namespace F
theorem sub_tuple_set:isSubtype (.type "tuple") (.type "set")=pure false:=by rw [Kb];kernel_rfl
theorem sub_tuple_frozenset:isSubtype (.type "tuple") (.type "frozenset")=pure false:=by rw [Kb];kernel_rfl
end F
theorem jF {l:Addr}{items:Array Value}{J:Nat->Heap->Prop}{Q:Value->Shared->Prop}
  (hh:A.handled=none) (hl:s.heap.IsTuple l items) (hJ:wV prog w (A.units+20) s.heap.objs.size items.toList J)
  (h0:∀ h',(∀ b o,s.heap.get? b=some o->h'.get? b=some o)->h'.get? s.heap.objs.size=some { cls:=.type "set",dict:=none,data:=.set #[] 0 (.fresh 0 0 (jD w)) }->J 0 h')
  (h:∀ (h':Heap) (tk:Nat),J items.size h'->(∀ b o,b<s.heap.objs.size->s.heap.get? b=some o->h'.get? b=some o)->Q (.ref s.heap.objs.size) { s with heap:=h',toks:=tk }) :
  wpAny (model prog w) A (call (.type "set") [.ref l]) Q E s:=by
 obtain ⟨c,tl,hmro⟩:=Kc.mro
 have hmade:=Kc.made
 have hsub:=Kc.sub
 refine wpAny_call (Je ?_)
 show wpAny _ _ (callAny (.type "set") _) _ _ _
 refine HE ⟨Kd _ (by decide +kernel),J8 PySem.F.entry_type_call ?_⟩
 rw [Around.under_plain (weight_type_call_type "set" [.ref l] []) rfl]
 have h1:=Kc.notType
 have h2:=Kc.canCreate
 have hct:=PySem.F.typeCall_set_1 (.ref l)
 repeat (any_goals (first | assumption | wp_step))
 refine HU (kD (.ref l) (E:=E) (Q1:=fun obj s1=>obj=.ref s.heap.objs.size/\s1={ s with heap:=s.heap.push { cls:=.type "set",dict:=none,data:=.set #[] 0 (.fresh 0 0 (jD w)) } }) ⟨rfl,rfl⟩) fun r s1 hr=>?_
 cases r with
 | error e=>exact hr
 | ok fl=>
  cases fl with
  | ret obj=>
   obtain ⟨rfl,rfl⟩:=hr
   generalize hled:jD w=led
   have hS:(s.heap.push { cls:=.type "set",dict:=none,data:=.set #[] 0 (.fresh 0 0 led) }).get? s.heap.objs.size=some { cls:=.type "set",dict:=none,data:=.set #[] 0 (.fresh 0 0 led) }:=HH _ rfl
   have hTy:Shared.TypeIs { s with heap:=s.heap.push { cls:=.type "set",dict:=none,data:=.set #[] 0 (.fresh 0 0 led) } } (.ref s.heap.objs.size) "set" := ⟨_,hS,rfl⟩
   have hli:=Kc.init.lookup
   have hbi:=Kc.init.bind (.ref s.heap.objs.size)
   repeat (any_goals (first | assumption | wp_step))
   refine HU (Ke (R:=wants (fun r s2=>r=.none/\∃ h' tk,s2={ s with heap:=h',toks:=tk }/\J items.size h' /\
     (∀ b o,b<s.heap.objs.size->s.heap.get? b=some o->h'.get? b=some o)) E) Kc.init.plain PySem.F.entry_set_init (check_set_init_1 hTy ?_)) fun r2 s2 hr2=>?_
   ·obtain ⟨ol, hol, hcl, nl, hdl⟩ := hl
    obtain ⟨ocls,odict,odata,oslots⟩:=ol
    simp only at hcl hdl
    subst hcl;subst hdl
    have hol':(s.heap.push { cls:=.type "set",dict:=none,data:=.set #[] 0 (.fresh 0 0 led) }).get? l=some { cls:=.type "tuple",dict:=odict,data:=.seq items nl,slots:=oslots }:=HG _ hol
    have hsls:=F.sub_tuple_set
    have hslf:=F.sub_tuple_frozenset
    have hne:(Value.type "tuple" == Value.type "dict")=false:=by decide
    have hl1:(s.heap.push { cls:=.type "set",dict:=none,data:=.set #[] 0 (.fresh 0 0 led) }).IsTuple l items:=⟨_,hol',rfl,nl,rfl⟩
    unfold Builtin.«set.__init__» noKeywords Builtin.Frozenset.updateFrom
    generalize hPI:pyIter=PI
    wp_walk
    subst hPI
    refine Jp hl1 ?_
    refine HA (Kg ?_)
    have hlS:l<s.heap.objs.size:=G9 hol
    have hh3:A.in1.in1.in1.handled=none:=by simp [hh]
    have hneI:l≠(s.heap.push { cls:=.type "set",dict:=none,data:=.set #[] 0 (.fresh 0 0 led) }).objs.size:=by
     rw [Jc];exact Hd (Jb hlS)
    have hSf:s.heap.objs.size ∉ [(s.heap.push { cls:=.type "set",dict:=none,data:=.set #[] 0 (.fresh 0 0 led) }).objs.size,l]:=by
     rw [Jc];simp only [Hl,Ji,Jq,Jr,not_or]
     exact ⟨Hd (Ja _),HD hlS⟩
    have W:=(Walks.tuple (prog:=prog) (w:=w) hh3 (s.heap.push { cls:=.type "set",dict:=none,data:=.set #[] 0 (.fresh 0 0 led) }).objs.size l hneI items).toS
    rw [show items.size=items.toList.length by rw [Hw]] at W
    refine rD W s.heap.objs.size hSf (fun b hb=>?_) (fun i v hv=>by rw [IT];exact hv) hJ (by simp only [Around.in1];omega) (items.toList.length - 0) 0 _ (by omega) (Jh _)
     ⟨⟨_,HH _ rfl,rfl,rfl⟩,?hL⟩ ?hS0 ?hR
    case hL=>
     obtain ⟨o,ho,rest⟩:=hl1
     exact ⟨o,HG _ ho,rest⟩
    case hS0=>
     refine h0 _ (fun b o e=>HG _ (HG _ e)) ?_
     rw [hled]
     exact HG _ hS
    case hR=>
     intro s' hm hS'
     obtain ⟨h',g',d',tk',os'⟩:=s'
     have eg:g'=s.gens:=hm.gens
     have ed:d'=s.drawn:=hm.drawn
     have eo:os'=s.os:=hm.os
     subst eg;subst ed;subst eo
     show wpAny _ _ _ _ _ _
     refine HE ?_
     show wpAny _ _ (ret Value.none) _ _ _
     refine HE ⟨rfl,h',tk',rfl,by rw [Hw] at hS';exact hS',fun b o hb e=>?_⟩
     have hb1:b≠s.heap.objs.size:=Hd hb
     have hb2:b≠(s.heap.push { cls:=.type "set",dict:=none,data:=.set #[] 0 (.fresh 0 0 led) }).objs.size:=by
      rw [Jc];exact Hd (Jb hb)
     exact hm.heap b o (by simp only [Hl,Ji,Jq,Jr,not_or];exact ⟨hb1,hb2⟩) (HG _ (HG _ e))
    ·rw [Jc] at hb
     rw [Ji.mp hb]
     exact Ja _
   ·cases r2 with
    | error e=>exact hr2
    | ok fl2=>
     cases fl2 with
     | ret r=>
      obtain ⟨rfl,h',tk,rfl,hS',hk'⟩:=hr2
      repeat (any_goals (first | assumption | wp_step))
      exact h _ _ hS' hk'
     | _=>exact hr2.elim
  | _=>exact hr.elim
theorem ny {qs:List KP}{S:Addr}{u:Nat} (hk:∀ p∈qs,p.1∈prs) (hS:∀ p∈qs,p.2<S) (hu:u<cLine):wV prog w u S (qs.map fun p=>Value.ref p.2) (fun i h=>bJ w h S (dM (qs.take i))/\∀ p∈qs,Tk prog w h p.1 p.2):=by
 have keepT:∀ {h1 h2:Heap}{q:KP},q∈qs->(∀ b o,b<S->h1.get? b=some o->h2.get? b=some o)->Tk prog w h1 q.1 q.2->Tk prog w h2 q.1 q.2:=fun {h1 h2 q} hq kk t=>by
  obtain ⟨o,items,n,ho,r⟩:=t
  exact ⟨o,items,n,kk _ o (hS q hq) ho,r⟩
 refine ⟨fun i h h' hk' ⟨j1,j2⟩=>⟨j1.keeps fun o e=>hk' S o (HI _) e,fun p hp=>keepT hp (fun b o hb e=>hk' b o (Hh hb) e) (j2 p hp)⟩,fun A i v s E Q hA hv ⟨j1,j2⟩ hQ=>?_⟩
 rw [Ih] at hv
 cases e:qs[i]? with
 | none=>rw [e] at hv;cases hv
 | some p=>
  rw [e] at hv
  cases hv
  have hpm:p∈qs:=Ij e
  unfold setAdd
  refine HB ?_
  refine HA (wpAny_pyHash_tuple (by omega) (j2 p hpm) ?_)
  rw [xM]
  refine xn (s:={ s with toks:=s.toks+(p.1.length+1) }) j1 (hk p hpm) (j2 p hpm) (fun q hq=>j2 q (JO (jY hq))) (by omega) fun b h' hsb hS2=>?_
  have etk:qs.take (i+1)=qs.take i++[p]:=by rw [Kh,e];rfl
  refine hQ b h' _ (Nat.le_add_right _ _) hsb ⟨by rw [etk,sA];exact hS2,fun q hq=>keepT hq (fun b o hb e=>(hsb.2 b (Hd hb)).trans e) (j2 q hq)⟩
theorem xJ {qs:List KP} (hT:∀ p∈qs,Tk prog w s.heap p.1 p.2):∀ p∈qs,p.2<s.heap.objs.size:=fun p hp=>by
 obtain ⟨o,_,_,ho,_⟩:=hT p hp
 exact G9 ho
theorem r6 {l:Addr}{items:Array Value}{qs:List KP}{Q:Value->Shared->Prop}
  (hh:A.handled=none) (hl:s.heap.IsList l items) (hi:items.toList=qs.map fun p=>Value.ref p.2) (hk:∀ p∈qs,p.1∈prs) (hT:∀ p∈qs,Tk prog w s.heap p.1 p.2) (hu:A.units+20<cLine)
  (h:∀ (h':Heap) (tk:Nat),bJ w h' s.heap.objs.size (dM qs)->(∀ b o,b<s.heap.objs.size->s.heap.get? b=some o->h'.get? b=some o)->Q (.ref s.heap.objs.size) { s with heap:=h',toks:=tk }) :
  wpAny (model prog w) A (call (.type "set") [.ref l]) Q E s:=by
 have hlen:items.size=qs.length:=by rw [<- Hw,hi,Il]
 refine kv hh hl (hi ▸ ny hk (xJ hT) hu) (fun h' k e=>⟨i6 e,fun p hp=>?_⟩) fun h' tk ⟨j1,_⟩=>h h' tk ?_
 ·obtain ⟨o, its, n, ho, rest⟩ := hT p hp
  exact ⟨o,its,n,k _ _ ho,rest⟩
 ·rw [hlen, Ki] at j1
  exact j1
theorem p9 {l:Addr}{items:Array Value}{qs:List KP}{Q:Value->Shared->Prop}
  (hh:A.handled=none) (hl:s.heap.IsTuple l items) (hi:items.toList=qs.map fun p=>Value.ref p.2) (hk:∀ p∈qs,p.1∈prs) (hT:∀ p∈qs,Tk prog w s.heap p.1 p.2) (hu:A.units+20<cLine)
  (h:∀ (h':Heap) (tk:Nat),bJ w h' s.heap.objs.size (dM qs)->(∀ b o,b<s.heap.objs.size->s.heap.get? b=some o->h'.get? b=some o)->Q (.ref s.heap.objs.size) { s with heap:=h',toks:=tk }) :
  wpAny (model prog w) A (call (.type "set") [.ref l]) Q E s:=by
 have hlen:items.size=qs.length:=by rw [<- Hw,hi,Il]
 refine jF hh hl (hi ▸ ny hk (xJ hT) hu) (fun h' k e=>⟨i6 e,fun p hp=>?_⟩) fun h' tk ⟨j1,_⟩=>h h' tk ?_
 ·obtain ⟨o, its, n, ho, rest⟩ := hT p hp
  exact ⟨o,its,n,k _ _ ho,rest⟩
 ·rw [hlen, Ki] at j1
  exact j1
end
end RS
namespace RS
open PySem PySem.W PyProof.Rows
structure dv (n:Nat) (p:Array Nat):Prop where
 size:p.size=n
 perm:p.toList.Perm (List.range n)
def at' (key:Nat->Int) (p:Array Nat) (k:Nat):Int:=key (p.getD k 0)
def zp (key:Nat->Int) (p:Array Nat) (m:Nat):Prop:=∀ i j,i<j->j<m->at' key p i<at' key p j
def zI (key:Nat->Int) (p:Array Nat) (m:Nat):Prop:=∀ i j,i<j->j<m->at' key p j<at' key p i
section
variable {n:Nat}{key:Nat->Int}{cmp:Nat->Nat->(Bool->Shared->Prop)->Shared->Prop}{s:Shared}{p:Array Nat}
theorem dv.lt (g:dv n p) {k:Nat} (hk:k<n):p.getD k 0<n:=by
 have hs:k<p.size:=by rw [g.size];exact hk
 have:p[k]∈p.toList:=by rw [J1];exact Array.getElem_mem hs
 have:=g.perm.mem_iff.mp this
 rw [Hf] at this
 simpa [Array.getD,hs] using this
theorem dv.inj (g:dv n p) {k k':Nat} (hk:k<n) (hk':k'<n) (e:p.getD k 0=p.getD k' 0):k=k':=by
 have hs:k<p.toList.length:=by rw [Hw,g.size];exact hk
 have hs':k'<p.toList.length:=by rw [Hw,g.size];exact hk'
 have nd:p.toList.Nodup:=g.perm.nodup_iff.mpr JE
 refine (Hr (h₀:=hs) (h₁:=hs') nd).mp ?_
 have h1:k<p.size:=by rw [g.size];exact hk
 have h2:k'<p.size:=by rw [g.size];exact hk'
 simpa [Array.getD,h1,h2] using e
variable (hkey:∀ i j,i<n->j<n->key i=key j->i=j) (hc:∀ i j,i<n->j<n->∀ C:Bool->Shared->Prop,C (decide (key i<key j)) s->cmp i j C s)
include hkey in
theorem xl (g:dv n p) {k k':Nat} (hk:k<n) (hk':k'<n) (h:k≠k'):at' key p k≠at' key p k':=fun e=>h (g.inj hk hk' (hkey _ _ (g.lt hk) (g.lt hk') e))
include hkey hc
theorem tf (g:dv n p):∀ (f m:Nat) (Q:Nat->Shared->Prop),1<=m->m+f<=n->zp key p m->(∀ m',m<=m'->m'<=m+f->zp key p m'->(m'=m+f\/at' key p m'<at' key p (m' - 1))->Q m' s)->(kas_asc p f m).kasWp cmp Q s
 | 0,m,Q,h1,h2,ha,hQ=>hQ m (HI _) (HI _) ha (.inl rfl)
 | f+1,m,Q,h1,h2,ha,hQ=>by
  show cmp (p.getD m 0) (p.getD (m - 1) 0) _ s
  refine hc _ _ (g.lt (by omega)) (g.lt (by omega)) _ ?_
  by_cases hlt:key (p.getD m 0)<key (p.getD (m - 1) 0)
  ·rw [IV hlt]; (show (if true = true then _ else _ : KasT _).kasWp cmp _ s); rw [G6 rfl]
   exact hQ m (HI _) (by omega) ha (.inr hlt)
  ·rw [G3 hlt]; (show (if false = true then _ else _ : KasT _).kasWp cmp _ s); rw [G7 HP]
   have hne:=xl hkey g (k:=m) (k':=m - 1) (by omega) (by omega) (by omega)
   have hgt:at' key p (m - 1)<at' key p m:=by unfold at' at *;omega
   refine tf g f (m+1) Q (by omega) (by omega) (fun i j hij hj=>?_) (fun m' a b c d=>hQ m' (by omega) (by omega) c (d.elim (fun e=>.inl (by omega)) .inr))
   by_cases ej:j=m
   ·subst ej
    by_cases ei:i=j - 1
    ·rw [ei];exact hgt
    ·have:=ha i (j - 1) (by omega) (by omega);omega
   ·exact ha i j hij (by omega)
theorem uV (g:dv n p):∀ (f m:Nat) (Q:Array Nat × Nat × Nat->Shared->Prop),1<=m->m+f<=n->zI key p m->(∀ m',m<=m'->m'<=m+f->zI key p m'->Q (p,m',0) s)->(kas_desc f p m 0).kasWp cmp Q s
 | 0,m,Q,h1,h2,ha,hQ=>hQ m (HI _) (HI _) ha
 | f+1,m,Q,h1,h2,ha,hQ=>by
  show cmp (p.getD m 0) (p.getD (m - 1) 0) _ s
  refine hc _ _ (g.lt (by omega)) (g.lt (by omega)) _ ?_
  by_cases hlt:key (p.getD m 0)<key (p.getD (m - 1) 0)
  ·rw [IV hlt]; (show (if true = true then _ else _ : KasT _).kasWp cmp _ s); rw [G6 rfl, G7 (by omega)]
   refine uV g f (m+1) Q (by omega) (by omega) (fun i j hij hj=>?_) (fun m' a b c=>hQ m' (by omega) (by omega) c)
   by_cases ej:j=m
   ·subst ej
    by_cases ei:i=j - 1
    ·rw [ei];exact hlt
    ·have := ha i (j - 1) (by omega) (by omega)
     have:at' key p j<at' key p (j - 1):=hlt
     omega
   ·exact ha i j hij (by omega)
  ·rw [G3 hlt]; (show (if false = true then _ else _ : KasT _).kasWp cmp _ s); rw [G7 HP]
   show cmp (p.getD (m - 1) 0) (p.getD m 0) _ s
   refine hc _ _ (g.lt (by omega)) (g.lt (by omega)) _ ?_
   have hne:=xl hkey g (k:=m) (k':=m - 1) (by omega) (by omega) (by omega)
   have hgt:key (p.getD (m - 1) 0)<key (p.getD m 0):=by unfold at' at hne;omega
   rw [IV hgt];(show (if true=true then _ else _:KasT _).kasWp cmp _ s);rw [G6 rfl]
   exact hQ m (HI _) (by omega) ha
omit hkey hc in
theorem mO {p p':Array Nat}{k k':Nat} (h:p[k]?=p'[k']?):at' key p k=at' key p' k':=by
 unfold at'
 rw [JM,JM,h]
omit hkey hc in
theorem oN {p':Array Nat} (g:dv n p) (h:p'.Perm p) (hs:p'.size=p.size):dv n p':=⟨hs.trans g.size,(Array.perm_iff_toList_perm.mp h).trans g.perm⟩
omit hkey hc in
theorem Aw (g:dv n p) {m:Nat} (hm:m<=n) (hd:zI key p m):dv n (kas_rev p 0 m)/\zp key (kas_rev p 0 m) m:=by
 have hs:m<=p.size:=by rw [g.size];exact hm
 refine ⟨oN g (mirror_perm _ _ _ _) (mirror_size _ _ _ _),fun i j hij hj=>?_⟩
 have ei:at' key (kas_rev p 0 m) i=at' key p (0+m - 1 - i):=mO (by unfold kas_rev;rw [getElem?_mirror_all hs,G6 ⟨Jh _,by omega⟩])
 have ej:at' key (kas_rev p 0 m) j=at' key p (0+m - 1 - j):=mO (by unfold kas_rev;rw [getElem?_mirror_all hs,G6 ⟨Jh _,by omega⟩])
 rw [ei,ej]
 exact hd _ _ (by omega) (by omega)
theorem xW (g:dv n p) {m:Nat} (h1:1<=m) (hm:m<=n) (hd:zI key p m) (Q:Nat × Array Nat->Shared->Prop) (hQ:∀ m' p',dv n p'->1<=m'->m'<=n->zp key p' m'->Q (m',p') s):(kas_tail3 m n p).kasWp cmp Q s:=by
 obtain ⟨g',ha⟩:=Aw (key:=key) g hm hd
 unfold kas_tail3
 rw [Kj]
 exact tf hkey hc g' (n - m) m _ h1 (by omega) ha fun m' a b c d=>hQ m' _ g' (by omega) (by omega) c
theorem zc (g:dv n p) (h2:2<=n) (Q:Nat × Array Nat->Shared->Prop) (hQ:∀ m' p',dv n p'->1<=m'->m'<=n->zp key p' m'->Q (m',p') s):(kas_count n p).kasWp cmp Q s:=by
 unfold kas_count
 rw [Kj]
 refine tf hkey hc g (n - 1) 1 _ (HI _) (by omega) (fun i j hij hj=>by omega) fun m a b c d=>?_
 by_cases e:m=n
 ·rw [G6 (by simpa using e)]
  exact hQ m p g a (by omega) c
 ·rw [G7 (by simpa using e)]
  by_cases h1:m > 1
  ·rw [G6 h1]
   show cmp (p.getD 0 0) (p.getD (m - 1) 0) _ s
   refine hc _ _ (g.lt (by omega)) (g.lt (by omega)) _ ?_
   have:at' key p 0<at' key p (m - 1):=c 0 (m - 1) (by omega) (by omega)
   rw [IV (show key (p.getD 0 0)<key (p.getD (m - 1) 0) from this)];(show (if true=true then _ else _:KasT _).kasWp cmp _ s);rw [G6 rfl]
   exact hQ m p g a (by omega) c
  ·rw [G7 h1]
   have em:m=1:=by omega
   subst em
   unfold kas_descPart
   rw [Kj]
   have hlt:at' key p 1<at' key p 0:=d.elim (fun e'=>by omega) id
   refine uV hkey hc g (n - (1+1)) (1+1) _ (by omega) (by omega) (fun i j hij hj=>?_) fun m' a' b' c'=>?_
   ·have ei : i = 0 := by omega
    have ej:j=1:=by omega
    rw [ei,ej];exact hlt
   ·show (if (0 : Nat) > 0 then _ else _ : KasT (Nat × Array Nat)).kasWp cmp Q s
    rw [G7 (by omega)]
    exact xW hkey hc g (by omega) (by omega) c' Q hQ
theorem mX (g:dv n p) {k:Nat} (hk:k<n) (ha:zp key p k):∀ (f l r:Nat) (Q:Nat->Shared->Prop),l<=r->r<=k->r - l<=f->(∀ i,i<l->at' key p i<at' key p k)->(∀ i,r<=i->i<k->at' key p k<at' key p i) ->
  (∀ l',l'<=k->(∀ i,i<l'->at' key p i<at' key p k)->(∀ i,l'<=i->i<k->at' key p k<at' key p i)->Q l' s)->(kas_place p k f l r).kasWp cmp Q s
 | 0,l,r,Q,h1,h2,h3,ha1,hb1,hQ=>by
  have e:l=r:=by omega
  subst e
  exact hQ l h2 ha1 hb1
 | f+1,l,r,Q,h1,h2,h3,ha1,hb1,hQ=>by
  unfold kas_place
  by_cases e:l ≥ r
  ·rw [G6 e]
   have e':l=r:=by omega
   subst e'
   exact hQ l h2 ha1 hb1
  ·rw [G7 e]
   show cmp (p.getD k 0) (p.getD ((l+r) / 2) 0) _ s
   refine hc _ _ (g.lt hk) (g.lt (by omega)) _ ?_
   by_cases hlt:key (p.getD k 0)<key (p.getD ((l+r) / 2) 0)
   ·rw [IV hlt]; (show (if true = true then _ else _ : KasT _).kasWp cmp _ s); rw [G6 rfl]
    refine mX g hk ha f l ((l+r) / 2) Q (by omega) (by omega) (by omega) ha1 (fun i hi hik=>?_) hQ
    by_cases ei:i=(l+r) / 2
    ·rw [ei];exact hlt
    ·have := ha ((l + r) / 2) i (by omega) hik
     have:at' key p k<at' key p ((l+r) / 2):=hlt
     omega
   ·rw [G3 hlt]; (show (if false = true then _ else _ : KasT _).kasWp cmp _ s); rw [G7 HP]
    have hne:=xl hkey g (k:=k) (k':=(l+r) / 2) hk (by omega) (by omega)
    have hgt:at' key p ((l+r) / 2)<at' key p k:=by unfold at' at *;omega
    refine mX g hk ha f ((l+r) / 2+1) r Q (by omega) h2 (by omega) (fun i hi=>?_) hb1 hQ
    by_cases ei:i=(l+r) / 2
    ·rw [ei];exact hgt
    ·have := ha i ((l + r) / 2) (by omega) (by omega)
     omega
theorem xV:∀ (f:Nat) (p:Array Nat) (k:Nat) (Q:Array Nat->Shared->Prop),dv n p->k+f=n->zp key p k->(∀ p',dv n p'->zp key p' n->Q p' s)->(kas_bin f p k).kasWp cmp Q s
 | 0,p,k,Q,g,hk,ha,hQ=>by
  have e:k=n:=by omega
  rw [e] at ha
  exact hQ p g ha
 | f+1,p,k,Q,g,hk,ha,hQ=>by
  unfold kas_bin
  rw [Kj]
  refine mX hkey hc g (by omega) ha k 0 k _ (Jh _) (HI _) (by omega) (fun i hi=>by omega) (fun i h1 h2=>by omega) fun l hl ha1 hb1=>?_
  have hs:k<p.size:=by rw [g.size];omega
  refine xV f _ (k+1) Q (oN g (bubble_perm _ _ _) (bubble_size _ _ _)) (by omega) (fun i j hij hj=>?_) hQ
  have hb:∀ x,at' key (bubble p k (k - l)) x=if x=l then at' key p k else if l<x/\x<=k then at' key p (x - 1) else at' key p x:=fun x=>by
   have e:=getElem?_bubble hs (k - l) (by omega) x
   have el:k - (k - l)=l:=by omega
   rw [el] at e
   by_cases e1:x=l
   ·rw [G6 e1] at e ⊢;exact mO e
   ·rw [G7 e1] at e ⊢
    by_cases e2:l<x/\x<=k
    ·rw [G6 e2] at e ⊢;exact mO e
    ·rw [G7 e2] at e ⊢;exact mO e
  rw [hb i,hb j]
  by_cases i1:i=l
  ·rw [G6 i1, G7 (by omega), G6 ⟨by omega, by omega⟩]
   exact hb1 (j - 1) (by omega) (by omega)
  ·rw [G7 i1]
   by_cases i2:l<i/\i<=k
   ·rw [G6 i2, G7 (by omega), G6 ⟨by omega, by omega⟩]
    exact ha (i - 1) (j - 1) (by omega) (by omega)
   ·rw [G7 i2]
    have hi:i<l:=by omega
    by_cases j1:j=l
    ·rw [G6 j1];exact ha1 i hi
    ·rw [G7 j1]
     by_cases j2:l<j/\j<=k
     ·rw [G6 j2]
      by_cases ej:i=j - 1
      ·omega
      ·exact ha i (j - 1) (by omega) (by omega)
     ·rw [G7 j2];exact ha i j hij (by omega)
theorem Ae (h2:2<=n) (Q:Array Nat->Shared->Prop) (hQ:∀ p',dv n p'->zp key p' n->Q p' s):(kas_sort n).kasWp cmp Q s:=by
 unfold kas_sort
 rw [Kj]
 have g0:dv n (List.toArray (List.range n)):=⟨by simp,by simp⟩
 refine zc hkey hc g0 h2 _ fun m p' g h1 hm ha=>?_
 show (if m<n then _ else _:KasT (Array Nat)).kasWp cmp Q s
 by_cases e:m<n
 ·rw [G6 e]
  have em:max m 1=m:=by omega
  rw [em]
  exact xV hkey hc (n - m) p' m Q g (by omega) ha hQ
 ·rw [G7 e]
  have em:m=n:=by omega
  rw [em] at ha
  exact hQ p' g ha
end
def n5 (k:List Int):Int:=k.getD 0 0 * 6+k.getD 1 0
theorem fO {k:List Int} (h:k∈prs):∃ a b:Int,k=[a,b]/\0<=a/\a<b/\b<6:=by
 have key:∀ k∈prs,0<=k.getD 0 0/\k.getD 0 0<k.getD 1 0/\k.getD 1 0<6/\k=[k.getD 0 0,k.getD 1 0]:=by decide +kernel
 obtain ⟨h1,h2,h3,h4⟩:=key k h
 exact ⟨_,_,h4,h1,h2,h3⟩
theorem Bp {k k':List Int} (h:k∈prs) (h':k'∈prs) (e:n5 k=n5 k'):k=k':=by
 obtain ⟨a,b,rfl,h1,h2,h3⟩:=fO h
 obtain ⟨c,d,rfl,h4,h5,h6⟩:=fO h'
 have e':a * 6+b=c * 6+d:=e
 have:a=c:=by omega
 have:b=d:=by omega
 subst_vars;rfl
section
variable {prog:Program}{w:World}{A:Around}{E:Value->Shared->Prop}{s:Shared}
theorem sR {h:Heap}{a b:Int}{r:Addr} (t:Tk prog w h [a,b] r):∃ o n t1 t2,h.get? r=some o/\o.cls=.type "tuple" /\ o.data=.seq #[.int a t1,.int b t2] n:=by
 obtain ⟨o,items,n,ho,hc,hd,hi⟩:=t
 cases hi':items.toList with
 | nil=>rw [hi'] at hi;cases hi
 | cons v1 r1=>
  rw [hi'] at hi
  cases hi with
  | cons h1 t1=>
   cases t1 with
   | cons h2 t2=>
    cases t2
    obtain ⟨x1,e1⟩:=G2 (k:=a) h1
    obtain ⟨x2,e2⟩:=G2 (k:=b) h2
    have e:items=#[.int a x1,.int b x2]:=by
     apply Array.toList_inj.mp;rw [hi',e1,e2]
    exact ⟨o,n,x1,x2,ho,hc,by rw [hd,e]⟩
theorem AN {x y:Addr}{k k':List Int}{Q:Bool->Shared->Prop} (hx:Tk prog w s.heap k x) (hy:Tk prog w s.heap k' y) (hk:k∈prs) (hk':k'∈prs) (h:Q (decide (n5 k<n5 k')) s) :
  wpAny (model prog w) A (keyLt' (tuples' true) (.ref x) (.ref y)) Q E s:=by
 obtain ⟨a,b,rfl,h1,h2,h3⟩:=fO hk
 obtain ⟨c,d,rfl,h4,h5,h6⟩:=fO hk'
 obtain ⟨o,n,t1,t2,ho,_,hd⟩:=sR hx
 obtain ⟨o',n',t1',t2',ho',_,hd'⟩:=sR hy
 have h':Q (decide (a * 6+b<c * 6+d)) s:=h
 refine kat_lt ho hd ho' hd' ?_
 show KatLex prog w A true (decide (2<2)) Q [(.int a t1,.int c t1'),(.int b t2,.int d t2')] 0 s
 refine kat_cons (G5 ?_)
 by_cases e1:a=c
 ·rw [show (a == c) = true by simpa using e1]
  refine kat_yes (kat_cons (G5 ?_))
  by_cases e2:b=d
  ·rw [show (b == d) = true by simpa using e2]
   refine kat_yes (kat_nil ?_)
   have:decide (a * 6+b<c * 6+d)=decide (2<2):=by rw [Kk];omega
   rw [<- this];exact h'
  ·rw [show (b == d) = false by simpa using e2]
   refine kat_no ?_
   show wpAny _ A (oneLt' false _ _) Q _ s
   refine kat_one _ _ (lt_int ?_)
   have:decide (a * 6+b<c * 6+d)=decide (b<d):=by rw [Kk];omega
   show Q _ s
   rw [<- this];exact h'
 ·rw [show (a == c) = false by simpa using e1]
  refine kat_no ?_
  show wpAny _ A (keyLt' oneType' _ _) Q _ s
  refine kat_lt_int ?_
  have:decide (a * 6+b<c * 6+d)=decide (a<c):=by rw [Kk];omega
  rw [<- this];exact h'
end
def fW (ps:List KP):Prop:=ps.Pairwise fun p q=>n5 p.1<n5 q.1
def aM (ps:List KP):List Value:=ps.map fun p=>Value.ref p.2
section
variable {prog:Program}{w:World}{A:Around}{E:Value->Shared->Prop}{s:Shared}
theorem uw {h:Heap}:∀ {ps:List KP},(∀ p∈ps,p.1∈prs)->(∀ p∈ps,Tk prog w h p.1 p.2)->∃ fs,KatTups h (aM ps) fs/\fs.length=ps.length/\∀ v∈fs,∃ i t,v=Value.int i t
 | [],_,_=>⟨[],KatTups.nil,rfl,fun v hv=>by simp at hv⟩
 | p::ps,hk,ht=>by
  obtain ⟨fs,h1,h2,h3⟩:=uw (ps:=ps) (fun q hq=>hk q (Hk _ hq)) (fun q hq=>ht q (Hk _ hq))
  obtain ⟨a,b,e,_⟩:=fO (hk p Hj)
  have t:=ht p Hj
  rw [e] at t
  obtain ⟨o,n,t1,t2,ho,hc,hd⟩:=sR t
  refine ⟨.int a t1::fs,KatTups.cons ho hc hd rfl h1,by rw [I0,I0,h2],fun v hv=>?_⟩
  rcases Hl.mp hv with q | q
  ·exact ⟨a,t1,q⟩
  ·exact h3 v q
theorem Do {ps:List KP} (hk:∀ p∈ps,p.1∈prs) (hn:(ps.map (·.1)).Nodup) {p:Array Nat} (g:dv ps.length p) (ha:zp (fun i=>n5 (ps.getD i ([],0)).1) p ps.length) :
  ∃ out:List KP,(p.toList.map fun i=>(aM ps).getD i Value.none)=aM out/\out.Perm ps/\fW out:=by
 refine ⟨p.toList.map fun i=>ps.getD i ([],0),?_,?_,?_⟩
 ·unfold aM
  rw [Ju]
  refine Jv fun i hi=>?_
  have hi':i<ps.length:=Hf.mp (g.perm.mem_iff.mp hi)
  simp [Kl,hi']
 ·refine (g.perm.map _).trans ?_
  have:(List.range ps.length).map (fun i=>ps.getD i ([],0))=ps:=by
   apply Km
   intro i
   rw [Ih]
   by_cases hi:i<ps.length
   ·rw [Kn hi];simp [hi]
   ·rw [Ko (by simpa using hi),Ko (by omega)];rfl
  rw [this]
 ·unfold fW
  rw [Kq]
  refine List.pairwise_iff_getElem.mpr fun i j hi hj hij=>?_
  have hi':i<p.size:=by simpa using hi
  have hj':j<p.size:=by simpa using hj
  have:=ha i j hij (by rw [<- g.size];exact hj')
  unfold at' at this
  simpa [Array.getD,hi',hj'] using this
theorem tE {a:Addr}{ps:List KP}{n:Nat}{P:PySem.Fin->Shared->Prop} (ho:s.heap.get? a=some (seqObj "list" (aM ps).toArray n)) (hk:∀ p∈ps,p.1∈prs) (hn:(ps.map (·.1)).Nodup) (hT:∀ p∈ps,Tk prog w s.heap p.1 p.2)
  (h:∀ out:List KP,out.Perm ps->fW out->P (.done (.ret .none)) { s with heap:=sortedHeap s.heap a (aM ps) (aM out).toArray }) :
  wpAny (model prog w) A (Builtin.«list.sort» ⟨[.ref a],[]⟩) P E s:=by
 have hlen:=jg hk hn
 have hvl:(aM ps).length=ps.length:=by unfold aM;rw [Il]
 rw [list_sort_plain]
 have hal:a<s.heap.objs.size:=G9 ho
 refine HA (listItems_at ho rfl ?_)
 refine HA (Kr ho rfl ?_ (by rw [HR,hvl];exact Hg hlen (by decide)) (Jh _))
 obtain ⟨e1,ho1⟩:∃ e1,(s.heap.update a (Obj.mapSeq fun _=>#[])).get? a=some (seqObj "list" #[] e1):=⟨_,Ks ho (fun _=>#[])⟩
 refine HA (seqEpoch_at ho1 rfl ?_)
 refine HA (wpAny_newTuple ?_)
 refine HA (Kt ?_)
 refine HB ?_
 have ho6:(((s.heap.update a (Obj.mapSeq fun _=>#[])).push (seqObj "tuple" (aM ps).toArray 0)).push (seqObj "list" #[] 0)).get? a=some (seqObj "list" #[] e1):=by
  rw [Js _ _ _ (by rw [Ku,Kv];exact Hd (Jb hal)),Js _ _ _ (by rw [Kv];exact Hd hal)]
  exact ho1
 show wpAny (model prog w) A _ P E { s with heap:=((s.heap.update a (Obj.mapSeq fun _=>#[])).push (seqObj "tuple" (aM ps).toArray 0)).push (seqObj "list" #[] 0) }
 dsimp only
 have hna:∀ p∈ps,p.2≠a:=fun p hp e=>by
  obtain ⟨o,items,m,ho',hc',_⟩:=hT p hp
  rw [e,ho] at ho'
  have:=G8 ho'
  subst this
  exact absurd (show Value.type "list" = Value.type "tuple" from hc') (by decide)
 generalize hS:({ s with heap:=((s.heap.update a (Obj.mapSeq fun _=>#[])).push (seqObj "tuple" (aM ps).toArray 0)).push (seqObj "list" #[] 0) }:Shared)=s1
 have eh1:s1.heap=((s.heap.update a (Obj.mapSeq fun _=>#[])).push (seqObj "tuple" (aM ps).toArray 0)).push (seqObj "list" #[] 0):=by rw [<- hS]
 have hT1:∀ p∈ps,Tk prog w s1.heap p.1 p.2:=fun p hp=>by
  obtain ⟨o,items,m,ho',rest⟩:=hT p hp
  refine ⟨o,items,m,?_,rest⟩
  rw [eh1]
  refine HG _ (HG _ ?_)
  rw [Kw _ _ _ _ (hna p hp)]
  exact ho'
 rw [<- eh1] at ho6
 have hfin:∀ out:List KP,out.Perm ps->fW out->P (.done (.ret .none)) { s1 with heap:=s1.heap.update a (Obj.mapSeq fun _=>(aM out).toArray) }:=fun out h1 h2=>by
  have q:=h out h1 h2
  rw [<- hS]
  exact q
 have hszv:(aM ps).toArray.size=ps.length:=by rw [HR,hvl]
 by_cases h2:(aM ps).toArray.size<2
 ·rw [G6 h2, G6 h2]
  refine HA (HE ?_)
  rw [StateT.run_pure]
  refine HA (HE ?_)
  dsimp only
  refine HA (seqEpoch_at ho6 rfl ?_)
  have eo:(arrOf (SortSt.mk' general' ((aM ps).toArray.zip (aM ps).toArray) #[] 7 none)).map (·.2)=(aM ps).toArray:=by
   show (((aM ps).toArray.zip (aM ps).toArray)).map (·.2)=_
   apply Array.toList_inj.mp
   rw [Array.toList_map,Array.toList_zip]
   exact List.map_snd_zip (HI _)
  rw [eo]
  refine HA (Kr ho6 rfl ?_ (Jh _) (by show (aM ps).toArray.size<=_;rw [hszv];exact Hg hlen (by decide)))
  simp only [Kx,IZ,Iu]
  refine HE (hfin ps (List.Perm.refl _) ?_)
  rw [hszv] at h2
  match ps,h2 with
  | [],_=>exact List.Pairwise.nil
  | [_],_=>exact List.pairwise_singleton _ _
  | _::_::_,h=>rw [I0,I0] at h;omega
 ·rw [G7 h2, G7 h2]
  rw [hszv] at h2
  obtain ⟨fs,k1,k2,k3⟩:=uw hk hT1
  refine HA (kat_kind (T:=Value.type "int") k1 (by omega) (fun v hv=>?_) (by rfl) ?_)
  ·obtain ⟨i, t, e⟩ := k3 v hv
   rw [e];exact .now
  ·have et : (Value.type "int" != Value.type "tuple") = true := by decide
   rw [et]
   refine HA (Hu (kat_run (ks:=aM ps) (vs:=aM ps) (Q:=fun st' s'=>s'=s1/\failedOf st'=none/\∃ out:List KP,out.Perm ps/\fW out/\(arrOf st').map (·.2)=(aM out).toArray)
    (G:=fun p s'=>s'=s1/\∃ out:List KP,(p.toList.map fun i=>(aM ps).getD i Value.none)=aM out/\out.Perm ps/\fW out) rfl (by rw [hvl];omega) (by rw [hvl];omega) ?_ ?_) ?_ fun _ _ e=>e)
   ·rintro p st' s' hp har hf ⟨e, out, o1, o2, o3⟩
    exact ⟨e,hf,out,o2,o3,by rw [kat_snds rfl har,o1]⟩
   ·rw [hvl]
    refine Ae (key:=fun i=>n5 (ps.getD i ([],0)).1) (fun i j hi hj e=>?_) (fun i j hi hj C hC=>?_) (by omega) _ (fun p g ha=>⟨rfl,Do hk hn g ha⟩)
    ·have hi' : ps.getD i ([], 0) = ps[i] := by simp [Kl, hi]
     have hj':ps.getD j ([],0)=ps[j]:=by simp [Kl,hj]
     simp only [hi',hj'] at e
     have e2:=Bp (hk _ (Ky hi)) (hk _ (Ky hj)) e
     have hil:i<(ps.map (·.1)).length:=by rw [Il];exact hi
     have hjl:j<(ps.map (·.1)).length:=by rw [Il];exact hj
     exact (Hr (h₀:=hil) (h₁:=hjl) hn).mp (by simpa using e2)
    ·unfold kas_ask
     have gi:(aM ps).getD i Value.none=.ref ps[i].2:=by unfold aM;simp [Kl,hi]
     have gj:(aM ps).getD j Value.none=.ref ps[j].2:=by unfold aM;simp [Kl,hj]
     have hi':ps.getD i ([],0)=ps[i]:=by simp [Kl,hi]
     have hj':ps.getD j ([],0)=ps[j]:=by simp [Kl,hj]
     rw [gi,gj]
     simp only [hi',hj'] at hC
     exact AN (hT1 _ (Ky hi)) (hT1 _ (Ky hj)) (hk _ (Ky hi)) (hk _ (Ky hj)) hC
   ·rintro ⟨⟨⟩, st'⟩ s' ⟨rfl, hf, out, o1, o2, o3⟩
    dsimp only
    refine HA (seqEpoch_at ho6 rfl ?_)
    rw [o3]
    refine HA (Kr ho6 rfl ?_ (Jh _) (by show (aM out).toArray.size<=_;rw [HR];unfold aM;rw [Il,o1.length_eq];exact Hg hlen (by decide)))
    rw [hf]
    simp only [Kx,IZ,Iu]
    exact HE (hfin out o1 o2)
end
end RS
namespace RS
open PySem PySem.W PyProof.Rows
namespace Fx
theorem slot_setiter_next:Slot "set_iterator" "__next__" "set_iterator.__next__" :=
 .of (owner:="set_iterator") (n:="__next__") (by rw [typeLookup_type,builtinLookup_eq_fast];kernel_rfl) (by decide +kernel) (by decide +kernel) (by decide +kernel)
  (by first | exact .inl (by decide +kernel) | exact .inr (by decide +kernel)) (by rw [Kb];kernel_rfl)
theorem entry_setiter_next:entryFor table "set_iterator.__next__" = some Builtin.«set_iterator.__next__»:=entryFor_of_fast (by kernel_rfl)
theorem args_setiter_next (a:Value):argsOk "set_iterator.__next__" ⟨[a],[]⟩:=by unfold argsOk;kernel_rfl
theorem entry_set_iter:entryFor table "set.__iter__" = some Builtin.«frozenset.__iter__»:=
 entryFor_alias (id':="frozenset.__iter__") (by kernel_rfl) rfl (by decide +kernel) (by kernel_rfl)
end Fx
def cR (h:Heap) (I S:Addr) (i n ep slot:Nat):Prop:=h.get? I=some { cls:=.type "set_iterator",dict:=none,data:=.fields #[.int (slot:Int) 0,.int (i:Int) 0,.ref S,.int (n:Int) 0,.int (ep:Int) 0],slots:=#[] }
def cV (w:World) (S:Addr) (ep:Nat) (es:Array (Int × Value)):List (Int × Value):=if w.params.followText "set-order" then (pickOrder (w.params.setOrder S ep) es).toList else es.toList
def cK (w:World) (Z:List (Nat × Int × Value)) (i:Nat):Nat:=if w.params.followText "set-order" then 0 else if i=0 then 0 else (Z.getD (i - 1) (0,0,.none)).1+1
theorem oB {α:Type} (next:Nat->Nat):∀ (fuel k:Nat) (left:List α) (out:Array α),left.length=fuel->(pickOrder.go next fuel k left out).toList.Perm (out.toList++left)
 | 0,k,left,out,h=>by
  have:left=[]:=List.length_eq_zero_iff.mp h
  subst this
  show out.toList.Perm (out.toList++[])
  rw [HS]
 | fuel+1,k,left,out,h=>by
  have hlt:next k % left.length<left.length:=Nat.mod_lt _ (by omega)
  show (match left[next k % left.length]? with | some x=>_ | none=>_:Array α).toList.Perm _
  rw [KA hlt]
  show (pickOrder.go next fuel (k+1) (left.eraseIdx (next k % left.length)) (out.push left[next k % left.length])).toList.Perm _
  refine (oB next fuel (k+1) _ _ (by rw [List.length_eraseIdx_of_lt hlt];omega)).trans ?_
  rw [Array.toList_push,IP]
  refine List.Perm.append_left _ ?_
  rw [List.singleton_append,List.eraseIdx_eq_take_drop_succ]
  have q:(left.take (next k % left.length)++left[next k % left.length]::left.drop (next k % left.length+1))=left:=by
   rw [List.getElem_cons_drop];exact JH _ _
  have q2:=(List.perm_middle (a:=left[next k % left.length]) (l₁:=left.take (next k % left.length)) (l₂:=left.drop (next k % left.length+1))).symm
  rw [q] at q2
  exact q2
theorem iV {w:World}{S:Addr}{ep:Nat}{es:Array (Int × Value)}:(cV w S ep es).Perm es.toList:=by
 unfold cV
 split
 ·have := oB (w.params.setOrder S ep) es.size 0 es.toList #[] (by simp)
  simpa [pickOrder] using this
 ·exact List.Perm.refl _
theorem zg {t:SetTable}{es:Array (Int × Value)}{Z:List (Nat × Int × Value)} (T:n6 t es Z) {w:World} (hb:w.params.followText "set-order" = false) {i:Nat} (hi:i<=Z.length):SetTable.below t.place (cK w Z i)=i:=by
 have r:zm t.place.toList:=by rw [T.place];exact T.ris
 obtain ⟨b1,b2,b3⟩:=jX r (cK w Z i)
 have hsz:=T.size.1
 have gz:∀ k,k<Z.length->t.place.getD k (cK w Z i)=(Z.getD k (0,0,.none)).1:=fun k hk=>by
  have e:t.place[k]?=some (Z[k]).1:=by rw [<- IT,T.place,Ih,KA hk];rfl
  rw [JM,e,Kl,KA hk];rfl
 have hris:∀ a b,a<b->b<Z.length->(Z.getD a (0,0,.none)).1<(Z.getD b (0,0,.none)).1:=fun a b hab hbz=>by
  rw [<- gz a (by omega),<- gz b hbz]
  exact pN r _ a b hab (by omega)
 have hs:cK w Z i=if i=0 then 0 else (Z.getD (i - 1) (0,0,.none)).1+1:=by
  unfold cK;rw [hb,G7 HP]
 by_cases h0:i=0
 ·rw [G6 h0] at hs
  rw [hs] at b2 ⊢
  by_cases hz:SetTable.below t.place 0=0
  ·rw [hz,h0]
  ·have:=b2 0 (by omega);omega
 ·rw [G7 h0] at hs
  have hlo:¬ SetTable.below t.place (cK w Z i)<=i - 1:=fun hle=>by
   have:=b3 (i - 1) hle (by omega)
   rw [gz _ (by omega)] at this
   omega
  have hhi:¬ i<SetTable.below t.place (cK w Z i):=fun hlt=>by
   have:=b2 i hlt
   have hiz:i<Z.length:=by omega
   rw [gz i hiz] at this
   have:=hris (i - 1) i (by omega) hiz
   omega
  omega
section
variable {prog:Program}{w:World}{A:Around}{E:Value->Shared->Prop}{s:Shared}
theorem qY {a:Addr}{ps:List (Int × Value)}{o es ep t Z}{i:Nat}{Q:Option (Value × Nat)->Shared->Prop} (S:df w s.heap a ps o es ep t Z) (hi:i<=Z.length)
  (h:Q (((cV w a ep es)[i]?).map fun e=>(e.2,cK w Z (i+1))) s):wpAny (model prog w) A (setNext a (cK w Z i) i ep) Q E s:=by
 unfold setNext
 refine HA (JZ S.ho S.hd S.fits ?_)
 dsimp only
 unfold setsByText
 refine HA (HA (Jf (HE ?_)))
 cases hb:w.params.followText "set-order" with
 | true=>
  have e1:cV w a ep es=(pickOrder (w.params.setOrder a ep) es).toList:=by unfold cV;rw [hb,G6 rfl]
  have e2:∀ j,cK w Z j=0:=fun j=>by unfold cK;rw [hb,G6 rfl]
  rw [e1,e2] at h
  show wpAny _ _ (if (w.params.followText "set-order")=true then _ else _) _ _ _
  rw [hb,G6 rfl]
  rw [G7 (by simp)]
  refine HA ?_
  unfold setWalk
  refine HA (JZ S.ho S.hd S.fits ?_)
  dsimp only
  unfold setsByText
  refine HA (HA (Jf (HE ?_)))
  show wpAny _ _ (if (w.params.followText "set-order")=true then _ else _) _ _ _
  rw [hb,G6 rfl]
  refine HA (Jf (HE (HE ?_)))
  rw [e2,<- IT]
  exact h
 | false=>
  have e1:cV w a ep es=es.toList:=by unfold cV;rw [hb,G7 HP]
  have hled:t.led=true:=by rw [S.led,hb];rfl
  show wpAny _ _ (if (w.params.followText "set-order")=true then _ else _) _ _ _
  rw [hb,G7 HP]
  have hdr:(!t.plain && decide (es.size > 1))=false:=by rw [S.plain];rfl
  show wpAny _ _ (if (!t.plain && decide (es.size > 1))=true then _ else _) _ _ _
  rw [hdr,G7 HP]
  refine HA ?_
  show wpAny _ _ (if (!t.led && !es.isEmpty)=true then _ else _) _ _ _
  rw [hled]
  simp only [JX,Bool.false_and,IZ,Iu]
  refine HE (HE ?_)
  rw [zg S.tab hb hi]
  rw [e1,IT] at h
  by_cases hlt:i<Z.length
  ·have ez : Z[i]? = some Z[i] := KA hlt
   have ee:=S.tab.hashAt ez
   have ep':t.place[i]?=some (Z[i]).1:=by rw [<- IT,S.tab.place,Ih,ez];rfl
   rw [ee,ep']
   rw [ee] at h
   have es':cK w Z (i+1)=(Z[i]).1+1:=by
    unfold cK
    rw [hb,G7 HP,G7 (by omega),Nat.add_sub_cancel,Kl,ez];rfl
   rw [es'] at h
   exact h
  ·have : es[i]? = none := by rw [JQ, S.tab.size.2]; omega
   rw [this]
   rw [this] at h
   exact h
end
end RS
namespace RS
open PySem PySem.W PyProof.Rows
section
variable {prog:Program}{w:World}{A:Around}{E:Value->Shared->Prop}{s:Shared}
theorem cR.typeIs {I S:Addr}{i n ep slot:Nat} (h:cR s.heap I S i n ep slot):s.TypeIs (.ref I) "set_iterator" := ⟨_,h,rfl⟩
theorem eU {a:Addr}{ps:List (Int × Value)}{o es ep t Z} (S:df w s.heap a ps o es ep t Z):s.TypeIs (.ref a) "set" := ⟨o,S.ho,S.ex.1⟩
theorem yf {a:Addr}{ps:List (Int × Value)}{o es ep t Z}{Q:Value->Shared->Prop} (S:df w s.heap a ps o es ep t Z)
  (hQ:Q (.ref s.heap.objs.size) { s with heap:=s.heap.push { cls:=.type "set_iterator",data:=.fields #[.int ((0:Nat):Int) 0,.int ((0:Nat):Int) 0,.ref a,.int (Z.length:Int) 0,.int (ep:Int) 0] } }) :
  wpAny (model prog w) A (pyIter (.ref a)) Q E s:=by
 refine wpAny_pyIter_slot (eU S) PySem.F.slot_set_iter (IC PySem.F.slot_set_iter (eU S) Fx.entry_set_iter ?_ (PySem.F.args_set_iter_1 _))
 unfold Builtin.«frozenset.__iter__» Builtin.Frozenset.sizeOf
 refine HA (m:=Builtin.Frozenset.slot0 "__iter__" _) (Jo (a:=a) rfl ?_)
 refine HA (HA (KB S.ho S.hd S.fits (HE ?_)))
 unfold setDrawn
 refine HA (HA (JZ S.ho S.hd S.fits ?_))
 dsimp only
 unfold setsByText
 refine HA (HA (Jf (HE (HE ?_))))
 have hdr:(!w.params.followText "set-order" && (!t.plain && decide (es.size > 1)))=false:=by rw [S.plain];simp
 show wpAny _ _ (if (!w.params.followText "set-order" && (!t.plain && decide (es.size > 1)))=true then _ else _) _ _ _
 rw [hdr,G7 HP]
 refine HA (HE ?_)
 refine HA (wpAny_setEpoch_of S.ho S.hd S.fits ?_)
 refine HA (IF (HE ⟨_,rfl, "set_iterator",_,⟨_,HH _ rfl,rfl⟩,Fx.slot_setiter_next.lookup,?_⟩))
 rw [S.tab.size.2]
 exact hQ
theorem yg {I a:Addr}{ps:List (Int × Value)}{o es ep t Z}{i:Nat}{v:Int × Value}{Q:Option Value->Shared->Prop} (S:df w s.heap a ps o es ep t Z) (hit:cR s.heap I a i Z.length ep (cK w Z i)) (hv:(cV w a ep es)[i]?=some v)
  (hQ:∀ h',cR h' I a (i+1) Z.length ep (cK w Z (i+1))->Heap.SameBut I s.heap h'->Q (some v.2) { s with heap:=h' }):wpAny (model prog w) A (pyNext (.ref I)) Q E s:=by
 have hT:=hit.typeIs
 have hoi:=hit
 unfold cR at hoi
 have hil:i<Z.length:=by
  have:=(Hq.mp hv).1
  rw [iV.length_eq,Hw,S.tab.size.2] at this
  exact this
 unfold pyNext
 refine HA (wpAny_attempt (Iz (name:=Str.ofString "__next__") hT Fx.slot_setiter_next (IC Fx.slot_setiter_next hT Fx.entry_setiter_next ?_ (Fx.args_setiter_next _))))
 unfold Builtin.«set_iterator.__next__»
 refine HA (m:=slotArgs "__next__" 0 _) (Jo (a:=(.ref I,[])) rfl ?_)
 dsimp only
 unfold fieldsOf
 refine HA (HA (HF hoi ?_))
 refine HE ?_
 refine HA (KB S.ho S.hd S.fits ?_)
 rw [S.tab.size.2]
 simp only [Kx,IZ,Iu,Ir]
 refine HA (qY S (Hh hil) ?_)
 rw [hv]
 dsimp only [Option.map_some]
 refine HA (KC hoi (by simp) fun h1 e1 sb1=>?_)
 refine HA (KC (s:={ s with heap:=h1 }) e1 (by simp) fun h2 e2 sb2=>?_)
 refine HE ⟨v.2,rfl,HE (hQ h2 ?_ (sb1.trans sb2))⟩
 unfold cR
 rw [e2]
 simp [rawInt]
theorem An {I a:Addr}{ps:List (Int × Value)}{o es ep t Z}{Q:Option Value->Shared->Prop} (hh:A.handled=none) (S:df w s.heap a ps o es ep t Z) (hit:cR s.heap I a Z.length Z.length ep (cK w Z Z.length))
  (hQ:∀ h',Heap.ExtBut I s.heap h'->Q none { s with heap:=h' }):wpAny (model prog w) A (pyNext (.ref I)) Q E s:=by
 have hT:=hit.typeIs
 have hoi:=hit
 unfold cR at hoi
 have hv:(cV w a ep es)[Z.length]?=none:=by
  rw [List.getElem?_eq_none_iff,iV.length_eq,Hw,S.tab.size.2]
  exact HI _
 unfold pyNext
 refine HA (wpAny_attempt (Iz (name:=Str.ofString "__next__") hT Fx.slot_setiter_next (IC Fx.slot_setiter_next hT Fx.entry_setiter_next ?_ (Fx.args_setiter_next _))))
 unfold Builtin.«set_iterator.__next__»
 refine HA (m:=slotArgs "__next__" 0 _) (Jo (a:=(.ref I,[])) rfl ?_)
 dsimp only
 unfold fieldsOf
 refine HA (HA (HF hoi ?_))
 refine HE ?_
 refine HA (KB S.ho S.hd S.fits ?_)
 rw [S.tab.size.2]
 simp only [Kx,IZ,Iu,Ir]
 refine HA (qY S (HI _) ?_)
 rw [hv]
 dsimp only [Option.map_none]
 refine HA (KC hoi (by simp) fun h1 e1 sb1=>?_)
 refine HA ?_
 simp only [newExc,newTuple]
 refine HA (IF ?_ (by size_fits))
 refine HA (m:=firstArgMember _ _) (Jo (a:=Value.none) (by first | rfl | (simp only [firstArgMember];rfl)) ?_)
 refine IF ?_ (by size_fits)
 simp only [raiseNew]
 refine HA (wpAny_handled ?_)
 rw [show A.in1.handled=none from hh]
 refine HA (HE (wpAny_throw ?_))
 refine HA (wpAny_isInstance (T:="StopIteration") (b:=true) ⟨_,HH _ rfl,rfl⟩ isSubtype_stop ?_)
 exact HE (hQ _ ((sb1.extBut.push _).push _))
end
end RS
namespace RS
open PySem PySem.W PyProof.Rows
namespace Fx
theorem entry_extend_loop:entryFor table "list.extend.loop" = some Builtin.«list.extend.loop»:=entryFor_of_fast (by kernel_rfl)
theorem plain_extend_loop:plainId "list.extend.loop" = true:=by decide +kernel
theorem split_set_len:splitId "set.__len__" = some ("set", "__len__"):=by decide +kernel
end Fx
section
variable {prog:Program}{w:World}{A:Around}{E:Value->Shared->Prop}{s:Shared}
theorem sk {a:Addr}{ps:List (Int × Value)}{o es ep t Z}{Q:Bool->Shared->Prop} (S:df w s.heap a ps o es ep t Z) (h:Q false s):wpAny (model prog w) A (Builtin.List.listLengthHint (.ref a)) Q E s:=by
 unfold Builtin.List.listLengthHint
 refine HA (wpAny_specialOf (eU S) PySem.F.slot_set_len.lookup ?_)
 dsimp only
 rw [Fx.split_set_len]
 dsimp only
 refine HA (wpAny_isInstance (eU S) sub_set_self ?_)
 simp only [JX,IZ,Iu]
 rw [G6 (by rfl)]
 refine HA (ID (eU S) ?_)
 exact HE h
theorem sm {R:Result->Shared->Prop}{I a L:Addr}{ps:List (Int × Value)}{o es ep t Z} (hh:A.handled=none) (hIa:I≠a) (hIL:I≠L) (hLa:L≠a) (hz:Z.length<=100) :
  ∀ (k i n:Nat) (s:Shared),Z.length - i=k->i<=Z.length->df w s.heap a ps o es ep t Z->cR s.heap I a i Z.length ep (cK w Z i)->s.heap.get? L=some (seqObj "list" (((cV w a ep es).take i).map (·.2)).toArray n) ->
   (∀ h' m,(∀ b u,b≠I->b≠L->s.heap.get? b=some u->h'.get? b=some u)->h'.get? L=some (seqObj "list" ((cV w a ep es).map (·.2)).toArray m)->R (.ok (.ret (.ref L))) { s with heap:=h' }) ->
   codeAny (model prog w) A (.builtin "list.extend.loop" ⟨[.ref L,.ref I,.ref L],[]⟩) R s:=by
 intro k
 induction k with
 | zero=>
  intro i n s ek hi S hit hL hR
  have e:i=Z.length:=by omega
  subst e
  refine J8 Fx.entry_extend_loop ?_
  rw [J9 Fx.plain_extend_loop _]
  show wpAny _ A.in1 (pyNext (.ref I) >>= _) _ _ s
  refine HA (An (by simpa using hh) S hit fun h' eb=>?_)
  show wpAny _ A.in1 (ret (.ref L)) _ _ _
  refine HE (hR h' n (fun b u hb _ q=>eb b u hb q) ?_)
  rw [JB (by rw [iV.length_eq,Hw,S.tab.size.2];exact HI _)] at hL
  exact eb L _ (Hm hIL) hL
 | succ k ih=>
  intro i n s ek hi S hit hL hR
  have hil:i<(cV w a ep es).length:=by rw [iV.length_eq,Hw,S.tab.size.2];omega
  refine J8 Fx.entry_extend_loop ?_
  rw [J9 Fx.plain_extend_loop _]
  show wpAny _ A.in1 (pyNext (.ref I) >>= _) _ _ s
  refine HA (yg S hit (KA hil) fun h' hit' sb=>?_)
  have hL':h'.get? L=some (seqObj "list" (((cV w a ep es).take i).map (·.2)).toArray n):=(sb.2 L (Hm hIL)).trans hL
  have hsz:(((cV w a ep es).take i).map (·.2)).toArray.size<=100:=by
   rw [HR,Il,HZ];omega
  show wpAny _ A.in1 (Builtin.List.listUpdate (.ref L) _ >>= _) _ _ _
  refine HA (Kr (s:={ s with heap:=h' }) hL' rfl ?_ (Hg hsz (by decide)) (by rw [Array.size_push];exact Hg (Nat.succ_le_succ hsz) (by decide)))
  have hL2:=Ks hL' (·.push ((cV w a ep es)[i]).2)
  have eL:(((cV w a ep es).take i).map (·.2)).toArray.push ((cV w a ep es)[i]).2=(((cV w a ep es).take (i+1)).map (·.2)).toArray:=by
   have q:(cV w a ep es).take (i+1)=(cV w a ep es).take i++[(cV w a ep es)[i]]:=by rw [Kh,KA hil];rfl
   rw [q,JJ,List.push_toArray];rfl
  rw [eL] at hL2
  have hsb2:=Jn h' L (Obj.mapSeq (·.push ((cV w a ep es)[i]).2))
  refine HE ⟨plainId_quiet Fx.plain_extend_loop _,ih (i+1) _ _ (by omega) (by omega) ?_ ?_ hL2 fun h'' m kk hm=>?_⟩
  ·refine ⟨?_, S.ex, S.hd, S.tab, S.plain, S.led, S.big, S.perm⟩
   exact (hsb2.2 a (Hm hLa)).trans ((sb.2 a (Hm hIa)).trans S.ho)
  ·exact (hsb2.2 I hIL).trans hit'
  ·refine hR h'' m (fun b u hb1 hb2 q => kk b u hb1 hb2 ?_) hm
   exact (hsb2.2 b hb2).trans ((sb.2 b hb1).trans q)
theorem kB {α β:Type}{f:α->β}{l m:List β} (h:l.Perm m):∀ ps:List α,m=ps.map f->∃ qs:List α,qs.Perm ps/\l=qs.map f:=by
 induction h with
 | nil=>
  intro ps e
  have:ps=[]:=List.map_eq_nil_iff.mp e.symm
  exact ⟨[],by rw [this],rfl⟩
 | cons x _ ih=>
  intro ps e
  cases ps with
  | nil=>cases e
  | cons p ps=>
   rw [IH] at e
   obtain ⟨qs,h1,h2⟩:=ih ps (Jy e).2
   exact ⟨p::qs,h1.cons p,by rw [IH,<- h2,(Jy e).1]⟩
 | swap x y l=>
  intro ps e
  match ps,e with
  | p::q::r,e=>
   rw [IH,IH] at e
   obtain ⟨e1,e2⟩:=Jy e
   obtain ⟨e2,e3⟩:=Jy e2
   exact ⟨q::p::r,List.Perm.swap _ _ _,by rw [IH,IH,e1,e2,e3]⟩
 | trans _ _ ih1 ih2=>
  intro ps e
  obtain ⟨qs,h1,h2⟩:=ih2 ps e
  obtain ⟨rs,h3,h4⟩:=ih1 qs h2
  exact ⟨rs,h3.trans h1,h4⟩
theorem lH {a:Addr}{ps:List (Int × Value)}{o es ep t Z}{Q:List Value->Shared->Prop} (hh:A.handled=none) (S:df w s.heap a ps o es ep t Z) (hz:Z.length<=100)
  (h:∀ qs:List (Int × Value),qs.Perm ps->∀ h',(∀ b u,s.heap.get? b=some u->h'.get? b=some u)->s.heap.objs.size<=h'.objs.size->Q (qs.map (·.2)) { s with heap:=h' }):wpAny (model prog w) A (collect (.ref a)) Q E s:=by
 have hal:a<s.heap.objs.size:=G9 S.ho
 unfold collect
 refine HA (Kg (J8 entry_proto_collect' ?_))
 show wpAny _ _ (do again (.builtin "list.__iadd__" ⟨[<- newList [],.ref a],[]⟩)) _ _ s
 refine HA (Kt (HE ⟨Kd _ (by decide +kernel),J8 entry_list_iadd' ?_⟩))
 show wpAny _ _ (Builtin.List.listExtendWith (.ref s.heap.objs.size) (.ref a) (.ref s.heap.objs.size)) _ _ { s with heap:=s.heap.push (seqObj "list" #[] 0) }
 have S1:df w (s.heap.push (seqObj "list" #[] 0)) a ps o es ep t Z:=⟨HG _ S.ho,S.ex,S.hd,S.tab,S.plain,S.led,S.big,S.perm⟩
 unfold Builtin.List.listExtendWith
 refine HA (ID (eU (s:={ s with heap:=s.heap.push (seqObj "list" #[] 0) }) S1) ?_)
 have hsame:Builtin.List.listSameRef (.ref s.heap.objs.size) (.ref a)=false:=by
  show (s.heap.objs.size == a)=false
  simpa using HD hal
 rw [hsame,G7 (by decide)]
 refine HA (yf (s:={ s with heap:=s.heap.push (seqObj "list" #[] 0) }) S1 ?_)
 dsimp only
 generalize hH:(s.heap.push (seqObj "list" #[] 0)).push { cls:=.type "set_iterator",data:=.fields #[.int ((0:Nat):Int) 0,.int ((0:Nat):Int) 0,.ref a,.int (Z.length:Int) 0,.int (ep:Int) 0] }=H2
 have eI:(s.heap.push (seqObj "list" #[] 0)).objs.size=s.heap.objs.size+1:=by rw [Ku]
 have hk2:∀ b u,s.heap.get? b=some u->H2.get? b=some u:=fun b u q=>by rw [<- hH];exact HG _ (HG _ q)
 have S2:df w H2 a ps o es ep t Z:=⟨hk2 a o S.ho,S.ex,S.hd,S.tab,S.plain,S.led,S.big,S.perm⟩
 have hL2:H2.get? s.heap.objs.size=some (seqObj "list" #[] 0):=by rw [<- hH];exact HG _ (HH _ rfl)
 have hI2:H2.get? (s.heap.objs.size+1)=some { cls:=.type "set_iterator",data:=.fields #[.int ((0:Nat):Int) 0,.int ((0:Nat):Int) 0,.ref a,.int (Z.length:Int) 0,.int (ep:Int) 0] }:=by
  rw [<- hH,<- eI];exact HH _ rfl
 rw [eI]
 refine HA (HB (sk (s:={ s with heap:=H2 }) S2 ?_))
 rw [G6 (by rfl)]
 refine HA (Jg ?_)
 refine HA ?_
 unfold Builtin.List.listTouch
 refine HA (Kr (s:={ s with heap:=H2 }) hL2 rfl ?_ (Jh _) (by decide))
 have hL3:=Ks hL2 (·.push Value.none)
 refine Kr (s:={ s with heap:=H2.update s.heap.objs.size (Obj.mapSeq (·.push Value.none)) }) hL3 rfl ?_ (by decide) (by decide)
 have hL4:=Ks hL3 (·.pop)
 have sb3:=Jn H2 s.heap.objs.size (Obj.mapSeq (·.push Value.none))
 have sb4:=(sb3.trans (Jn (H2.update s.heap.objs.size (Obj.mapSeq (·.push Value.none))) s.heap.objs.size (Obj.mapSeq (·.pop))))
 generalize hH4:(H2.update s.heap.objs.size (Obj.mapSeq (·.push Value.none))).update s.heap.objs.size (Obj.mapSeq (·.pop))=H4 at hL4 sb4
 have neL:a≠s.heap.objs.size:=Hd hal
 have neI:s.heap.objs.size+1≠s.heap.objs.size:=Nat.succ_ne_self _
 refine HE ⟨Kd _ (by decide +kernel),?_⟩
 refine sm (by simpa using hh) (HD (Jb hal)) neI (Hm neL) hz (Z.length - 0) 0 _ { s with heap:=H4 } (by omega) (Jh _)
  ⟨(sb4.2 a neL).trans S2.ho,S.ex,S.hd,S.tab,S.plain,S.led,S.big,S.perm⟩ ?_ (by rw [List.take_zero];exact hL4) fun h' m kk hm=>?_
 ·unfold cR
  have e0:cK w Z 0=0:=by unfold cK;split <;> simp
  rw [e0]
  exact (sb4.2 _ neI).trans hI2
 ·dsimp only
  refine HA (HF hm ?_)
  refine HE ?_
  have hp:(cV w a ep es).Perm ps:=iV.trans (by rw [S.tab.ents];exact S.perm)
  have fin:=h (cV w a ep es) hp h' fun b u q=>by
   have hb:b<s.heap.objs.size:=G9 q
   exact kk b u (Hd (Jb hb)) (Hd hb) ((sb4.2 b (Hd hb)).trans (hk2 b u q))
  exact fin (Hh (G9 hm))
theorem su {a:Addr}{ps:List KP}{Q:List Value->Shared->Prop} (hh:A.handled=none) (S:bJ w s.heap a ps)
  (h:∀ qs:List KP,qs.Perm ps->∀ h',(∀ b u,s.heap.get? b=some u->h'.get? b=some u)->s.heap.objs.size<=h'.objs.size->Q (aM qs) { s with heap:=h' }):wpAny (model prog w) A (collect (.ref a)) Q E s:=by
 obtain ⟨o,es,ep,t,Z,S,hk,hn⟩:=S
 have h15:=jg hk hn
 refine lH hh S (by rw [S.len,Il];omega) fun qs hq h' k1 k2=>?_
 obtain ⟨rs,q1,q2⟩:=kB hq ps rfl
 have q3:qs.map (·.2)=aM rs:=by rw [q2,Ju];rfl
 rw [q3]
 exact h rs q1 h' k1 k2
theorem vx {x:Value}{ps:List KP}{Q:Value->Shared->Prop} (hk:∀ p∈ps,p.1∈prs) (hn:(ps.map (·.1)).Nodup) (hT:∀ p∈ps,Tk prog w s.heap p.1 p.2)
  (hcol:∀ Q':List Value->Shared->Prop,(∀ qs:List KP,qs.Perm ps->∀ h',(∀ b u,s.heap.get? b=some u->h'.get? b=some u)->s.heap.objs.size<=h'.objs.size->Q' (aM qs) { s with heap:=h' })->wpAny (model prog w) A.in1 (collect x) Q' E s)
  (h:∀ out:List KP,out.Perm ps->fW out->∀ h' D,s.heap.objs.size<=D->(∀ b u,s.heap.get? b=some u->h'.get? b=some u)->(∃ n,h'.get? D=some (seqObj "list" (aM out).toArray n))->Q (.ref D) { s with heap:=h' }) :
  wpAny (model prog w) A (call (.builtin "sorted") [x]) Q E s:=by
 refine KD kind_sorted plain_sorted entry_sorted (args_sorted1 _) ?_
 unfold Builtin.«sorted»
 refine HA (m:=checkCount "sorted" 1 1 _) (HE ?_)
 refine HA (hcol _ fun qs hqs h1 k1 hsz=>?_)
 have hkq:∀ p∈qs,p.1∈prs:=fun p hp=>hk p (hqs.mem_iff.mp hp)
 have hnq:(qs.map (·.1)).Nodup:=(hqs.map _).nodup_iff.mpr hn
 have hlen:=jg hkq hnq
 have hvl:(aM qs).length<=15:=by unfold aM;rw [Il];exact hlen
 refine HA (Kt ?_ (Hg hvl (by decide)))
 have hoL:(h1.push (seqObj "list" (aM qs).toArray 0)).get? h1.objs.size=some (seqObj "list" (aM qs).toArray 0):=HH _ rfl
 have hnn:∀ b u,h1.get? b=some u->b≠h1.objs.size:=fun b u q=>Hd (G9 q)
 refine HA (HB (IC slot_list_sort (s:={ s with heap:=h1.push (seqObj "list" (aM qs).toArray 0) }) ⟨_,hoL,rfl⟩ KE ?body (args_list_sort _)))
 case body=>
  refine tE (s:={ s with heap:=h1.push (seqObj "list" (aM qs).toArray 0) }) hoL hkq hnq (fun p hp=>?_) fun out h2 h3=>?_
  ·obtain ⟨o, its, n, ho, rest⟩ := hT p (hqs.mem_iff.mp hp)
   exact ⟨o,its,n,HG _ (k1 _ _ ho),rest⟩
  ·refine ⟨_, rfl, HE ⟨_, rfl, h out (h2.trans hqs) h3 _ h1.objs.size hsz (fun b u q => ?_) ?_⟩⟩
   ·have hb := hnn b u (k1 b u q)
    unfold sortedHeap
    rw [Kw _ _ _ _ hb]
    refine HG _ (HG _ ?_)
    rw [Kw _ _ _ _ hb]
    exact HG _ (k1 b u q)
   ·unfold sortedHeap
    have g1:=Ks hoL (fun _=>#[])
    have g2:=HG (seqObj "list" #[] 0) (HG (seqObj "tuple" (aM qs).toArray 0) g1)
    exact ⟨_,Ks g2 (fun _=>(aM out).toArray)⟩
theorem tx {a:Addr}{ps:List KP}{Q:Value->Shared->Prop} (hh:A.handled=none) (S:bJ w s.heap a ps) (hT:∀ p∈ps,Tk prog w s.heap p.1 p.2)
  (h:∀ out:List KP,out.Perm ps->fW out->∀ h' D,s.heap.objs.size<=D->(∀ b u,s.heap.get? b=some u->h'.get? b=some u)->(∃ n,h'.get? D=some (seqObj "list" (aM out).toArray n))->Q (.ref D) { s with heap:=h' }) :
  wpAny (model prog w) A (call (.builtin "sorted") [.ref a]) Q E s:=by
 obtain ⟨o,es,ep,t,Z,S0,hk,hn⟩:=id S
 exact vx hk hn hT (fun Q' hq=>su (by simpa using hh) S hq) h
end
end RS
namespace RS
open PySem PySem.W PyProof.Rows
theorem n6.free {t:SetTable}{es:Array (Int × Value)}{Z:List (Nat × Int × Value)} (T:n6 t es Z) {h:Int} (cov:∀ j,j<=t.mask->j∈cq t.mask h) (hz:Z.length<=t.mask) (hA:Nat->Int) (hne:∀ i,hA i≠h) :
  ∃ j pre post,t.probe hA h (t.probeStart h)=some (.empty j none)/\j<=t.mask/\j ∉ Z.map (·.1)/\cq t.mask h=pre++j::post/\∀ k∈pre,k∈Z.map (·.1):=by
 obtain ⟨j0,hj0,hn0⟩:=oO (m:=t.mask) (l:=Z.map (·.1)) (by rw [Il];exact hz)
 obtain ⟨pre,j,post,e,hs,hp⟩:=ix (fun j=>j ∉ Z.map (·.1)) (cq t.mask h) ⟨j0,cov j0 hj0,hn0⟩
 have el:(u6 t.mask (SetTable.turns t.mask) (SetTable.bits h % (t.mask+1)) (SetTable.bits h)).length=pre.length+1+post.length:=by
  show (cq t.mask h).length=_
  rw [e,Ik,I0];omega
 have hw:fS t (pre.length+1+post.length) (t.probeStart h)=pre++j::post:=by
  have q:=mR t (SetTable.turns t.mask) (SetTable.bits h % (t.mask+1)) (SetTable.bits h) none
  rw [el] at q
  exact q.trans e
 have hlen:pre.length<10 * SetTable.turns t.mask:=by
  have q:=pM t.mask (SetTable.turns t.mask) (SetTable.bits h % (t.mask+1)) (SetTable.bits h)
  omega
 have occ:∀ k∈pre,k∈Z.map (·.1):=fun k hk=>JD fun q=>hp k hk q
 have hpre:∀ k∈pre,∃ i,t.slot k=.live i/\hA i≠h:=fun k hk=>by
  obtain ⟨z,hzm,ez⟩:=JC.mp (occ k hk)
  obtain ⟨i,hi⟩:=JF hzm
  exact ⟨i,ez ▸ T.slot_live hi,hne i⟩
 obtain ⟨g1,g2⟩:=pS t hA h pre j post (10 * SetTable.turns t.mask) (t.probeStart h) hw hlen rfl hpre
 exact ⟨j,pre,post,g1 (T.slot_empty hs),g6 (h:=h) (by rw [e];simp),hs,e,occ⟩
abbrev KI:=Int × Tok
def wQ (p:KI):Int × Value:=(hashInt p.1,Value.int p.1 p.2)
def ins:List Int:=[0,1,2,3,4,5]
theorem Bg {i:Int}:i∈ins↔0<=i/\i<6:=by
 unfold ins
 simp only [Hl,Jq,Jr]
 omega
def Cb (mask:Nat):Bool:=ins.all fun k=>(List.range (mask+1)).all fun j=>(cq mask (hashInt k)).contains j
theorem FG:Cb 7=true:=by decide +kernel
theorem xS:Cb 31=true:=by decide +kernel
theorem pW {mask:Nat} (h:Cb mask=true) {k:Int} (hk:k∈ins):∀ j,j<=mask->j∈cq mask (hashInt k):=fun j hj=>by
 have a:=JV.mp h k hk
 have b:=JV.mp a j (Hf.mpr (by omega))
 simpa using b
theorem oK {a b:Int} (ha:a∈ins) (hb:b∈ins) (e:hashInt a=hashInt b):a=b:=by
 have key:∀ x∈ins,∀ y∈ins,hashInt x=hashInt y->x=y:=by decide +kernel
 exact key a ha b hb e
def cF (w:World) (h:Heap) (a:Addr) (ps:List KI):Prop:=∃ o es ep t Z,df w h a (ps.map wQ) o es ep t Z/\(∀ p∈ps,p.1∈ins)/\(ps.map (·.1)).Nodup
theorem iX {ps:List KI} (hk:∀ p∈ps,p.1∈ins) (hn:(ps.map (·.1)).Nodup):ps.length<=6:=by
 have:=gT hn (l2:=ins) (fun x hx=>by obtain ⟨p,hp,e⟩:=JC.mp hx;rw [<- e];exact hk p hp)
 rw [Il] at this
 exact this
theorem cF.keeps {w:World}{h h':Heap}{a:Addr}{ps:List KI} (S:cF w h a ps) (k:∀ o,h.get? a=some o->h'.get? a=some o):cF w h' a ps:=by
 obtain ⟨o,es,ep,t,Z,S,hk,hn⟩:=S
 exact ⟨o,es,ep,t,Z,⟨k o S.ho,S.ex,S.hd,S.tab,S.plain,S.led,S.big,S.perm⟩,hk,hn⟩
theorem GA {w:World}{h:Heap}{a:Addr}{ps:List (Int × Value)}{o es ep t Z} (S:df w h a ps o es ep t Z) {k:Int} (hk:k∈ins):∀ j,j<=t.mask->j∈cq t.mask (hashInt k):=by
 rcases S.big with ⟨h1,h2⟩ | ⟨h1,h2⟩ <;> rw [h1]
 ·exact pW FG hk
 ·exact pW xS hk
def qD (ps:List KI) (k:Int) (t:Tok):List KI:=if k∈ps.map (·.1) then ps else ps++[(k,t)]
section
variable {prog:Program}{w:World}{A:Around}{E:Value->Shared->Prop}{s:Shared}
theorem oz {a:Addr}{k:Int}{tk:Tok}{ps0:List (Int × Value)}{o es ep t Z} (S:df w s.heap a ps0 o es ep t Z) {Q:ScanMet->Shared->Prop} :
  ∀ (l:List (Int × Value)) (n:Nat),(∀ e∈l,∃ p:KI,e=wQ p/\p.1∈ins)->k∈ins->((∃ e∈l,e.1=hashInt k)->∀ i,Q (.found i) s)->((∀ e∈l,e.1≠hashInt k)->Q .absent s)->wpAny (model prog w) A (setScanFrom a (.int k tk) (hashInt k) true l n) Q E s
 | [],n,_,_,h1,h2=>by
  unfold setScanFrom
  exact HE (h2 fun e he=>by simp at he)
 | e::l,n,hl,hk,h1,h2=>by
  obtain ⟨p,rfl,hp⟩:=hl e Hj
  show wpAny _ _ (setScanFrom a _ _ true ((hashInt p.1,Value.int p.1 p.2)::l) n) _ _ _
  unfold setScanFrom
  by_cases he:hashInt p.1=hashInt k
  ·rw [G6 (by simpa using he)]
   have ek:=oK hp hk he
   refine HA (m:=setEpoch a) (wpAny_setEpoch_of S.ho S.hd S.fits ?_)
   refine HA (G5 ?_)
   rw [ek]
   simp only [IY,J0,Iv]
   exact HE (h1 ⟨_,Hj,he⟩ _)
  ·rw [G7 (by simpa using he)]
   refine oz S l (n+1) (fun x hx=>hl x (Hk _ hx)) hk (fun ⟨x,hx,ex⟩=>h1 ⟨x,Hk _ hx,ex⟩) fun hx=>h2 fun x hxm=>?_
   rcases Hl.mp hxm with z | z
   ·rw [z];exact he
   ·exact hx x z
theorem Bu {a:Addr}{k:Int}{tk:Tok}{ps:List KI}{Q:Bool->Shared->Prop} (S:cF w s.heap a ps) (hk:k∈ins)
  (h:∀ b h',Heap.SameBut a s.heap h'->cF w h' a (qD ps k tk)->Q b { s with heap:=h' }):wpAny (model prog w) A (setAddHashed a (.int k tk) (hashInt k)) Q E s:=by
 obtain ⟨o,es,ep,t,Z,S,hk0,hn0⟩:=S
 have hent:∀ e∈es.toList,∃ p∈ps,e=wQ p:=fun e he=>by
  rw [S.tab.ents] at he
  obtain ⟨p,hp,q⟩:=JC.mp (S.perm.mem_iff.mp he)
  exact ⟨p,hp,q.symm⟩
 have hto:∀ p∈ps,wQ p∈es.toList:=fun p hp=>by
  rw [S.tab.ents]
  exact S.perm.mem_iff.mpr (JG hp)
 have hlen6:=iX hk0 hn0
 have hZl:Z.length=ps.length:=by rw [S.len,Il]
 have hesz0:es.size=ps.length:=by rw [S.tab.size.2,hZl]
 have hz:Z.length<=t.mask:=by rcases S.big with ⟨q,q2⟩ | ⟨q,q2⟩ <;> omega
 unfold setAddHashed setAddHashedIn
 refine HB (HA (JZ S.ho S.hd S.fits ?_))
 dsimp only
 have hsc:byScan (Value.int k tk) es=true:=by
  unfold byScan
  have h1:decide (es.size<scanBound)=true:=IV (by rw [hesz0];unfold scanBound;omega)
  have h2:es.all (fun x=>x.2.scannable)=true:=by
   rw [<- Array.all_toList,JV]
   intro e he
   obtain ⟨p,_,rfl⟩:=hent e he
   rfl
  rw [h1,h2];rfl
 rw [hsc]
 simp only [Iv]
 refine HA ?_
 unfold setAddByScan
 refine HA (Jg ?_)
 refine HA ?_
 show wpAny _ _ (setScanFrom a (.int k tk) (hashInt k) true es.toList 0) _ _ _
 refine oz S es.toList 0 (fun e he=>by obtain ⟨p,hp,e'⟩:=hent e he;exact ⟨p,e',hk0 p hp⟩) hk (fun hex i=>?_) fun hno=>?_
 ·obtain ⟨e, he, q⟩ := hex
  obtain ⟨p,hp,rfl⟩:=hent e he
  have ek:p.1=k:=oK (hk0 p hp) hk q
  refine HE (HE ?_)
  have q:=h false s.heap (Heap.SameBut.refl a s.heap) (by
   unfold qD;rw [G6 (by rw [<- ek];exact JG hp)];exact ⟨o,es,ep,t,Z,S,hk0,hn0⟩)
  cases s;exact q
 ·have hin:k ∉ ps.map (·.1):=fun hx=>by
   obtain ⟨p,hp,e⟩:=JC.mp hx
   exact hno _ (hto p hp) (by rw [<- e];rfl)
  dsimp only
  obtain ⟨j,pre,post,epr,hj,hn,e,hp⟩:=S.tab.free (GA S hk) hz (fun _=>hashInt k+1) (fun _=>by omega)
  obtain ⟨Z',T',hperm,et⟩:=S.tab.put (x:=Value.int k tk) hj hn e hp
  have hfree:t.freeSlot (hashInt k)=some (j,false):=by
   unfold SetTable.freeSlot;rw [epr];rfl
  have hpl:(t.put j).1.plain=true:=by rw [et];exact S.plain
  have hled:(t.put j).1.led=t.led:=by rw [et]
  have hmask:(t.put j).1.mask=t.mask:=by rw [et]
  have hperm':(Z'.map (·.2)).Perm ((ps++[(k,tk)]).map wQ):=by
   refine (hperm.map (·.2)).trans ?_
   rw [IH,JJ]
   refine List.Perm.trans (List.Perm.cons _ S.perm) ?_
   exact (List.perm_append_singleton _ _).symm
  have hkeys:∀ p∈ps++[(k,tk)],p.1∈ins:=fun p hp'=>by
   rcases Hn.mp hp' with q | q
   ·exact hk0 p q
   ·rw [Ji] at q;rw [q];exact hk
  have hnd:((ps++[(k,tk)]).map (·.1)).Nodup:=by
   rw [JJ]
   refine J2.mpr ⟨hn0,by simp,fun x hx y hy=>?_⟩
   simp at hy
   rw [hy];rintro rfl;exact hin hx
  have hlen:=iX hkeys hnd
  have hZ':Z'.length=ps.length+1:=by rw [hperm.length_eq,I0,hZl]
  have hesz:(SetTable.insertAt es (t.put j).2 (hashInt k,Value.int k tk)).size=Z'.length:=T'.size.2
  have hadd:qD ps k tk=ps++[(k,tk)]:=by unfold qD;rw [G7 hin]
  rw [hadd] at h
  rw [Ik,IS] at hlen
  have hfit:(t.put j).1.fits (SetTable.insertAt es (t.put j).2 (hashInt k,Value.int k tk)).size=true:=by
   unfold SetTable.fits
   rw [T'.fill,T'.size.1,hesz,hmask]
   rcases S.big with ⟨q,q2⟩ | ⟨q,q2⟩ <;> simp [q] <;> omega
  have hlay:layNew t es (hashInt k) (.int k tk)=(SetTable.insertAt es (t.put j).2 (hashInt k,Value.int k tk),(t.put j).1,false,false):=by
   unfold layNew
   rw [hfree]
   dsimp only
   unfold SetTable.orStandIn
   rw [hfit];rfl
  rw [hlay]
  dsimp only
  generalize ht1:(t.put j).1=t1 at *
  generalize hes1:SetTable.insertAt es (t.put j).2 (hashInt k,Value.int k tk)=es1 at *
  have hline:es1.size<=sizeLine:=by rw [hesz,hZ'];exact Hg hlen (by decide)
  refine HA (HE ?_)
  refine HA (HE ?_)
  rw [hpl]
  simp only [Iv]
  refine HA (m:=hashByValue 8 (.int k tk)) (HE ?_)
  simp only [Iv]
  refine HA (J3 S.ho S.hd ?_ hline)
  have hg:(s.heap.update a (Obj.putSet es1 t1)).get? a=some { o with data:=.set es1 (ep+1) t1 }:=by
   have:=II (Obj.putSet es1 t1) S.ho (by rw [J4 es1 t1 S.hd];rfl)
   rw [J4 es1 t1 S.hd] at this;exact this
  have hsb1:=Jn s.heap a (Obj.putSet es1 t1)
  have hfill:t1.fill=ps.length+1:=by rw [T'.fill,hZ']
  by_cases hfull:t1.tooFull=true
  ·simp only [hfull, J6, J0, Iv]
   have hm7:t.mask=7/\ps.length=4:=by
    unfold SetTable.tooFull at hfull
    rw [hfill,hmask] at hfull
    have hf:(ps.length+1) * 5 ≥ t.mask * 3:=by simpa using hfull
    rcases S.big with ⟨q,q2⟩ | ⟨q,q2⟩
    ·rw [q] at hf;exact ⟨q,by omega⟩
    ·rw [q] at hf;omega
   have hsz1:es1.size=5:=by rw [hesz,hZ',hm7.2]
   have hgr:SetTable.grown es1.size=20:=by rw [hsz1];rfl
   rw [hgr]
   obtain ⟨t2,order,Z2,er,T2,hp2,hm2,hl2,hpl2,hord⟩:=nj (t:=t1) (es:=es1) (wanted:=20) (mask:=31) (by rfl) (by rw [hsz1];decide) (fun e' he'=>by
    rw [T'.ents] at he'
    obtain ⟨p,hp',q⟩:=JC.mp (hperm'.mem_iff.mp he')
    rw [<- q]
    exact pW xS (hkeys p hp'))
   have hZ2:Z2.length=5:=by
    have:=hp2.length_eq
    simp at this
    omega
   have hes2:(order.filterMap (es1[·]?)).size=5:=by rw [T2.size.2,hZ2]
   have hrel:relayAll t1 es1 20=(order.filterMap (es1[·]?),t2,false):=by
    unfold relayAll
    rw [er]
    dsimp only
    have c1:coversAll order es1.size=true:=by
     unfold coversAll
     exact List.isPerm_iff.mpr hord
    have c2:t2.fits (order.filterMap (es1[·]?)).size=true:=by
     unfold SetTable.fits
     rw [T2.fill,T2.size.1,hes2,hm2,hZ2];rfl
    rw [c1,c2];rfl
   rw [hrel]
   dsimp only
   refine HA (HA (HE (HE ?_)))
   refine HA (J3 hg rfl ?_ (by rw [hes2];decide))
   have hg2:((s.heap.update a (Obj.putSet es1 t1)).update a (Obj.putSet (order.filterMap (es1[·]?)) t2)).get? a=some { o with data:=.set (order.filterMap (es1[·]?)) (ep+1+1) t2 }:=by
    have:=II (Obj.putSet (order.filterMap (es1[·]?)) t2) hg (by rw [J4 _ t2 rfl];rfl)
    rw [J4 _ t2 rfl] at this;exact this
   refine HE (HE ?_)
   refine h true _ (hsb1.trans (Jn _ a _)) ⟨_,_,_,t2,Z2,⟨hg2,S.ex,rfl,T2,by rw [hpl2];exact hpl,by rw [hl2,hled];exact S.led,.inr ⟨hm2,by omega⟩,?_⟩,hkeys,hnd⟩
   refine hp2.trans ?_
   rw [T'.ents];exact hperm'
  ·have hf : t1.tooFull = false := by simpa using hfull
   simp only [hf,Bool.and_false,IZ,Iu]
   refine HE (HE ?_)
   refine h true _ hsb1 ⟨_,_,_,t1,Z',⟨hg,S.ex,rfl,T',hpl,by rw [hled];exact S.led,?_,hperm'⟩,hkeys,hnd⟩
   unfold SetTable.tooFull at hf
   rw [hfill,hmask] at hf
   have hf':¬ ((ps.length+1) * 5 ≥ t.mask * 3):=by simpa using hf
   rw [hmask,hZ']
   rcases S.big with ⟨q,q2⟩ | ⟨q,q2⟩
   ·rw [q] at hf' ⊢;exact .inl ⟨rfl,by omega⟩
   ·rw [q] at hf' ⊢;exact .inr ⟨rfl,by omega⟩
end
end RS
namespace L2
open PySem PySem.Spec PyProof.Rows
theorem cW.thr {P:Program}{w:World}{H:Hp}{h:Heap}{a:Addr}{o:HO} (x:cW P w H h a o):∃ ob,h.get? a=some ob:=by
 cases o with
 | lst xs=>obtain ⟨_,_,_,_,e⟩:=x;exact ⟨_,e⟩
 | tup xs=>obtain ⟨_,_,_,ob,e,_⟩:=x;exact ⟨_,e⟩
 | dK kvs=>obtain ⟨_,_,_,_,o,_,_,e,_⟩:=x;exact ⟨_,e⟩
 | dT kvs=>obtain ⟨_,_,_,_,o,_,_,e,_⟩:=x;exact ⟨_,e⟩
 | set S n=>obtain ⟨o,_,_,_,e,_⟩:=x;exact ⟨_,e⟩
 | ins C dx fs=>obtain ⟨_,_,_,e,_⟩:=x;exact ⟨_,e⟩
 | own y=>obtain ⟨_,e⟩:=x;exact ⟨_,e⟩
 | xd fs=>obtain ⟨_,⟨_,_,_,e,_⟩,_⟩:=x;exact ⟨_,e⟩
 | rng lo hi=>obtain ⟨_,_,_,e⟩:=x;exact ⟨_,e⟩
 | frz ob u=>obtain ⟨e,_⟩:=x;exact ⟨_,e⟩
 | tbl ps=>exact ⟨_,show h.get? a=some _ from x⟩
 | met f y=>exact ⟨_,show h.get? a=some _ from x⟩
 | ext φ=>obtain ⟨_,⟨_,e⟩,_⟩:=x;exact ⟨_,e⟩
theorem BB {fs:List Addr}{H0 H':Hp}{h0 h1 h' B:Heap} (u:Un fs [] H0 H' h0 h1) (hB:∀ b o,h0.get? b=some o->b ∉ fs->∃ o',B.get? b=some o') (k1:B.StaysIn h1) (k2:B.StaysIn h') (up:h1.UpToSlots h')
  (hf:∀ b∈fs,H0 b=none/\∃ o,h0.get? b=some o/\∀ vs,o.data≠.fields vs):Un fs [] H0 H' h0 h' where
 keep:=fun b o e n hb hx=>by
  obtain ⟨o',q⟩:=hB b o e hb
  have q1:=k1 b o' q
  rw [u.keep b o e n hb hx] at q1
  cases q1
  exact k2 b o q
 slot:=fun b o e n hb hx=>by
  obtain ⟨sl,q⟩:=u.slot b o e n hb hx
  obtain ⟨_,o1,e1,nf⟩:=hf b hb
  rw [e] at e1
  cases e1
  obtain ⟨sl',q'⟩:=up b _ q nf
  exact ⟨sl',q'⟩
 free:=u.free
 there:=fun b o e hx=>by
  by_cases hb:b∈fs
  ·obtain ⟨n, o1, e1, nf⟩ := hf b hb
   rw [e] at e1
   cases e1
   obtain ⟨sl,q⟩:=u.slot b o e n hb hx
   obtain ⟨sl',q'⟩:=up b _ q nf
   exact ⟨_,q'⟩
  ·obtain ⟨o', q⟩ := hB b o e hb
   exact ⟨o',k2 b o' q⟩
 tups:=u.tups
 frzs:=u.frzs
 tbls:=u.tbls
def FV (P:Program) (w:World):qq:=fun outer H s E e s'=>
 ∃ ea C a0 B H',e=.ref ea/\s'.os=s.os/\AllBare s'.gens/\Un (lM outer) [] H H' s.heap s'.heap/\kK P w H' B/\Heap.FlyingW B outer ea (.ref C) a0 s'.heap/\H' ea=none /\
  (∀ b o,s.heap.get? b=some o->b ∉ lM outer->∃ o',B.get? b=some o')/\E (.ref C) (some ea) H'
section
variable {P:Program}{w:World}{K:W.Frag}{mg:Str->Option Value}{base:Heap}{N:List Str}{qual:Str}{scope:Scope}{f:Addr}{cdv:Value}{A:Around}{outer:List Env}{s0:Shared}{H0:Hp}{E:XK}
abbrev zr (P:Program) (w:World) (K:W.Frag) (mg:Str->Option Value) (base:Heap) (N:List Str) (qual:Str) (scope:Scope) (f:Addr) (cdv:Value) (A:Around) (outer:List Env) (s0:Shared) (H0:Hp) (E:XK):Cx:=mn (FV P w) P w K mg base N qual scope f cdv A outer s0 H0 E
theorem Bl {b:Addr} (hb:b∈lM (envOfC qual scope s0.heap.objs.size f cdv::outer)):b=s0.heap.objs.size\/b∈lM outer:=by
 obtain ⟨env,he,hf⟩:=HK.mp hb
 rcases Hl.mp he with rfl | he
 ·exact .inl (G8 hf).symm
 ·exact .inr (HK.mpr ⟨env,he,hf⟩)
theorem so {pins:List (Addr × Obj)}{σ:St}{H:Hp}{s:Shared} (I:aI (zr P w K mg base N qual scope f cdv A outer s0 H0 E) pins σ H s) {b:Addr}{o:Obj} (e:s0.heap.get? b=some o) (hb:b ∉ lM outer) :
  (∃ o',s.heap.get? b=some o')/\b ∉ lM (envOfC qual scope s0.heap.objs.size f cdv::outer):=
 ⟨I.base.there b o e (fun z => by cases z), fun z => by
  rcases Bl z with z | z
  ·exact absurd (G9 e) (by rw [z];exact Hc _)
  ·exact hb z⟩
theorem v3 {pins:List (Addr × Obj)}{σ:St}{H:Hp}{s:Shared} (I:aI (zr P w K mg base N qual scope f cdv A outer s0 H0 E) pins σ H s):∀ b∈lM outer,H0 b=none/\∃ o,s0.heap.get? b=some o/\∀ vs,o.data≠.fields vs:=
 fun b hb=>⟨I.ok.frf b hb,(I.ok.funs.mem hb).2⟩
theorem DN {pins:List (Addr × Obj)}{σ:St}{H:Hp}{s s':Shared}{ea C:Addr}{vs:List Value} (I:aI (zr P w K mg base N qual scope f cdv A outer s0 H0 E) pins σ H s) (hs:s'={ s with heap:=s'.heap })
  (hx:Heap.MadeExcOf s.heap s'.heap ea (.ref C) vs) (q:H ea=none->E (.ref C) (some ea) H):(zr P w K mg base N qual scope f cdv A outer s0 H0 E).xe (.ref ea) s':=by
 have hn:H ea=none:=by
  cases z:H ea with
  | none=>rfl
  | some u=>
   obtain ⟨o,e⟩:=(I.hok ea u z).thr
   rw [hx.new] at e;cases e
 have hin:∀ env∈(envOfC qual scope s0.heap.objs.size f cdv::outer),∀ b,env.frame=some b->b∈lM (envOfC qual scope s0.heap.objs.size f cdv::outer):=fun env he b hb=>HK.mpr ⟨env,he,hb⟩
 have hst:(W.hideAll s.heap (lM (envOfC qual scope s0.heap.objs.size f cdv::outer))).StaysIn s.heap:=fun b o q=>W.of_hideAll _ q
 have hB:∀ b o,s0.heap.get? b=some o->b ∉ lM outer->∃ o',(W.hideAll s.heap (lM (envOfC qual scope s0.heap.objs.size f cdv::outer))).get? b=some o':=fun b o e hb=>by
  obtain ⟨⟨o1,e1⟩,nb⟩:=so I e hb
  exact ⟨o1,W.hideAll_get _ e1 nb⟩
 have nfr:∀ c u,H c=some u->c ∉ lM (envOfC qual scope s0.heap.objs.size f cdv::outer):=fun c u e z=>by rw [I.stkFree c z] at e;cases e
 have hok:kK P w H (W.hideAll s.heap (lM (envOfC qual scope s0.heap.objs.size f cdv::outer))):=fun b u e=>
  (I.hok b u e).stay (fun c v hc r => W.hideAll_get _ r (by
   rcases hc with rfl | hc
   ·exact nfr _ _ e
   ·exact nfr _ _ hc)) (fun _ r=>r) fun _ _ r=>r
 show wpAny _ _ (leaving _ (.ref ea)) _ _ s'
 refine wpAny_leaves_madeW I.ok.frames rfl hst (W.funFrames_hide I.stack hin) hx fun h' t fl _ _ up=>?_
 rw [hs]
 exact ⟨ea,C,.ref t,_,H,rfl,I.os,I.bare,BB I.base hB hst fl.1 ((Heap.UpToSlots.of_keeps hx.keeps).trans up) (v3 I),hok,fl,hn,hB,q hn⟩
def ve (mg:Str->Option Value) (base:Heap) (c:Str) (C:Addr):Prop:=∃ bm newId B initId,OwnCls c C bm newId mg base/\ExcBaseFacts B newId initId bm
theorem vD {c:Str}{C:Addr}{np cpos pos:Pos} (O:ve mg base c C) (hg:Gl (zr P w K mg base N qual scope f cdv A outer s0 H0 E) c) (hd:(c == ("__debug__" : Str))=false) :
  PS (zr P w K mg base N qual scope f cdv A outer s0 H0 E) (.Raise (some (.Call (.Name c np) [] [] cpos)) none pos) (fun _ _ H=>∀ ea,H ea=none->E (.ref C) (some ea) H):=by
 intro pins s σ H D I q
 obtain ⟨bm,newId,B,initId,O,FB⟩:=O
 obtain ⟨tl,Nn,nm,qn,bs,hdct,sn,sub,ab,col,dd,k0,k1,k2,k3,k5,mN,hC,hN,hni,T⟩:=O.obj
 refine wpAny_Raise_call_subT (C:=C) (nm:=nm) (q:=qn) (N:=Nn) (bs:=bs) (bm:=tl) (hdct:=hdct) (sn:=sn) (sub:=sub) (ab:=ab) (col:=col) (dd:=dd) (k0:=k0) (k1:=k1) (k2:=k2) (k3:=k3) (k5:=k5)
  FB (mN:=mN) (T.hasType FB.hasBase) (I.ok.hd rfl) rfl hni (ke I hg O.bound ⟨rfl,?_⟩ hd)
 exact evalArgs_empty ⟨rfl,Jh _,I.bk _ _ hC,hN.keeps I.bk,T.keeps I.bk,fun h' e hm=>DN I rfl hm (q e)⟩
end
structure Cx.Fn (X:Cx):Prop where
 ex:X.ex=[]
 stk:X.stack=X.env::X.outer
 fr:X.env.frame=some X.env.locals
def FI (X:Cx) (pins:List (Addr × Obj)) (E:XK) (e:Value) (s':Shared):Prop:=
 ∃ ea C a0 B σ H',e=.ref ea/\aI X pins σ H' s'/\kK X.prog X.w H' B/\Heap.FlyingW B X.stack ea (.ref C) a0 s'.heap/\H' ea=none /\
  (∀ b o,X.s₀.heap.get? b=some o->b ∉ X.fs->∃ o',B.get? b=some o')/\(∀ p∈X.pn++pins,∃ o',B.get? p.1=some o')/\E (.ref C) (some ea) H'
abbrev Cx.tri (X:Cx) (pins:List (Addr × Obj)) (E:XK):Cx:={ X with pn:=X.pn++pins,xe:=FI X pins E }
theorem Cx.Ok.tri {X:Cx}{pins:List (Addr × Obj)}{E:XK} (ok:X.Ok):(X.tri pins E).Ok:=
 ⟨ok.mod,ok.kind,ok.glob,ok.blt,ok.above,ok.inj,ok.has,ok.cab,ok.hd,ok.frames,ok.stk,ok.exf,ok.bs,ok.bsz,ok.noex,ok.exfs,ok.funs,ok.frf⟩
theorem Cx.Ok.untri {X:Cx}{pins:List (Addr × Obj)}{E:XK} (ok:(X.tri pins E).Ok):X.Ok:=
 ⟨ok.mod,ok.kind,ok.glob,ok.blt,ok.above,ok.inj,ok.has,ok.cab,ok.hd,ok.frames,ok.stk,ok.exf,ok.bs,ok.bsz,ok.noex,ok.exfs,ok.funs,ok.frf⟩
section
variable {X:Cx}{pins pins':List (Addr × Obj)}{σ:St}{H:Hp}{s:Shared}{E:XK}
theorem aI.tri (I:aI X pins σ H s):aI (X.tri pins E) [] σ H s:=
 ⟨I.ok.tri,I.os,I.bare,I.base,I.loc,I.cell,I.free,I.freeC,fun p hp=>I.pin p (by simpa using hp),I.hok,I.len⟩
theorem aI.untri (I:aI (X.tri pins E) pins' σ H s):aI X pins σ H s:=
 ⟨I.ok.untri,I.os,I.bare,I.base,I.loc,I.cell,I.free,I.freeC,fun p hp=>I.pin p (Ho _ hp),I.hok,I.len⟩
theorem SP.untri {D:kO}{f:Flow}{s':Shared} (h:SP (X.tri pins E) pins' D f s'):SP X pins D f s':=by
 cases f with
 | next=>obtain ⟨σ',H',I,q⟩:=h;exact ⟨σ',H',I.untri,q⟩
 | brk=>obtain ⟨σ',H',I,q⟩:=h;exact ⟨σ',H',I.untri,q⟩
 | cont=>obtain ⟨σ',H',I,q⟩:=h;exact ⟨σ',H',I.untri,q⟩
 | ret u=>obtain ⟨v,σ',H',I,r,q⟩:=h;exact ⟨v,σ',H',I.untri,r,q⟩
end
theorem uR {X:Cx} (F:X.Fn) {b:Addr} (hb:b∈lM X.stack):b=X.env.locals\/b∈X.fs:=by
 rw [F.stk] at hb
 obtain ⟨env,he,hf⟩:=HK.mp hb
 rcases Hl.mp he with rfl | he
 ·rw [F.fr] at hf;exact .inl (G8 hf).symm
 ·exact .inr (HK.mpr ⟨env,he,hf⟩)
theorem Fu {X:Cx}{pins:List (Addr × Obj)}{E:XK} (F:X.Fn):jT (FV X.prog X.w) (X.tri pins E) E:=by
 intro pins' σ H s e s' I hc
 obtain ⟨ea,C,a0,B,H',rfl,os,bare,un,hok,fl,hn,bk,q⟩:=hc
 have J:=I.call' os un (hok.kept fl.1) bare (ch:=[]) (fun b z=>absurd z (by simp))
 refine ⟨ea,C,a0,B,σ,H',rfl,J.untri,hok,fl,hn,fun b o e hb=>?_,fun p hp=>?_,q⟩
 ·obtain ⟨o1, e1⟩ := I.base.there b o e (by show b ∉ X.ex; rw [F.ex]; exact fun z => by cases z)
  refine bk b o1 e1 fun z=>?_
  rcases uR F z with z | z
  ·have := I.ok.above
   rw [z] at e
   exact absurd (G9 e) (Nat.not_lt.mpr this)
  ·exact hb z
 ·obtain ⟨p1, p2, p3, p4, p5⟩ := I.pin p (Ho _ hp)
  refine bk p.1 p.2 p1 fun z=>?_
  rcases uR F z with z | z
  ·exact p3 z
  ·exact p4 z
theorem uZ {h h':Heap}{c:Addr}{v:Option Value} (x:h.IsCell c v) (up:h.UpToSlots h'):h'.IsCell c v:=by
 obtain ⟨o,ho,hd⟩:=x
 obtain ⟨sl,q⟩:=up c o ho fun vs z=>by rw [hd] at z;cases z
 exact ⟨_,q,hd⟩
section
variable {X:Cx}{pins:List (Addr × Obj)}{σ:St}{H:Hp}{s:Shared}{h' B:Heap}{ea C:Addr}{a0:Value}
theorem aI.up (F:X.Fn) (I:aI X pins σ H s) (hok:kK X.prog X.w H B) (c1:∀ b o,X.s₀.heap.get? b=some o->b ∉ X.fs->∃ o',B.get? b=some o') (c2:∀ p∈X.pn++pins,∃ o',B.get? p.1=some o')
  (k1:B.StaysIn s.heap) (k2:B.StaysIn h') (up:s.heap.UpToSlots h'):aI X pins σ H { s with heap:=h' }:=by
 have hb:Un X.fs [] X.H₀ H X.s₀.heap h':=BB (by rw [<- F.ex];exact I.base) c1 k1 k2 up fun b hb=>⟨I.ok.frf b hb,(I.ok.funs.mem hb).2⟩
 refine ⟨I.ok,I.os,I.bare,by rw [F.ex];exact hb,?_,fun x c e=>?_,I.free,I.freeC,fun p hp=>?_,hok.kept k2,I.len⟩
 ·obtain ⟨m, hn, hl⟩ := I.loc
  refine ⟨m,up.ns hn,fun i x v a b c=>?_⟩
  obtain ⟨u,r,l⟩:=hl i x v a b c
  refine ⟨u,r,?_⟩
  rcases l with l | ⟨k,c,e,hc⟩
  ·exact .inl l
  ·exact .inr ⟨k,c,e,uZ hc up⟩
 ·obtain ⟨v, hv⟩ := I.cell x c e
  exact ⟨v,uZ hv up⟩
 ·obtain ⟨p1, p2⟩ := I.pin p hp
  obtain ⟨o',e⟩:=c2 p hp
  have e1:=k1 _ _ e
  rw [p1] at e1
  cases e1
  exact ⟨k2 _ _ e,p2⟩
def qE (ea C:Addr):HO:=.ext fun h=>∃ oe,h.get? ea=some oe/\oe.cls=.ref C
theorem Un.track {fs ex:List Addr}{H0:Hp}{h0 h:Heap}{o:HO} (u:Un fs ex H0 H h0 h) (hn:h0.get? ea=none) (hH:H ea=none):Un fs ex H0 (bT H ea o) h0 h where
 keep:=u.keep
 slot:=u.slot
 free:=fun b ob e n hx=>by rw [aY fun z=>by rw [z,hn] at e;cases e];exact u.free b ob e n hx
 there:=u.there
 tups:=fun b xs q=>by have:=u.tups b xs q;rw [aY (bI this hH)];exact this
 frzs:=fun b ob xs q=>by have:=u.frzs b ob xs q;rw [aY (bI this hH)];exact this
 tbls:=fun b ps q=>by obtain ⟨m,this⟩:=u.tbls b ps q;exact ⟨m,by rw [aY (bI this hH)];exact this⟩
theorem aI.track (F:X.Fn) (I:aI X pins σ H s) (c1:∀ b o,X.s₀.heap.get? b=some o->b ∉ X.fs->∃ o',B.get? b=some o') (c2:∀ p∈X.pn++pins,∃ o',B.get? p.1=some o')
  (fl:Heap.FlyingW B X.stack ea (.ref C) a0 s.heap) (hH:H ea=none):aI X pins σ (bT H ea (qE ea C)) s:=by
 obtain ⟨f1,f2,f3,oe,vs,T,oT,ts,he,⟨hc,_⟩,hd,_⟩:=fl
 have hn:X.s₀.heap.get? ea=none:=by
  cases z:X.s₀.heap.get? ea with
  | none=>rfl
  | some o=>
   by_cases hf:ea∈X.fs
   ·obtain ⟨_, o1, e1, nf⟩ := I.ok.funs.mem hf
    obtain ⟨sl,e2⟩:=I.base.slot ea o1 e1 (I.ok.frf ea hf) hf (by rw [F.ex];exact fun z=>by cases z)
    rw [he] at e2
    cases e2
    exact absurd hd (nf vs)
   ·obtain ⟨o', e⟩ := c1 ea o z hf
    rw [f2] at e;cases e
 have nl:X.env.locals≠ea:=fun z=>by
  obtain ⟨m,⟨o',es,ep,ho',hd',_⟩,_⟩:=I.loc
  rw [z,he] at ho';cases ho';rw [hd] at hd';cases hd'
 refine ⟨I.ok,I.os,I.bare,I.base.track hn hH,I.loc,I.cell,by rw [aY nl];exact I.free,fun x c e=>?_,fun p hp=>?_,fun b u q=>?_,I.len⟩
 ·rw [aY fun z => ?_]
  ·exact I.freeC x c e
  ·obtain ⟨v, o', ho', hd'⟩ := I.cell x c e
   rw [z,he] at ho';cases ho';rw [hd] at hd';cases hd'
 ·obtain ⟨p1, p2, p3, p4, p5⟩ := I.pin p hp
  refine ⟨p1,?_,p3,p4,p5⟩
  rw [aY fun z=>?_]
  ·exact p2
  ·obtain ⟨o', e⟩ := c2 p hp
   rw [z,f2] at e;cases e
 ·by_cases hb : b = ea
  ·subst hb
   rw [bG] at q
   cases q
   refine ⟨⟨oe,he,hc⟩,⟨oe,he⟩,fun h1 h2 a k=>?_⟩
   obtain ⟨o,e,c⟩:=a
   exact ⟨o,k o e,c⟩
  ·rw [aY hb] at q
   exact (I.hok b u q).stay (fun _ _ _ r=>r) (fun c r=>by rw [aY (bI r hH)];exact r) fun c xs r=>by rw [aY (bI r hH)];exact r
end
abbrev Cx.hnd (X:Cx) (ea:Addr):Cx:={ X with A:=X.A.mark (some (.ref ea)),calm:=false,xe:=fun _ _=>False }
theorem aI.hnd {X:Cx}{pins:List (Addr × Obj)}{σ:St}{H:Hp}{s:Shared}{ea:Addr} (I:aI X pins σ H s):aI (X.hnd ea) pins σ H s:=
 ⟨⟨I.ok.mod, I.ok.kind, I.ok.glob, I.ok.blt, I.ok.above, I.ok.inj, I.ok.has, I.ok.cab, (fun z => by cases z), I.ok.frames, I.ok.stk, I.ok.exf, I.ok.bs, I.ok.bsz, I.ok.noex, I.ok.exfs, I.ok.funs, I.ok.frf⟩,
   I.os,I.bare,I.base,I.loc,I.cell,I.free,I.freeC,I.pin,I.hok,I.len⟩
theorem aI.unhnd {X:Cx}{pins:List (Addr × Obj)}{σ:St}{H:Hp}{s:Shared}{ea:Addr} (ok:X.Ok) (I:aI (X.hnd ea) pins σ H s):aI X pins σ H s:=
 ⟨ok,I.os,I.bare,I.base,I.loc,I.cell,I.free,I.freeC,I.pin,I.hok,I.len⟩
theorem aI.forget {X:Cx}{pins:List (Addr × Obj)}{σ:St}{H:Hp}{s:Shared}{h':Heap}{t':Nat}{m:Str->Option Value} (I:aI X pins σ H s) (hn:h'.Ns X.env.locals m) (sb:Heap.SameBut X.env.locals s.heap h') :
  aI X pins (List.replicate X.N.length none) H { s with heap:=h',toks:=t' }:=by
 have ne:∀ b o,X.s₀.heap.get? b=some o->b≠X.env.locals:=fun b o e z=>by
  have:=I.ok.above
  rw [z] at e
  exact absurd (G9 e) (Nat.not_lt.mpr this)
 have same:∀ b,b≠X.env.locals->h'.get? b=s.heap.get? b:=fun b hb=>sb.2 b hb
 refine ⟨I.ok,I.os,I.bare,⟨fun b o e n hb hx=>?_,fun b o e n hb hx=>?_,I.base.free,fun b o e hx=>?_,I.base.tups,I.base.frzs,I.base.tbls⟩,⟨m,hn,fun i x v _ e=>?_⟩,fun x c e=>?_,I.free,I.freeC,fun p hp=>?_,fun b u q=>?_,by simp⟩
 ·rw [same b (ne b o e)];exact I.base.keep b o e n hb hx
 ·rw [same b (ne b o e)];exact I.base.slot b o e n hb hx
 ·rw [same b (ne b o e)];exact I.base.there b o e hx
 ·rw [Ie] at e
  split at e <;> cases e
 ·obtain ⟨v, o, ho, hd⟩ := I.cell x c e
  exact ⟨v,o,by rw [same c (I.cne x c e)];exact ho,hd⟩
 ·obtain ⟨p1, p2, p3, p4⟩ := I.pin p hp
  exact ⟨by rw [same _ p3];exact p1,p2,p3,p4⟩
 ·have nb : ∀ c u, H c = some u -> c ≠ X.env.locals := fun c u e z => by rw [z, I.free] at e; cases e
  exact (I.hok b u q).stay (fun c v hc r=>by
   rw [same c]
   ·exact r
   ·rcases hc with rfl | hc
    ·exact nb _ _ q
    ·exact nb _ _ hc) (fun _ r=>r) fun _ _ r=>r
theorem C6 {X:Cx} (F:X.Fn) {r n:Str}{R:Addr}{i:Nat}{np hpos pos:Pos}{body suite:List Stmt}{b0:Stmt}{tb:XK->TS}{th:TS}
  (hN:X.N.Nodup) (hi:X.N[i]?=some n) (hx:zo X.env.scope n) (hl:X.env.kindOf n=some .local) (hg:Gl X r) (hm:X.mg r=some (.ref R)) (hd:(r == ("__debug__" : Str))=false)
  (hb:∀ pins E,hZ (X.tri pins E) body (tb E)) (hs:∀ ea,hZ (X.hnd ea) (b0::suite) th) :
  PS X (.Try body [.ExceptHandler (some (.Name r np)) (some n) (b0::suite) hpos] [] [] pos) (fun D σ H=>∃ E:XK,(∀ C ea H',E (.ref C) (some ea) H'->H' ea=none->W.exmOne X.K (.ref C) (.ref R)=some true /\
   ∀ σ':St,σ'.length=X.N.length->th { nx:=fun _ _=>False,rt:=D.rt } (σ'.set i (some (.ref ea))) (bT H' ea (qE ea C)))/\tb E D σ H):=by
 intro pins s σ H D I hq
 obtain ⟨E,hE,hq⟩:=hq
 refine wpAny_Try_except (Hu (hb pins E [] s σ H D I.tri hq) (fun f s1 h1=>?_) fun e s1 h1=>?_)
 ·cases f with
  | next=>exact Hy (SP.untri h1)
  | brk=>exact SP.untri h1
  | cont=>exact SP.untri h1
  | ret u=>exact SP.untri h1
 ·obtain ⟨ea, C, a0, B, σ1, H1, rfl, I1, hok, fl, hn, c1, c2, q⟩ := h1
  obtain ⟨q1,q2⟩:=hE C ea H1 q hn
  have fl0:=fl
  rw [F.stk] at fl
  refine wpAny_looks_onW (by rw [<- F.stk];exact I.ok.frames) F.fr fl fun h4 held4 up4=>?_
  refine wpAny_landsW held4 fun h5 fl5 up5=>?_
  have fl5':=fl5
  rw [<- F.stk] at fl5'
  have I5:=I1.up F hok c1 c2 fl0.1 fl5.1 (up4.trans up5)
  have J5:aI (X.hnd ea) pins σ1 H1 { s1 with heap:=h5 }:=I5.hnd
  refine wpAny_handleBy_cons (codeAny_handlers_test (ke J5 hg hm ?_ hd)) (by intro q;cases q)
  obtain ⟨ob,hob,hobc⟩:=fl5.there
  have LT:W.Looks (model X.prog X.w) h5 (typeOf (.ref ea)) (.ref C):=by
   rw [<- hobc]
   exact (W.Looks.ld hob).andThen .now
  refine (W.exm_one J5.kIn LT q1).here (codeAny_handlers_suite_as ?_)
  refine lands_againW fl5 fun h6 fl6 up6=>?_
  have fl6':=fl6
  rw [<- F.stk] at fl6'
  have I6:=I5.up F hok c1 c2 fl5.1 fl6.1 up6
  have I6':=I6.track F c1 c2 fl6' hn
  refine mT (v:=.ref ea) I6' hN hi hx rfl (fun s7 I7=>?_) (.inr hl)
  refine Hu (hs ea pins s7 _ _ _ I7.hnd (q2 σ1 I1.len)) (fun f s8 h8=>?_) fun _ _ z=>False.elim z
  cases f with
  | next=>obtain ⟨_,_,_,z⟩:=h8;exact False.elim z
  | brk=>obtain ⟨_,_,_,z⟩:=h8;exact False.elim z
  | cont=>obtain ⟨_,_,_,z⟩:=h8;exact False.elim z
  | ret u=>
   obtain ⟨v,σ',H',I8,rv,z⟩:=h8
   have I8':=I8.unhnd I.ok
   obtain ⟨m,hn8,_⟩:=I8'.loc
   refine wpAny_nameGoes hl hn8 (by rw [I.ok.kind];rfl) fun h9 m9 hn9 sb=>?_
   exact ⟨v,_,H',I8'.forget hn9 sb,rv,z⟩
structure dr (k:Nat) (A:Around):Prop where
 dp:A.depth+3 * k+5<recursionLimit
 un:A.units+16 * k+200<cLine
 gd:A.guards=some []
theorem eP.h {k:Nat}{A:Around} (r:eP k A):dr k A:=⟨r.dp,r.un,r.gd⟩
theorem dr.mark {k:Nat}{A:Around} (r:dr k A) (e:Option Value):dr k (A.mark e):=⟨r.dp,r.un,r.gd⟩
theorem dr.mono {j k:Nat}{A:Around} (r:dr k A) (h:j<=k):dr j A:=⟨by have:=r.dp;omega,by have:=r.un;omega,r.gd⟩
theorem dr.deeper {k:Nat}{A:Around} (r:dr (k+1) A) (env:Env):dr k (A.deeper env):=
 ⟨by have:=r.dp;show A.depth+1+3 * k+5<_;omega,by have:=r.un;show A.units+3+16 * k+200<_;omega,r.gd⟩
theorem dr.depth {k:Nat}{A:Around} (r:dr k A):A.depth<recursionLimit:=by have:=r.dp;omega
theorem dr.units {k:Nat}{A:Around} (r:dr k A):A.units+64<cLine:=by have:=r.un;omega
structure qR (P:Program) (w:World) (K:W.Frag) (mg:Str->Option Value) (base:Heap) (CX:qq) (k:Nat) (f:Addr) (fd:FuncData) (ps:List Str) (sp:Sp):Prop where
 len:∀ vs H Q E,sp vs H Q E->vs.length=ps.length
 run:∀ (A:Around) (outer:List Env) (s:Shared) (H:Hp) (args:Args) (us:List Value) (vs:List V) (Q:VK) (E:XK),dr k A->vf P w K mg base A outer s H->BindsTo s fd args (ps.zip us)->aU vs us->sp vs H Q E ->
  codeAny (model P w) A (.call (.ref f) args) (CR CX outer P w H s Q E) s
section
variable {X:Cx}{CX:qq}{k:Nat}{f C:Addr}{fd:FuncData}{ps:List Str}{sp:Sp}{dvs:List V}{ds:List Value}{E:XK}{x m:Str}{p pos apos:Pos}{e o:Expr}{es:List Expr}{ta:TE}{t:TA}
theorem Au {pins:List (Addr × Obj)}{σ:St}{H:Hp}{s:Shared}{Q:VK}{us:List Value}{vs:List V} (F:qR X.prog X.w X.K X.mg X.base CX k f fd ps sp) (hr:dr k X.A) (hb:ff X.K fd ps ds) (hd:aU dvs ds) (hx:jT CX X E)
  (I:aI X pins σ H s) (r:aU vs us) (h:sp (vs++dvs) H Q E):wpAny (model X.prog X.w) X.A (call (.ref f) us) (EP X pins σ Q) X.xe s:=by
 have r2:aU (vs++dvs) (us++ds):=r.append hd
 have hl:(us++ds).length=ps.length:=by rw [<- r2.length];exact F.len _ _ _ _ h
 refine wpAny_call (HU (F.run X.A X.stack s H ⟨us,[]⟩ (us++ds) (vs++dvs) Q E hr I.env0 (hb s us I.kIn hl) r2 h) fun r s' hq=>?_)
 cases r with
 | error e=>exact hx pins σ H s e s' I hq
 | ok fl=>
  cases fl with
  | ret u=>exact I.after hq
  | next=>exact False.elim hq
  | brk=>exact False.elim hq
  | cont=>exact False.elim hq
theorem yG (F:qR X.prog X.w X.K X.mg X.base CX k f fd ps sp) (hr:dr k X.A) (hg:Gl X x) (hm:X.mg x=some (.ref f)) (hk:W.keepIn X.K (.ref f)=true) (hb:ff X.K fd ps ds) (hd:aU dvs ds) (hx:jT CX X E)
  (ha:PA X (e::es) t) (hdb:(x == ("__debug__" : Str))=false:=by decide) (he:starEach (e::es) X.env=(false,eval e X.env)::starEach es X.env:=by rfl) (hpl:(backTo pos (starEach es X.env)).any (·.1)=false:=by rfl) :
  PE X (.Call (.Name x p) (e::es) [] pos) (BD sp dvs E t):=by
 intro pins s σ H Q I h
 refine HV (ke I hg hm ?_ hdb)
 refine W.callWith_K (h₀:=X.base) I.ok.mod.kin hk (dD (ha pos pins s σ H _ I h) fun us s1 ⟨vs,H1,I1,r,q⟩=>⟨I1.kIn,?_⟩) he hpl
 exact Au F hr hb hd hx I1 r q
end
def mC (CX:qq) (P:Program) (w:World) (K:W.Frag) (mg:Str->Option Value) (base:Heap) (N:List Str) (qual:Str) (scope:Scope) (f:Addr) (cd:Value) (A:Around) (outer:List Env) (s:Shared) (H:Hp) (E:XK):Cx where
 prog:=P
 w:=w
 K:=K
 mg:=mg
 base:=base
 A:=A.deeper (envOfC qual scope s.heap.objs.size f cd)
 N:=N
 s₀:=s
 H₀:=H
 env:=envOfC qual scope s.heap.objs.size f cd
 outer:=outer
 stack:=envOfC qual scope s.heap.objs.size f cd::outer
 ex:=[]
 calm:=false
 fn:=fun _=>true
 pn:=[]
 xe:=fun e s'=>wpAny (model P w) (A.deeper (envOfC qual scope s.heap.objs.size f cd)) (leaving (envOfC qual scope s.heap.objs.size f cd) e) (fun _ s''=>CX outer H s E e s'') (fun e' s''=>CX outer H s E e' s'') s'
theorem tS {CX:qq}{P:Program}{w:World}{K:W.Frag}{mg:Str->Option Value}{base:Heap}{N ps:List Str}{qual:Str}{scope:Scope}{f:Addr}{cd:Value}{A:Around}{outer:List Env}{s s1:Shared}{H:Hp}{E:XK}{us:List Value}{vs:List V}
  (S:aW N ps scope) (e0:vf P w K mg base A outer s H) (hl:vs.length=ps.length) (r:aU vs us)
  (x:InCallC s s.heap.objs.size (bindL (envOfC qual scope s.heap.objs.size f cd).kindOf (ps.zip us) fun _=>none) (cellsFrom (s.heap.objs.size+1) scope.names []) (bindC (envOfC qual scope s.heap.objs.size f cd).kindOf (ps.zip us) fun _=>none) s1) :
  aI (mC CX P w K mg base N qual scope f cd A outer s H E) [] (start N vs) H s1:=by
 have hpl:ps.length<=N.length:=by have:=Hx List.length S.pre;rw [HZ] at this;omega
 obtain ⟨h1,tk,rfl,hk⟩:=x.done
 have noA:∀ b:Addr,b ∉ (mC CX P w K mg base N qual scope f cd A outer s H E).ex:=fun b z=>absurd (show b∈([]:List Addr) from z) (by simp)
 refine ⟨⟨e0.mod,S.kind,rfl,rfl,HI _,fun y z c h1 h2=>?_,fun y hy=>?_,fun y c _ h=>?_,(fun z=>by cases z),Around.frames_deeper e0.frames,.inr ⟨rfl,rfl⟩,fun b z=>absurd z (noA b),e0.bs,e0.bsz,fun b _ _=>noA b,fun b z=>absurd z (noA b),e0.funs,e0.frf⟩,
  rfl,e0.bare,Un.kept hk,⟨_,x.toInCall.ns,fun i y v h1 h2 h3=>?_⟩,fun y c h=>⟨_,x.cell y c h⟩,e0.hok.fresh (HI _),fun y c h=>?_,fun p hp=>absurd (show p∈([]:List (Addr × Obj)) from hp) (by simp),e0.hok.kept hk,?_⟩
 ·exact name_of_addr x.apart (Ib h1) (Ib h2)
 ·have hy : scope.names.lookup y = some .cell \/ scope.names.lookup y = some .free := hy
  rcases hy with hy | hy
  ·exact kr hy
  ·exact absurd rfl (S.nofree _ (Ib hy))
 ·exact Hh (x.above y c (Ib h))
 ·have hi:i<vs.length:=by
   unfold start at h2
   by_cases hi:i<vs.length
   ·exact hi
   ·rw [Ic (by simpa using hi)] at h2
    rw [Ie] at h2
    split at h2 <;> cases h2
  have ha:vs[i]?=some v:=by
   unfold start at h2
   rw [Ig (by simpa using hi),Ih] at h2
   cases e:vs[i]? with
   | none=>rw [e] at h2;cases h2
   | some a=>rw [e] at h2;cases h2;rfl
  obtain ⟨u,hu,rv⟩:=r.get ha
  have hp:ps[i]?=some y:=by
   rw [<- S.pre,Ii (by omega)];exact h1
  have ndP:ps.Nodup:=by rw [<- S.pre];exact S.nd.sublist (List.take_sublist _ _)
  refine ⟨u,rv,?_⟩
  rcases S.par y (Ij hp) with k | k
  ·exact .inl ⟨k,lh ndP hp hu k⟩
  ·obtain ⟨c, e⟩ := kr (n := s.heap.objs.size + 1) k
   refine .inr ⟨.inl k,c,e,?_⟩
   have q:=x.cell y c e
   rw [lj ndP hp hu (by show scope.names.lookup y≠_;rw [k];decide)] at q
   exact q
 ·exact e0.hok.fresh (Hh (x.above y c (Ib h)))
 ·unfold start
  show _=N.length
  rw [Ik,Il,List.length_replicate]
  omega
theorem D5 {CX:qq}{P:Program}{w:World}{K:W.Frag}{mg:Str->Option Value}{base:Heap}{k:Nat}{f:Addr}{name qual:Str}{params:Arguments}{body:List Stmt}{scope:Scope}{dV kV doc pm cdv ct oc:Value}{an od:Option Addr}
  {osl:Array (Option Value)}{N ps:List Str}{sp:Sp} (lk:K.lookup f=some ⟨oc,od,.func (W.fnOf name qual params body scope dV kV doc pm an cdv ct),osl⟩) (hcd:W.codeIn K cdv qual=true) (S:aW N ps scope)
  (len:∀ vs H Q E,sp vs H Q E->vs.length=ps.length)
  (hbody : ∀ (A : Around) (outer : List Env) (s : Shared) (H : Hp) (vs : List V) (Q : VK) (E : XK), dr k (A.deeper (envOfC qual scope s.heap.objs.size f cdv)) -> sp vs H Q E ->
   ∃ t,hZ (mC CX P w K mg base N qual scope f cdv A outer s H E) body t/\t { nx:=fun _ H'=>Q .non H',rt:=Q } (start N vs) H) :
  qR P w K mg base CX (k+1) f (W.fnOf name qual params body scope dV kV doc pm an cdv ct) ps sp:=by
 refine ⟨len,fun A outer s H args us vs Q E hr e0 hb r hsp=>?_⟩
 have hl:=len _ _ _ _ hsp
 have KX:K.In s.heap:=e0.mod.kin.keeps fun b o e=>(e0.bs b o e).1
 have lim:s.heap.NoLimit:=e0.mod.nolimit.keeps fun b o e=>(e0.bs b o e).1
 have hkind:∀ y∈ps.zip us,scope.names.lookup y.1=some .local\/(scope.names.lookup y.1=some .cell/\((cellsFrom (s.heap.objs.size+1) scope.names []).lookup y.1).isSome=true):=fun ⟨n,v⟩ hy=>by
  rcases S.par n (HX hy).1 with q | q
  ·exact .inl q
  ·exact .inr ⟨q,W.cellsFrom_some _ _ _ (.inl q)⟩
 refine codeAny_call_function hr.depth (KX _ _ lk) rfl S.co S.gen rfl (W.codeRec_of KX hcd) (hb _ _ _ _ ?_)
 refine wpAny_newFunctionEnv_cells S.kind hkind fun env he s1 x=>?_
 subst he
 refine ⟨lim.keeps x.toInCall.keep,codeAny_func ?_⟩
 obtain ⟨t,ht,hq⟩:=hbody A outer s H vs Q E (hr.deeper _) hsp
 have I:aI (mC CX P w K mg base N qual scope f cdv A outer s H E) [] (start N vs) H s1:=tS S e0 hl r x
 refine Hu (ht [] s1 (start N vs) H _ I hq) (fun fl s' hs=>?_) fun e s' hs=>hs
 have fin:∀ {σ':St}{H':Hp}{v:V}{u:Value},aI (mC CX P w K mg base N qual scope f cdv A outer s H E) [] σ' H' s'->bH v u->Q v H'->CE outer P w H s Q u s':=
  fun {σ' H' v u} J rv q=>⟨v,H',J.os,J.bare,J.base,J.hok,rv,q⟩
 cases fl with
 | ret u=>
  obtain ⟨v,σ',H',J,rv,q⟩:=hs
  exact fin J rv q
 | next=>
  obtain ⟨σ',H',J,q⟩:=hs
  exact fin (v:=V.non) (u:=Value.none) J rfl q
 | brk=>
  obtain ⟨_,_,_,q⟩:=hs
  exact False.elim q
 | cont=>
  obtain ⟨_,_,_,q⟩:=hs
  exact False.elim q
section
variable {P:Program}{w:World}{K:W.Frag}{mg:Str->Option Value}{base:Heap}
theorem gM.okH {x qual:Str}{st:Stmt}{f:Addr}{fd:FuncData}{N ps:List Str}{k:Nat}{sp:Sp} (F:gM K x qual st f fd) (S:aW N ps (ar st)) (len:∀ vs H Q E,sp vs H Q E->vs.length=ps.length)
  (hbody : ∀ (cdv : Value) (A : Around) (outer : List Env) (s : Shared) (H : Hp) (vs : List V) (Q : VK) (E : XK), dr k (A.deeper (envOfC qual (ar st) s.heap.objs.size f cdv)) -> sp vs H Q E ->
   ∃ t,hZ (mC sH P w K mg base N qual (ar st) f cdv A outer s H E).nox (bO st) t/\t { nx:=fun _ H'=>Q .non H',rt:=Q } (start N vs) H):qR P w K mg base sH (k+1) f fd ps sp:=by
 obtain ⟨oc,od,kV,doc,pm,an,cdv,ct,osl,rfl,lk,hcd⟩:=F.ex
 refine D5 lk hcd S len fun A outer s H vs Q E hr hsp=>?_
 obtain ⟨t,h,q⟩:=hbody cdv A outer s H vs Q E hr hsp
 exact ⟨t,h.nox,q⟩
end
end L2
namespace PySem.W
open PySem PySem.Spec PySem.Calls PyProof.Rows
section
variable {prog:Program}{w:World}{A:Around}{E:Value->Shared->Prop}{s:Shared}{K:Frag}{x D:Addr}{a g:Value}{name:Str}{h:Heap}{M:Model}
theorem sj (X:K.In h) (ha:findIn K (.ref D) name=some (some a)) (hg:specialIn K a "__get__" = some (some g)) (ht:takesIn K a=some true):Looks M h (Builtin.ObjectAttr.find (.ref x) (.ref D) name) (.bind g a):=
 (looks_findIn X ha).andThen ((show Looks M h (Builtin.ObjectAttr.getOf (some a)) (some g) from looks_specialIn X hg).andThen ((show Looks M h (Builtin.ObjectAttr.dataDescriptor? (some a) (some g)) (some (g,a)) from (looks_takesIn X ht).andThen .now).andThen (Looks.tag .now)))
theorem t4 {R:Result->Shared->Prop} (X:K.In s.heap) (L:Looks (model prog w) s.heap (typeOf (.ref x)) (.ref D)) (hm:mroIn K D (.type "object")=some true) (hr:R (.ok (.ret (.ref D))) s) :
  codeAny (model prog w) A (.call (.builtin "getset_descriptor.__get__") ⟨[.builtin "object.__class__",.ref x,.ref D],[]⟩) R s:=by
 obtain ⟨hh,g,d,t,os⟩:=s
 have L0:Looks (model prog w) hh (typeOf (.ref x)) (.ref D):=L
 have L1:Looks (model prog w) hh (isSubtype (.ref D) (.type "object")) true:=looks_mroIn X hm
 have hT5:(⟨hh,g,d,t,os⟩:Shared).TypeIs (.builtin "object.__class__") "getset_descriptor" := F.typeOf_object_class
 have ow:(".".intercalate ("object.__class__".cutAt '.').dropLast) = "object" := by decide +kernel
 refine Ke F.slot_gs_get.plain F.entry_gs_get (F.slot_gs_get.check _ _ _ _ _ _ _ _ hT5 (F.args_gs_get _ _ _) ?_)
 repeat (any_goals (first | assumption | with_reducible refine L0.at ?_ | (rw [ow]) | with_reducible refine L1.at ?_ | wp_step))
 refine ⟨Kd _ (by decide +kernel),J8 KF.entry_class ?_⟩
 unfold Builtin.«object.__class__»
 repeat (any_goals (first | assumption | with_reducible refine L0.at ?_ | wp_step))
theorem y6 {hh:Heap}{g:Array GenState}{d:Drawn}{t:Nat}{os:OsState}{M:Model}{nameV:Value}{Q:Unit->Shared->Prop} (X:K.In hh) (L0:Looks M hh (typeOf (.ref x)) (.ref D)) (hmB:mroIn K D (.type "BaseException")=some true) (hq:Q () ⟨hh,g,d,t,os⟩) :
  wpAny M A (checkBuiltinCall "BaseException.__getattribute__" ⟨[.ref x,nameV],[]⟩) Q E ⟨hh,g,d,t,os⟩:=by
 have hk:builtinKind "BaseException.__getattribute__" = some .slot:=by decide +kernel
 have hsplit:splitId "BaseException.__getattribute__" = some ("BaseException", "__getattribute__"):=by decide +kernel
 have ha:=F.args_bexc_ga (.ref x) nameV
 have L1:=looks_mroIn (M:=M) X hmB
 simp only [checkBuiltinCall,hk,hsplit]
 refine HA ?_
 ·unfold isInstance
  repeat (first | lk | wp_step)
  exact hq
theorem y0 {tk:Tok}{Q:Fin->Shared->Prop} (X:K.In s.heap) (L:Looks (model prog w) s.heap (typeOf (.ref x)) (.ref D)) (ha:findIn K (.ref D) "__class__" = some (some (.builtin "object.__class__"))) (hn:specialIn K (.builtin "object.__class__") "__get__" = some (some (.builtin "getset_descriptor.__get__"))) (htk:takesIn K (.builtin "object.__class__")=some true) (hm:mroIn K D (.type "object")=some true) (hq:Q (.done (.ret (.ref D))) s) :
  wpAny (model prog w) A (Builtin.«object.__getattribute__» ⟨[.ref x,.str "__class__" tk],[]⟩) Q E s:=by
 obtain ⟨hh,g,d,t,os⟩:=s
 have L0:Looks (model prog w) hh (typeOf (.ref x)) (.ref D):=L
 have f3:Looks (model prog w) hh (Builtin.ObjectAttr.find (.ref x) (.ref D) "__class__") (.bind (.builtin "getset_descriptor.__get__") (.builtin "object.__class__")):=sj X ha hn htk
 unfold Builtin.«object.__getattribute__»
 repeat (any_goals (first | assumption | with_reducible refine L0.at ?_ | with_reducible refine f3.at ?_ | wp_step))
 refine t4 (s:=⟨hh,g,d,t,os⟩) X L hm ?_
 repeat (any_goals (first | assumption | wp_step))
theorem v8 {Q:Option Value->Shared->Prop} (X:K.In s.heap) (L:Looks (model prog w) s.heap (typeOf (.ref x)) (.ref D)) (hga:findIn K (.ref D) "__getattribute__" = some (some (.builtin "BaseException.__getattribute__"))) (hgn:findIn K (.ref D) "__getattr__" = some none)
  (ha:findIn K (.ref D) "__class__" = some (some (.builtin "object.__class__"))) (hn:specialIn K (.builtin "object.__class__") "__get__" = some (some (.builtin "getset_descriptor.__get__"))) (htk:takesIn K (.builtin "object.__class__")=some true) (hm:mroIn K D (.type "object")=some true) (hmB:mroIn K D (.type "BaseException")=some true) (hq:Q (some (.ref D)) { s with toks:=s.toks+1 }) :
  wpAny (model prog w) A (getAttr? (.ref x) "__class__") Q E s:=by
 obtain ⟨hh,g,d,t,os⟩:=s
 have L0:Looks (model prog w) hh (typeOf (.ref x)) (.ref D):=L
 have L1:Looks (model prog w) hh (typeLookup (.ref D) "__getattribute__") (some (.builtin "BaseException.__getattribute__")):=looks_findIn X hga
 have L2:Looks (model prog w) hh (typeLookup (.ref D) "__getattr__") none:=looks_findIn X hgn
 have f3:=PySem.F.attr_ValueError.ga.bind (.ref x)
 have hx2:(Value.builtin "BaseException.__getattribute__" == Value.builtin "object.__getattribute__")=false:=by decide +kernel
 have hx1:(onTheHeap (Value.ref D) && Value.builtin "BaseException.__getattribute__" == Value.builtin "object.__getattribute__")=false:=by rw [hx2];rfl
 have hx0:(false && onTheHeap (Value.builtin "BaseException.__getattribute__"))=false:=rfl
 unfold getAttr? getAttrBy?
 repeat (any_goals (first | assumption | with_reducible refine L0.at ?_ | with_reducible refine L1.at ?_ | with_reducible refine L2.at ?_ | wp_step))
 refine Ke PySem.F.attr_ValueError.ga.plain F.entry_bexc_ga (y6 X L0 hmB (y0 (tk:=t) X L0 ha hn htk hm ?_))
 repeat (any_goals (first | assumption | wp_step))
end
def excCls (K:Frag) (D:Addr):Bool:=findIn K (.ref D) "__getattribute__" == some (some (.builtin "BaseException.__getattribute__")) && findIn K (.ref D) "__getattr__" == some none && (clsIn K D).isSome && findIn K (.ref D) "__class__" == some (some (.builtin "object.__class__")) &&
 mroIn K D (.type "object") == some true && mroIn K D (.type "BaseException") == some true && specialIn K (.builtin "object.__class__") "__get__" == some (some (.builtin "getset_descriptor.__get__")) && takesIn K (.builtin "object.__class__") == some true
section
variable {K:Frag}{x D:Addr}
theorem kitx_exc (e:excCls K D=true):KitX K (.ref x) (.ref D) (fun h=>∃ ox,h.get? x=some ox/\ox.cls=.ref D):=by
 unfold excCls at e
 simp only [IE,beq_iff_eq] at e
 obtain ⟨⟨⟨⟨⟨⟨⟨hga,hgn⟩,hc⟩,ha⟩,hm⟩,hmB⟩,hn⟩,htk⟩:=e
 exact {
  ty:=fun _ _ _ ⟨ox,h1,h2⟩=>h2 ▸ (Looks.ld h1).andThen .now
  it:=fun _ _ X _=>by
   obtain ⟨cdD,hcD⟩:=HY.mp hc
   unfold clsIn at hcD
   split at hcD
   ·rename_i c' d' cd' sl' ho
    intro A' Q' E' s' k q
    unfold isType loadHead
    exact HA (wpAny_loadPart (k _ _ (X _ _ ho)) (HE q))
   ·cases hcD
  ne:=fun h tp dd its n sl X htp=>by
   obtain ⟨cdD,hcD⟩:=HY.mp hc
   refine Bool.eq_false_iff.mpr fun q=>?_
   have e:D=tp:=Value.ref.inj (beq_iff_eq.mp q)
   subst e
   unfold clsIn at hcD
   split at hcD
   ·rename_i c' d' cd' sl' ho
    have z:=(X _ _ ho).symm.trans htp
    cases z
   ·cases hcD
  ca:=fun {prog w A E Q s} X ⟨ox,h1,h2⟩ h=>v8 X (h2 ▸ (Looks.ld h1).andThen .now) hga hgn ha hn htk hm hmB h }
end
end PySem.W
namespace L2
open PySem PySem.Spec PyProof.Rows
def EE (K:W.Frag) (u:Value):List V->Hp->VK->Prop:=fun xs H Q=>∃ a D b v,xs=[.ref a,v]/\bH v u/\H a=some (qE a D)/\W.excCls K D=true/\W.kitOne K (.ref D) u=some b/\Q (.bl b) H
theorem rR {X:Cx}{u:Value} (hu:∀ v w,bH v u->bH v w->w=u):cj X (.builtin "isinstance") (EE X.K u):=by
 intro pins s σ H xs us Q I r h
 obtain ⟨a,D,b,v,rfl,rv,ea,hc,e,q⟩:=h
 cases r with
 | cons r1 r2=>
  cases r2 with
  | cons r3 r4=>
   cases r4
   cases (show _=Value.ref a from r1)
   have z:=hu v _ rv r3
   subst z
   obtain ⟨⟨oe,h1,h2⟩,_⟩:=(show cW X.prog X.w H s.heap a (qE a D) from I.hok a _ ea)
   exact W.kia_one (W.kitx_exc hc) I.kIn ⟨oe,h1,h2⟩ e (fun z=>nomatch z) fun tk=>⟨.bl b,H,I.tok _,rfl,q⟩
end L2
namespace L2
open PySem PySem.Spec PyProof.Rows RS
inductive D where
 | non | bl (b:Bool) | int (i:Int) | str (x:Str) | tup (xs:List D) | frz (xs:List D) | obj (n:Nat)
inductive O where
 | lst (xs:List D) | set (ks:List (List Int)) | iset (ks:List Int) | dic | exc (c:Str)
abbrev ax:=List O
abbrev Ro:=List (Option D)
def Bz (K:W.Frag) (H:Hp) (a:Addr) (xs:List V):Prop:=
 (∃ o, H a = some (.frz o (.lst xs))) \/
  ∃ (o:Obj) (its:Array Value) (n:Nat),K.lookup a=some o/\o.cls=.type "list" /\ o.dict=none/\o.data=.seq its n/\its.size<=sizeLine/\aU xs its.toList
theorem Bz.sq {K:W.Frag}{H:Hp}{a:Addr}{xs:List V} (h:Bz K H a xs):eO K H a xs:=by
 rcases h with ⟨o,h⟩ | h
 ·exact .inl (.inr ⟨o,h⟩)
 ·exact .inr h
section
variable (K:W.Frag) (H:Hp) (α:List Addr)
mutual
def aG:D->V->Prop
 | .non,v=>v=.non
 | .bl b,v=>v=.bl b
 | .int i,v=>v=.int i
 | .str x,v=>v=.str x
 | .tup xs,v=>∃ a vs,v=.ref a/\d6 K H a vs/\Reps xs vs
 | .frz xs,v=>∃ a vs,v=.ref a/\Bz K H a vs/\Reps xs vs
 | .obj n,v=>∃ a,v=.ref a/\α[n]?=some a
def Reps:List D->List V->Prop
 | [],vs=>vs=[]
 | x::xs,vs=>∃ v r,vs=v::r/\aG x v/\Reps xs r
end
end
structure jJ (K:W.Frag) (H H':Hp) (α α':List Addr):Prop where
 tup:∀ a xs,d6 K H a xs->d6 K H' a xs
 frz:∀ a xs,Bz K H a xs->Bz K H' a xs
 pre:∀ (n:Nat) a,α[n]?=some a->α'[n]?=some a
section
variable {K:W.Frag}{H H' H1 H2:Hp}{α α' α1 α2:List Addr}
theorem jJ.refl:jJ K H H α α:=⟨fun _ _ h=>h,fun _ _ h=>h,fun _ _ h=>h⟩
theorem jJ.trans (a:jJ K H H1 α α1) (b:jJ K H1 H2 α1 α2):jJ K H H2 α α2:=
 ⟨fun c xs h=>b.tup c xs (a.tup c xs h),fun c xs h=>b.frz c xs (a.frz c xs h),fun n c h=>b.pre n c (a.pre n c h)⟩
mutual
theorem aG.mono (e:jJ K H H' α α'):∀ {d:D}{v:V},aG K H α d v->aG K H' α' d v
 | .non,_,h=>by simp only [aG] at h ⊢;exact h
 | .bl _,_,h=>by simp only [aG] at h ⊢;exact h
 | .int _,_,h=>by simp only [aG] at h ⊢;exact h
 | .str _,_,h=>by simp only [aG] at h ⊢;exact h
 | .tup xs,_,h=>by
  simp only [aG] at h ⊢
  obtain ⟨a,vs,rfl,h1,h2⟩:=h
  exact ⟨a,vs,rfl,e.tup a vs h1,Reps.mono e h2⟩
 | .frz xs,_,h=>by
  simp only [aG] at h ⊢
  obtain ⟨a,vs,rfl,h1,h2⟩:=h
  exact ⟨a,vs,rfl,e.frz a vs h1,Reps.mono e h2⟩
 | .obj n,_,h=>by
  simp only [aG] at h ⊢
  obtain ⟨a,rfl,h1⟩:=h
  exact ⟨a,rfl,e.pre n a h1⟩
theorem Reps.mono (e:jJ K H H' α α'):∀ {ds:List D}{vs:List V},Reps K H α ds vs->Reps K H' α' ds vs
 | [],_,h=>by simp only [Reps] at h ⊢;exact h
 | d::ds,_,h=>by
  simp only [Reps] at h ⊢
  obtain ⟨v,r,rfl,h1,h2⟩:=h
  exact ⟨v,r,rfl,aG.mono e h1,Reps.mono e h2⟩
end
theorem Reps.nil:Reps K H α [] []:=by simp only [Reps]
theorem Reps.cons {d:D}{ds:List D}{v:V}{vs:List V} (h1:aG K H α d v) (h2:Reps K H α ds vs):Reps K H α (d::ds) (v::vs):=by
 simp only [Reps];exact ⟨v,vs,rfl,h1,h2⟩
theorem Reps.length:∀ {ds:List D}{vs:List V},Reps K H α ds vs->vs.length=ds.length
 | [],vs,h=>by simp only [Reps] at h;rw [h];rfl
 | d::ds,vs,h=>by
  simp only [Reps] at h
  obtain ⟨v,r,rfl,h1,h2⟩:=h
  simp [Reps.length h2]
theorem Reps.get:∀ {ds:List D}{vs:List V}{i:Nat}{d:D},Reps K H α ds vs->ds[i]?=some d->∃ v,vs[i]?=some v/\aG K H α d v
 | [],_,_,_,_,e=>by simp at e
 | d::ds,vs,i,x,h,e=>by
  simp only [Reps] at h
  obtain ⟨v,r,rfl,h1,h2⟩:=h
  cases i with
  | zero=>simp at e;subst e;exact ⟨v,rfl,h1⟩
  | succ i=>exact Reps.get (i:=i) h2 (by simpa using e)
theorem Reps.append:∀ {ds es:List D}{vs ws:List V},Reps K H α ds vs->Reps K H α es ws->Reps K H α (ds++es) (vs++ws)
 | [],_,vs,_,h,g=>by simp only [Reps] at h;subst h;exact g
 | d::ds,_,vs,_,h,g=>by
  simp only [Reps] at h
  obtain ⟨v,r,rfl,h1,h2⟩:=h
  exact Reps.cons h1 (Reps.append h2 g)
theorem Reps.take:∀ {ds:List D}{vs:List V} (n:Nat),Reps K H α ds vs->Reps K H α (ds.take n) (vs.take n)
 | [],vs,n,h=>by simp only [Reps] at h;subst h;simpa using Reps.nil
 | d::ds,vs,n,h=>by
  simp only [Reps] at h
  obtain ⟨v,r,rfl,h1,h2⟩:=h
  cases n with
  | zero=>exact Reps.nil
  | succ n=>exact Reps.cons h1 (Reps.take n h2)
theorem Reps.drop:∀ {ds:List D}{vs:List V} (n:Nat),Reps K H α ds vs->Reps K H α (ds.drop n) (vs.drop n)
 | [],vs,n,h=>by simp only [Reps] at h;subst h;simpa using Reps.nil
 | d::ds,vs,n,h=>by
  cases n with
  | zero=>exact h
  | succ n=>
   simp only [Reps] at h
   obtain ⟨v,r,rfl,h1,h2⟩:=h
   exact Reps.drop n h2
theorem Reps.set {d:D}{v:V} (q:aG K H α d v):∀ {ds:List D}{vs:List V} (n:Nat),Reps K H α ds vs->Reps K H α (ds.set n d) (vs.set n v)
 | [],vs,n,h=>by simp only [Reps] at h;subst h;simpa using Reps.nil
 | e::ds,vs,n,h=>by
  simp only [Reps] at h
  obtain ⟨v',r,rfl,h1,h2⟩:=h
  cases n with
  | zero=>exact Reps.cons q h2
  | succ n=>exact Reps.cons h1 (Reps.set q n h2)
theorem Reps.eraseIdx:∀ {ds:List D}{vs:List V} (n:Nat),Reps K H α ds vs->Reps K H α (ds.eraseIdx n) (vs.eraseIdx n)
 | [],vs,n,h=>by simp only [Reps] at h;subst h;simpa using Reps.nil
 | e::ds,vs,n,h=>by
  simp only [Reps] at h
  obtain ⟨v',r,rfl,h1,h2⟩:=h
  cases n with
  | zero=>exact h2
  | succ n=>exact Reps.cons h1 (Reps.eraseIdx n h2)
theorem Reps.one {d:D}{vs:List V} (h:Reps K H α [d] vs):∃ v,vs=[v]/\aG K H α d v:=by
 simp only [Reps] at h
 obtain ⟨v,r,rfl,h1,rfl⟩:=h
 exact ⟨v,rfl,h1⟩
theorem Reps.two {d e:D}{vs:List V} (h:Reps K H α [d,e] vs):∃ v u,vs=[v,u]/\aG K H α d v/\aG K H α e u:=by
 simp only [Reps] at h
 obtain ⟨v,r,rfl,h1,u,r',rfl,h2,rfl⟩:=h
 exact ⟨v,u,rfl,h1,h2⟩
theorem Reps.snoc {d:D}{ds:List D}{v:V}{vs:List V} (h:Reps K H α ds vs) (q:aG K H α d v):Reps K H α (ds++[d]) (vs++[v]):=h.append (Reps.cons q Reps.nil)
theorem Reps.ints:∀ {ns:List Int}{vs:List V},Reps K H α (ns.map D.int) vs->vs=ns.map V.int
 | [],vs,h=>by simp only [IG,Reps] at h;exact h
 | n::ns,vs,h=>by
  simp only [IH,Reps] at h
  obtain ⟨v,r,rfl,h1,h2⟩:=h
  simp only [aG] at h1
  rw [h1,Reps.ints h2];rfl
theorem gE:∀ (ns:List Int),Reps K H α (ns.map D.int) (ns.map V.int)
 | []=>Reps.nil
 | n::ns=>Reps.cons (by simp only [aG]) (gE ns)
theorem aD {xs:List D}{v:V}:aG K H α (.tup xs) v↔∃ a vs,v=.ref a/\d6 K H a vs/\Reps K H α xs vs:=by simp only [aG]
theorem ba {xs:List D}{v:V}:aG K H α (.frz xs) v↔∃ a vs,v=.ref a/\Bz K H a vs/\Reps K H α xs vs:=by simp only [aG]
theorem aH {n:Nat}{v:V}:aG K H α (.obj n) v↔∃ a,v=.ref a/\α[n]?=some a:=by simp only [aG]
theorem ak {n:Int}{v:V}:aG K H α (.int n) v↔v=.int n:=by simp only [aG]
theorem aS {n:Bool}{v:V}:aG K H α (.bl n) v↔v=.bl n:=by simp only [aG]
theorem bo {n:Str}{v:V}:aG K H α (.str n) v↔v=.str n:=by simp only [aG]
theorem bD {v:V}:aG K H α .non v↔v=.non:=by simp only [aG]
end
def nL (K:W.Frag) (w:World) (H:Hp) (α:List Addr):O->Addr->Prop
 | .lst xs,a=>∃ vs,H a=some (.lst vs)/\Reps K H α xs vs
 | .set ks,a=>∃ ps:List KP,ps.map (·.1)=ks/\H a=some (.ext fun h=>bJ w h a ps)/\(∀ p∈ps,p.1∈prs)/\(ps.map (·.1)).Nodup/\∀ p∈ps,d6 K H p.2 (p.1.map V.int)
 | .iset ks,a=>∃ ps:List KI,ps.map (·.1)=ks/\H a=some (.ext fun h=>cF w h a ps)/\ks.length<=6
 | .dic,a=>H a=some (.dK [])
 | .exc c,a=>∃ C,W.nsIn K mainGlobals c=some (some (.ref C))/\H a=some (qE a C)
structure d5 (K:W.Frag) (w:World) (H:Hp) (α:List Addr) (μ:ax):Prop where
 len:α.length=μ.length
 nd:α.Nodup
 ob:∀ (n:Nat) o a,μ[n]?=some o->α[n]?=some a->nL K w H α o a
section
variable {K:W.Frag}{w:World}{H H':Hp}{α α':List Addr}{μ:ax}
theorem nL.live {o:O}{a:Addr} (h:nL K w H α o a):H a≠none:=by
 cases o with
 | lst xs=>obtain ⟨vs,e,_⟩:=h;rw [e];exact fun z=>by cases z
 | set ks=>obtain ⟨ps,_,e,_⟩:=h;rw [e];exact fun z=>by cases z
 | iset ks=>obtain ⟨ps,_,e,_⟩:=h;rw [e];exact fun z=>by cases z
 | dic=>have e:H a=some (.dK []):=h;rw [e];exact fun z=>by cases z
 | exc c=>obtain ⟨C,_,e⟩:=h;rw [e];exact fun z=>by cases z
theorem nL.mono {o:O}{a:Addr} (h:nL K w H α o a) (e:jJ K H H' α α') (ha:H' a=H a):nL K w H' α' o a:=by
 cases o with
 | lst xs=>obtain ⟨vs,q,r⟩:=h;exact ⟨vs,ha.trans q,r.mono e⟩
 | set ks=>obtain ⟨ps,h1,q,h2,h3,h4⟩:=h;exact ⟨ps,h1,ha.trans q,h2,h3,fun p hp=>e.tup _ _ (h4 p hp)⟩
 | iset ks=>obtain ⟨ps,h1,q,h2⟩:=h;exact ⟨ps,h1,ha.trans q,h2⟩
 | dic=>exact ha.trans h
 | exc c=>obtain ⟨C,h1,q⟩:=h;exact ⟨C,h1,ha.trans q⟩
theorem d5.at (S:d5 K w H α μ) {n:Nat}{o:O} (e:μ[n]?=some o):∃ a,α[n]?=some a/\nL K w H α o a:=by
 have hn:n<μ.length:=(Hq.mp e).1
 have hn':n<α.length:=by rw [S.len];exact hn
 exact ⟨α[n],KA hn',S.ob n o _ e (KA hn')⟩
theorem d5.live (S:d5 K w H α μ) {a:Addr} (h:a∈α):H a≠none:=by
 obtain ⟨n,hn,e⟩:=KG h
 have hm:n<μ.length:=by rw [<- S.len];exact hn
 exact (S.ob n _ a (KA hm) (by rw [<- e];exact KA hn)).live
theorem d5.fresh (S:d5 K w H α μ) {p:Addr} (h:H p=none):p ∉ α:=fun z=>S.live z h
theorem d5.same (S:d5 K w H α μ) (e:jJ K H H' α α) (h:∀ a,H a≠none->H' a=H a):d5 K w H' α μ:=
 ⟨S.len,S.nd,fun n o a h1 h2=>(S.ob n o a h1 h2).mono e (h a (S.ob n o a h1 h2).live)⟩
theorem bF {p:Addr}{o:HO} (h:H p=none):jJ K H (bT H p o) α α:=by
 refine ⟨fun a xs q=>?_,fun a xs q=>?_,fun _ _ z=>z⟩
 ·rcases q with (q | ⟨x, q⟩) | q
  ·exact .inl (.inl (by rw [aY (bI q h)];exact q))
  ·exact .inl (.inr ⟨x,by rw [aY (bI q h)];exact q⟩)
  ·exact .inr q
 ·rcases q with ⟨x, q⟩ | q
  ·exact .inl ⟨x,by rw [aY (bI q h)];exact q⟩
  ·exact .inr q
theorem ip {p:Addr}{vs:List V}{o:HO} (h:H p=some (.lst vs)):jJ K H (bT H p o) α α:=by
 refine ⟨fun a xs q=>?_,fun a xs q=>?_,fun _ _ z=>z⟩
 ·rcases q with (q | ⟨x, q⟩) | q
  ·exact .inl (.inl (by rw [aY (oi q h (by intro z;cases z))];exact q))
  ·exact .inl (.inr ⟨x,by rw [aY (oi q h (by intro z;cases z))];exact q⟩)
  ·exact .inr q
 ·rcases q with ⟨x, q⟩ | q
  ·exact .inl ⟨x,by rw [aY (oi q h (by intro z;cases z))];exact q⟩
  ·exact .inr q
theorem fX (β:List Addr):jJ K H H α (α++β):=⟨fun _ _ h=>h,fun _ _ h=>h,fun n a h=>by rw [Ig (Hq.mp h).1];exact h⟩
theorem d5.tuple (S:d5 K w H α μ) {p:Addr}{vs:List V} (h:H p=none):d5 K w (bT H p (.tup vs)) α μ:=
 S.same (bF h) fun a ha=>aY fun z=>ha (by rw [z];exact h)
theorem d5.more (S:d5 K w H α μ) {p:Addr}{o:O}{ho:HO} (h:H p=none) (q:nL K w (bT H p ho) (α++[p]) o p):d5 K w (bT H p ho) (α++[p]) (μ++[o]):=by
 refine ⟨by simp [S.len],?_,fun n o' a h1 h2=>?_⟩
 ·rw [J2]
  exact ⟨S.nd,by simp,fun x hx y hy z=>by simp at hy;subst hy;subst z;exact S.fresh h hx⟩
 ·by_cases hn : n < μ.length
  ·rw [Ig hn] at h1
   rw [Ig (by rw [S.len];exact hn)] at h2
   exact (S.ob n o' a h1 h2).mono ((bF h).trans (fX [p])) (aY fun z=>(S.ob n o' a h1 h2).live (by rw [z];exact h))
  ·have hn':n=μ.length:=by
    have:=(Hq.mp h1).1
    simp at this;omega
   subst hn'
   rw [Ic (HI _)] at h1
   rw [Ic (by rw [S.len];exact HI _),S.len] at h2
   simp at h1 h2
   subst h1;subst h2
   exact q
theorem d5.put (S:d5 K w H α μ) {n:Nat}{a:Addr}{xs ys:List D}{us vs:List V} (h1:μ[n]?=some (.lst xs)) (h2:α[n]?=some a) (h3:H a=some (.lst us)) (q:Reps K H α ys vs):d5 K w (bT H a (.lst vs)) α (μ.set n (.lst ys)):=by
 have e:=ip (K:=K) (α:=α) (o:=.lst vs) h3
 refine ⟨by simp [S.len],S.nd,fun m o b g1 g2=>?_⟩
 have hn:n<μ.length:=(Hq.mp h1).1
 by_cases hm:m=n
 ·subst hm
  rw [Hs hn] at g1
  cases g1
  rw [h2] at g2;cases g2
  exact ⟨vs,bG,q.mono e⟩
 ·rw [Ht (fun z => hm z.symm)] at g1
  refine (S.ob m o b g1 g2).mono e (aY fun z=>hm ?_)
  subst z
  have i1:=(Hq.mp g2)
  have i2:=(Hq.mp h2)
  obtain ⟨l1,e1⟩:=i1
  obtain ⟨l2,e2⟩:=i2
  exact (Hr S.nd).mp (e1.trans e2.symm)
end
structure cD (K:W.Frag) (H:Hp) (α:List Addr) (ρ:Ro) (σ:St):Prop where
 len:ρ.length=σ.length
 at':∀ (i:Nat) d,ρ[i]?=some (some d)->∃ v,σ[i]?=some (some v)/\aG K H α d v
theorem cD.mono {K:W.Frag}{H H':Hp}{α α':List Addr}{ρ:Ro}{σ:St} (e:jJ K H H' α α') (R:cD K H α ρ σ):cD K H' α' ρ σ:=
 ⟨R.len,fun i d h=>let ⟨v,h1,h2⟩:=R.at' i d h;⟨v,h1,h2.mono e⟩⟩
theorem cD.set {K:W.Frag}{H:Hp}{α:List Addr}{ρ:Ro}{σ:St}{d:D}{v:V} (R:cD K H α ρ σ) (i:Nat) (q:aG K H α d v):cD K H α (ρ.set i (some d)) (σ.set i (some v)):=by
 refine ⟨by simp [R.len],fun j d' h=>?_⟩
 by_cases hj:j=i
 ·subst hj
  have hl:j<ρ.length:=by have:=(Hq.mp h).1;simpa using this
  rw [Hs hl] at h
  cases h
  exact ⟨v,by rw [Hs (by rw [<- R.len];exact hl)],q⟩
 ·rw [Ht (fun z => hj z.symm)] at h ⊢
  exact R.at' j d' h
structure DX where
 cls:Str
 args:List D
inductive ao (β:Type) where
 | ok (a:β) (μ:ax) | exc (x:DX) (μ:ax) | bad
def ao.bind {β γ:Type} (o:ao β) (g:β->ax->ao γ):ao γ:=match o with
 | .ok a μ=>g a μ
 | .exc x μ=>.exc x μ
 | .bad=>.bad
@[simp] theorem aa {β γ:Type}{a:β}{μ:ax}{g:β->ax->ao γ}:(ao.ok a μ).bind g=g a μ:=KH (KJ _)
inductive SO where
 | next (ρ:Ro) (μ:ax) | ret (d:D) (μ:ax) | brk (ρ:Ro) (μ:ax) | cnt (ρ:Ro) (μ:ax) | exc (x:DX) (μ:ax) | bad
def ao.bindS {β:Type} (o:ao β) (g:β->ax->SO):SO:=match o with
 | .ok a μ=>g a μ
 | .exc x μ=>.exc x μ
 | .bad=>.bad
@[simp] theorem ae {β:Type}{a:β}{μ:ax}{g:β->ax->SO}:(ao.ok a μ).bindS g=g a μ:=KH (KJ _)
@[simp] theorem nY {β:Type}{a:DX}{μ:ax}{g:β->ax->SO}:(ao.exc a μ:ao β).bindS g=.exc a μ:=KH (KJ _)
def SO.bind (o:SO) (g:Ro->ax->SO):SO:=match o with
 | .next ρ μ=>g ρ μ
 | o=>o
structure Pa where
 K:W.Frag
 w:World
 xw:DX->ax->Hp->List Addr->Prop
abbrev Pa.S (p:Pa):=d5 p.K p.w
abbrev Pa.X (p:Pa):=jJ p.K
abbrev Pa.R (p:Pa):=aG p.K
abbrev Pa.Rs (p:Pa):=Reps p.K
def aw {β:Type} (p:Pa) (H:Hp) (α:List Addr) (o:ao β) (R:β->ax->Hp->List Addr->Prop):Prop:=match o with
 | .ok a μ'=>∀ H' α',p.X H H' α α'->p.S H' α' μ'->R a μ' H' α'
 | .exc x μ'=>∀ H' α',p.X H H' α α'->p.S H' α' μ'->p.xw x μ' H' α'
 | .bad=>False
def du (p:Pa) (H:Hp) (α:List Addr) (o:SO) (D:kO):Prop:=match o with
 | .next ρ' μ'=>∀ H' α' σ',p.X H H' α α'->p.S H' α' μ'->cD p.K H' α' ρ' σ'->D.nx σ' H'
 | .brk ρ' μ'=>∀ H' α' σ',p.X H H' α α'->p.S H' α' μ'->cD p.K H' α' ρ' σ'->D.bk σ' H'
 | .cnt ρ' μ'=>∀ H' α' σ',p.X H H' α α'->p.S H' α' μ'->cD p.K H' α' ρ' σ'->D.ct σ' H'
 | .ret d μ'=>∀ H' α' v,p.X H H' α α'->p.S H' α' μ'->p.R H' α' d v->D.rt v H'
 | .exc x μ'=>∀ H' α',p.X H H' α α'->p.S H' α' μ'->p.xw x μ' H' α'
 | .bad=>False
section
variable {p:Pa}{H H1:Hp}{α α1:List Addr}{β γ:Type}
theorem aw.imp {o:ao β}{R R':β->ax->Hp->List Addr->Prop} (h:aw p H α o R) (k:∀ a μ' H' α',p.X H H' α α'->p.S H' α' μ'->R a μ' H' α'->R' a μ' H' α'):aw p H α o R':=by
 cases o with
 | ok a μ=>exact fun H' α' e s=>k a μ H' α' e s (h H' α' e s)
 | exc x μ=>exact h
 | bad=>exact h
theorem aw.from {o:ao β}{R:β->ax->Hp->List Addr->Prop} (e:p.X H H1 α α1) (h:aw p H α o R):aw p H1 α1 o R:=by
 cases o with
 | ok a μ=>exact fun H' α' e' s=>h H' α' (e.trans e') s
 | exc x μ=>exact fun H' α' e' s=>h H' α' (e.trans e') s
 | bad=>exact h
theorem aw.bind {o:ao β}{g:β->ax->ao γ}{R:γ->ax->Hp->List Addr->Prop} (h:aw p H α (o.bind g) R):aw p H α o (fun a μ1 H1 α1=>aw p H1 α1 (g a μ1) R):=by
 cases o with
 | ok a μ=>exact fun H' α' e s=>aw.from e h
 | exc x μ=>exact h
 | bad=>exact h
theorem aw.now {a:β}{μ:ax}{R:β->ax->Hp->List Addr->Prop} (h:aw p H α (.ok a μ) R) (s:p.S H α μ):R a μ H α:=h H α jJ.refl s
theorem du.from {o:SO}{D:kO} (e:p.X H H1 α α1) (h:du p H α o D):du p H1 α1 o D:=by
 cases o with
 | next ρ μ=>exact fun H' α' σ' e' s r=>h H' α' σ' (e.trans e') s r
 | brk ρ μ=>exact fun H' α' σ' e' s r=>h H' α' σ' (e.trans e') s r
 | cnt ρ μ=>exact fun H' α' σ' e' s r=>h H' α' σ' (e.trans e') s r
 | ret d μ=>exact fun H' α' v e' s r=>h H' α' v (e.trans e') s r
 | exc x μ=>exact fun H' α' e' s=>h H' α' (e.trans e') s
 | bad=>exact h
theorem aw.bindS {o:ao β}{g:β->ax->SO}{D:kO} (h:du p H α (o.bindS g) D):aw p H α o (fun a μ1 H1 α1=>du p H1 α1 (g a μ1) D):=by
 cases o with
 | ok a μ=>exact fun H' α' e s=>du.from e h
 | exc x μ=>exact h
 | bad=>exact h
end
abbrev ME:=Ro->ax->ao D
abbrev MT:=Ro->ax->ao Bool
abbrev MA:=Ro->ax->ao (List D)
abbrev MS:=Ro->ax->SO
abbrev MG:=D->Ro->ax->ao Ro
abbrev RV (p:Pa) (Q:VK):D->ax->Hp->List Addr->Prop:=fun d _ H' α'=>∀ v,p.R H' α' d v->Q v H'
def tD (p:Pa) (f:ME):TE:=fun σ H Q=>∃ α ρ μ,p.S H α μ/\cD p.K H α ρ σ/\aw p H α (f ρ μ) (RV p Q)
def gL (p:Pa) (f:MT):TT:=fun σ H Q=>∃ α ρ μ,p.S H α μ/\cD p.K H α ρ σ/\aw p H α (f ρ μ) (fun b _ H' _=>Q b H')
def j5 (p:Pa) (f:MA):TA:=fun σ H Q=>∃ α ρ μ,p.S H α μ/\cD p.K H α ρ σ/\aw p H α (f ρ μ) (fun ds _ H' α'=>∀ vs,p.Rs H' α' ds vs->Q vs H')
def gb (p:Pa) (f:MS):TS:=fun D σ H=>∃ α ρ μ,p.S H α μ/\cD p.K H α ρ σ/\du p H α (f ρ μ) D
def nJ (p:Pa) (g:MG):TG:=fun v σ H Q=>∃ α ρ μ d,p.S H α μ/\cD p.K H α ρ σ/\p.R H α d v/\aw p H α (g d ρ μ) (fun ρ' _ H' α'=>∀ σ',cD p.K H' α' ρ' σ'->Q σ' H')
theorem PE.weak {X:Cx}{e:Expr}{t t':TE} (h:PE X e t) (k:∀ σ H Q,t' σ H Q->t σ H Q):PE X e t':=fun pins s σ H Q I q=>h pins s σ H Q I (k σ H Q q)
theorem PT.weak {X:Cx}{e:Expr}{t t':TT} (h:PT X e t) (k:∀ σ H Q,t' σ H Q->t σ H Q):PT X e t':=fun pins s σ H Q I q=>h pins s σ H Q I (k σ H Q q)
theorem PW.weak {X:Cx}{e:Expr}{t t':TT} (h:PW X e t) (k:∀ σ H Q,t' σ H Q->t σ H Q):PW X e t':=fun wh pins s σ H Q I q=>h wh pins s σ H Q I (k σ H Q q)
theorem PA.weak {X:Cx}{e:List Expr}{t t':TA} (h:PA X e t) (k:∀ σ H Q,t' σ H Q->t σ H Q):PA X e t':=fun pos pins s σ H Q I q=>h pos pins s σ H Q I (k σ H Q q)
theorem PS.weak {X:Cx}{e:Stmt}{t t':TS} (h:PS X e t) (k:∀ D σ H,t' D σ H->t D σ H):PS X e t':=fun pins s σ H Q I q=>h pins s σ H Q I (k Q σ H q)
theorem hZ.weak {X:Cx}{e:List Stmt}{t t':TS} (h:hZ X e t) (k:∀ D σ H,t' D σ H->t D σ H):hZ X e t':=fun pins s σ H Q I q=>h pins s σ H Q I (k Q σ H q)
def ai (i:Nat):ME:=fun ρ μ=>match ρ[i]? with
 | some (some d)=>.ok d μ
 | _=>.bad
def cC (d:D):ME:=fun _ μ=>.ok d μ
def ay (op:D->D->ax->ao D) (fa fb:ME):ME:=fun ρ μ=>(fa ρ μ).bind fun a μ1=>(fb ρ μ1).bind fun b μ2=>op a b μ2
def lW (op:D->ax->ao D) (fa:ME):ME:=fun ρ μ=>(fa ρ μ).bind fun a μ1=>op a μ1
def aA:MA:=fun _ μ=>.ok [] μ
def af (fa:ME) (fr:MA):MA:=fun ρ μ=>(fa ρ μ).bind fun a μ1=>(fr ρ μ1).bind fun r μ2=>.ok (a::r) μ2
def aC (f:List D->ax->ao D) (fa:MA):ME:=fun ρ μ=>(fa ρ μ).bind f
def dJ (fa:MA):ME:=aC (fun ds μ=>if ds.length<=sizeLine then .ok (.tup ds) μ else .bad) fa
def jt (fa:MA):ME:=aC (fun ds μ=>if ds.length<=sizeLine then .ok (.obj μ.length) (μ++[.lst ds]) else .bad) fa
def zl:D->ax->ao Bool
 | .bl b,μ=>.ok b μ
 | _,_=>.bad
def ia (f:ME):MT:=fun ρ μ=>(f ρ μ).bind zl
def jE (f g:MT):MT:=fun ρ μ=>(f ρ μ).bind fun b μ1=>if b=true then g ρ μ1 else .ok false μ1
def zD (f g:MT):MT:=fun ρ μ=>(f ρ μ).bind fun b μ1=>if b=true then .ok true μ1 else g ρ μ1
def mE (f:MT):MT:=fun ρ μ=>(f ρ μ).bind fun b μ1=>.ok (!b) μ1
def gR (f g:ME):ME:=fun ρ μ=>(f ρ μ).bind fun a μ1=>(zl a μ1).bind fun b μ2=>if b=true then g ρ μ2 else .ok (.bl false) μ2
def qP (f:ME):ME:=fun ρ μ=>(f ρ μ).bind fun a μ1=>(zl a μ1).bind fun b μ2=>.ok (.bl (!b)) μ2
def qp (p:Pa) (op:D->D->ax->ao D) (r:R2):Prop:=∀ a b v y H α μ Q,p.S H α μ->p.R H α a v->p.R H α b y->aw p H α (op a b μ) (RV p Q)->r v y H Q
def GM (p:Pa) (op:D->ax->ao D) (r:V->Hp->VK->Prop):Prop:=∀ a v H α μ Q,p.S H α μ->p.R H α a v->aw p H α (op a μ) (RV p Q)->r v H Q
def qu (p:Pa) (f:List D->ax->ao D) (r:List V->Hp->VK->Prop):Prop:=∀ ds vs H α μ Q,p.S H α μ->p.Rs H α ds vs->aw p H α (f ds μ) (RV p Q)->r vs H Q
section
variable {p:Pa}
theorem pJ {d:D}{μ:ax}{H:Hp}{α:List Addr}{R:Bool->ax->Hp->List Addr->Prop}{v:V} (h:aw p H α (zl d μ) R) (r:p.R H α d v) (s:p.S H α μ):∃ b,d=.bl b/\v=.bl b/\R b μ H α:=by
 cases d with
 | bl b=>exact ⟨b,rfl,aS.mp r,h.now s⟩
 | non=>exact h.elim
 | int i=>exact h.elim
 | str x=>exact h.elim
 | tup xs=>exact h.elim
 | frz xs=>exact h.elim
 | obj n=>exact h.elim
variable {X:Cx}{a b c:Expr}{es:List Expr}{fa fb fc:ME}{pos:Pos}
theorem CO {i:Nat}{x:Str} (h:PE X (.Name x pos) (Eu i)):PE X (.Name x pos) (tD p (ai i)):=h.weak fun σ H Q ⟨α,ρ,μ,S,R,P⟩=>by
 unfold ai at P
 cases e:ρ[i]? with
 | none=>rw [e] at P;exact P.elim
 | some o=>
  rw [e] at P
  cases o with
  | none=>exact P.elim
  | some d=>
   obtain ⟨v,h1,h2⟩:=R.at' i d e
   exact ⟨v,h1,P.now S v h2⟩
theorem wK {e:Expr}{v:V}{d:D} (h:PE X e (tC v)) (r:∀ H α,p.R H α d v):PE X e (tD p (cC d)):=h.weak fun σ H Q ⟨α,ρ,μ,S,R,P⟩=>P.now S v (r H α)
theorem kQ {op:Operator}{o:D->D->ax->ao D}{r:R2} (ho:iJ X (binaryOp op) r) (hd:qp p o r) (ha:PE X a (tD p fa)) (hb:PE X b (tD p fb)):PE X (.BinOp a op b pos) (tD p (ay o fa fb)):=
 (Fp ho ha hb).weak fun σ H Q ⟨α,ρ,μ,S,R,P⟩=>⟨α,ρ,μ,S,R,P.bind.imp fun x μ1 H1 α1 X1 S1 P1 v rv=>⟨α1,ρ,μ1,S1,R.mono X1,P1.bind.imp fun y μ2 H2 α2 X2 S2 P2 u ru=>hd x y v u H2 α2 μ2 Q S2 (rv.mono X2) ru P2⟩⟩
theorem CV {op:CmpOp}{o:D->D->ax->ao D}{r:R2} (ho:iJ X (compareOp op) r) (hd:qp p o r) (ha:PE X a (tD p fa)) (hb:PE X b (tD p fb)) (hm:behindInMarks op b=false):PE X (.Compare a [op] [b] pos) (tD p (ay o fa fb)):=
 (AM ho ha hb hm).weak fun σ H Q ⟨α,ρ,μ,S,R,P⟩=>⟨α,ρ,μ,S,R,P.bind.imp fun x μ1 H1 α1 X1 S1 P1 v rv=>⟨α1,ρ,μ1,S1,R.mono X1,P1.bind.imp fun y μ2 H2 α2 X2 S2 P2 u ru=>hd x y v u H2 α2 μ2 Q S2 (rv.mono X2) ru P2⟩⟩
theorem Cz {op:CmpOp}{o:D->D->ax->ao D}{r:R2} (ho:iJ X (compareOp op) r) (hd:qp p o r) (ha:PE X a (tD p fa)) (hb:PE X b (tD p fb)) (hm:behindInMarks op b=false):PT X (.Compare a [op] [b] pos) (gL p (ia (ay o fa fb))):=
 (AB ho ha hb hm).weak fun σ H Q ⟨α, ρ, μ, S, R, P⟩ => ⟨α, ρ, μ, S, R, P.bind.bind.imp fun x μ1 H1 α1 X1 S1 P1 v rv => ⟨α1, ρ, μ1, S1, R.mono X1, P1.bind.imp fun y μ2 H2 α2 X2 S2 P2 u ru =>
  hd x y v u H2 α2 μ2 _ S2 (rv.mono X2) ru (P2.imp fun d μ3 H3 α3 X3 S3 P3 z rz=>by
   obtain ⟨k,_,e,q⟩:=pJ P3 rz S3
   exact ⟨k,e,q⟩)⟩⟩
theorem Fg {op:UnaryOp}{o:D->ax->ao D}{r:V->Hp->VK->Prop} (ho:FP X (unaryOp op) r) (hd:GM p o r) (ha:PE X a (tD p fa)):PE X (.UnaryOp op a pos) (tD p (lW o fa)):=
 (Fo ho ha).weak fun σ H Q ⟨α,ρ,μ,S,R,P⟩=>⟨α,ρ,μ,S,R,P.bind.imp fun x μ1 H1 α1 X1 S1 P1 v rv=>hd x v H1 α1 μ1 Q S1 rv P1⟩
theorem CY:PA X [] (j5 p aA):=mJ.weak fun σ H Q ⟨α,ρ,μ,S,R,P⟩=>P.now S [] Reps.nil
theorem As {fr:MA} (ha:PE X a (tD p fa)) (hr:PA X es (j5 p fr)) (hs:starEach (a::es) X.env=(false,eval a X.env)::starEach es X.env):PA X (a::es) (j5 p (af fa fr)):=
 (gp ha hr hs).weak fun σ H Q ⟨α,ρ,μ,S,R,P⟩=>⟨α,ρ,μ,S,R,P.bind.imp fun x μ1 H1 α1 X1 S1 P1 v rv=>⟨α1,ρ,μ1,S1,R.mono X1,P1.bind.imp fun y μ2 H2 α2 X2 S2 P2 us ru=>P2.now S2 _ (Reps.cons (rv.mono X2) ru)⟩⟩
theorem CP {k:Nat}{fr:MA} (h:PA X es (j5 p fr)):PE X (.Tuple es k pos) (tD p (dJ fr)):=
 (Dg h).weak fun σ H Q ⟨α, ρ, μ, S, R, P⟩ => ⟨α, ρ, μ, S, R, P.bind.imp fun ds μ1 H1 α1 X1 S1 P1 vs rv => by
  by_cases hl:ds.length<=sizeLine
  ·rw [G6 hl] at P1
   refine ⟨by rw [rv.length];exact hl,fun q hq=>?_⟩
   exact P1 _ _ (bF hq) (S1.tuple hq) _ (aD.mpr ⟨q,vs,rfl,d6.of bG,rv.mono (bF hq)⟩)
  ·rw [G7 hl] at P1
   exact P1.elim⟩
theorem cQ {H:Hp}{α:List Addr}{μ:ax}{ds:List D}{vs:List V}{q:Addr} (S:p.S H α μ) (hq:H q=none) (rv:p.Rs H α ds vs) :
  p.X H (bT H q (.lst vs)) α (α++[q])/\p.S (bT H q (.lst vs)) (α++[q]) (μ++[.lst ds])/\p.R (bT H q (.lst vs)) (α++[q]) (.obj μ.length) (.ref q):=by
 have X1:p.X H (bT H q (.lst vs)) α (α++[q]):=(bF hq).trans (fX [q])
 exact ⟨X1,S.more hq ⟨vs,bG,rv.mono X1⟩,aH.mpr ⟨q,rfl,by rw [<- S.len];simp⟩⟩
theorem CS {fr:MA} (h:PA X es (j5 p fr)):PE X (.List es pos) (tD p (jt fr)):=
 (Dl h).weak fun σ H Q ⟨α, ρ, μ, S, R, P⟩ => ⟨α, ρ, μ, S, R, P.bind.imp fun ds μ1 H1 α1 X1 S1 P1 vs rv => by
  by_cases hl:ds.length<=sizeLine
  ·rw [G6 hl] at P1
   refine ⟨by rw [rv.length];exact hl,fun q hq=>?_⟩
   obtain ⟨x1,x2,x3⟩:=cQ S1 hq rv
   exact P1 _ _ x1 x2 _ x3
  ·rw [G7 hl] at P1
   exact P1.elim⟩
variable {ft gt:MT}{rest:List Expr}
theorem Cw (ha:PT X a (gL p ft)) (hb:PW X (.BoolOp .And (b::rest) pos) (gL p gt)):PW X (.BoolOp .And (a::b::rest) pos) (gL p (jE ft gt)):=
 (C4 ha hb).weak fun σ H Q ⟨α, ρ, μ, S, R, P⟩ => ⟨α, ρ, μ, S, R, P.bind.imp fun k μ1 H1 α1 X1 S1 P1 => by
  cases k with
  | true=>rw [G6 rfl] at P1 ⊢;exact ⟨α1,ρ,μ1,S1,R.mono X1,P1⟩
  | false=>rw [G7 HP] at P1 ⊢;exact P1.now S1⟩
theorem Fb (ha:PT X a (gL p ft)) (hb:PW X (.BoolOp .Or (b::rest) pos) (gL p gt)):PW X (.BoolOp .Or (a::b::rest) pos) (gL p (zD ft gt)):=
 (Fl ha hb).weak fun σ H Q ⟨α, ρ, μ, S, R, P⟩ => ⟨α, ρ, μ, S, R, P.bind.imp fun k μ1 H1 α1 X1 S1 P1 => by
  cases k with
  | true=>rw [G6 rfl] at P1 ⊢;exact P1.now S1
  | false=>rw [G7 HP] at P1 ⊢;exact ⟨α1,ρ,μ1,S1,R.mono X1,P1⟩⟩
theorem Cy (ha:PT X a (gL p ft)):PT X (.UnaryOp .Not a pos) (gL p (mE ft)):=
 (C5 ha).weak fun σ H Q ⟨α,ρ,μ,S,R,P⟩=>⟨α,ρ,μ,S,R,P.bind.imp fun k μ1 H1 α1 X1 S1 P1=>P1.now S1⟩
theorem CW (ha:PE X a (tD p fa)) (hb:PE X (.BoolOp .And (b::rest) pos) (tD p fb)):PE X (.BoolOp .And (a::b::rest) pos) (tD p (gR fa fb)):=
 (Dn ha hb).weak fun σ H Q ⟨α, ρ, μ, S, R, P⟩ => ⟨α, ρ, μ, S, R, P.bind.imp fun d μ1 H1 α1 X1 S1 P1 v rv => by
  obtain ⟨k,_,e,q⟩:=pJ P1.bind rv S1
  refine ⟨k,e,?_⟩
  cases k with
  | true=>rw [G6 rfl] at q ⊢;exact ⟨α1,ρ,μ1,S1,R.mono X1,q⟩
  | false=>rw [G7 HP] at q ⊢;exact q.now S1 _ (aS.mpr rfl)⟩
theorem CQ (ha:PE X a (tD p fa)):PE X (.UnaryOp .Not a pos) (tD p (qP fa)):=
 (Dj ha).weak fun σ H Q ⟨α, ρ, μ, S, R, P⟩ => ⟨α, ρ, μ, S, R, P.bind.imp fun d μ1 H1 α1 X1 S1 P1 v rv => by
  obtain ⟨k,_,e,q⟩:=pJ P1.bind rv S1
  exact ⟨k,e,q.now S1 _ (aS.mpr rfl)⟩⟩
theorem yl {id:String}{x:Str}{px:Pos}{f:List D->ax->ao D}{fr:MA}{r:List V->Hp->VK->Prop} (hc:cj X (.builtin id) r) (hd:qu p f r) (hg:Gl X x) (hm:X.mg x=none) (hv:bootBuiltins x=some (.builtin id)) (ha:PA X (a::es) (j5 p fr))
  (hn:x ≠ "__name__") (hdb:(x == ("__debug__" : Str))=false) (he:starEach (a::es) X.env=(false,eval a X.env)::starEach es X.env) (hpl:(backTo pos (starEach es X.env)).any (·.1)=false):PE X (.Call (.Name x px) (a::es) [] pos) (tD p (aC f fr)):=
 (kj hc hg hm hv ha hn hdb he hpl).weak fun σ H Q ⟨α,ρ,μ,S,R,P⟩=>⟨α,ρ,μ,S,R,P.bind.imp fun ds μ1 H1 α1 X1 S1 P1 vs rv=>hd ds vs H1 α1 μ1 Q S1 rv P1⟩
theorem vA {T:String}{x:Str}{px:Pos}{f:List D->ax->ao D}{fr:MA}{r:List V->Hp->VK->Prop} (hc:cj X (.type T) r) (hd:qu p f r) (hg:Gl X x) (hm:X.mg x=none) (hv:bootBuiltins x=some (.type T)) (ha:PA X (a::es) (j5 p fr))
  (hn:x ≠ "__name__") (hdb:(x == ("__debug__" : Str))=false) (he:starEach (a::es) X.env=(false,eval a X.env)::starEach es X.env) (hpl:(backTo pos (starEach es X.env)).any (·.1)=false):PE X (.Call (.Name x px) (a::es) [] pos) (tD p (aC f fr)):=
 (oC hc hg hm hv ha hn hdb he hpl).weak fun σ H Q ⟨α,ρ,μ,S,R,P⟩=>⟨α,ρ,μ,S,R,P.bind.imp fun ds μ1 H1 α1 X1 S1 P1 vs rv=>hd ds vs H1 α1 μ1 Q S1 rv P1⟩
end
def c4 (f:ME):MS:=fun ρ μ=>(f ρ μ).bindS fun d μ'=>.ret d μ'
def fe:MS:=fun ρ μ=>.next ρ μ
def zz:MS:=fun _ _=>.bad
def bQ (f g:MS):MS:=fun ρ μ=>(f ρ μ).bind g
def kI (c:MT) (f g:MS):MS:=fun ρ μ=>(c ρ μ).bindS fun b μ1=>if b=true then f ρ μ1 else g ρ μ1
def bE (f:ME) (g:MG):MS:=fun ρ μ=>(f ρ μ).bindS fun d μ1=>(g d ρ μ1).bindS fun ρ' μ2=>.next ρ' μ2
def ah (i:Nat):MG:=fun d ρ μ=>.ok (ρ.set i (some d)) μ
abbrev B5:=List D->Ro->ax->ao Ro
def d9:B5:=fun ds ρ μ=>match ds with
 | []=>.ok ρ μ
 | _::_=>.bad
def bf (g:MG) (u:B5):B5:=fun ds ρ μ=>match ds with
 | []=>.bad
 | d::r=>(g d ρ μ).bind fun ρ' μ'=>u r ρ' μ'
def d8 (n:Nat) (u:B5):MG:=fun d ρ μ=>match d with
 | .tup xs=>if xs.length=n then u xs ρ μ else .bad
 | _=>.bad
def sL (o i v:D) (μ:ax):ao Unit:=match o,i with
 | .obj n,.int k=>match μ[n]? with
  | some (.lst xs)=>match sD xs.length k with
   | some j=>.ok () (μ.set n (.lst (xs.set j v)))
   | none=>.bad
  | _=>.bad
 | _,_=>.bad
def mz (fo fi:ME):MG:=fun d ρ μ=>(fo ρ μ).bind fun o μ1=>(fi ρ μ1).bind fun i μ2=>(sL o i d μ2).bind fun _ μ3=>.ok ρ μ3
def qw (p:Pa) (g:B5):zt:=fun vs σ H Q=>∃ α ρ μ ds,p.S H α μ/\cD p.K H α ρ σ/\p.Rs H α ds vs/\aw p H α (g ds ρ μ) (fun ρ' _ H' α'=>∀ σ',cD p.K H' α' ρ' σ'->Q σ' H')
theorem PG.weak {X:Cx}{e:Expr}{t t':TG} (h:PG X e t) (k:∀ v σ H Q,t' v σ H Q->t v σ H Q):PG X e t':=fun pins s σ H v u Q I r q=>h pins s σ H v u Q I r (k v σ H Q q)
theorem sG.weak {X:Cx}{e:List Expr}{t t':zt} (h:sG X e t) (k:∀ v σ H Q,t' v σ H Q->t v σ H Q):sG X e t':=fun pins s σ H v u Q I r q=>h pins s σ H v u Q I r (k v σ H Q q)
theorem PI.weak {X:Cx}{tg e:Expr}{t t':TI} (h:PI X tg e t) (k:∀ σ H R,t' σ H R->t σ H R):PI X tg e t':=fun pins s σ H Q I q=>h pins s σ H Q I (k σ H Q q)
section
variable {p:Pa}{X:Cx}{a b c e tg:Expr}{es:List Expr}{f:ME}{g:MG}{u:B5}{pos:Pos}{st:Stmt}{sts:List Stmt}{fs gs:MS}{ft:MT}
theorem CD:hZ X [] (gb p fe):=AD.weak fun D σ H ⟨α,ρ,μ,S,R,P⟩=>P H α σ jJ.refl S R
theorem yh {t u:TS}{D:kO}{σ:St}{H:Hp}{α:List Addr}{o:SO}{k:MS} (h:du p H α (o.bind k) D)
  (hk:∀ D σ H,gb p k D σ H->u D σ H):du p H α o { D with nx:=u D }:=by
 cases o with
 | next ρ μ=>exact fun H' α' σ' e s r=>hk _ _ _ ⟨α',ρ,μ,s,r,du.from e h⟩
 | brk ρ μ=>exact h
 | cnt ρ μ=>exact h
 | ret d μ=>exact h
 | exc x μ=>exact h
 | bad=>exact h
theorem z7 (h1:PS X st (gb p fs)) (h2:hZ X sts (gb p gs)):hZ X (st::sts) (gb p (bQ fs gs)):=
 (yw h1 h2).weak fun D σ H ⟨α,ρ,μ,S,R,P⟩=>⟨α,ρ,μ,S,R,yh (t:=gb p fs) (σ:=σ) P fun _ _ _ z=>z⟩
theorem CC (h1:PS X st (gb p fs)):hZ X [st] (gb p fs):=AC h1
theorem CB (h:PE X e (tD p f)):PS X (.Return (some e) pos) (gb p (c4 f)):=
 (C8 h).weak fun D σ H ⟨α,ρ,μ,S,R,P⟩=>⟨α,ρ,μ,S,R,(aw.bindS P).imp fun d μ1 H1 α1 X1 S1 P1 v rv=>P1 H1 α1 v jJ.refl S1 rv⟩
theorem x4:PS X st (gb p zz):=yz.weak fun D σ H ⟨α,ρ,μ,S,R,P⟩=>P
theorem Fd {A B:List Stmt} (hc:PT X c (gL p ft)) (ha:hZ X A (gb p fs)) (hb:hZ X B (gb p gs)):PS X (.If c A B pos) (gb p (kI ft fs gs)):=
 (Fm hc ha hb).weak fun D σ H ⟨α, ρ, μ, S, R, P⟩ => ⟨α, ρ, μ, S, R, (aw.bindS P).imp fun k μ1 H1 α1 X1 S1 P1 => by
  cases k with
  | true=>rw [G6 rfl] at P1 ⊢;exact ⟨α1,ρ,μ1,S1,R.mono X1,P1⟩
  | false=>rw [G7 HP] at P1 ⊢;exact ⟨α1,ρ,μ1,S1,R.mono X1,P1⟩⟩
theorem rV {D:kO}{σ:St}{H:Hp} (h:gb p (bE f g) D σ H):wJ (tD p f) (nJ p g) D σ H:=by
 obtain ⟨α,ρ,μ,S,R,P⟩:=h
 exact ⟨α,ρ,μ,S,R,(aw.bindS P).imp fun d μ1 H1 α1 X1 S1 P1 v rv=>⟨α1,ρ,μ1,d,S1,R.mono X1,rv,(aw.bindS P1).imp fun ρ' μ2 H2 α2 X2 S2 P2 σ' r'=>P2 H2 α2 σ' jJ.refl S2 r'⟩⟩
theorem CG (he:PE X e (tD p f)) (hg:PG X tg (nJ p g)) (hs:swapsWithSole [tg] e pos.line X.env=pure false) (hw:swappedStores [tg] e X.env=pure none)
  (h1:(assignEach [tg] X.env).map (·.2)=[assign tg X.env]):PS X (.Assign [tg] e pos) (gb p (bE f g)):=(Da he hg hs hw h1).weak fun D σ H h=>rV h
theorem nt {i:Nat}{v:V}{σ:St}{H:Hp}{Q:St->Hp->Prop} (h:nJ p (ah i) v σ H Q):qK i v σ H Q:=by
 obtain ⟨α,ρ,μ,d,S,R,r,P⟩:=h
 exact P.now S _ (R.set i r)
theorem Am {i:Nat}{x:Str} (hN:X.N.Nodup) (hi:X.N[i]?=some x) (hx:zo X.env.scope x) (hf:X.fn x=true\/X.env.scope.names.lookup x=some .local):PG X (.Name x pos) (nJ p (ah i)):=
 (AJ hN hi hx hf).weak fun v σ H Q h=>nt h
theorem CA {i:Nat}{x:Str}{pos':Pos} (hN:X.N.Nodup) (hi:X.N[i]?=some x) (hx:zo X.env.scope x) (he:PE X e (tD p f)) (hs:swapsWith e (some (.Name x pos')) pos.line X.env=pure false) (hf:X.fn x=true\/X.env.scope.names.lookup x=some .local) :
  PS X (.Assign [.Name x pos'] e pos) (gb p (bE f (ah i))):=(C7 hN hi hx he hs hf).weak fun D σ H h=>by
 obtain ⟨α,ρ,μ,S,R,P⟩:=rV h
 exact ⟨α,ρ,μ,S,R,P.imp fun d μ1 H1 α1 X1 S1 P1 v rv=>nt (P1 v rv)⟩
theorem Al:sG X [] (qw p d9):=AI.weak fun vs σ H Q ⟨α,ρ,μ,ds,S,R,r,P⟩=>by
 cases ds with
 | nil=>simp only [Reps] at r;exact ⟨r,P.now S σ R⟩
 | cons d ds=>exact P.elim
theorem yd (h1:PG X e (nJ p g)) (h2:sG X es (qw p u)) (hs:(assignEach (e::es) X.env).map (·.2)=assign e X.env::(assignEach es X.env).map (·.2)):sG X (e::es) (qw p (bf g u)):=
 (yB h1 h2 hs).weak fun vs σ H Q ⟨α, ρ, μ, ds, S, R, r, P⟩ => by
  cases ds with
  | nil=>exact P.elim
  | cons d ds=>
   simp only [Reps] at r
   obtain ⟨v,vr,rfl,r1,r2⟩:=r
   refine ⟨v,vr,rfl,α,ρ,μ,d,S,R,r1,?_⟩
   exact (aw.bind (o:=g d ρ μ) P).imp fun ρ' μ1 H1 α1 X1 S1 P1 σ' r'=>⟨α1,ρ',μ1,ds,S1,r',r2.mono X1,P1⟩
theorem CM {k n:Nat} (hK:X.K=p.K) (hc:X.calm=true) (h:sG X es (qw p u)) (hn:(assignEach es X.env).length=n) (hst:(assignEach es X.env).findIdx? (·.1)=none):PG X (.Tuple es k pos) (nJ p (d8 n u)):=
 (Dd hc h hn hst).weak fun v σ H Q ⟨α, ρ, μ, d, S, R, r, P⟩ => by
  cases d with
  | tup xs=>
   obtain ⟨a,vs,rfl,h1,h2⟩:=aD.mp r
   have P':aw p H α (if xs.length=n then u xs ρ μ else .bad) _:=P
   by_cases hl:xs.length=n
   ·rw [G6 hl] at P'
    exact ⟨a,vs,rfl,by rw [hK];exact h1,by rw [h2.length];exact hl,α,ρ,μ,xs,S,R,h2,P'⟩
   ·rw [G7 hl] at P';exact P'.elim
  | non=>exact P.elim
  | bl b=>exact P.elim
  | int i=>exact P.elim
  | str x=>exact P.elim
  | frz xs=>exact P.elim
  | obj n=>exact P.elim
theorem Ao {o i d:D}{μ:ax}{H:Hp}{α:List Addr}{R:Unit->ax->Hp->List Addr->Prop}{vo vi v:V} (S:p.S H α μ) (ro:p.R H α o vo) (ri:p.R H α i vi) (rv:p.R H α d v) (P:aw p H α (sL o i d μ) R) :
  BF vo vi v H fun H'=>∃ μ',p.X H H' α α/\p.S H' α μ'/\R () μ' H' α:=by
 unfold sL at P
 split at P
 ·rename_i n k
  split at P
  ·rename_i xs hx
   split at P
   ·rename_i j hj
    obtain ⟨a,ea,us,hH,rr⟩:=S.at hx
    obtain ⟨a',rfl,ea'⟩:=aH.mp ro
    rw [ea] at ea';cases ea'
    rw [ak.mp ri]
    have q:=rr.set rv j
    refine ⟨a,us,k,j,rfl,rfl,hH,by rw [rr.length];exact hj,_,ip hH,S.put hx ea hH q,?_⟩
    exact P _ _ (ip hH) (S.put hx ea hH q)
   ·exact P.elim
  ·exact P.elim
 ·exact P.elim
theorem CN {o i:Expr}{fo fi:ME} (ho:PE X o (tD p fo)) (hi:PE X i (tD p fi))
  (ha : ∀ v, assign (.Subscript o i pos) X.env v = (do
   let ov <- holding [v] (eval o X.env)
   let iv <- holding [v,ov] (eval i X.env)
   standAt pos
   holding [v,ov,iv] (setItem ov iv v)
   release [v,ov,iv] [])):PG X (.Subscript o i pos) (nJ p (mz fo fi)):=
 (De ho hi ye ha).weak fun v σ H Q ⟨α, ρ, μ, d, S, R, r, P⟩ => ⟨α, ρ, μ, S, R, (aw.bind P).imp fun od μ1 H1 α1 X1 S1 P1 vo ro => ⟨α1, ρ, μ1, S1, R.mono X1, (aw.bind P1).imp fun id μ2 H2 α2 X2 S2 P2 vi ri => by
  obtain ⟨pp,xs,k,j,e1,e2,e3,e4,μ3,x3,s3,q⟩:=Ao S2 (ro.mono X2) ri ((r.mono X1).mono X2) (aw.bind P2)
  exact ⟨pp,xs,k,j,e1,e2,e3,e4,q.now s3 σ (((R.mono X1).mono X2).mono x3)⟩⟩⟩
end
inductive lX where
 | fix (xs:List D) | own (n:Nat) (xs:List D) | eno (n:Nat) (xs:List D)
def gm:Nat->List D->List D
 | _,[]=>[]
 | i,x::r=>.tup [.int i,x]::gm (i+1) r
theorem oU:∀ {xs:List D}{k i:Nat},(gm k xs)[i]?=(xs[i]?).map fun x=>D.tup [.int ((k+i:Nat):Int),x]
 | [],_,_=>by simp [gm]
 | x::r,k,0=>by simp [gm]
 | x::r,k,i+1=>by
  simp only [gm,List.getElem?_cons_succ]
  rw [oU (xs:=r) (k:=k+1) (i:=i)]
  congr 1
  funext y
  congr 4
  omega
theorem oS:∀ {xs:List D}{k:Nat},(gm k xs).length=xs.length
 | [],_=>rfl
 | x::r,k=>by simp [gm,oS (xs:=r)]
def lX.items:lX->List D
 | .fix xs=>xs
 | .own _ xs=>xs
 | .eno _ xs=>gm 0 xs
def cg:lX->ax->Prop
 | .fix _,_=>True
 | .own n xs,μ=>μ[n]?=some (.lst xs)
 | .eno n xs,μ=>μ[n]?=some (.lst xs)
def sQ (p:Pa) (J:It) (src:lX) (H0:Hp) (α0:List Addr):Prop:=
 ∀ H2 α2 μ2,p.X H0 H2 α0 α2->p.S H2 α2 μ2->cg src μ2 ->
  (∀ (i:Nat) d,src.items[i]?=some d->J.go i H2/\∀ x H3,J.yld i H2 x H3->p.X H2 H3 α2 α2/\p.S H3 α2 μ2/\p.R H3 α2 d x)/\J.stop src.items.length H2
abbrev MI:=Ro->ax->ao lX
def qt (p:Pa) (f:MI):TI:=fun σ H R=>∃ α ρ μ,p.S H α μ/\cD p.K H α ρ σ/\aw p H α (f ρ μ) (fun src μ' H' α'=>∀ J,cg src μ'->sQ p J src H' α'->R J H')
def SO.loop (o:SO) (k:Ro->ax->SO):SO:=match o with
 | .next ρ μ=>k ρ μ
 | .cnt ρ μ=>k ρ μ
 | .brk ρ μ=>.next ρ μ
 | .ret d μ=>.ret d μ
 | .exc x μ=>.exc x μ
 | .bad=>.bad
open Classical in
noncomputable def gH (src:lX) (g:MG) (fb:MS):List D->Ro->ax->SO
 | [],ρ,μ=>if cg src μ then .next ρ μ else .bad
 | d::r,ρ,μ=>if cg src μ then (g d ρ μ).bindS fun ρ' μ'=>(fb ρ' μ').loop (gH src g fb r) else .bad
noncomputable def j6 (fi:MI) (g:MG) (fb:MS):MS:=fun ρ μ=>(fi ρ μ).bindS fun src μ1=>gH src g fb src.items ρ μ1
section
variable {p:Pa}{X:Cx}{tg iter c:Expr}{fi:MI}{g:MG}{fb:MS}{ft:MT}{body:List Stmt}{pos:Pos}
theorem vS {H:Hp}{α:List Addr}{o:SO}{k:Ro->ax->SO}{D:kO}{N:St->Hp->Prop} (h:du p H α (o.loop k) D)
  (hN:∀ ρ μ H' α' σ',p.X H H' α α'->p.S H' α' μ->cD p.K H' α' ρ σ'->du p H' α' (k ρ μ) D->N σ' H'):du p H α o { D with nx:=N,ct:=N,bk:=D.nx }:=by
 cases o with
 | next ρ μ=>exact fun H' α' σ' e s r=>hN ρ μ H' α' σ' e s r (du.from e h)
 | cnt ρ μ=>exact fun H' α' σ' e s r=>hN ρ μ H' α' σ' e s r (du.from e h)
 | brk ρ μ=>exact h
 | ret d μ=>exact h
 | exc x μ=>exact h
 | bad=>exact h
theorem CF (hp:PassesOwn (model X.prog X.w) X.A X.env X.xe) (hc:X.calm=true) (hi:PI X tg iter (qt p fi)) (hg:PG X tg (nJ p g)) (hb:hZ X body (gb p fb)) (hs:∀ x,foldedSetIterable iter X.env x=pure x) :
  PS X (.For tg iter body [] pos) (gb p (j6 fi g fb)):=(C9 hp hc hi hg hb hs).weak fun D σ H ⟨α,ρ,μ,S,R,P⟩=>by
 refine ⟨α,ρ,μ,S,R,(aw.bindS P).imp fun src μ1 H1 α1 X1 S1 P1 J hok hJ=>?_⟩
 refine ⟨fun i m σ2 H2=>m=src.items.length - i/\i<=src.items.length/\∃ α2 ρ2 μ2,p.X H1 H2 α1 α2/\p.S H2 α2 μ2/\cD p.K H2 α2 ρ2 σ2/\du p H2 α2 (gH src g fb (src.items.drop i) ρ2 μ2) D,
  ⟨_,rfl,Jh _,α1,ρ,μ1,jJ.refl,S1,R.mono X1,by simpa using P1⟩,?_⟩
 rintro i m σ2 H2 ⟨rfl,hi,α2,ρ2,μ2,X2,S2,R2,P2⟩
 by_cases hlt:i<src.items.length
 ·rw [KL hlt] at P2
  unfold gH at P2
  by_cases ho:cg src μ2
  ·rw [G6 ho] at P2
   obtain ⟨hgo,hy⟩:=(hJ H2 α2 μ2 X2 S2 ho).1 i _ (KA hlt)
   refine .inr ⟨hgo,fun σ' H'=>i+1<=src.items.length/\∃ α2 ρ2 μ2,p.X H1 H' α1 α2/\p.S H' α2 μ2/\cD p.K H' α2 ρ2 σ'/\du p H' α2 (gH src g fb (src.items.drop (i+1)) ρ2 μ2) D,
    fun σ' H' ⟨h1,h2⟩=>⟨_,by omega,rfl,h1,h2⟩,fun x H3 yx=>?_⟩
   obtain ⟨X3,S3,R3⟩:=hy x H3 yx
   refine ⟨α2,ρ2,μ2,_,S3,R2.mono X3,R3,(aw.from X3 (aw.bindS P2)).imp fun ρ4 μ4 H4 α4 X4 S4 P4 σ4 R4=>⟨α4,ρ4,μ4,S4,R4,vS P4 fun ρ5 μ5 H5 α5 σ5 X5 S5 R5 P5=>⟨hlt,α5,ρ5,μ5,((X2.trans X3).trans X4).trans X5,S5,R5,P5⟩⟩⟩
  ·rw [G7 ho] at P2;exact P2.elim
 ·have e : i = src.items.length := by omega
  subst e
  rw [KM] at P2
  unfold gH at P2
  by_cases ho:cg src μ2
  ·rw [G6 ho] at P2
   exact .inl ⟨(hJ H2 α2 μ2 X2 S2 ho).2,P2 H2 α2 σ2 jJ.refl S2 R2⟩
  ·rw [G7 ho] at P2;exact P2.elim
end
section
variable {p:Pa}{X:Cx}{tg iter:Expr}
theorem vV {H:Hp}{α:List Addr}{μ:ax}{n:Nat}{xs:List D}{a:Addr} (S:p.S H α μ) (hn:μ[n]?=some (.lst xs)) (ha:α[n]?=some a):sQ p (FU p.K a) (.own n xs) H α:=by
 intro H2 α2 μ2 X2 S2 ho
 obtain ⟨a',ea,vs,hH,rr⟩:=S2.at ho
 rw [X2.pre n a ha] at ea;cases ea
 refine ⟨fun i d hd=>?_,vs,eO.of hH,by rw [rr.length];exact HI _⟩
 obtain ⟨v,hv,rv⟩:=rr.get hd
 refine ⟨⟨vs,v,eO.of hH,hv⟩,fun x H3 ⟨e,hx⟩=>?_⟩
 subst e
 have:=hx vs (eO.of hH)
 rw [hv] at this;cases this
 exact ⟨jJ.refl,S2,rv⟩
theorem yW {H:Hp}{α:List Addr}{xs:List D}{vs:List V}{a:Addr} (h:Bz p.K H a vs) (r:p.Rs H α xs vs):sQ p (FU p.K a) (.fix xs) H α:=by
 intro H2 α2 μ2 X2 S2 ho
 have h2:=(X2.frz a vs h).sq
 have rr:=r.mono X2
 refine ⟨fun i d hd=>?_,vs,h2,by rw [rr.length];exact HI _⟩
 obtain ⟨v,hv,rv⟩:=rr.get hd
 refine ⟨⟨vs,v,h2,hv⟩,fun x H3 ⟨e,hx⟩=>?_⟩
 subst e
 have:=hx vs h2
 rw [hv] at this;cases this
 exact ⟨jJ.refl,S2,rv⟩
theorem yV {H:Hp}{α:List Addr}{xs:List D}{vs:List V}{a:Addr} (h:d6 p.K H a vs) (r:p.Rs H α xs vs):sQ p (F8 p.K a) (.fix xs) H α:=by
 intro H2 α2 μ2 X2 S2 ho
 have h2:=X2.tup a vs h
 have rr:=r.mono X2
 refine ⟨fun i d hd=>?_,vs,h2,by rw [rr.length];exact HI _⟩
 obtain ⟨v,hv,rv⟩:=rr.get hd
 refine ⟨⟨vs,v,h2,hv⟩,fun x H3 ⟨e,hx⟩=>?_⟩
 subst e
 have:=hx vs h2
 rw [hv] at this;cases this
 exact ⟨jJ.refl,S2,rv⟩
def bq (lo:Int) (n:Nat):List D:=(List.range n).map fun (i:Nat)=>D.int (lo+(i:Int))
theorem rF {H:Hp}{α:List Addr} (lo:Int) (n:Nat):sQ p (El lo n) (.fix (bq lo n)) H α:=by
 intro H2 α2 μ2 X2 S2 ho
 refine ⟨fun i d hd=>?_,by simp [lX.items,bq,El]⟩
 have hd':(bq lo n)[i]?=some d:=hd
 unfold bq at hd'
 rw [Ih] at hd'
 by_cases hi:i<n
 ·rw [Kn hi] at hd'
  cases hd'
  refine ⟨hi,fun x H3 ⟨e,hx⟩=>?_⟩
  subst e;subst hx
  exact ⟨jJ.refl,S2,ak.mpr rfl⟩
 ·rw [Ko (by simpa using hi)] at hd'
  cases hd'
def u9 (d:D) (μ:ax):ao lX:=match d with
 | .tup xs=>.ok (.fix xs) μ
 | .frz xs=>.ok (.fix xs) μ
 | .obj n=>match μ[n]? with
  | some (.lst xs)=>.ok (.own n xs) μ
  | _=>.bad
 | _=>.bad
def iH (f:ME):MI:=fun ρ μ=>(f ρ μ).bind u9
def Gv (K:W.Frag) (tl:TE):TI:=fun σ H R=>tl σ H fun x H1=>∃ a,x=.ref a/\(((∃ xs,eO K H1 a xs)/\R (FU K a) H1)\/((∃ xs,d6 K H1 a xs)/\R (F8 K a) H1))
theorem Dc {l:Expr}{tl:TE} (hl:PE X l tl):PI X tg l (Gv X.K tl):=by
 intro pins s σ H R I h
 refine dD (hl pins s σ H _ I h) fun v s1 ⟨x,H1,I1,r1,q1⟩=>?_
 obtain ⟨a,e,q⟩:=q1
 subst e
 cases r1
 rcases q with ⟨⟨xs,hq⟩,q⟩ | ⟨⟨xs,hq⟩,q⟩
 ·obtain ⟨its, rv, p, hz⟩ := I1.list hq
  refine Kf p.isList ?_
  refine ⟨s1.heap.objs.size,[s1.heap.objs.size],_,_,H1,rfl,I1.kept (t':=s1.toks) fun b o e=>HG _ e,vk a _,⟨_,HH _ rfl,rfl,rfl⟩,fun b hb=>?_,q⟩
  have e:b=s1.heap.objs.size:=by simpa using hb
  subst e
  exact I1.fpOk (HI _) (I1.hok.fresh (HI _))
 ·obtain ⟨its, rv, p, hz⟩ := I1.tuple hq
  refine Jp (show s1.heap.IsTuple a its.toArray from p) ?_
  refine ⟨s1.heap.objs.size,[s1.heap.objs.size],_,_,H1,rfl,I1.kept (t':=s1.toks) fun b o e=>HG _ e,tm a _,⟨_,HH _ rfl,rfl,rfl⟩,fun b hb=>?_,q⟩
  have e:b=s1.heap.objs.size:=by simpa using hb
  subst e
  exact I1.fpOk (HI _) (I1.hok.fresh (HI _))
theorem CL {l:Expr}{f:ME} (hK:X.K=p.K) (hl:PE X l (tD p f)):PI X tg l (qt p (iH f)):=(Dc hl).weak fun σ H R ⟨α,ρ,μ,S,Rr,P⟩=>by
 refine ⟨α,ρ,μ,S,Rr,(aw.bind P).imp fun d μ1 H1 α1 X1 S1 P1 v rv=>?_⟩
 rw [hK]
 cases d with
 | tup xs=>
  obtain ⟨a,vs,rfl,h1,h2⟩:=aD.mp rv
  exact ⟨a,rfl,.inr ⟨⟨vs,h1⟩,P1.now S1 _ trivial (yV h1 h2)⟩⟩
 | frz xs=>
  obtain ⟨a,vs,rfl,h1,h2⟩:=ba.mp rv
  exact ⟨a,rfl,.inl ⟨⟨vs,h1.sq⟩,P1.now S1 _ trivial (yW h1 h2)⟩⟩
 | obj n=>
  obtain ⟨a,rfl,ha⟩:=aH.mp rv
  unfold u9 at P1
  dsimp only at P1
  split at P1
  ·rename_i xs hx
   obtain ⟨a',ea,vs,hH,rr⟩:=S1.at hx
   rw [ha] at ea;cases ea
   exact ⟨a,rfl,.inl ⟨⟨vs,eO.of hH⟩,P1.now S1 _ hx (vV S1 hx ha)⟩⟩
  ·exact P1.elim
 | non=>exact P1.elim
 | bl b=>exact P1.elim
 | int i=>exact P1.elim
 | str x=>exact P1.elim
def jq (ds:List D) (μ:ax):ao lX:=match ds with
 | [.int j]=>if -(2 ^ 62)<=j/\j<2 ^ 62 then .ok (.fix (bq 0 j.toNat)) μ else .bad
 | _=>.bad
def mj (ds:List D) (μ:ax):ao lX:=match ds with
 | [.int i,.int j]=>if -(2 ^ 62)<=i/\i<2 ^ 62/\-(2 ^ 62)<=j/\j<2 ^ 62 then .ok (.fix (bq i (j - i).toNat)) μ else .bad
 | _=>.bad
def fu (f:List D->ax->ao lX) (fa:MA):MI:=fun ρ μ=>(fa ρ μ).bind f
theorem vz {a:Expr}{fa:MA}{px pos:Pos} (hg:Gl X "range") (hm:X.mg "range" = none) (ha:PA X [a] (j5 p fa)) (hs:starEach [a] X.env=[(false,eval a X.env)]):PI X tg (.Call (.Name "range" px) [a] [] pos) (qt p (fu jq fa)):=
 (vG hg hm ha hs).weak fun σ H R ⟨α, ρ, μ, S, Rr, P⟩ => ⟨α, ρ, μ, S, Rr, (aw.bind P).imp fun ds μ1 H1 α1 X1 S1 P1 vs rv => by
  unfold jq at P1
  split at P1
  ·rename_i j
   obtain ⟨v,rfl,r1⟩:=rv.one
   rw [ak.mp r1]
   split at P1
   ·rename_i hj
    exact ⟨j,rfl,hj.1,hj.2,P1.now S1 _ trivial (rF 0 _)⟩
   ·exact P1.elim
  ·exact P1.elim⟩
theorem vy {a b:Expr}{fa:MA}{px pos:Pos} (hg:Gl X "range") (hm:X.mg "range" = none) (ha:PA X [a,b] (j5 p fa)) (hs:starEach [a,b] X.env=[(false,eval a X.env),(false,eval b X.env)]) (hs2:starEach [b] X.env=[(false,eval b X.env)]):PI X tg (.Call (.Name "range" px) [a,b] [] pos) (qt p (fu mj fa)):=
 (vF hg hm ha hs hs2).weak fun σ H R ⟨α, ρ, μ, S, Rr, P⟩ => ⟨α, ρ, μ, S, Rr, (aw.bind P).imp fun ds μ1 H1 α1 X1 S1 P1 vs rv => by
  unfold mj at P1
  split at P1
  ·rename_i i j
   obtain ⟨v,u,rfl,r1,r2⟩:=rv.two
   rw [ak.mp r1,ak.mp r2]
   split at P1
   ·rename_i hj
    exact ⟨i,j,rfl,hj,P1.now S1 _ trivial (rF i _)⟩
   ·exact P1.elim
  ·exact P1.elim⟩
theorem oG {b:Bool}{src:lX}{xs:List D}{H:Hp}{α:List Addr}{a:Addr} (hi:src.items=gm 0 xs)
  (hs:∀ H2 α2 μ2,p.X H H2 α α2->p.S H2 α2 μ2->cg src μ2->∃ vs,Sq b p.K H2 a vs/\p.Rs H2 α2 xs vs ):sQ p (F9 b p.K a) src H α:=by
 intro H2 α2 μ2 X2 S2 ho
 obtain ⟨vs,h2,rr⟩:=hs H2 α2 μ2 X2 S2 ho
 rw [hi]
 refine ⟨fun i d hd=>?_,vs,h2,by rw [rr.length,oS]⟩
 rw [oU] at hd
 cases e:xs[i]? with
 | none=>rw [e] at hd;cases hd
 | some y=>
  rw [e] at hd
  cases hd
  obtain ⟨v,hv,rv⟩:=rr.get e
  refine ⟨⟨vs,v,h2,hv⟩,fun x H3 ⟨q,w,e1,hq,e2,hx⟩=>?_⟩
  subst e1 e2
  have:=hx vs h2
  rw [hv] at this;cases this
  refine ⟨bF hq,S2.tuple hq,aD.mpr ⟨q,_,rfl,d6.of bG,?_⟩⟩
  rw [Nat.zero_add]
  exact Reps.cons (ak.mpr rfl) (Reps.cons (rv.mono (bF hq)) Reps.nil)
def oo (ds:List D) (μ:ax):ao lX:=match ds with
 | [.tup xs]=>.ok (.fix (gm 0 xs)) μ
 | [.obj n]=>match μ[n]? with
  | some (.lst xs)=>.ok (.eno n xs) μ
  | _=>.bad
 | _=>.bad
theorem Ak {a:Expr}{fa:MA}{px pos tpos:Pos}{elts:List Expr}{k1:Nat} (hK:X.K=p.K) (hg:Gl X "enumerate") (hm:X.mg "enumerate" = none) (ha:PA X [a] (j5 p fa)) (hs:starEach [a] X.env=[(false,eval a X.env)]) :
  PI X (.Tuple elts k1 tpos) (.Call (.Name "enumerate" px) [a] [] pos) (qt p (fu oo fa)):=
 (AH hg hm ha hs).weak fun σ H R ⟨α, ρ, μ, S, Rr, P⟩ => ⟨α, ρ, μ, S, Rr, (aw.bind P).imp fun ds μ1 H1 α1 X1 S1 P1 vs rv => by
  rw [hK]
  unfold oo at P1
  split at P1
  ·rename_i xs
   obtain ⟨v,rfl,r1⟩:=rv.one
   obtain ⟨a,us,rfl,h1,h2⟩:=aD.mp r1
   exact ⟨a,false,rfl,⟨us,h1⟩,P1.now S1 _ trivial (oG (b:=false) rfl fun H2 α2 μ2 X2 S2 _=>⟨us,X2.tup a us h1,h2.mono X2⟩)⟩
  ·rename_i n
   split at P1
   ·rename_i xs hx
    obtain ⟨v,rfl,r1⟩:=rv.one
    obtain ⟨a,rfl,ha⟩:=aH.mp r1
    obtain ⟨a',ea,us,hH,rr⟩:=S1.at hx
    rw [ha] at ea;cases ea
    refine ⟨a,true,rfl,⟨us,eO.of hH⟩,P1.now S1 _ hx (oG (b:=true) rfl fun H2 α2 μ2 X2 S2 ho=>?_)⟩
    obtain ⟨a2,ea2,us2,hH2,rr2⟩:=S2.at (show μ2[n]?=some (.lst xs) from ho)
    rw [X2.pre n a ha] at ea2;cases ea2
    exact ⟨us2,eO.of hH2,rr2⟩
   ·exact P1.elim
  ·exact P1.elim⟩
end
def ao.nox {β:Type} (o:ao β):ao β:=match o with
 | .exc _ _=>.bad
 | o=>o
@[simp] theorem bj {β:Type}{a:β}{μ:ax}:(ao.ok a μ).nox=.ok a μ:=KH (KJ _)
abbrev Pa.nx (p:Pa):Pa:=⟨p.K,p.w,fun _ _ _ _=>False⟩
theorem dO {β γ:Type}{p:Pa}{H:Hp}{α:List Addr}{o:ao β}{k:β->ax->ao γ}{R:γ->ax->Hp->List Addr->Prop} (h:aw p H α (o.nox.bind k) R):aw p.nx H α o (fun a μ1 H1 α1=>aw p H1 α1 (k a μ1) R):=by
 cases o with
 | ok a μ=>exact fun H' α' e s=>aw.from e h
 | exc x μ=>exact False.elim h
 | bad=>exact h
def fv (cap:List (Option Nat)) (ρ:Ro):Ro:=cap.map fun o=>o.bind fun j=>(ρ[j]?).join
theorem cD.cap {K:W.Frag}{H:Hp}{α:List Addr}{ρ:Ro}{σ:St} (R:cD K H α ρ σ) (cap:List (Option Nat)):cD K H α (fv cap ρ) (mD cap σ):=by
 refine ⟨by simp [fv,mD],fun i d h=>?_⟩
 unfold fv at h
 unfold mD
 rw [Ih] at h ⊢
 cases e:cap[i]? with
 | none=>rw [e] at h;cases h
 | some o=>
  rw [e] at h
  cases o with
  | none=>simp at h
  | some j=>
   simp at h ⊢
   obtain ⟨v,h1,h2⟩:=R.at' j d (by
    cases e2:ρ[j]? with
    | none=>rw [e2] at h;simp at h
    | some x=>rw [e2] at h;simp at h;rw [h])
   exact ⟨v,by rw [h1];rfl,h2⟩
def qI (n:Nat) (y:D) (μ:ax):ao Unit:=match μ[n]? with
 | some (.lst ys)=>if ys.length<sizeLine then .ok () (μ.set n (.lst (ys++[y]))) else .bad
 | _=>.bad
open Classical in
noncomputable def compLoop (src:lX) (n:Nat) (g:MG) (t:MT) (e:ME):List D->Ro->ax->ao D
 | [],_,μ=>if cg src μ then .ok (.obj n) μ else .bad
 | d::r,ρ,μ=>if cg src μ then (g d ρ μ).nox.bind fun ρ1 μ1=>(t ρ1 μ1).nox.bind fun b μ2=>if b=true then (e ρ1 μ2).nox.bind fun y μ3=>(qI n y μ3).bind fun _ μ4=>compLoop src n g t e r ρ1 μ4 else compLoop src n g t e r ρ1 μ2 else .bad
noncomputable def cA (fi:MI) (cap:List (Option Nat)) (g:MG) (t:MT) (e:ME):ME:=fun ρ μ=>(fi ρ μ).bind fun src μ1=>compLoop src μ1.length g t e src.items (fv cap ρ) (μ1++[.lst []])
def bx:MT:=fun _ μ=>.ok true μ
theorem yu {p:Pa}{n:Nat}{y:D}{μ:ax}{H:Hp}{α:List Addr}{R:Unit->ax->Hp->List Addr->Prop}{v:V}{acc:Addr} (S:p.S H α μ) (ha:α[n]?=some acc) (rv:p.R H α y v) (P:aw p H α (qI n y μ) R) :
  ∃ ys,H acc=some (.lst ys)/\ys.length<sizeLine/\∃ μ',p.X H (bT H acc (.lst (ys++[v]))) α α/\p.S (bT H acc (.lst (ys++[v]))) α μ'/\R () μ' (bT H acc (.lst (ys++[v]))) α:=by
 unfold qI at P
 split at P
 ·rename_i xs hx
  obtain ⟨a,ea,us,hH,rr⟩:=S.at hx
  rw [ha] at ea;cases ea
  split at P
  ·rename_i hl
   have q:=rr.snoc rv
   exact ⟨us,hH,by rw [rr.length];exact hl,_,ip hH,S.put hx ha hH q,P _ _ (ip hH) (S.put hx ha hH q)⟩
  ·exact P.elim
 ·exact P.elim
section
variable {p:Pa}{X:Cx}{tg iter elt:Expr}{ifs:List Expr}{scope:Scope}{Nc:List Str}{cap:List (Option Nat)}{fi:MI}{g:MG}{t:MT}{e:ME}{pos pos':Pos}
theorem oW {σ:St}{H:Hp}{Q:VK} (h:tD p (cA fi cap g t e) σ H Q):wY (qt p fi) cap (nJ p.nx g) (gL p.nx t) (tD p.nx e) σ H Q:=by
 obtain ⟨α,ρ,μ,S,R,P⟩:=h
 refine ⟨α,ρ,μ,S,R,(aw.bind P).imp fun src μ1 H1 α1 X1 S1 P1 J hok hJ acc hacc=>?_⟩
 obtain ⟨x1,s1,_⟩:=cQ (ds:=[]) (vs:=[]) S1 hacc Reps.nil
 have hn:(α1++[acc])[μ1.length]?=some acc:=by rw [<- S1.len];simp
 refine ⟨fun i m σ2 H2=>m=src.items.length - i/\i<=src.items.length/\∃ α2 ρ2 μ2,p.X H1 H2 α1 α2/\p.S H2 α2 μ2/\cD p.K H2 α2 ρ2 σ2/\α2[μ1.length]?=some acc/\aw p H2 α2 (compLoop src μ1.length g t e (src.items.drop i) ρ2 μ2) (RV p Q),
  ⟨_,rfl,Jh _,α1++[acc],fv cap ρ,μ1++[.lst []],x1,s1,((R.mono X1).cap cap).mono x1,hn,by simpa using aw.from x1 P1⟩,?_⟩
 rintro i m σ2 H2 ⟨rfl,hi,α2,ρ2,μ2,X2,S2,R2,a2,P2⟩
 by_cases hlt:i<src.items.length
 ·rw [KL hlt] at P2
  unfold compLoop at P2
  by_cases ho:cg src μ2
  ·rw [G6 ho] at P2
   obtain ⟨hgo,hy⟩:=(hJ H2 α2 μ2 X2 S2 ho).1 i _ (KA hlt)
   refine .inr ⟨hgo,fun σ' H'=>i+1<=src.items.length/\∃ α2 ρ2 μ2,p.X H1 H' α1 α2/\p.S H' α2 μ2/\cD p.K H' α2 ρ2 σ'/\α2[μ1.length]?=some acc/\aw p H' α2 (compLoop src μ1.length g t e (src.items.drop (i+1)) ρ2 μ2) (RV p Q),
    fun σ' H' ⟨h1,h2⟩=>⟨_,by omega,rfl,h1,h2⟩,fun x H3 yx=>?_⟩
   obtain ⟨X3,S3,R3⟩:=hy x H3 yx
   refine ⟨α2,ρ2,μ2,_,S3,R2.mono X3,R3,(aw.from (p:=p.nx) X3 (dO P2)).imp fun ρ4 μ4 H4 α4 X4 S4 P4 σ4 R4=>?_⟩
   refine ⟨α4,ρ4,μ4,S4,R4,(dO P4).imp fun b μ5 H5 α5 X5 S5 P5=>?_⟩
   have xx:p.X H1 H5 α1 α5:=((X2.trans X3).trans X4).trans X5
   have a5:α5[μ1.length]?=some acc:=X5.pre _ _ (X4.pre _ _ (X3.pre _ _ a2))
   cases b with
   | false=>
    rw [G7 HP] at P5
    refine EL ?_
    exact ⟨hlt,α5,ρ4,μ5,xx,S5,R4.mono X5,a5,P5⟩
   | true=>
    rw [G6 rfl] at P5
    refine EK ?_
    refine ⟨α5,ρ4,μ5,S5,R4.mono X5,(dO P5).imp fun y μ6 H6 α6 X6 S6 P6 v rv=>?_⟩
    obtain ⟨ys,e1,e2,μ7,x7,s7,q7⟩:=yu (p:=p) S6 (X6.pre _ _ a5) rv (aw.bind P6)
    exact ⟨ys,e1,e2,hlt,α6,ρ4,μ7,(xx.trans X6).trans x7,s7,((R4.mono X5).mono X6).mono x7,X6.pre _ _ a5,q7⟩
  ·rw [G7 ho] at P2;exact P2.elim
 ·have e : i = src.items.length := by omega
  subst e
  rw [KM] at P2
  unfold compLoop at P2
  by_cases ho:cg src μ2
  ·rw [G6 ho] at P2
   exact .inl ⟨(hJ H2 α2 μ2 X2 S2 ho).2,P2 H2 α2 jJ.refl S2 _ (aH.mpr ⟨acc,rfl,a2⟩)⟩
  ·rw [G7 ho] at P2;exact P2.elim
theorem zY {X:Cx}:qo X [] (gL p bx):=fun pins s σ H Q I h=>by
 obtain ⟨α,ρ,μ,S,R,P⟩:=h
 exact AA pins s σ H Q I (P.now S)
theorem zX {X:Cx}{c:Expr}{t:MT} (h:PT X c (gL p t)):qo X [c] (gL p t):=Az h
theorem Ap (hc:X.calm=true) (S:bP X.N X.env scope Nc cap) (hi:PI X tg iter (qt p fi))
  (hg:∀ cl C s H fp,PG (gN X Nc scope cl C s H fp) tg (nJ p.nx g)) (ht:∀ cl C s H fp,qo (gN X Nc scope cl C s H fp) ifs (gL p.nx t)) (he:∀ cl C s H fp,PE (gN X Nc scope cl C s H fp) elt (tD p.nx e))
  (hs:∀ x,foldedSetIterable iter X.env x=pure x):PE X (.ListComp elt [⟨tg,iter,ifs,0⟩] scope pos) (tD p (cA fi cap g t e)):=
 (AL hc S hi hg ht he hs).weak fun σ H Q h=>oW h
theorem z6 {i:Nat}{x:Str}{pos1:Pos}{pos2:Pos} (hc:X.calm=true) (hN:X.N.Nodup) (hix:X.N[i]?=some x) (hx:X.env.scope.names.lookup x=some .local) (S:bP X.N X.env scope Nc cap) (hi:PI X tg iter (qt p fi))
  (hg:∀ cl C s H fp,PG (gN X Nc scope cl C s H fp) tg (nJ p.nx g)) (ht:∀ cl C s H fp,qo (gN X Nc scope cl C s H fp) ifs (gL p.nx t)) (he:∀ cl C s H fp,PE (gN X Nc scope cl C s H fp) elt (tD p.nx e))
  (hsw:swapsWith (.ListComp elt [⟨tg,iter,ifs,0⟩] scope pos) (some (.Name x pos1)) pos2.line X.env=pure true) (hs:∀ x,foldedSetIterable iter X.env x=pure x) :
  PS X (.Assign [.Name x pos1] (.ListComp elt [⟨tg,iter,ifs,0⟩] scope pos) pos2) (gb p (bE (cA fi cap g t e) (ah i))):=
 (AE hc hN hix hx S hi hg ht he hsw hs).weak fun D σ H h => by
  obtain ⟨α,ρ,μ,S,R,P⟩:=h
  refine oW ⟨α,ρ,μ,S,R,(aw.bindS P).imp fun d μ1 H1 α1 X1 S1 P1 v rv=>?_⟩
  exact P1 H1 α1 _ jJ.refl S1 ((R.mono X1).set i rv)
end
abbrev MB:=Nat->Ro->ax->ao Ro
open Classical in
noncomputable def iM (src:lX) (n:Nat) (g:MG) (t:MT) (fb:MB):List D->Ro->ax->ao Ro
 | [],ρ,μ=>if cg src μ then .ok ρ μ else .bad
 | d::r,ρ,μ=>if cg src μ then (g d ρ μ).nox.bind fun ρ1 μ1=>(t ρ1 μ1).nox.bind fun b μ2=>if b=true then (fb n ρ1 μ2).nox.bind fun ρ2 μ3=>iM src n g t fb r ρ2 μ3 else iM src n g t fb r ρ1 μ2 else .bad
section
variable {p:Pa}
def Ep (p:Pa) (fb:MB) (acc:Addr):zu:=fun σ H N=>∃ α ρ μ n,p.S H α μ/\cD p.K H α ρ σ/\α[n]?=some acc/\aw p H α (fb n ρ μ) (fun ρ' _ H' α'=>∀ σ',cD p.K H' α' ρ' σ'->N σ' H')
theorem tP {src:lX}{n:Nat}{g:MG}{t:MT}{fb:MB}{acc:Addr}{J:It}{H1 H0:Hp}{α1 α0:List Addr}{ρ:Ro}{μ1:ax}{σ:St}{N:St->Hp->Prop} (X0:p.X H0 H1 α0 α1) (S1:p.S H1 α1 μ1) (R:cD p.K H1 α1 ρ σ) (hn:α1[n]?=some acc) (hJ:sQ p J src H0 α0)
  (P1:aw p H1 α1 (iM src n g t fb src.items ρ μ1) (fun ρ' _ H' α'=>∀ σ',cD p.K H' α' ρ' σ'->N σ' H')):F2 J (nJ p.nx g) (gL p.nx t) (Ep p.nx fb acc) N σ H1:=by
 refine ⟨fun i m σ2 H2=>m=src.items.length - i/\i<=src.items.length/\∃ α2 ρ2 μ2,p.X H0 H2 α0 α2/\p.S H2 α2 μ2/\cD p.K H2 α2 ρ2 σ2/\α2[n]?=some acc/\aw p H2 α2 (iM src n g t fb (src.items.drop i) ρ2 μ2) (fun ρ' _ H' α'=>∀ σ',cD p.K H' α' ρ' σ'->N σ' H'),
  ⟨_,rfl,Jh _,α1,ρ,μ1,X0,S1,R,hn,by simpa using P1⟩,?_⟩
 rintro i m σ2 H2 ⟨rfl,hi,α2,ρ2,μ2,X2,S2,R2,a2,P2⟩
 by_cases hlt:i<src.items.length
 ·rw [KL hlt] at P2
  unfold iM at P2
  by_cases ho:cg src μ2
  ·rw [G6 ho] at P2
   obtain ⟨hgo,hy⟩:=(hJ H2 α2 μ2 X2 S2 ho).1 i _ (KA hlt)
   refine .inr ⟨hgo,fun σ' H'=>i+1<=src.items.length/\∃ α2 ρ2 μ2,p.X H0 H' α0 α2/\p.S H' α2 μ2/\cD p.K H' α2 ρ2 σ'/\α2[n]?=some acc/\aw p H' α2 (iM src n g t fb (src.items.drop (i+1)) ρ2 μ2) (fun ρ' _ H' α'=>∀ σ',cD p.K H' α' ρ' σ'->N σ' H'),
    fun σ' H' ⟨h1,h2⟩=>⟨_,by omega,rfl,h1,h2⟩,fun x H3 yx=>?_⟩
   obtain ⟨X3,S3,R3⟩:=hy x H3 yx
   refine ⟨α2,ρ2,μ2,_,S3,R2.mono X3,R3,(aw.from (p:=p.nx) X3 (dO P2)).imp fun ρ4 μ4 H4 α4 X4 S4 P4 σ4 R4=>?_⟩
   refine ⟨α4,ρ4,μ4,S4,R4,(dO P4).imp fun b μ5 H5 α5 X5 S5 P5=>?_⟩
   have xx:p.X H0 H5 α0 α5:=((X2.trans X3).trans X4).trans X5
   have a5:α5[n]?=some acc:=X5.pre _ _ (X4.pre _ _ (X3.pre _ _ a2))
   cases b with
   | false=>
    rw [G7 HP] at P5
    refine EL ?_
    exact ⟨hlt,α5,ρ4,μ5,xx,S5,R4.mono X5,a5,P5⟩
   | true=>
    rw [G6 rfl] at P5
    refine EK ?_
    refine ⟨α5,ρ4,μ5,n,S5,R4.mono X5,a5,(dO P5).imp fun ρ6 μ6 H6 α6 X6 S6 P6 σ' r'=>?_⟩
    exact ⟨hlt,α6,ρ6,μ6,xx.trans X6,S6,r',X6.pre _ _ a5,P6⟩
  ·rw [G7 ho] at P2;exact P2.elim
 ·have e : i = src.items.length := by omega
  subst e
  rw [KM] at P2
  unfold iM at P2
  by_cases ho:cg src μ2
  ·rw [G6 ho] at P2
   exact .inl ⟨(hJ H2 α2 μ2 X2 S2 ho).2,P2.now S2 _ R2⟩
  ·rw [G7 ho] at P2;exact P2.elim
variable {X:Cx}{elt:Expr}{cl0 cl:Comprehension}{rest:List Comprehension}{scope:Scope}{Nc:List Str}{cap:List (Option Nat)}{fi:MI}{g:MG}{t:MT}{fb:MB}{pos:Pos}{e:Expr}{d:Nat}{acc:Addr}
end
mutual
def D.low (n:Nat):D->Prop
 | .tup xs=>D.lows n xs
 | .frz xs=>D.lows n xs
 | .obj m=>m<n
 | _=>True
def D.lows (n:Nat):List D->Prop
 | []=>True
 | x::xs=>x.low n/\D.lows n xs
end
def O.low (n:Nat):O->Prop
 | .lst xs=>D.lows n xs
 | _=>True
section
variable {K:W.Frag}{H:Hp}{α α':List Addr}
mutual
theorem aG.low:∀ {d:D}{v:V},aG K H α d v->d.low α.length
 | .non,_,_=>trivial
 | .bl _,_,_=>trivial
 | .int _,_,_=>trivial
 | .str _,_,_=>trivial
 | .tup xs,_,h=>by
  obtain ⟨a,vs,rfl,h1,h2⟩:=aD.mp h
  simp only [D.low]
  exact Reps.low h2
 | .frz xs,_,h=>by
  obtain ⟨a,vs,rfl,h1,h2⟩:=ba.mp h
  simp only [D.low]
  exact Reps.low h2
 | .obj n,_,h=>by
  obtain ⟨a,rfl,h1⟩:=aH.mp h
  simp only [D.low]
  exact (Hq.mp h1).1
theorem Reps.low:∀ {ds:List D}{vs:List V},Reps K H α ds vs->D.lows α.length ds
 | [],_,_=>trivial
 | d::ds,_,h=>by
  simp only [Reps] at h
  obtain ⟨v,r,rfl,h1,h2⟩:=h
  simp only [D.lows]
  exact ⟨aG.low h1,Reps.low h2⟩
end
mutual
theorem aG.cut {n:Nat} (e:∀ m,m<n->α'[m]?=α[m]?):∀ {d:D}{v:V},aG K H α' d v->d.low n->aG K H α d v
 | .non,_,h,_=>by simp only [aG] at h ⊢;exact h
 | .bl _,_,h,_=>by simp only [aG] at h ⊢;exact h
 | .int _,_,h,_=>by simp only [aG] at h ⊢;exact h
 | .str _,_,h,_=>by simp only [aG] at h ⊢;exact h
 | .tup xs,_,h,b=>by
  obtain ⟨a,vs,rfl,h1,h2⟩:=aD.mp h
  simp only [D.low] at b
  exact aD.mpr ⟨a,vs,rfl,h1,Reps.cut e h2 b⟩
 | .frz xs,_,h,b=>by
  obtain ⟨a,vs,rfl,h1,h2⟩:=ba.mp h
  simp only [D.low] at b
  exact ba.mpr ⟨a,vs,rfl,h1,Reps.cut e h2 b⟩
 | .obj m,_,h,b=>by
  obtain ⟨a,rfl,h1⟩:=aH.mp h
  simp only [D.low] at b
  exact aH.mpr ⟨a,rfl,by rw [<- e m b];exact h1⟩
theorem Reps.cut {n:Nat} (e:∀ m,m<n->α'[m]?=α[m]?):∀ {ds:List D}{vs:List V},Reps K H α' ds vs->D.lows n ds->Reps K H α ds vs
 | [],_,h,_=>by simp only [Reps] at h ⊢;exact h
 | d::ds,_,h,b=>by
  simp only [Reps] at h ⊢
  obtain ⟨v,r,rfl,h1,h2⟩:=h
  simp only [D.lows] at b
  exact ⟨v,r,rfl,aG.cut e h1 b.1,Reps.cut e h2 b.2⟩
end
end
def B9 (μ μ':ax) (d:D):Prop:=d.low μ.length/\μ.length<=μ'.length/\∀ (i:Nat) o,i<μ.length->μ'[i]?=some o->μ[i]?=some o\/o.low μ.length
open Classical in
noncomputable def nZ (μ:ax) (o:ao D):ao D:=match o with
 | .ok d μ'=>if B9 μ μ' d then .ok d (μ'.take μ.length) else .ok d μ'
 | o=>o
theorem l5 {p:Pa}{H:Hp}{α:List Addr}{μ:ax}{o:ao D}{Q:VK} (S:p.S H α μ) (P:aw p H α (nZ μ o) (RV p Q)):aw p H α o (RV p Q):=by
 cases o with
 | exc x μ'=>exact P
 | bad=>exact P
 | ok d μ'=>
  unfold nZ at P
  dsimp only at P
  by_cases hg:B9 μ μ' d
  ·rw [G6 hg] at P
   obtain ⟨g1,g2,g3⟩:=hg
   intro H' α' e s v rv
   have al:∀ m,m<μ.length->α'[m]?=α[m]?:=fun m hm=>by
    have hm':m<α.length:=by rw [S.len];exact hm
    rw [KA hm']
    exact e.pre m _ (KA hm')
   refine P H' α ⟨e.tup,e.frz,fun _ _ z=>z⟩ ⟨by rw [HZ,S.len];omega,S.nd,fun n o a h1 h2=>?_⟩ v (aG.cut al rv g1)
   have hn:n<μ.length:=by rw [<- S.len];exact (Hq.mp h2).1
   rw [Ii hn] at h1
   have q:=s.ob n o a h1 (e.pre n a h2)
   have ob:o.low μ.length:=by
    rcases g3 n o hn h1 with z | z
    ·have q0 := S.ob n o a z h2
     cases o with
     | lst xs=>obtain ⟨vs,_,r⟩:=q0;have:=r.low;rw [S.len] at this;exact this
     | set ks=>trivial
     | iset ks=>trivial
     | dic=>trivial
     | exc c=>trivial
    ·exact z
   cases o with
   | lst xs=>obtain ⟨vs,h3,r⟩:=q;exact ⟨vs,h3,Reps.cut al r ob⟩
   | set ks=>exact q
   | iset ks=>exact q
   | dic=>exact q
   | exc c=>exact q
  ·rw [G7 hg] at P
   exact P
def SO.out (o:SO):ao D:=match o with
 | .ret d μ=>.ok d μ
 | .next _ μ=>.ok .non μ
 | .exc x μ=>.exc x μ
 | _=>.bad
noncomputable def iC (n N:Nat) (fb:MS):List D->ax->ao D:=fun ds μ=>if ds.length=n then nZ μ (fb (ds.map some++List.replicate (N - n) none) μ).out else .bad
def zj (p:Pa) (n:Nat) (F:List D->ax->ao D):Sp:=fun vs H Q _=>vs.length=n/\∃ α ds μ,p.S H α μ/\p.Rs H α ds vs/\aw p H α (F ds μ) (RV p Q)
structure fq (P:Program) (w:World) (K:W.Frag) (mg:Str->Option Value) (base:Heap) (p:Pa) (k:Nat) (x:Str) (n:Nat) (F:List D->ax->ao D):Prop where
 len:∀ ds μ,ds.length≠n->F ds μ=.bad
 fn:∃ f fd ps,mg x=some (.ref f)/\W.keepIn K (.ref f)=true/\ff K fd ps []/\mr P w K mg base sH k f fd ps (zj p n F)
section
variable {p:Pa}{X:Cx}{k n:Nat}{x:Str}{F:List D->ax->ao D}{a:Expr}{es:List Expr}{fr:MA}{pos px:Pos}
theorem Aq (h:fq X.prog X.w X.K X.mg X.base p k x n F) (hr:eP k X.A) (hg:Gl X x) (ha:PA X (a::es) (j5 p fr)) (hdb:(x == ("__debug__" : Str))=false) (he:starEach (a::es) X.env=(false,eval a X.env)::starEach es X.env) (hpl:(backTo pos (starEach es X.env)).any (·.1)=false) :
  PE X (.Call (.Name x px) (a::es) [] pos) (tD p (aC F fr)):=by
 obtain ⟨f,fd,ps,h1,h2,h3,h4⟩:=h.fn
 refine (pO (dvs:=[]) (E:=E0) h4 hr hg h1 h2 h3 .nil xb ha hdb he hpl).weak fun σ H Q ⟨α,ρ,μ,S,R,P⟩=>⟨α,ρ,μ,S,R,(aw.bind P).imp fun ds μ1 H1 α1 X1 S1 P1 vs rv=>?_⟩
 show zj p n F (vs++[]) H1 Q E0
 rw [HS]
 refine ⟨?_,α1,ds,μ1,S1,rv,P1⟩
 by_cases hl:ds.length=n
 ·rw [rv.length];exact hl
 ·rw [h.len ds μ1 hl] at P1;exact P1.elim
end
theorem iy {K:W.Frag}{H:Hp}{α:List Addr}{ds:List D}{vs:List V} (r:Reps K H α ds vs) (m:Nat):cD K H α (ds.map some++List.replicate m none) (vs.map some++List.replicate m none):=by
 refine ⟨by simp [r.length],fun i d h=>?_⟩
 by_cases hi:i<ds.length
 ·rw [Ig (by simpa using hi), Ih] at h
  cases e:ds[i]? with
  | none=>rw [e] at h;cases h
  | some x=>
   rw [e] at h;cases h
   obtain ⟨v,hv,rv⟩:=r.get e
   refine ⟨v,?_,rv⟩
   rw [Ig (by simp [r.length,hi]),Ih,hv];rfl
 ·rw [Ic (by simpa using hi), Ie] at h
  split at h <;> cases h
theorem Eg {P:Program}{w:World}{K:W.Frag}{mg:Str->Option Value}{base:Heap}{p:Pa}{k n:Nat}{x qual:Str}{st:Stmt}{f:Addr}{fd:FuncData}{N ps:List Str}{fb:MS}
  (F:gM K x qual st f fd) (S:aW N ps (ar st)) (hn:ps.length=n) (hm:mg x=some (.ref f)) (hb:ff K fd ps [])
  (body : ∀ (cdv : Value) (A : Around) (outer : List Env) (s : Shared) (H : Hp) (E : XK), eP k (A.deeper (envOfC qual (ar st) s.heap.objs.size f cdv)) ->
   hZ (mn sH P w K mg base N qual (ar st) f cdv A outer s H E).nox (bO st) (gb p fb)):fq P w K mg base p (k+1) x n (iC n N.length fb):=by
 refine ⟨fun ds μ h=>by unfold iC;rw [G7 h],f,fd,ps,hm,F.kp,hb,?_⟩
 refine F.ok S (fun vs H Q E h=>h.1.trans hn.symm) fun cdv A outer s H vs Q E hr h=>?_
 refine ⟨_,body cdv A outer s H E hr,?_⟩
 obtain ⟨hl,α,ds,μ,S1,R1,P1⟩:=h
 unfold iC at P1
 have hd:ds.length=n:=by rw [<- R1.length];exact hl
 rw [G6 hd] at P1
 have P2:=l5 S1 P1
 unfold start
 rw [hl]
 refine ⟨α,_,μ,S1,iy R1 _,?_⟩
 cases e:fb (ds.map some++List.replicate (N.length - n) none) μ with
 | ret d μ'=>rw [e] at P2;exact fun H' α' v x s r=>P2 H' α' x s v r
 | next ρ μ'=>rw [e] at P2;exact fun H' α' σ' x s r=>P2 H' α' x s .non (bD.mpr rfl)
 | exc x μ'=>rw [e] at P2;exact P2
 | brk ρ μ'=>rw [e] at P2;exact P2.elim
 | cnt ρ μ'=>rw [e] at P2;exact P2.elim
 | bad=>rw [e] at P2;exact P2.elim
end L2
namespace L2
open PySem PySem.Spec PyProof.Rows RS
section
variable (K:W.Frag) (H:Hp)
mutual
def ly:PyData->V->Prop
 | .none,v=>v=.non
 | .bool b,v=>v=.bl b
 | .int i,v=>v=.int i
 | .str x,v=>v=.str x
 | .tuple xs,v=>∃ a vs,v=.ref a/\d6 K H a vs/\RdPs xs vs
 | .list xs,v=>∃ a vs,v=.ref a/\eO K H a vs/\RdPs xs vs
 | .dict _,_=>False
def RdPs:List PyData->List V->Prop
 | [],vs=>vs=[]
 | x::xs,vs=>∃ v r,vs=v::r/\ly x v/\RdPs xs r
end
end
section
variable {X:Cx}{pins:List (Addr × Obj)}{σ:St}{H:Hp}{s:Shared}
mutual
theorem fg (I:aI X pins σ H s):∀ (d:PyData) (x:V) (v:Value),ly X.K H d x->bH x v->∃ as,Reads s.heap v d as
 | .none,_,_,h,r=>by simp only [ly] at h;subst h;cases r;exact ⟨_,.none⟩
 | .bool b,_,_,h,r=>by simp only [ly] at h;subst h;cases r;exact ⟨_,.bool b⟩
 | .int b,_,_,h,r=>by simp only [ly] at h;subst h;obtain ⟨t,rfl⟩:=r;exact ⟨_,.int b t⟩
 | .str b,_,_,h,r=>by simp only [ly] at h;subst h;obtain ⟨t,rfl⟩:=r;exact ⟨_,.str b t⟩
 | .tuple xs,_,_,h,r=>by
  simp only [ly] at h
  obtain ⟨a,vs,rfl,h1,h2⟩:=h
  cases r
  obtain ⟨its,rv,⟨o,e1,e2,n,e3⟩,_⟩:=I.tuple h1
  obtain ⟨as,q⟩:=readsAll_of I xs vs its h2 rv
  exact ⟨_,.tuple e1 e2 e3 (by simpa using q)⟩
 | .list xs,_,_,h,r=>by
  simp only [ly] at h
  obtain ⟨a,vs,rfl,h1,h2⟩:=h
  cases r
  obtain ⟨its,rv,⟨o,n,e1,e2,_,e3⟩,_⟩:=I.list h1
  obtain ⟨as,q⟩:=readsAll_of I xs vs its h2 rv
  exact ⟨_,.list e1 e2 e3 (by simpa using q)⟩
 | .dict _,_,_,h,_=>by simp only [ly] at h
theorem readsAll_of (I:aI X pins σ H s):∀ (ds:List PyData) (xs:List V) (vs:List Value),RdPs X.K H ds xs->aU xs vs->∃ as,ReadsAll s.heap vs ds as
 | [],_,_,h,r=>by simp only [RdPs] at h;subst h;cases r;exact ⟨_,.nil⟩
 | d::ds,_,_,h,r=>by
  simp only [RdPs] at h
  obtain ⟨v,q,rfl,h1,h2⟩:=h
  cases r with
  | cons r rr=>
   obtain ⟨as,g1⟩:=fg I d _ _ h1 r
   obtain ⟨bs,g2⟩:=readsAll_of I ds _ _ h2 rr
   exact ⟨_,.cons g1 g2⟩
end
def jr (d:PyData):Bool:=d.canLay0 && decide (d.depth<=60)
def wN (K:W.Frag) (neg:Bool):R2:=fun x y H Q=>∃ a b,ly K H a x/\ly K H b y/\jr a=true/\jr b=true/\Q (.bl (if neg then !PyData.eqv a b else PyData.eqv a b)) H
theorem k8 {a b:PyData}{A:Around} (ha:jr a=true) (hu:A.units+64<cLine):A.units+min a.depth b.depth<cLine:=by
 unfold jr at ha
 simp only [IE,KN] at ha
 have:=Nat.min_le_left a.depth b.depth
 omega
theorem gX {a:PyData} (ha:jr a=true):a.canLay0=true:=by
 unfold jr at ha
 simp only [IE,KN] at ha
 exact ha.1
theorem Dw (hu:X.A.units+64<cLine):iJ X (compareOp .Eq) (wN X.K false):=by
 intro pins s σ H x y v u Q I rx ry h
 obtain ⟨a,b,h1,h2,h3,h4,q⟩:=h
 obtain ⟨as,r1⟩:=fg I a x v h1 rx
 obtain ⟨bs,r2⟩:=fg I b y u h2 ry
 exact SeqAt.compareEq_reads r1 r2 (gX h3) (gX h4) (k8 h3 hu) ⟨.bl _,H,I,rfl,q⟩
theorem Ds (hu:X.A.units+64<cLine):iJ X (compareOp .NotEq) (wN X.K true):=by
 intro pins s σ H x y v u Q I rx ry h
 obtain ⟨a,b,h1,h2,h3,h4,q⟩:=h
 obtain ⟨as,r1⟩:=fg I a x v h1 rx
 obtain ⟨bs,r2⟩:=fg I b y u h2 ry
 exact SeqAt.compareNe_reads r1 r2 (gX h3) (gX h4) (k8 h3 hu) ⟨.bl _,H,I,rfl,q⟩
end
mutual
def sE (μ:ax):D->Option PyData
 | .non=>some .none
 | .bl b=>some (.bool b)
 | .int i=>some (.int i)
 | .str x=>some (.str x)
 | .tup xs=>(toPs μ xs).map .tuple
 | .frz xs=>(toPs μ xs).map .list
 | .obj _=>none
def toPs (μ:ax):List D->Option (List PyData)
 | []=>some []
 | x::xs=>(sE μ x).bind fun a=>(toPs μ xs).map fun r=>a::r
end
def wI (μ:ax) (d:D):Option PyData:=match d with
 | .obj n=>match μ[n]? with
  | some (.lst xs)=>(toPs μ xs).map .list
  | _=>none
 | d=>sE μ d
def gh (μ:ax):List D->Option (List PyData)
 | []=>some []
 | x::xs=>(wI μ x).bind fun a=>(gh μ xs).map fun r=>a::r
def qm (μ:ax) (d:D):Option PyData:=match d with
 | .obj n=>match μ[n]? with
  | some (.lst xs)=>(gh μ xs).map .list
  | _=>none
 | .tup xs=>(gh μ xs).map .tuple
 | d=>sE μ d
section
variable {K:W.Frag}{w:World}{H:Hp}{α:List Addr}{μ:ax}
mutual
theorem fw:∀ {d:D}{q:PyData}{v:V},sE μ d=some q->aG K H α d v->ly K H q v
 | .non,_,_,h,r=>by simp only [sE] at h;cases h;simp only [ly];exact bD.mp r
 | .bl b,_,_,h,r=>by simp only [sE] at h;cases h;simp only [ly];exact aS.mp r
 | .int b,_,_,h,r=>by simp only [sE] at h;cases h;simp only [ly];exact ak.mp r
 | .str b,_,_,h,r=>by simp only [sE] at h;cases h;simp only [ly];exact bo.mp r
 | .tup xs,_,_,h,r=>by
  simp only [sE] at h
  cases e:toPs μ xs with
  | none=>rw [e] at h;cases h
  | some ys=>
   rw [e] at h;cases h
   obtain ⟨a,vs,rfl,h1,h2⟩:=aD.mp r
   simp only [ly]
   exact ⟨a,vs,rfl,h1,toPs_ok e h2⟩
 | .frz xs,_,_,h,r=>by
  simp only [sE] at h
  cases e:toPs μ xs with
  | none=>rw [e] at h;cases h
  | some ys=>
   rw [e] at h;cases h
   obtain ⟨a,vs,rfl,h1,h2⟩:=ba.mp r
   simp only [ly]
   exact ⟨a,vs,rfl,h1.sq,toPs_ok e h2⟩
 | .obj n,_,_,h,r=>by simp only [sE] at h;cases h
theorem toPs_ok:∀ {ds:List D}{qs:List PyData}{vs:List V},toPs μ ds=some qs->Reps K H α ds vs->RdPs K H qs vs
 | [],_,_,h,r=>by simp only [toPs] at h;cases h;simp only [RdPs];simp only [Reps] at r;exact r
 | x::xs,_,_,h,r=>by
  simp only [toPs] at h
  cases e1:sE μ x with
  | none=>rw [e1] at h;cases h
  | some a=>
   cases e2:toPs μ xs with
   | none=>rw [e1,e2] at h;cases h
   | some ys=>
    rw [e1,e2] at h;cases h
    simp only [Reps] at r
    obtain ⟨v,vr,rfl,r1,r2⟩:=r
    simp only [RdPs]
    exact ⟨v,vr,rfl,fw e1 r1,toPs_ok e2 r2⟩
end
theorem zT {d:D}{q:PyData}{v:V} (S:d5 K w H α μ) (h:wI μ d=some q) (r:aG K H α d v):ly K H q v:=by
 cases d with
 | obj n=>
  unfold wI at h
  dsimp only at h
  split at h
  ·rename_i xs hx
   obtain ⟨a,ea,us,hH,rr⟩:=S.at hx
   obtain ⟨a',rfl,ea'⟩:=aH.mp r
   rw [ea] at ea';cases ea'
   cases e:toPs μ xs with
   | none=>rw [e] at h;cases h
   | some ys=>
    rw [e] at h;cases h
    simp only [ly]
    exact ⟨a,us,rfl,eO.of hH,toPs_ok e rr⟩
  ·cases h
 | non=>exact fw h r
 | bl b=>exact fw h r
 | int i=>exact fw h r
 | str x=>exact fw h r
 | tup xs=>exact fw h r
 | frz xs=>exact fw h r
theorem mS (S:d5 K w H α μ):∀ {ds:List D}{qs:List PyData}{vs:List V},gh μ ds=some qs->Reps K H α ds vs->RdPs K H qs vs
 | [],_,_,h,r=>by simp only [gh] at h;cases h;simp only [RdPs];simp only [Reps] at r;exact r
 | x::xs,_,_,h,r=>by
  simp only [gh] at h
  cases e1:wI μ x with
  | none=>rw [e1] at h;cases h
  | some a=>
   cases e2:gh μ xs with
   | none=>rw [e1,e2] at h;cases h
   | some ys=>
    rw [e1,e2] at h;cases h
    simp only [Reps] at r
    obtain ⟨v,vr,rfl,r1,r2⟩:=r
    simp only [RdPs]
    exact ⟨v,vr,rfl,zT S e1 r1,mS S e2 r2⟩
theorem mF {d:D}{q:PyData}{v:V} (S:d5 K w H α μ) (h:qm μ d=some q) (r:aG K H α d v):ly K H q v:=by
 cases d with
 | obj n=>
  unfold qm at h
  dsimp only at h
  split at h
  ·rename_i xs hx
   obtain ⟨a,ea,us,hH,rr⟩:=S.at hx
   obtain ⟨a',rfl,ea'⟩:=aH.mp r
   rw [ea] at ea';cases ea'
   cases e:gh μ xs with
   | none=>rw [e] at h;cases h
   | some ys=>
    rw [e] at h;cases h
    simp only [ly]
    exact ⟨a,us,rfl,eO.of hH,mS S e rr⟩
  ·cases h
 | tup xs=>
  unfold qm at h
  dsimp only at h
  cases e:gh μ xs with
  | none=>rw [e] at h;cases h
  | some ys=>
   rw [e] at h;cases h
   obtain ⟨a,vs,rfl,h1,h2⟩:=aD.mp r
   simp only [ly]
   exact ⟨a,vs,rfl,h1,mS S e h2⟩
 | non=>exact fw h r
 | bl b=>exact fw h r
 | int i=>exact fw h r
 | str x=>exact fw h r
 | frz xs=>exact fw h r
end
def gf (neg:Bool) (a b:D) (μ:ax):ao D:=match qm μ a,qm μ b with
 | some p,some q=>if jr p=true/\jr q=true then .ok (.bl (if neg then !PyData.eqv p q else PyData.eqv p q)) μ else .bad
 | _,_=>.bad
theorem BM {p:Pa}{neg:Bool}:qp p (gf neg) (wN p.K neg):=by
 intro a b v y H α μ Q S ra rb P
 unfold gf at P
 split at P
 ·rename_i x z hx hz
  split at P
  ·rename_i hf
   exact ⟨x,z,mF S hx ra,mF S hz rb,hf.1,hf.2,P.now S _ (aS.mpr rfl)⟩
  ·exact P.elim
 ·exact P.elim
def D.isNon:D->Bool
 | .non=>true
 | _=>false
def sO (neg:Bool) (a b:D) (μ:ax):ao D:=match b with
 | .non=>.ok (.bl (if neg then !a.isNon else a.isNon)) μ
 | _=>.bad
theorem uM {K:W.Frag}{H:Hp}{α:List Addr}{a:D}{v:V} (r:aG K H α a v):decide (v=.non)=a.isNon:=by
 cases a with
 | non=>rw [bD.mp r];rfl
 | bl b=>rw [aS.mp r];rfl
 | int b=>rw [ak.mp r];rfl
 | str b=>rw [bo.mp r];rfl
 | tup xs=>obtain ⟨a,vs,rfl,_⟩:=aD.mp r;rfl
 | frz xs=>obtain ⟨a,vs,rfl,_⟩:=ba.mp r;rfl
 | obj xs=>obtain ⟨a,rfl,_⟩:=aH.mp r;rfl
theorem DH {p:Pa}:qp p (sO false) (fun x y H Q=>y=.non/\Q (.bl (decide (x=.non))) H):=by
 intro a b v y H α μ Q S ra rb P
 cases b with
 | non=>exact ⟨bD.mp rb,P.now S _ (aS.mpr (by rw [uM ra];rfl))⟩
 | bl b=>exact P.elim
 | int b=>exact P.elim
 | str b=>exact P.elim
 | tup xs=>exact P.elim
 | frz xs=>exact P.elim
 | obj xs=>exact P.elim
theorem A3 {p:Pa}:qp p (sO true) (fun x y H Q=>y=.non/\Q (.bl (!decide (x=.non))) H):=by
 intro a b v y H α μ Q S ra rb P
 cases b with
 | non=>exact ⟨bD.mp rb,P.now S _ (aS.mpr (by rw [uM ra];cases a <;> rfl))⟩
 | bl b=>exact P.elim
 | int b=>exact P.elim
 | str b=>exact P.elim
 | tup xs=>exact P.elim
 | frz xs=>exact P.elim
 | obj xs=>exact P.elim
end L2
namespace L2
open PySem PySem.Spec PyProof.Rows RS
open PySem.SeqAt
open PySem.AutoSeq1 (wpAny_loadPart')
open PySem.MeetsSeq PySem.MeetsSeq2 PySem.MeetsSeq3
def zG (op:CmpOp) (A:Around) (s:Shared) (y x:Value) (k:Bool):Prop:=∀ (prog:Program) (w:World) (E:Value->Shared->Prop) (Q:Value->Shared->Prop),Q (.bool k) s->wpAny (model prog w) A (richCompare op y x) Q E s
def ml (t:Bool):List (Bool × Bool)->Bool
 | []=>t
 | (e,k)::r=>if e=true then ml t r else k
def lO (op:CmpOp) (A:Around) (s:Shared):List Value->List Value->List (Bool × Bool)->Prop
 | [],_,[]=>True
 | _,[],[]=>True
 | y::ys,x::xs,(e,k)::r=>EqAt A s y x e/\(e=false->zG op A s y x k)/\(e=true->lO op A s ys xs r)
 | _,_,_=>False
theorem p6 (l b:Addr) (items items2:Array Value) (n n2:Nat) (dd dd2:Option Addr) (sl sl2:Array (Option Value)) (eks:List (Bool × Bool)) :
  Meets (Builtin.«tuple.__lt__» ⟨[.ref l,.ref b],[]⟩)
   (fun A R s => s.heap.get? l = some { cls := .type "tuple", dict := dd, data := .seq items n, slots := sl } /\ s.heap.get? b = some { cls := .type "tuple", dict := dd2, data := .seq items2 n2, slots := sl2 } /\
    lO .Lt A.in1 s items.toList items2.toList eks/\R (.ok (.ret (.bool (ml (decide (items.size<items2.size)) eks)))) s):=
 .of_wp fun prog w A R s h=>by
  obtain ⟨hp,g,d,tk,os⟩:=s;obtain ⟨hl,hb,hc,h⟩:=h
  have f2:=AutoSeq1.sub_tuple_tuple
  wp_walk using wpAny_loadPart' hl,wpAny_loadPart' hb,JY _ (fun rest b s'=>b.1=none/\s'=⟨hp,g,d,tk,os⟩/\∃ (vs ws:List Value) (eks':List (Bool × Bool)),rest=vs.zip ws /\
   lO .Lt A.in1 ⟨hp,g,d,tk,os⟩ vs ws eks'/\R (.ok (.ret (.bool (ml (decide (items.size<items2.size)) eks')))) ⟨hp,g,d,tk,os⟩) _
  case turn=>
   rintro ⟨y,x⟩ rest b s' ⟨hb',rfl,vs,ws,eks',hz,hci,hR⟩
   cases vs with
   | nil=>rw [List.zip_nil_left] at hz;cases hz
   | cons a vs=>
    cases ws with
    | nil=>rw [List.zip_nil_right] at hz;cases hz
    | cons c ws=>
     rw [KO] at hz
     injection hz with hyx hrest
     injection hyx with hy hx
     subst hy hx
     cases eks' with
     | nil=>simp only [lO] at hci
     | cons ek eks'=>
      obtain ⟨e,k⟩:=ek
      simp only [lO] at hci
      obtain ⟨he,hk,hci⟩:=hci
      refine HA (he prog w _ _ ?_)
      cases e with
      | true=>
       have hR':R (.ok (.ret (.bool (ml (decide (items.size<items2.size)) eks')))) ⟨hp,g,d,tk,os⟩:=hR
       wp_walk
       exact ⟨rfl,rfl,_,_,_,hrest,hci rfl,hR'⟩
      | false=>
       have hR':R (.ok (.ret (.bool k))) ⟨hp,g,d,tk,os⟩:=hR
       have hri:=hk rfl prog w
       wp_walk using hri
       exact ⟨_,rfl,by simpa using hR'⟩
  case fin=>
   rintro ⟨b1,b2⟩ s' ⟨hb',rfl,vs,ws,eks',hz,hci,hR⟩
   simp only at hb'
   subst hb'
   have hv:eks'=[]:=by
    cases vs with
    | nil=>cases eks' with
     | nil=>rfl
     | cons _ _=>simp only [lO] at hci
    | cons a vs=>cases ws with
     | nil=>cases eks' with
      | nil=>rfl
      | cons _ _=>simp only [lO] at hci
     | cons c ws=>rw [KO] at hz;cases hz
   subst hv
   have hR':R (.ok (.ret (.bool (decide (items.size<items2.size))))) ⟨hp,g,d,tk,os⟩:=hR
   wp_walk
   exact ⟨_,rfl,by simpa [Builtin.Tuple.tupleCompareSizes] using hR'⟩
  case h=>
   exact ⟨rfl,rfl,items.toList,items2.toList,eks,rfl,hc,h⟩
theorem DL {prog:Program}{w:World}{A:Around}{E:Value->Shared->Prop}{s:Shared}{l b:Addr}{items items2:Array Value}{eks:List (Bool × Bool)}{Q:Value->Shared->Prop} (hl:IsTup s.heap l items) (hb:IsTup s.heap b items2) (hc:lO .Lt A.in1 s items.toList items2.toList eks)
  (hu:A.units<cLine) (h:Q (.bool (ml (decide (items.size<items2.size)) eks)) s):wpAny (model prog w) A (richCompare .Lt (.ref l) (.ref b)) Q E s:=by
 obtain ⟨⟨cls,dd,data,sl⟩,ho,hc',n,hd⟩:=id hl
 obtain ⟨⟨cls2,dd2,data2,sl2⟩,ho2,hc2,n2,hd2⟩:=id hb
 simp only at hc' hd hc2 hd2
 subst hc' hd hc2 hd2
 exact richCompare_meets_room (op:=.Lt) ⟨_,ho,rfl⟩ ⟨_,ho2,rfl⟩ PySem.F.slot_tuple_lt PySem.F.entry_tuple_lt (PySem.F.args_tuple_lt_2 _ _) (p6 l b items items2 n n2 dd dd2 sl sl2 eks)
  ⟨ho,ho2,hc,show Value.bool (ml (decide (items.size<items2.size)) eks)≠Value.notImplemented/\Q (.bool (ml (decide (items.size<items2.size)) eks)) s from ⟨(fun x=>nomatch x),h⟩⟩ hu
end L2
namespace L2
open PySem PySem.Spec PyProof.Rows RS
def dk:CmpOp->Int->Int->Bool
 | .Lt,i,j=>decide (i<j)
 | .LtE,i,j=>decide (i<=j)
 | .Gt,i,j=>decide (i > j)
 | .GtE,i,j=>decide (i ≥ j)
 | _,_,_=>false
def zB:CmpOp->Bool
 | .Lt=>true
 | _=>false
mutual
def fQ (op:CmpOp):PyData->PyData->Option Bool
 | .int i,.int j=>some (dk op i j)
 | .tuple xs,.tuple ys=>if zB op=true then cmpPs op xs ys else none
 | _,_=>none
def cmpPs (op:CmpOp):List PyData->List PyData->Option Bool
 | [],ys=>some (dk op 0 ys.length)
 | _::xs,[]=>some (dk op (xs.length+1) 0)
 | x::xs,y::ys=>if PyData.eqv x y=true then cmpPs op xs ys else fQ op x y
end
def qJ:CmpOp->Bool
 | .Lt | .LtE | .Gt | .GtE=>true
 | _=>false
theorem Fj:∀ {op:CmpOp} (ho:qJ op=true) {A:Around}{s:Shared} (a:Int) (t:Tok) (c:Int) (u:Tok),zG op A s (.int a t) (.int c u) (dk op a c)
 | .Lt,_,A,s,a,t,c,u=>fun prog w E Q h=>(PyProof.Rows.lt_int h:wpAny (model prog w) A (compareOp .Lt (.int a t) (.int c u)) Q E s)
 | .LtE,_,A,s,a,t,c,u=>fun prog w E Q h=>(PyProof.Rows.le_int h:wpAny (model prog w) A (compareOp .LtE (.int a t) (.int c u)) Q E s)
 | .Gt,_,A,s,a,t,c,u=>fun prog w E Q h=>(PyProof.Rows.gt_int h:wpAny (model prog w) A (compareOp .Gt (.int a t) (.int c u)) Q E s)
 | .GtE,_,A,s,a,t,c,u=>fun prog w E Q h=>(PyProof.Rows.ge_int h:wpAny (model prog w) A (compareOp .GtE (.int a t) (.int c u)) Q E s)
theorem tY {op:CmpOp} (i j:Nat):dk op ((i+1:Nat):Int) ((j+1:Nat):Int)=dk op (i:Int) (j:Int):=by
 cases op <;> first | rfl | (unfold dk;simp)
theorem Fi:∀ {op:CmpOp} (ho:zB op=true) {A:Around}{s:Shared}{l b:Addr}{items items2:Array Value}{eks:List (Bool × Bool)} (hl:IsTup s.heap l items) (hb:IsTup s.heap b items2) (hc:lO op A.in1 s items.toList items2.toList eks)
  (hu:A.units<cLine),zG op A s (.ref l) (.ref b) (ml (dk op items.size items2.size) eks)
 | .Lt,_,A,s,l,b,items,items2,eks,hl,hb,hc,hu=>fun prog w E Q h=>DL hl hb hc hu (by
   have e:decide (items.size<items2.size)=dk .Lt items.size items2.size:=by (unfold dk;simp)
   rw [e];exact h)
mutual
theorem rh {op:CmpOp} (ho:qJ op=true):∀ (da db:PyData) (A:Around) (s:Shared) (a b:Value) (as bs:List Addr) (k:Bool),Reads s.heap a da as->Reads s.heap b db bs->da.canLay0=true->db.canLay0=true ->
  A.units+min da.depth db.depth<cLine->fQ op da db=some k->zG op A s a b k
 | .int i,.int j,A,s,_,_,_,_,k,ra,rb,_,_,hu,hk=>by
  cases ra;cases rb
  simp only [fQ] at hk
  cases hk
  exact Fj ho _ _ _ _
 | .tuple xs,.tuple ys,A,s,_,_,_,_,k,ra,rb,ha,hb,hu,hk=>by
  simp only [fQ] at hk
  have hlt:zB op=true:=by
   cases z:zB op with
   | true=>rfl
   | false=>rw [z,G7 HP] at hk;cases hk
  rw [G6 hlt] at hk
  cases ra with
  | @tuple l o vs n _ as₁ h1 h2 h3 h4=>
   cases rb with
   | @tuple l' o' vs' n' _ bs₁ k1 k2 k3 k4=>
    have n1:vs.size=xs.length:=by simpa using SeqAt.ReadsAll.length _ _ _ h4
    have n2:vs'.size=ys.length:=by simpa using SeqAt.ReadsAll.length _ _ _ k4
    obtain ⟨eks,e1,e2⟩:=rc_readsAll ho xs ys A.in1 s vs.toList vs'.toList _ _ k h4 k4 (by simpa [PyData.canLay0] using ha) (by simpa [PyData.canLay0] using hb) (SeqAt.room_in hu) hk
    have:=Fi hlt (A:=A) (s:=s) (l:=l) (b:=l') (items:=vs) (items2:=vs') (eks:=eks) ⟨_,h1,h2,_,h3⟩ ⟨_,k1,k2,_,k3⟩ e1 (SeqAt.room_here hu)
    rw [n1,n2,e2] at this
    exact this
 | .none,_,_,_,_,_,_,_,_,_,_,_,_,_,hk=>by simp only [fQ] at hk;cases hk
 | .bool _,_,_,_,_,_,_,_,_,_,_,_,_,_,hk=>by simp only [fQ] at hk;cases hk
 | .str _,_,_,_,_,_,_,_,_,_,_,_,_,_,hk=>by simp only [fQ] at hk;cases hk
 | .list _,_,_,_,_,_,_,_,_,_,_,_,_,_,hk=>by simp only [fQ] at hk;cases hk
 | .dict _,_,_,_,_,_,_,_,_,_,_,_,_,_,hk=>by simp only [fQ] at hk;cases hk
 | .int _,.none,_,_,_,_,_,_,_,_,_,_,_,_,hk=>by simp only [fQ] at hk;cases hk
 | .int _,.bool _,_,_,_,_,_,_,_,_,_,_,_,_,hk=>by simp only [fQ] at hk;cases hk
 | .int _,.str _,_,_,_,_,_,_,_,_,_,_,_,_,hk=>by simp only [fQ] at hk;cases hk
 | .int _,.list _,_,_,_,_,_,_,_,_,_,_,_,_,hk=>by simp only [fQ] at hk;cases hk
 | .int _,.tuple _,_,_,_,_,_,_,_,_,_,_,_,_,hk=>by simp only [fQ] at hk;cases hk
 | .int _,.dict _,_,_,_,_,_,_,_,_,_,_,_,_,hk=>by simp only [fQ] at hk;cases hk
 | .tuple _,.none,_,_,_,_,_,_,_,_,_,_,_,_,hk=>by simp only [fQ] at hk;cases hk
 | .tuple _,.bool _,_,_,_,_,_,_,_,_,_,_,_,_,hk=>by simp only [fQ] at hk;cases hk
 | .tuple _,.int _,_,_,_,_,_,_,_,_,_,_,_,_,hk=>by simp only [fQ] at hk;cases hk
 | .tuple _,.str _,_,_,_,_,_,_,_,_,_,_,_,_,hk=>by simp only [fQ] at hk;cases hk
 | .tuple _,.list _,_,_,_,_,_,_,_,_,_,_,_,_,hk=>by simp only [fQ] at hk;cases hk
 | .tuple _,.dict _,_,_,_,_,_,_,_,_,_,_,_,_,hk=>by simp only [fQ] at hk;cases hk
theorem rc_readsAll {op:CmpOp} (ho:qJ op=true):∀ (xs ys:List PyData) (A:Around) (s:Shared) (vs ws:List Value) (as bs:List Addr) (k:Bool),ReadsAll s.heap vs xs as->ReadsAll s.heap ws ys bs->PyData.canLayAll0 xs=true->PyData.canLayAll0 ys=true ->
  A.units+min (PyData.depthAll xs) (PyData.depthAll ys)<cLine->cmpPs op xs ys=some k->∃ eks,lO op A s vs ws eks/\ml (dk op (xs.length:Nat) (ys.length:Nat)) eks=k
 | [],ys,A,s,_,_,_,_,k,ra,rb,_,_,_,hk=>by
  cases ra
  simp only [cmpPs] at hk
  cases hk
  exact ⟨[],by unfold lO;trivial,rfl⟩
 | x::xs,[],A,s,_,_,_,_,k,ra,rb,_,_,_,hk=>by
  cases rb
  simp only [cmpPs] at hk
  cases hk
  cases ra
  refine ⟨[],by unfold lO;trivial,?_⟩
  simp [ml]
 | x::xs,y::ys,A,s,_,_,_,_,k,ra,rb,ha,hb,hu,hk=>by
  have ha':x.canLay0=true/\PyData.canLayAll0 xs=true:=by simpa [PyData.canLayAll0] using ha
  have hb':y.canLay0=true/\PyData.canLayAll0 ys=true:=by simpa [PyData.canLayAll0] using hb
  cases ra with
  | cons r rs=>
   cases rb with
   | cons r' rs'=>
    have he:=SeqAt.eqAt_reads x y A s _ _ _ _ r r' ha'.1 hb'.1 (SeqAt.room_head hu)
    simp only [cmpPs] at hk
    cases e:PyData.eqv x y with
    | true=>
     rw [G6 e] at hk
     rw [e] at he
     obtain ⟨eks,e1,e2⟩:=rc_readsAll ho xs ys A s _ _ _ _ k rs rs' ha'.2 hb'.2 (SeqAt.room_tail hu) hk
     refine ⟨(true,false)::eks,⟨he,fun z=>(by cases z),fun _=>e1⟩,?_⟩
     show ml (dk op ((xs.length+1:Nat):Int) ((ys.length+1:Nat):Int)) eks=k
     rw [tY];exact e2
    | false=>
     rw [G7 (by rw [e];exact HP)] at hk
     rw [e] at he
     refine ⟨[(false,k)],⟨he,fun _=>rh ho x y A s _ _ _ _ k r r' ha'.1 hb'.1 (SeqAt.room_head hu) hk,fun z=>(by cases z)⟩,rfl⟩
end
def w9 (K:W.Frag) (op:CmpOp):R2:=fun x y H Q=>∃ a b k,ly K H a x/\ly K H b y/\jr a=true/\jr b=true/\fQ op a b=some k/\Q (.bl k) H
theorem AU {X:Cx} (hu:X.A.units+64<cLine):∀ {op:CmpOp},qJ op=true->iJ X (compareOp op) (w9 X.K op):=by
 intro op ho pins s σ H x y v u Q I rx ry h
 obtain ⟨a,b,k,h1,h2,h3,h4,h5,q⟩:=h
 obtain ⟨as,r1⟩:=fg I a x v h1 rx
 obtain ⟨bs,r2⟩:=fg I b y u h2 ry
 have:=rh ho a b X.A s v u as bs k r1 r2 (gX h3) (gX h4) (k8 h3 hu) h5 X.prog X.w X.xe (EP X pins σ Q) ⟨.bl k,H,I,rfl,q⟩
 cases op <;> first
  | exact absurd ho (by decide)
  | exact this
def jO (op:CmpOp) (a b:D) (μ:ax):ao D:=match qm μ a,qm μ b with
 | some p,some q=>if jr p=true/\jr q=true then (match fQ op p q with | some k=>.ok (.bl k) μ | none=>.bad) else .bad
 | _,_=>.bad
theorem DI {p:Pa}{op:CmpOp}:qp p (jO op) (w9 p.K op):=by
 intro a b v y H α μ Q S ra rb P
 unfold jO at P
 split at P
 ·rename_i x z hx hz
  split at P
  ·rename_i hf
   split at P
   ·rename_i k hk
    exact ⟨x,z,k,mF S hx ra,mF S hz rb,hf.1,hf.2,hk,P.now S _ (aS.mpr rfl)⟩
   ·exact P.elim
  ·exact P.elim
 ·exact P.elim
def dI (g:Int->Int->D) (a b:D) (μ:ax):ao D:=match a,b with
 | .int i,.int j=>.ok (g i j) μ
 | _,_=>.bad
open Classical in
noncomputable def B3 (C:Int->Int->Prop) (g:Int->Int->D) (a b:D) (μ:ax):ao D:=match a,b with
 | .int i,.int j=>if C i j then .ok (g i j) μ else .bad
 | _,_=>.bad
section
variable {p:Pa}
theorem Gr {g:Int->Int->V}{gd:Int->Int->D} (h:∀ i j H α,p.R H α (gd i j) (g i j)):qp p (dI gd) (Er g):=by
 intro a b v y H α μ Q S ra rb P
 unfold dI at P
 split at P
 ·rename_i i j
  exact ⟨i,j,ak.mp ra,ak.mp rb,P.now S _ (h i j H α)⟩
 ·exact P.elim
theorem xc {C:Int->Int->Prop}{g:Int->Int->V}{gd:Int->Int->D} (h:∀ i j H α,p.R H α (gd i j) (g i j)):qp p (B3 C gd) (rI C g):=by
 intro a b v y H α μ Q S ra rb P
 unfold B3 at P
 split at P
 ·rename_i i j
  split at P
  ·rename_i hc
   exact ⟨i,j,ak.mp ra,ak.mp rb,hc,P.now S _ (h i j H α)⟩
  ·exact P.elim
 ·exact P.elim
def wR (a:D) (μ:ax):ao D:=match a with
 | .int i=>.ok (.int (-i)) μ
 | _=>.bad
theorem DK:GM p wR (rU fun i=>.int (-i)):=by
 intro a v H α μ Q S ra P
 unfold wR at P
 split at P
 ·rename_i i
  exact ⟨i,ak.mp ra,P.now S _ (ak.mpr rfl)⟩
 ·exact P.elim
def BL (K:W.Frag):R2:=fun x y H Q=>∃ a b xs ys,x=.ref a/\y=.ref b/\d6 K H a xs/\d6 K H b ys/\xs.length+ys.length<=sizeLine /\
 (xs=[]->Q (.ref b) H)/\(xs≠[]->ys=[]->Q (.ref a) H)/\(xs≠[]->ys≠[]->∀ p,H p=none->Q (.ref p) (bT H p (.tup (xs++ys))))
theorem zd {prog:Program}{w:World}{A:Around}{E:Value->Shared->Prop}{s:Shared}{t b:Addr}{ws:List Value}{Q:Value->Shared->Prop} (ht:IsTup s.heap t #[]) (hb:IsTup s.heap b ws.toArray) (h0:Q (.ref b) s):wpAny (model prog w) A (binaryOp .Add (.ref t) (.ref b)) Q E s:=by
 obtain ⟨⟨cls,dd,data,sl⟩,ho,hc,n,hd⟩:=id ht
 obtain ⟨⟨cls2,dd2,data2,sl2⟩,ho2,hc2,n2,hd2⟩:=id hb
 simp only at hc hd hc2 hd2
 subst hc hd hc2 hd2
 exact concat_meets ⟨_,ho,rfl⟩ ⟨_,ho2,rfl⟩ Im seq_tuple_add Io Ip (Iq _ _)
  (tuple_addW0 t b #[] ws.toArray n n2 dd dd2 sl sl2 (by simp)) ⟨ho,ho2,h0⟩
theorem AW {X:Cx}:iJ X (binaryOp .Add) (BL X.K):=by
 intro pins s σ H x y v u Q I rx ry h
 obtain ⟨a,b,xs,ys,rfl,rfl,ha,hb,hz,q0,q1,q2⟩:=h
 by_cases hx:xs=[]
 ·cases rx
  cases ry
  obtain ⟨its,r1,p1,_⟩:=I.tuple ha
  obtain ⟨its2,r2,p2,_⟩:=I.tuple hb
  subst hx
  cases r1
  exact zd p1 p2 ⟨.ref b,H,I,rfl,q0 rfl⟩
 ·exact AV pins s σ H (.ref a) (.ref b) v u Q I rx ry ⟨a,b,xs,ys,rfl,rfl,ha,hb,hx,hz,q1 hx,q2 hx⟩
def xa (K:W.Frag):R2:=fun x y H Q=>Er (fun i j=>.int (i+j)) x y H Q\/BL K x y H Q\/EF x y H Q\/(∃ i j,x=.str i/\y=.str j/\i.length+j.length<=sizeLine/\Q (.str (i++j)) H)
theorem AX {X:Cx}:iJ X (binaryOp .Add) (xa X.K):=Dy.or (AW.or (Dx.or tK))
def ck (a b:D) (μ:ax):ao D:=match a,b with
 | .int i,.int j=>.ok (.int (i+j)) μ
 | .str x,.str y=>if x.length+y.length<=sizeLine then .ok (.str (x++y)) μ else .bad
 | .tup xs,.tup ys=>if xs.length+ys.length<=sizeLine then .ok (.tup (xs++ys)) μ else .bad
 | .obj m,.obj n=>match μ[m]?,μ[n]? with
  | some (.lst xs),some (.lst ys)=>if xs.length+ys.length<=sizeLine then .ok (.obj μ.length) (μ++[.lst (xs++ys)]) else .bad
  | _,_=>.bad
 | _,_=>.bad
theorem cT {H:Hp}{α:List Addr}{μ:ax}{n:Nat}{v:V}{xs:List D} (S:p.S H α μ) (r:p.R H α (.obj n) v) (hx:μ[n]?=some (.lst xs)):∃ a us,v=.ref a/\α[n]?=some a/\H a=some (.lst us)/\p.Rs H α xs us:=by
 obtain ⟨a,ea,us,hH,rr⟩:=S.at hx
 obtain ⟨a',rfl,ea'⟩:=aH.mp r
 rw [ea] at ea';cases ea'
 exact ⟨a,us,rfl,ea,hH,rr⟩
theorem Reps.nil_iff' {K:W.Frag}{H:Hp}{α:List Addr}{xs:List D}{vs:List V} (r:Reps K H α xs vs):vs=[]↔xs=[]:=by
 have:=r.length
 constructor
 ·intro h;subst h;simp at this;exact KQ this.symm
 ·intro h;subst h;simp at this;exact this
theorem DJ:qp p ck (xa p.K):=by
 intro a b v y H α μ Q S ra rb P
 unfold ck at P
 split at P
 ·rename_i i j
  exact .inl ⟨i,j,ak.mp ra,ak.mp rb,P.now S _ (ak.mpr rfl)⟩
 ·rename_i i j
  split at P
  ·rename_i hl
   exact .inr (.inr (.inr ⟨i,j,bo.mp ra,bo.mp rb,hl,P.now S _ (bo.mpr rfl)⟩))
  ·exact P.elim
 ·rename_i xs ys
  split at P
  ·rename_i hl
   obtain ⟨a,us,rfl,h1,r1⟩:=aD.mp ra
   obtain ⟨b,ws,rfl,h2,r2⟩:=aD.mp rb
   refine .inr (.inl ⟨a,b,us,ws,rfl,rfl,h1,h2,by rw [r1.length,r2.length];exact hl,fun e=>?_,fun _ e=>?_,fun _ _ q hq=>?_⟩)
   ·have ex := r1.nil_iff'.mp e
    subst ex
    exact P.now S _ (by simpa using rb)
   ·have ey := r2.nil_iff'.mp e
    subst ey
    exact P.now S _ (by simpa using ra)
   ·exact P _ _ (bF hq) (S.tuple hq) _ (aD.mpr ⟨q,_,rfl,d6.of bG,(r1.append r2).mono (bF hq)⟩)
  ·exact P.elim
 ·rename_i m n
  split at P
  ·rename_i xs ys hx hy
   split at P
   ·rename_i hl
    obtain ⟨a,us,rfl,a1,h1,r1⟩:=cT S ra hx
    obtain ⟨b,ws,rfl,b1,h2,r2⟩:=cT S rb hy
    refine .inr (.inr (.inl ⟨a,b,us,ws,rfl,rfl,h1,h2,by rw [r1.length,r2.length];exact hl,fun q hq=>?_⟩))
    obtain ⟨x1,x2,x3⟩:=cQ S hq (r1.append r2)
    exact P _ _ x1 x2 _ x3
   ·exact P.elim
  ·exact P.elim
 ·exact P.elim
def BG:R2:=fun x y H Q=>rI qF (fun i j=>.int (i * j)) x y H Q\/Ez x y H Q
theorem AR {X:Cx}:iJ X (binaryOp .Mult) BG:=Dt.or Dq
open Classical in
noncomputable def kM (a b:D) (μ:ax):ao D:=match a,b with
 | .int i,.int j=>if qF i j then .ok (.int (i * j)) μ else .bad
 | .obj m,.int k=>match μ[m]? with
  | some (.lst xs)=>if -(2 ^ 63)<=k/\k<2 ^ 63/\xs.length * k.toNat<=sizeLine then .ok (.obj μ.length) (μ++[.lst (List.replicate k.toNat xs).flatten]) else .bad
  | _=>.bad
 | _,_=>.bad
theorem Reps.rep {K:W.Frag}{H:Hp}{α:List Addr}{xs:List D}{vs:List V} (h:Reps K H α xs vs):∀ k:Nat,Reps K H α (List.replicate k xs).flatten (List.replicate k vs).flatten
 | 0=>by simpa using Reps.nil
 | k+1=>by
  rw [IK,IK,IL,IL]
  exact h.append (Reps.rep h k)
theorem DG:qp p kM BG:=by
 intro a b v y H α μ Q S ra rb P
 unfold kM at P
 split at P
 ·rename_i i j
  split at P
  ·rename_i hc
   exact .inl ⟨i,j,ak.mp ra,ak.mp rb,hc,P.now S _ (ak.mpr rfl)⟩
  ·exact P.elim
 ·rename_i m k
  split at P
  ·rename_i xs hx
   split at P
   ·rename_i hl
    obtain ⟨a,us,rfl,a1,h1,r1⟩:=cT S ra hx
    refine .inr ⟨a,k,us,rfl,ak.mp rb,h1,hl.1,hl.2.1,by rw [r1.length];exact hl.2.2,fun q hq=>?_⟩
    obtain ⟨x1,x2,x3⟩:=cQ S hq (r1.rep k.toNat)
    exact P _ _ x1 x2 _ x3
   ·exact P.elim
  ·exact P.elim
 ·exact P.elim
def dH (a b:D) (μ:ax):ao D:=match a,b with
 | .tup xs,.int i=>match atI xs i with
  | some d=>.ok d μ
  | none=>.bad
 | .frz xs,.int i=>match atI xs i with
  | some d=>.ok d μ
  | none=>.bad
 | .obj n,.int i=>match μ[n]? with
  | some (.lst xs)=>match atI xs i with
   | some d=>.ok d μ
   | none=>.bad
  | _=>.bad
 | _,_=>.bad
theorem Reps.atI {K:W.Frag}{H:Hp}{α:List Addr}{xs:List D}{vs:List V}{i:Int}{d:D} (r:Reps K H α xs vs) (h:L2.atI xs i=some d):∃ v,L2.atI vs i=some v/\aG K H α d v:=by
 unfold L2.atI at h ⊢
 rw [r.length]
 cases e:sD xs.length i with
 | none=>rw [e] at h;cases h
 | some j=>rw [e] at h;exact r.get h
theorem Fw:qp p dH (GJ p.K):=by
 intro a b v y H α μ Q S ra rb P
 unfold dH at P
 split at P
 ·rename_i xs i
  split at P
  ·rename_i d hd
   obtain ⟨a,us,rfl,h1,r1⟩:=aD.mp ra
   obtain ⟨v,hv,rv⟩:=r1.atI hd
   exact .inr (.inl ⟨a,us,i,v,rfl,ak.mp rb,h1,hv,P.now S _ rv⟩)
  ·exact P.elim
 ·rename_i xs i
  split at P
  ·rename_i d hd
   obtain ⟨a,us,rfl,h1,r1⟩:=ba.mp ra
   obtain ⟨v,hv,rv⟩:=r1.atI hd
   exact .inl ⟨a,us,i,v,rfl,ak.mp rb,h1.sq,hv,P.now S _ rv⟩
  ·exact P.elim
 ·rename_i n i
  split at P
  ·rename_i xs hx
   split at P
   ·rename_i d hd
    obtain ⟨a,us,rfl,a1,h1,r1⟩:=cT S ra hx
    obtain ⟨v,hv,rv⟩:=r1.atI hd
    exact .inl ⟨a,us,i,v,rfl,ak.mp rb,eO.of h1,hv,P.now S _ rv⟩
   ·exact P.elim
  ·exact P.elim
 ·exact P.elim
theorem Fh {X:Cx}{a b:Expr}{fa fb:ME}{pos:Pos} (hK:X.K=p.K) (ha:PE X a (tD p fa)) (hb:PE X b (tD p fb)) (hs:pZ b):PE X (.Subscript a b pos) (tD p (ay dH fa fb)):=
 (Fq DY ha hb hs).weak fun σ H Q ⟨α, ρ, μ, S, R, P⟩ => ⟨α, ρ, μ, S, R, (aw.bind P).imp fun x μ1 H1 α1 X1 S1 P1 v rv => ⟨α1, ρ, μ1, S1, R.mono X1, (aw.bind P1).imp fun y μ2 H2 α2 X2 S2 P2 u ru => by
  rw [hK];exact Fw x y v u H2 α2 μ2 Q S2 (rv.mono X2) ru P2⟩⟩
theorem jB {prog:Program}{w:World}{A:Around}{E:Value->Shared->Prop}{s:Shared}{t sl:Addr}{items:Array Value}{vl vu:Value}{lo hi:Option Int}{Q:Value->Shared->Prop} (ht:IsTup s.heap t items) (hs:s.heap.IsSliceOf sl vl vu .none) (pl:IsPart vl lo) (pu:IsPart vu hi)
  (hw:HT.sIx items.size 0 lo=0/\HT.sIx items.size items.size hi=items.size) (h:Q (.ref t) s):wpAny (model prog w) A (getItem (.ref t) (.ref sl)) Q E s:=by
 obtain ⟨os,hos,hcs,hds⟩:=id hs
 have hTs:s.TypeIs (.ref sl) "slice" := ⟨os,hos,hcs⟩
 unfold getItem
 try with_reducible refine HB ?_
 first | refine HA (HE ?_) | skip
 refine HA (wpAny_sequenceKey ht.typeIs (by decide) ?_)
 refine HA (Iz (name:=Str.ofString "__getitem__") ht.typeIs IA
  (IC IA ht.typeIs entry_tuple_getitem ?_ (args_tuple_getitem _ _)))
 show wpAny _ _ (Builtin.Tuple.tupleItemsOf (.ref t) >>= _) _ _ s
 refine HA (tupleItemsOf_ ht ?_)
 refine HA (ID hTs ?_)
 rw [G6 (by decide)]
 refine HA (HT.sliceApplied_gen hs pl pu ?_)
 have hno:(((HT.sIx items.size 0 lo:Nat):Int) == 0 && (1:Int) == 1 && (HT.sIx items.size items.size hi - HT.sIx items.size 0 lo) == items.size)=true:=by
  rw [hw.1,hw.2];simp
 show wpAny _ _ (if (((HT.sIx items.size 0 lo:Nat):Int) == 0 && (1:Int) == 1 && (HT.sIx items.size items.size hi - HT.sIx items.size 0 lo) == items.size)=true then _ else _) _ _ s
 rw [G6 hno]
 refine HA (m:=Builtin.Tuple.tupleIsExact (.ref t)) (HA (ID ht.typeIs (HE ?_)))
 rw [G6 (by decide)]
 exact HA (Jg (HE ⟨_,rfl,HE h⟩))
def ig {β:Type} (xs:List β) (lo hi:Option Int):List β:=(xs.drop (HT.sIx xs.length 0 lo)).take (HT.sIx xs.length xs.length hi - HT.sIx xs.length 0 lo)
theorem tV {β:Type} (xs:List β) (lo hi:Option Int) (h:HT.sIx xs.length 0 lo=0/\HT.sIx xs.length xs.length hi=xs.length):ig xs lo hi=xs:=by
 unfold ig
 rw [h.1,h.2];simp
def BE (K:W.Frag):V->Option Int->Option Int->Hp->VK->Prop:=fun x lo hi H Q=>∃ a xs,x=.ref a/\d6 K H a xs /\
 (HT.sIx xs.length 0 lo=0/\HT.sIx xs.length xs.length hi=xs.length)/\Q (.ref a) H
theorem Ai {X:Cx}:zv X (BE X.K):=by
 intro pins s σ H x v vl vu lo hi sl Q I rx hs pl pu h
 obtain ⟨a,xs,rfl,hx,hw,q⟩:=h
 cases rx
 obtain ⟨its,r,ht,hz⟩:=I.tuple hx
 have hlen:its.toArray.size=xs.length:=by rw [HR];exact r.length.symm
 refine ⟨"tuple",_,IA.lookup,ht.typeIs,?_⟩
 exact jB ht hs pl pu (by rw [hlen];exact hw) ⟨.ref a,H,I,rfl,q⟩
def Ey (K:W.Frag):V->Option Int->Option Int->Hp->VK->Prop:=fun x lo hi H Q=>Ew K x lo hi H Q\/BE K x lo hi H Q\/Ex K x lo hi H Q
theorem Gp {X:Cx}:zv X (Ey X.K):=CK.or (Ai.or Aj)
abbrev MO:=Ro->ax->ao (Option Int)
def zq:MO:=fun _ μ=>.ok none μ
def FO (d:D) (μ:ax):ao (Option Int):=match d with
 | .int i=>.ok (some i) μ
 | _=>.bad
def iL (f:ME):MO:=fun ρ μ=>(f ρ μ).bind FO
def Bw (p:Pa) (f:MO):TO:=fun σ H Q=>∃ α ρ μ,p.S H α μ/\cD p.K H α ρ σ/\aw p H α (f ρ μ) (fun o _ H' _=>Q o H')
theorem PO.weak {X:Cx}{e:Option Expr}{t t':TO} (h:PO X e t) (k:∀ σ H Q,t' σ H Q->t σ H Q):PO X e t':=fun pins s σ H Q I q=>h pins s σ H Q I (k σ H Q q)
theorem Ah {X:Cx}:PO X none (Bw p zq):=AG.weak fun σ H Q ⟨α,ρ,μ,S,R,P⟩=>P.now S
theorem Ag {X:Cx}{e:Expr}{f:ME} (h:PE X e (tD p f)):PO X (some e) (Bw p (iL f)):=(AF h).weak fun σ H Q ⟨α,ρ,μ,S,R,P⟩=>⟨α,ρ,μ,S,R,(aw.bind P).imp fun d μ1 H1 α1 X1 S1 P1 v rv=>by
 unfold FO at P1
 split at P1
 ·rename_i i
  exact ⟨i,ak.mp rv,P1.now S1⟩
 ·exact P1.elim⟩
def uf (a:D) (lo hi:Option Int) (μ:ax):ao D:=match a with
 | .tup xs=>.ok (.tup (ig xs lo hi)) μ
 | .frz xs=>.ok (.obj μ.length) (μ++[.lst (ig xs lo hi)])
 | .obj n=>match μ[n]? with
  | some (.lst xs)=>.ok (.obj μ.length) (μ++[.lst (ig xs lo hi)])
  | _=>.bad
 | _=>.bad
def zk (fa:ME) (fl fh:MO):ME:=fun ρ μ=>(fa ρ μ).bind fun a μ1=>(fl ρ μ1).bind fun lo μ2=>(fh ρ μ2).bind fun hi μ3=>uf a lo hi μ3
theorem Reps.cut' {K:W.Frag}{H:Hp}{α:List Addr}{xs:List D}{vs:List V} (r:Reps K H α xs vs) (lo hi:Option Int):Reps K H α (ig xs lo hi) (qB vs lo hi):=by
 unfold ig qB
 rw [r.length]
 exact (r.drop _).take _
theorem Ff {a:D}{v:V}{lo hi:Option Int}{H:Hp}{α:List Addr}{μ:ax}{Q:VK} (S:p.S H α μ) (ra:p.R H α a v) (P:aw p H α (uf a lo hi μ) (RV p Q)):Ey p.K v lo hi H Q:=by
 unfold uf at P
 split at P
 ·rename_i xs
  obtain ⟨a,us,rfl,h1,r1⟩:=aD.mp ra
  by_cases hw:HT.sIx us.length 0 lo=0/\HT.sIx us.length us.length hi=us.length
  ·refine .inr (.inl ⟨a, us, rfl, h1, hw, ?_⟩)
   rw [r1.length] at hw
   rw [tV xs lo hi hw] at P
   exact P.now S _ ra
  ·exact .inl ⟨a,us,rfl,h1,hw,fun q hq=>P _ _ (bF hq) (S.tuple hq) _ (aD.mpr ⟨q,_,rfl,d6.of bG,(r1.cut' lo hi).mono (bF hq)⟩)⟩
 ·rename_i xs
  obtain ⟨a,us,rfl,h1,r1⟩:=ba.mp ra
  refine .inr (.inr ⟨a,us,rfl,h1.sq,fun q hq=>?_⟩)
  obtain ⟨x1,x2,x3⟩:=cQ S hq (r1.cut' lo hi)
  exact P _ _ x1 x2 _ x3
 ·rename_i n
  split at P
  ·rename_i xs hx
   obtain ⟨a,us,rfl,a1,h1,r1⟩:=cT S ra hx
   refine .inr (.inr ⟨a,us,rfl,eO.of h1,fun q hq=>?_⟩)
   obtain ⟨x1,x2,x3⟩:=cQ S hq (r1.cut' lo hi)
   exact P _ _ x1 x2 _ x3
  ·exact P.elim
 ·exact P.elim
theorem yi {X:Cx}{e:Expr}{lo hi:Option Expr}{fa:ME}{fl fh:MO}{pos p2:Pos} (hK:X.K=p.K) (he:PE X e (tD p fa)) (hl:PO X lo (Bw p fl)) (hu:PO X hi (Bw p fh)):PE X (.Subscript e (.Slice lo hi none p2) pos) (tD p (zk fa fl fh)):=
 (yC Gp he hl hu).weak fun σ H Q ⟨α, ρ, μ, S, R, P⟩ => ⟨α, ρ, μ, S, R, (aw.bind P).imp fun a μ1 H1 α1 X1 S1 P1 v rv => ⟨α1, ρ, μ1, S1, R.mono X1, (aw.bind P1).imp fun l μ2 H2 α2 X2 S2 P2 => ⟨α2, ρ, μ2, S2, (R.mono X1).mono X2, (aw.bind P2).imp fun h μ3 H3 α3 X3 S3 P3 => by
  rw [hK];exact Ff S3 ((rv.mono X2).mono X3) P3⟩⟩⟩
end
inductive wC (K:W.Frag) (H:Hp):V->String->Prop where
 | non:wC K H .non "NoneType"
 | bl (x:Bool):wC K H (.bl x) "bool"
 | int (i:Int):wC K H (.int i) "int"
 | str (x:Str):wC K H (.str x) "str"
 | lst {a:Addr}{xs:List V} (e:eO K H a xs):wC K H (.ref a) "list"
 | tup {a:Addr}{xs:List V} (e:d6 K H a xs):wC K H (.ref a) "tuple"
 | dic {a:Addr}{kvs:List (pq × V)} (e:H a=some (.dK kvs)):wC K H (.ref a) "dict"
def EM (tn T:String):Bool:=tn == T || (tn == "bool" && T == "int")
def pK:List String:=["NoneType", "bool", "int", "str", "list", "tuple", "dict"]
theorem DP {K:W.Frag}:∀ tn∈pK,∀ T∈["int", "bool", "tuple", "list", "str", "dict"],W.kitOne K (.type tn) (.type T)=some (EM tn T):=by
 intro tn h1 T h2
 simp only [pK,Hl,Jq,Jr] at h1 h2
 rcases h1 with rfl|rfl|rfl|rfl|rfl|rfl|rfl <;> rcases h2 with rfl|rfl|rfl|rfl|rfl|rfl <;> rfl
theorem wC.mem {K:W.Frag}{H:Hp}{x:V}{tn:String} (h:wC K H x tn):tn∈pK:=by
 cases h <;> decide
section
variable {X:Cx}
theorem DZ {pins:List (Addr × Obj)}{σ:St}{H:Hp}{s:Shared}{A:Around}{E:Value->Shared->Prop}{Q:Value->Shared->Prop}{c:Value}{b:Bool}{x:V}{u:Value}{tn:String} (I:aI X pins σ H s) (rx:bH x u) (ty:wC X.K H x tn) (e:W.kitOne X.K (.type tn) c=some b) (h:∀ tk,Q (.bool b) { s with toks:=tk }) :
  wpAny (model X.prog X.w) A (call (.builtin "isinstance") [u,c]) Q E s:=by
 cases ty with
 | non=>cases (show u=Value.none from rx);exact W.kia_one W.kitx_none I.kIn True.intro e (fun z=>nomatch z) h
 | bl y=>cases (show u=Value.bool y from rx);exact W.kia_one W.kitx_bool I.kIn True.intro e (fun z=>nomatch z) h
 | int i=>obtain ⟨t,q⟩:=(show ∃ t,u=Value.int i t from rx);cases q;exact W.kia_one W.kitx_int I.kIn True.intro e (fun z=>nomatch z) h
 | str y=>obtain ⟨t,q⟩:=(show ∃ t,u=Value.str y t from rx);cases q;exact W.kia_one W.kitx_str I.kIn True.intro e (fun z=>nomatch z) h
 | @lst a xs ea=>
  cases (show u=Value.ref a from rx)
  obtain ⟨its,_,⟨o,n,h1,h2,_⟩,_⟩:=I.list ea
  exact W.kia_one W.kitx_list I.kIn ⟨o,h1,h2⟩ e (fun z=>nomatch z) h
 | @tup a xs ea=>
  cases (show u=Value.ref a from rx)
  obtain ⟨its,_,⟨o,h1,h2,_⟩,_⟩:=I.tuple ea
  exact W.kia_one W.kitx_tuple I.kIn ⟨o,h1,h2⟩ e (fun z=>nomatch z) h
 | @dic a kvs ea=>
  cases (show u=Value.ref a from rx)
  obtain ⟨_,_,vs,_,p⟩:=(show cW X.prog X.w H s.heap a (.dK kvs) from I.hok a _ ea)
  obtain ⟨o,es,ep,h1,h2,_⟩:=p
  exact W.kia_one W.kitx_dict I.kIn ⟨o,h1,h2.1⟩ e (fun z=>nomatch z) h
def ED (K:W.Frag):List V->Hp->VK->Prop:=fun xs H Q=>∃ x T tn b,xs=[x,.ty T]/\wC K H x tn/\W.kitOne K (.type tn) (.type T)=some b/\Q (.bl b) H
theorem zf:cj X (.builtin "isinstance") (ED X.K):=by
 intro pins s σ H xs us Q I r h
 obtain ⟨x,T,tn,b,rfl,ty,e,q⟩:=h
 obtain ⟨u,u2,rfl,ru,ru2⟩:=wX r
 cases ru2
 exact DZ I ru ty e fun tk=>⟨.bl b,H,I.tok _,rfl,q⟩
end
def zi (μ:ax):D->Option String
 | .non=>some "NoneType"
 | .bl _=>some "bool"
 | .int _=>some "int"
 | .str _=>some "str"
 | .tup _=>some "tuple"
 | .frz _=>some "list"
 | .obj n=>match μ[n]? with
  | some (.lst _)=>some "list"
  | some .dic=>some "dict"
  | _=>none
theorem Cr {p:Pa}{H:Hp}{α:List Addr}{μ:ax}{d:D}{v:V}{tn:String} (S:p.S H α μ) (r:p.R H α d v) (h:zi μ d=some tn):wC p.K H v tn:=by
 cases d with
 | non=>cases h;rw [bD.mp r];exact .non
 | bl b=>cases h;rw [aS.mp r];exact .bl b
 | int b=>cases h;rw [ak.mp r];exact .int b
 | str b=>cases h;rw [bo.mp r];exact .str b
 | tup xs=>cases h;obtain ⟨a,vs,rfl,h1,_⟩:=aD.mp r;exact .tup h1
 | frz xs=>cases h;obtain ⟨a,vs,rfl,h1,_⟩:=ba.mp r;exact .lst h1.sq
 | obj n=>
  unfold zi at h
  dsimp only at h
  split at h
  ·rename_i xs hx
   cases h
   obtain ⟨a,us,rfl,a1,h1,_⟩:=cT S r hx
   exact .lst (eO.of h1)
  ·rename_i hx
   cases h
   obtain ⟨a,ea,q⟩:=S.at hx
   obtain ⟨a',rfl,ea'⟩:=aH.mp r
   rw [ea] at ea';cases ea'
   exact .dic q
  ·cases h
def ie (T:String) (d:D) (μ:ax):ao D:=match zi μ d with
 | some tn=>.ok (.bl (EM tn T)) μ
 | none=>.bad
theorem CT {p:Pa}{X:Cx}{a:Expr}{fa:ME}{T:String}{xT:Str}{px pt pos:Pos} (hK:X.K=p.K) (hT:T∈["int", "bool", "tuple", "list", "str", "dict"]) (hg:Gl X "isinstance") (hm:X.mg "isinstance" = none) (hgT:Gl X xT) (hmT:X.mg xT=none) (hbT:bootBuiltins xT=some (.type T)) (ha:PE X a (tD p fa))
  (hnT:xT ≠ "__name__") (hdT:(xT == ("__debug__" : Str))=false) (hs1:starEach [a,.Name xT pt] X.env=(false,eval a X.env)::starEach [.Name xT pt] X.env) :
  PE X (.Call (.Name "isinstance" px) [a,.Name xT pt] [] pos) (tD p (lW (ie T) fa)):=by
 have hb:PE X (.Name xT pt) (tC (.ty T)):=uG hgT hmT hbT rfl hnT hdT
 refine (kj zf hg hm KR (gp ha (gp hb mJ rfl) hs1) (by decide) (by decide) hs1 rfl).weak fun σ H Q ⟨α,ρ,μ,S,R,P⟩=>⟨α,ρ,μ,S,R,(aw.bind P).imp fun d μ1 H1 α1 X1 S1 P1 v rv=>?_⟩
 show ED X.K [v,.ty T] H1 Q
 unfold ie at P1
 split at P1
 ·rename_i tn htn
  have ty:=Cr S1 rv htn
  rw [hK]
  exact ⟨v,T,tn,_,rfl,ty,DP tn ty.mem T hT,P1.now S1 _ (aS.mpr rfl)⟩
 ·exact P1.elim
def jS:List D->Option (List Bool)
 | []=>some []
 | .bl b::r=>(jS r).map (b::·)
 | _::_=>none
theorem nv:∀ {ds:List D}{bs:List Bool},jS ds=some bs->ds=bs.map D.bl
 | [],bs,h=>by cases h;rfl
 | .bl b::r,bs,h=>by
  unfold jS at h
  cases e:jS r with
  | none=>rw [e] at h;cases h
  | some cs=>rw [e] at h;cases h;rw [nv e];rfl
 | .non::r,bs,h=>by cases h
 | .int _::r,bs,h=>by cases h
 | .str _::r,bs,h=>by cases h
 | .tup _::r,bs,h=>by cases h
 | .frz _::r,bs,h=>by cases h
 | .obj _::r,bs,h=>by cases h
theorem wy (bs:List Bool):jS (bs.map D.bl)=some bs:=by
 induction bs with
 | nil=>rfl
 | cons b r ih=>simp only [IH,jS,ih];rfl
theorem Reps.bools {K:W.Frag}{H:Hp}{α:List Addr}:∀ {bs:List Bool}{vs:List V},Reps K H α (bs.map D.bl) vs->vs=bs.map V.bl
 | [],vs,h=>by simp only [IG,Reps] at h;exact h
 | n::ns,vs,h=>by
  simp only [IH,Reps] at h
  obtain ⟨v,r,rfl,h1,h2⟩:=h
  rw [aS.mp h1,Reps.bools h2];rfl
theorem tj {bs:List Bool}{us:List Value} (h:aU (bs.map V.bl) us):us=bs.map Value.bool:=by
 induction bs generalizing us with
 | nil=>cases h;rfl
 | cons b r ih=>
  cases h with
  | cons h1 h2=>cases h1;rw [ih h2];rfl
theorem wA {bs:List Bool}:(List.range bs.length).all (fun i=>bs.getD i false)=bs.all id:=by
 induction bs with
 | nil=>rfl
 | cons b r ih=>
  rw [I0,Jt,IJ,KS,IJ]
  congr 1
section
variable {X:Cx}
def EG (K:W.Frag):List V->Hp->VK->Prop:=fun xs H Q=>∃ (a:Addr) (bs:List Bool),xs=[.ref a]/\eO K H a (bs.map V.bl)/\Q (.bl (bs.all id)) H
theorem aI.fresh_it {pins:List (Addr × Obj)}{σ:St}{H:Hp}{s:Shared} (I:aI X pins σ H s) {o:Obj}{h':Heap}{tk:Nat} (hk:∀ b ob,b ∉ [s.heap.objs.size]->(s.heap.push o).get? b=some ob->h'.get? b=some ob):aI X pins σ H { s with heap:=h',toks:=tk }:=
 I.kept fun b ob e=>hk b ob (fun hm=>by
  have:b=s.heap.objs.size:=by simpa using hm
  subst this
  exact absurd (G9 e) (Hc _)) (HG _ e)
theorem wx (hc:X.calm=true):cj X (.builtin "all") (EG X.K):=by
 intro pins s σ H xs us Q I r h
 obtain ⟨a,bs,rfl,ha,q⟩:=h
 obtain ⟨u,rfl,ru⟩:=dY r
 cases ru
 obtain ⟨its,rv,pl,hz⟩:=I.list ha
 have hi:its=bs.map Value.bool:=tj rv
 have hne:a≠s.heap.objs.size:=by
  obtain ⟨o,n,e,_⟩:=pl
  exact Hd (G9 e)
 refine call_all_walk (Kf pl.isList ?_)
 refine ⟨s.heap.objs.size,[s.heap.objs.size,a],[s.heap.objs.size],_,_,_,fun i=>bs.getD i false,rfl,Walks.list (A:=X.A.in1) (show X.A.in1.handled=none from I.ok.hd hc) _ a hne its.toArray,⟨⟨_,HH _ rfl,rfl,rfl⟩,pl.isList.at fun o e=>HG _ e⟩,?_,?_⟩
 ·intro i v s' Q' E' hP hQ
  subst hi
  have hv:(bs.map Value.bool)[i]?=some v:=by simpa using hP
  rw [Ih] at hv
  cases e:bs[i]? with
  | none=>rw [e] at hv;cases hv
  | some b=>
   rw [e] at hv;cases hv
   have:bs.getD i false=b:=by rw [Kl,e];rfl
   dsimp only at hQ
   rw [this] at hQ
   exact Hv hQ
 ·intro h' tk hk
  have e2:its.toArray.size=bs.length:=by subst hi;simp
  rw [e2,wA]
  exact ⟨.bl _,H,I.fresh_it hk,rfl,q⟩
end
def qA (ds:List D) (μ:ax):ao D:=match ds with
 | [.obj n]=>match μ[n]? with
  | some (.lst xs)=>match jS xs with
   | some bs=>.ok (.bl (bs.all id)) μ
   | none=>.bad
  | _=>.bad
 | _=>.bad
theorem DE {p:Pa}:qu p qA (EG p.K):=by
 intro ds vs H α μ Q S r P
 unfold qA at P
 split at P
 ·rename_i n
  split at P
  ·rename_i xs hx
   split at P
   ·rename_i bs hb
    obtain ⟨v,rfl,r1⟩:=r.one
    obtain ⟨a,us,rfl,a1,h1,rr⟩:=cT S r1 hx
    rw [nv hb] at rr
    exact ⟨a,bs,rfl,by rw [<- rr.bools];exact eO.of h1,P.now S _ (aS.mpr rfl)⟩
   ·exact P.elim
  ·exact P.elim
 ·exact P.elim
def qN (ds:List D) (μ:ax):ao D:=match ds with
 | [.tup xs]=>.ok (.int xs.length) μ
 | [.frz xs]=>.ok (.int xs.length) μ
 | [.str x]=>if x.length<=sizeLine then .ok (.int x.length) μ else .bad
 | [.obj n]=>match μ[n]? with
  | some (.lst xs)=>.ok (.int xs.length) μ
  | _=>.bad
 | _=>.bad
theorem uH {p:Pa}:qu p qN (fun xs H Q=>∃ x n,xs=[x]/\Cg p.K x H n/\Q (.int n) H):=by
 intro ds vs H α μ Q S r P
 unfold qN at P
 split at P
 ·rename_i xs
  obtain ⟨v,rfl,r1⟩:=r.one
  obtain ⟨a,us,rfl,h1,rr⟩:=aD.mp r1
  exact ⟨_,xs.length,rfl,.inr ⟨us,h1,rr.length.symm⟩,P.now S _ (ak.mpr rfl)⟩
 ·rename_i xs
  obtain ⟨v,rfl,r1⟩:=r.one
  obtain ⟨a,us,rfl,h1,rr⟩:=ba.mp r1
  exact ⟨_,xs.length,rfl,.inl ⟨us,h1.sq,rr.length.symm⟩,P.now S _ (ak.mpr rfl)⟩
 ·rename_i x
  obtain ⟨v,rfl,r1⟩:=r.one
  split at P
  ·rename_i hl
   exact ⟨v,x.length,rfl,by rw [bo.mp r1];exact ⟨hl,rfl⟩,P.now S _ (ak.mpr rfl)⟩
  ·exact P.elim
 ·rename_i n
  split at P
  ·rename_i xs hx
   obtain ⟨v,rfl,r1⟩:=r.one
   obtain ⟨a,us,rfl,a1,h1,rr⟩:=cT S r1 hx
   exact ⟨_,xs.length,rfl,.inl ⟨us,eO.of h1,rr.length.symm⟩,P.now S _ (ak.mpr rfl)⟩
  ·exact P.elim
 ·exact P.elim
def fC (ds:List D) (μ:ax):ao D:=match ds with
 | [.tup xs]=>.ok (.tup xs) μ
 | [.frz xs]=>.ok (.tup xs) μ
 | [.obj n]=>match μ[n]? with
  | some (.lst xs)=>.ok (.tup xs) μ
  | _=>.bad
 | _=>.bad
theorem yJ {p:Pa}:qu p fC (fun xs H Q=>∃ q ys,xs=[.ref q]/\((eO p.K H q ys/\∀ l,H l=none->Q (.ref l) (bT H l (.tup ys)))\/(d6 p.K H q ys/\Q (.ref q) H))):=by
 intro ds vs H α μ Q S r P
 unfold fC at P
 split at P
 ·rename_i xs
  obtain ⟨v,rfl,r1⟩:=r.one
  obtain ⟨a,us,rfl,h1,rr⟩:=aD.mp r1
  exact ⟨a,us,rfl,.inr ⟨h1,P.now S _ r1⟩⟩
 ·rename_i xs
  obtain ⟨v,rfl,r1⟩:=r.one
  obtain ⟨a,us,rfl,h1,rr⟩:=ba.mp r1
  exact ⟨a,us,rfl,.inl ⟨h1.sq,fun q hq=>P _ _ (bF hq) (S.tuple hq) _ (aD.mpr ⟨q,us,rfl,d6.of bG,rr.mono (bF hq)⟩)⟩⟩
 ·rename_i n
  split at P
  ·rename_i xs hx
   obtain ⟨v,rfl,r1⟩:=r.one
   obtain ⟨a,us,rfl,a1,h1,rr⟩:=cT S r1 hx
   exact ⟨a,us,rfl,.inl ⟨eO.of h1,fun q hq=>P _ _ (bF hq) (S.tuple hq) _ (aD.mpr ⟨q,us,rfl,d6.of bG,rr.mono (bF hq)⟩)⟩⟩
  ·exact P.elim
 ·exact P.elim
def qM (ds:List D) (μ:ax):ao D:=match ds with
 | [.tup xs]=>.ok (.obj μ.length) (μ++[.lst xs])
 | [.frz xs]=>.ok (.obj μ.length) (μ++[.lst xs])
 | [.obj n]=>match μ[n]? with
  | some (.lst xs)=>.ok (.obj μ.length) (μ++[.lst xs])
  | _=>.bad
 | _=>.bad
theorem A1 {p:Pa}:qu p qM (fun xs H Q=>∃ q ys,xs=[.ref q]/\(eO p.K H q ys\/d6 p.K H q ys)/\∀ l,H l=none->Q (.ref l) (bT H l (.lst ys))):=by
 intro ds vs H α μ Q S r P
 unfold qM at P
 split at P
 ·rename_i xs
  obtain ⟨v,rfl,r1⟩:=r.one
  obtain ⟨a,us,rfl,h1,rr⟩:=aD.mp r1
  refine ⟨a,us,rfl,.inr h1,fun q hq=>?_⟩
  obtain ⟨x1,x2,x3⟩:=cQ S hq rr
  exact P _ _ x1 x2 _ x3
 ·rename_i xs
  obtain ⟨v,rfl,r1⟩:=r.one
  obtain ⟨a,us,rfl,h1,rr⟩:=ba.mp r1
  refine ⟨a,us,rfl,.inl h1.sq,fun q hq=>?_⟩
  obtain ⟨x1,x2,x3⟩:=cQ S hq rr
  exact P _ _ x1 x2 _ x3
 ·rename_i n
  split at P
  ·rename_i xs hx
   obtain ⟨v,rfl,r1⟩:=r.one
   obtain ⟨a,us,rfl,a1,h1,rr⟩:=cT S r1 hx
   refine ⟨a,us,rfl,.inl (eO.of h1),fun q hq=>?_⟩
   obtain ⟨x1,x2,x3⟩:=cQ S hq rr
   exact P _ _ x1 x2 _ x3
  ·exact P.elim
 ·exact P.elim
def lE (ds:List D) (μ:ax):ao D:=match ds with
 | [.int i]=>.ok (.int i) μ
 | [.bl k]=>.ok (.int (if k then 1 else 0)) μ
 | _=>.bad
theorem DD {p:Pa}:qu p lE (fun xs H Q=>(∃ i,xs=[.int i]/\Q (.int i) H)\/∃ k,xs=[.bl k]/\Q (.int (if k then 1 else 0)) H):=by
 intro ds vs H α μ Q S r P
 unfold lE at P
 split at P
 ·rename_i i
  obtain ⟨v,rfl,r1⟩:=r.one
  exact .inl ⟨i,by rw [ak.mp r1],P.now S _ (ak.mpr rfl)⟩
 ·rename_i i
  obtain ⟨v,rfl,r1⟩:=r.one
  exact .inr ⟨i,by rw [aS.mp r1],P.now S _ (ak.mpr rfl)⟩
 ·exact P.elim
def xi (ds:List D) (μ:ax):ao D:=match ds with
 | [.int i,.int j]=>.ok (.int (if j > i then j else i)) μ
 | _=>.bad
def xh (ds:List D) (μ:ax):ao D:=match ds with
 | [.int i,.int j]=>.ok (.int (if j<i then j else i)) μ
 | _=>.bad
theorem A0 {p:Pa}:qu p xi (fun xs H Q=>∃ i j,xs=[.int i,.int j]/\Q (.int (if j > i then j else i)) H):=by
 intro ds vs H α μ Q S r P
 unfold xi at P
 split at P
 ·rename_i i j
  obtain ⟨v,u,rfl,r1,r2⟩:=r.two
  exact ⟨i,j,by rw [ak.mp r1,ak.mp r2],P.now S _ (ak.mpr rfl)⟩
 ·exact P.elim
theorem AZ {p:Pa}:qu p xh (fun xs H Q=>∃ i j,xs=[.int i,.int j]/\Q (.int (if j<i then j else i)) H):=by
 intro ds vs H α μ Q S r P
 unfold xh at P
 split at P
 ·rename_i i j
  obtain ⟨v,u,rfl,r1,r2⟩:=r.two
  exact ⟨i,j,by rw [ak.mp r1,ak.mp r2],P.now S _ (ak.mpr rfl)⟩
 ·exact P.elim
end L2
namespace L2
open PySem PySem.Spec PyProof.Rows RS
section
variable {prog:Program}{w:World}{A:Around}{E:Value->Shared->Prop}{s:Shared}
theorem sv {T:String} (hT:T = "list" \/ T = "tuple") {l:Addr}{vs:List Value}{Q:List Value->Shared->Prop}{o:Obj}{n:Nat} (ho:s.heap.get? l=some o) (hc:o.cls=.type T) (hd:o.data=.seq vs.toArray n)
  (h:Q vs { s with heap:=(s.heap.push (seqObj "list" #[] 0)).update s.heap.objs.size (Obj.mapSeq (·++vs.toArray)) }) (hsz:vs.length<=sizeLine) :
  wpAny (model prog w) A (collect (.ref l)) Q E s:=by
 unfold collect
 refine HA (Kg (J8 entry_proto_collect' ?_))
 show wpAny _ _ (do again (.builtin "list.__iadd__" ⟨[<- newList [],.ref l],[]⟩)) _ _ s
 refine HA (Kt (HE ⟨Kd _ (by decide +kernel),J8 entry_list_iadd' ?_⟩))
 show wpAny _ _ (Builtin.List.listExtendWith (.ref s.heap.objs.size) (.ref l) (.ref s.heap.objs.size)) _ _ { s with heap:=s.heap.push (seqObj "list" #[] 0) }
 unfold Builtin.List.listExtendWith
 have ho':(s.heap.push (seqObj "list" #[] 0)).get? l=some o:=HG _ ho
 refine HA (ID (T:=T) ⟨o,ho',hc⟩ ?_)
 have h1:(Value.type "list" == Value.type "list")=true:=by rfl
 have h2:(Value.type "tuple" == Value.type "tuple")=true:=by rfl
 rw [G6 (by rcases hT with rfl|rfl <;> simp [h1,h2])]
 refine HA (listItems_at ho' hd ?_)
 refine HA (listItems_at (xs:=#[]) (n:=0) (HH _ rfl) rfl ?_)
 rw [G7 (by simp)]
 refine HA (Kr (xs:=#[]) (n:=0) (HH _ rfl) rfl ?_ (Jh _) (by show (#[]++vs.toArray).size<=sizeLine+1;simp only [Array.size_append,HR,Jx];omega))
 refine HE ?_
 show wpAny (model prog w) A (do
   let o <- load s.heap.objs.size
   match o.data with
   | .seq xs _=>pure xs.toList
   | _=>unsupported "internal:collect") Q E { s with heap:=(s.heap.push (seqObj "list" #[] 0)).update s.heap.objs.size (Obj.mapSeq (·++vs.toArray)) }
 refine HA (HF (Ks (HH _ rfl) _) ?_)
 show wpAny _ _ (pure ((#[]:Array Value)++vs.toArray).toList) Q E _
 rw [show ((#[]:Array Value)++vs.toArray).toList=vs by simp]
 exact HE h
theorem p7 {T:String} (hT:T = "list" \/ T = "tuple") {l:Addr}{vs:List Value}{ns:List Int}{Q:Value->Shared->Prop}{o:Obj}{n:Nat} (ho:s.heap.get? l=some o) (hc:o.cls=.type T) (hd:o.data=.seq vs.toArray n) (hI:IntsAre vs ns) (h64:vs.length<64)
  (h:∀ (out:Array Value) (ns':List Int),IntsAre out.toList ns'->ns'.Perm ns->ns'.Pairwise (·<=·)->Q (.ref (s.heap.objs.size+1)) { s with heap:=sortedAll s.heap vs out }) :
  wpAny (model prog w) A (call (.builtin "sorted") [.ref l]) Q E s:=by
 have hsz0:vs.length<=sizeLine:=Hg (Hh h64) (by decide)
 refine KD kind_sorted plain_sorted entry_sorted (args_sorted1 _) ?_
 unfold Builtin.«sorted»
 refine HA (m:=checkCount "sorted" 1 1 _) (HE ?_)
 refine HA (sv hT ho hc hd ?_ hsz0)
 refine HA (Kt ?_ hsz0)
 have hsz:((s.heap.push (seqObj "list" #[] 0)).update s.heap.objs.size (Obj.mapSeq (·++vs.toArray))).objs.size=s.heap.objs.size+1:=by
  rw [Kv,Ku]
 have hoL:(((s.heap.push (seqObj "list" #[] 0)).update s.heap.objs.size (Obj.mapSeq (·++vs.toArray))).push (seqObj "list" vs.toArray 0)).get? (s.heap.objs.size+1)=some (seqObj "list" vs.toArray 0):=by
  rw [<- hsz];exact HH _ rfl
 show wpAny _ _ _ _ _ { s with heap:=((s.heap.push (seqObj "list" #[] 0)).update s.heap.objs.size (Obj.mapSeq (·++vs.toArray))).push (seqObj "list" vs.toArray 0) }
 rw [hsz]
 refine HA (HB (IC slot_list_sort ⟨_,hoL,rfl⟩ KE (list_sort_tree hoL hI h64 fun out ns' a1 a2 a3=>⟨_,rfl,?_⟩) (args_list_sort _)))
 exact HE ⟨_,rfl,h out ns' a1 a2 a3⟩
end
theorem nN {h:Heap}{vs:List Value}{out:Array Value}{b:Addr}{u:Obj} (e:h.get? b=some u):(sortedAll h vs out).get? b=some u:=by
 have hb:=G9 e
 have n1:b≠h.objs.size:=Hd hb
 have n2:b≠h.objs.size+1:=Hd (Jb hb)
 unfold sortedAll sortedHeap
 rw [Kw _ _ _ _ n2]
 refine HG _ (HG _ ?_)
 rw [Kw _ _ _ _ n2]
 refine HG _ ?_
 rw [Kw _ _ _ _ n1]
 exact HG _ e
theorem nO {h:Heap}{vs:List Value}{out:Array Value}:∃ n,(sortedAll h vs out).get? (h.objs.size+1)=some (seqObj "list" out n):=by
 unfold sortedAll sortedHeap
 have hsz:((h.push (seqObj "list" #[] 0)).update h.objs.size (Obj.mapSeq (·++vs.toArray))).objs.size=h.objs.size+1:=by
  rw [Kv,Ku]
 have hoL:(((h.push (seqObj "list" #[] 0)).update h.objs.size (Obj.mapSeq (·++vs.toArray))).push (seqObj "list" vs.toArray 0)).get? (h.objs.size+1)=some (seqObj "list" vs.toArray 0):=by
  rw [<- hsz];exact HH _ rfl
 have g1:=Ks hoL (fun _=>#[])
 have g2:=HG (seqObj "list" #[] 0) (HG (seqObj "tuple" vs.toArray 0) g1)
 exact ⟨_,Ks g2 (fun _=>out)⟩
theorem ku {us:List Value}{ns:List Int} (h:IntsAre us ns):aU (ns.map V.int) us:=by
 induction h with
 | nil=>exact .nil
 | cons n t _ ih=>exact .cons ⟨t,rfl⟩ ih
section
variable {X:Cx}
def xC (K:W.Frag):List V->Hp->VK->Prop:=fun xs H Q=>∃ (a:Addr) (ns:List Int),xs=[.ref a]/\(eO K H a (ns.map V.int)\/d6 K H a (ns.map V.int))/\ns.length<64 /\
 ∀ ns':List Int,ns'.Perm ns->ns'.Pairwise (·<=·)->∀ l,H l=none->Q (.ref l) (bT H l (.lst (ns'.map V.int)))
theorem t8:cj X (.builtin "sorted") (xC X.K):=by
 intro pins s σ H xs us Q I r h
 obtain ⟨a,ns,rfl,ha,hl,q⟩:=h
 obtain ⟨u,rfl,ru⟩:=dY r
 cases ru
 have core:∀ (T:String),T = "list" \/ T = "tuple" -> ∀ (its:List Value) (o:Obj) (n:Nat),s.heap.get? a=some o->o.cls=.type T->o.data=.seq its.toArray n->aU (ns.map V.int) its->wpAny (model X.prog X.w) X.A (call (.builtin "sorted") [.ref a]) (EP X pins σ Q) X.xe s:=by
  intro T hT its o n e1 e2 e3 rv
  have hI:IntsAre its ns:=dN rv
  refine p7 hT e1 e2 e3 hI (by rw [hI.length];exact hl) fun out ns' h1 h2 h3=>?_
  refine ⟨.ref (s.heap.objs.size+1),bT H (s.heap.objs.size+1) (.lst (ns'.map V.int)),I.laid (t':=s.toks) (fun b ob e=>nN e) (IM _) ?_,rfl,q ns' h2 h3 _ (I.hok.fresh (IM _))⟩
  obtain ⟨m,e⟩:=nO (h:=s.heap) (vs:=its) (out:=out)
  refine ⟨?_,out.toList,m,ku h1,by simpa using e⟩
  rw [Il,h2.length_eq]
  exact Hg (Hh hl) (by decide)
 rcases ha with ha | ha
 ·obtain ⟨its, rv, ⟨o, n, e1, e2, _, e3⟩, hz⟩ := I.list ha
  exact core "list" (.inl rfl) its o n e1 e2 e3 rv
 ·obtain ⟨its, rv, ⟨o, e1, e2, n, e3⟩, hz⟩ := I.tuple ha
  exact core "tuple" (.inr rfl) its o n e1 e2 e3 rv
theorem oh {pins:List (Addr × Obj)}{σ:St}{H:Hp}{s:Shared}{r:Addr}{k:List Int} (I:aI X pins σ H s) (h:d6 X.K H r (k.map V.int)):Tk X.prog X.w s.heap k r:=by
 obtain ⟨its,rv,⟨o,e1,e2,n,e3⟩,_⟩:=I.tuple h
 refine ⟨o,its.toArray,n,e1,e2,e3,?_⟩
 have core:∀ (k:List Int) (its:List Value),aU (k.map V.int) its->PySem.ItemsAre (intKind X.prog X.w) k its:=by
  intro k
  induction k with
  | nil=>intro its h;cases h;exact .nil
  | cons i r ih=>
   intro its h
   cases h with
   | cons h1 h2=>
    obtain ⟨t,rfl⟩:=h1
    exact .cons (by simp [intKind,Value.isInt]) (ih _ h2)
 simpa using core k its rv
def iK (qs:List KP):List V:=qs.map fun p=>V.ref p.2
theorem kT:∀ {qs:List KP}{its:List Value},aU (iK qs) its->its=qs.map fun p=>Value.ref p.2
 | [],its,h=>by cases h;rfl
 | q::qs,its,h=>by
  cases h with
  | cons h1 h2=>cases h1;rw [kT h2];rfl
theorem lF:∀ (qs:List KP),aU (iK qs) (aM qs)
 | []=>.nil
 | q::qs=>.cons rfl (lF qs)
def w6 (K:W.Frag) (w:World):List V->Hp->VK->Prop:=fun xs H Q=>∃ (a:Addr) (qs:List KP),xs=[.ref a]/\(eO K H a (iK qs)\/d6 K H a (iK qs))/\(∀ p∈qs,p.1∈prs/\d6 K H p.2 (p.1.map V.int)) /\
 ∀ l,H l=none->Q (.ref l) (bT H l (.ext fun h=>bJ w h l (dM qs)))
theorem wd (hc:X.calm=true) (hu:X.A.units+64<cLine):cj X (.type "set") (w6 X.K X.w):=by
 intro pins s σ H xs us Q I r h
 obtain ⟨a,qs,rfl,ha,hq,q⟩:=h
 obtain ⟨u,rfl,ru⟩:=dY r
 cases ru
 have fin:∀ (h':Heap) (tk:Nat),bJ X.w h' s.heap.objs.size (dM qs)->(∀ b o,b<s.heap.objs.size->s.heap.get? b=some o->h'.get? b=some o)->EP X pins σ Q (.ref s.heap.objs.size) { s with heap:=h',toks:=tk }:=by
  intro h' tk hS hk
  refine ⟨.ref s.heap.objs.size,bT H s.heap.objs.size (.ext fun h=>bJ X.w h s.heap.objs.size (dM qs)),I.laid (t':=tk) (fun b ob e=>hk b ob (G9 e) e) (HI _) ?_,rfl,q _ (I.hok.fresh (HI _))⟩
  refine ⟨hS,?_,fun h1 h2 g k=>g.keeps k⟩
  obtain ⟨o,es,ep,t,Z,S0,_⟩:=hS
  exact ⟨o,S0.ho⟩
 rcases ha with ha | ha
 ·obtain ⟨its, rv, pl, hz⟩ := I.list ha
  exact r6 (I.ok.hd hc) pl.isList (by simpa using kT rv) (fun p hp=>(hq p hp).1) (fun p hp=>oh I (hq p hp).2) (by omega) fin
 ·obtain ⟨its, rv, pl, hz⟩ := I.tuple ha
  exact p9 (I.ok.hd hc) pl (by simpa using kT rv) (fun p hp=>(hq p hp).1) (fun p hp=>oh I (hq p hp).2) (by omega) fin
def xB (K:W.Frag) (w:World):List V->Hp->VK->Prop:=fun xs H Q=>∃ (a:Addr) (ps:List KP),xs=[.ref a]/\H a=some (.ext fun h=>bJ w h a ps)/\(∀ p∈ps,d6 K H p.2 (p.1.map V.int)) /\
 ∀ out:List KP,out.Perm ps->fW out->∀ l,H l=none->Q (.ref l) (bT H l (.lst (iK out)))
theorem t7 (hc:X.calm=true):cj X (.builtin "sorted") (xB X.K X.w):=by
 intro pins s σ H xs us Q I r h
 obtain ⟨a,ps,rfl,ha,hT,q⟩:=h
 obtain ⟨u,rfl,ru⟩:=dY r
 cases ru
 obtain ⟨hS,_⟩:=(show cW X.prog X.w H s.heap a (.ext fun h=>bJ X.w h a ps) from I.hok a _ ha)
 refine tx (I.ok.hd hc) hS (fun p hp=>oh I (hT p hp)) fun out hp hr h' D hD hk hn=>?_
 refine ⟨.ref D,bT H D (.lst (iK out)),I.laid (t':=s.toks) (fun b ob e=>hk b ob e) hD ?_,rfl,q out hp hr _ (I.hok.fresh hD)⟩
 obtain ⟨n,e⟩:=hn
 refine ⟨?_,aM out,n,lF out,e⟩
 have hl:out.length<=15:=by
  rw [hp.length_eq]
  obtain ⟨o,es,ep,t,Z,S0,hk,hn⟩:=hS
  exact jg hk hn
 unfold iK
 rw [Il]
 exact Hg hl (by decide)
end
end L2
namespace L2
open PySem PySem.Spec PyProof.Rows RS
def fG (qs:List KI):List KI:=qs.foldl (fun ps p=>qD ps p.1 p.2) []
theorem ql (qs:List KI) (p:KI):fG (qs++[p])=qD (fG qs) p.1 p.2:=by unfold fG;rw [J7];rfl
def eA (ns:List Int):List Int:=ns.foldl (fun acc k=>if k∈acc then acc else acc++[k]) []
theorem kE:∀ (qs ps:List KI),(qs.foldl (fun ps p=>qD ps p.1 p.2) ps).map (·.1)=(qs.map (·.1)).foldl (fun acc k=>if k∈acc then acc else acc++[k]) (ps.map (·.1))
 | [],ps=>rfl
 | q::qs,ps=>by
  rw [IQ,kE qs,IH,IQ]
  congr 1
  unfold qD
  split
  ·rfl
  ·rw [JJ];rfl
theorem sC (qs:List KI):(fG qs).map (·.1)=eA (qs.map (·.1)):=kE qs []
theorem kx {w:World}{h:Heap}{a:Addr} (e:h.get? a=some { cls:=.type "set",dict:=none,data:=.set #[] 0 (.fresh 0 0 (jD w)) }):cF w h a []:=
 ⟨_,_,_,_,[],⟨e,⟨rfl,rfl,rfl⟩,rfl,⟨rfl,rfl,List.Pairwise.nil,fun z hz=>by simp at hz,rfl,fun z hz=>by simp at hz⟩,rfl,rfl,.inl ⟨rfl,by decide⟩,List.Perm.nil⟩,fun p hp=>by simp at hp,JR⟩
def kL (p:KI):Value:=Value.int p.1 p.2
section
variable {prog:Program}{w:World}{A:Around}{E:Value->Shared->Prop}{s:Shared}
theorem oZ {qs:List KI}{S:Addr}{u:Nat} (hk:∀ p∈qs,p.1∈ins):wV prog w u S (qs.map kL) (fun i h=>cF w h S (fG (qs.take i))):=by
 refine ⟨fun i h h' hk' j1=>j1.keeps fun o e=>hk' S o (HI _) e,fun A i v s E Q hA hv j1 hQ=>?_⟩
 rw [Ih] at hv
 cases e:qs[i]? with
 | none=>rw [e] at hv;cases hv
 | some p=>
  rw [e] at hv
  cases hv
  have hpm:p∈qs:=Ij e
  unfold setAdd kL
  refine HB ?_
  refine HA (wpAny_pyHash_int ?_)
  refine Bu (s:={ s with toks:=s.toks+1 }) j1 (hk p hpm) fun b h' hsb hS2=>?_
  have etk:qs.take (i+1)=qs.take i++[p]:=by rw [Kh,e];rfl
  refine hQ b h' _ (Nat.le_add_right _ _) hsb (by rw [etk,ql];exact hS2)
theorem oI:∀ (qs:List KI),IntsAre (qs.map kL) (qs.map (·.1))
 | []=>.nil
 | p::qs=>.cons p.1 p.2 (oI qs)
theorem rH {vs:List Value}{ns:List Int} (h:IntsAre vs ns):∃ qs:List KI,vs=qs.map kL/\qs.map (·.1)=ns:=by
 induction h with
 | nil=>exact ⟨[],rfl,rfl⟩
 | cons n t _ ih=>
  obtain ⟨qs,e1,e2⟩:=ih
  exact ⟨(n,t)::qs,by rw [e1];rfl,by rw [<- e2];rfl⟩
theorem rZ {a:Addr}{ps:List KI}{Q:Value->Shared->Prop} (hh:A.handled=none) (S:cF w s.heap a ps)
  (h:∀ (out:List Value) (ns':List Int),IntsAre out ns'->ns'.Perm (ps.map (·.1))->ns'.Pairwise (·<=·)->∀ h' D,s.heap.objs.size<=D->(∀ b u,s.heap.get? b=some u->h'.get? b=some u)->(∃ n,h'.get? D=some (seqObj "list" out.toArray n))->Q (.ref D) { s with heap:=h' }) :
  wpAny (model prog w) A (call (.builtin "sorted") [.ref a]) Q E s:=by
 obtain ⟨o,es,ep,t,Z,S,hk,hn⟩:=S
 have h6:=iX hk hn
 refine KD kind_sorted plain_sorted entry_sorted (args_sorted1 _) ?_
 unfold Builtin.«sorted»
 refine HA (m:=checkCount "sorted" 1 1 _) (HE ?_)
 refine HA (lH (by simpa using hh) S (by rw [S.len,Il];omega) fun qs hqs h1 k1 hsz=>?_)
 obtain ⟨rs,q1,q2⟩:=kB hqs ps rfl
 have q3:qs.map (·.2)=rs.map kL:=by rw [q2,Ju];rfl
 rw [q3]
 have hvl:(rs.map kL).length<=6:=by rw [Il,q1.length_eq];exact h6
 refine HA (Kt ?_ (Hg hvl (by decide)))
 have hoL:(h1.push (seqObj "list" (rs.map kL).toArray 0)).get? h1.objs.size=some (seqObj "list" (rs.map kL).toArray 0):=HH _ rfl
 have hnn:∀ b u,h1.get? b=some u->b≠h1.objs.size:=fun b u q=>Hd (G9 q)
 refine HA (HB (IC slot_list_sort (s:={ s with heap:=h1.push (seqObj "list" (rs.map kL).toArray 0) }) ⟨_,hoL,rfl⟩ KE ?body (args_list_sort _)))
 case body=>
  refine list_sort_tree (s:={ s with heap:=h1.push (seqObj "list" (rs.map kL).toArray 0) }) hoL (oI rs) (by omega) fun out ns' a1 a2 a3=>⟨_,rfl,?_⟩
  refine HE ⟨_,rfl,h out.toList ns' a1 (a2.trans (q1.map _)) a3 _ h1.objs.size hsz (fun b u q=>?_) ?_⟩
  ·have hb := hnn b u (k1 b u q)
   unfold sortedHeap
   rw [Kw _ _ _ _ hb]
   refine HG _ (HG _ ?_)
   rw [Kw _ _ _ _ hb]
   exact HG _ (k1 b u q)
  ·unfold sortedHeap
   have g1:=Ks hoL (fun _=>#[])
   have g2:=HG (seqObj "list" #[] 0) (HG (seqObj "tuple" (rs.map kL).toArray 0) g1)
   exact ⟨_,Ks g2 (fun _=>out)⟩
end
section
variable {X:Cx}
def w8 (K:W.Frag) (w:World):List V->Hp->VK->Prop:=fun xs H Q=>∃ (a:Addr) (ns:List Int),xs=[.ref a]/\(eO K H a (ns.map V.int)\/d6 K H a (ns.map V.int))/\(∀ n∈ns,n∈ins) /\
 ∀ l,H l=none->∀ ps:List KI,ps.map (·.1)=eA ns->(∀ p∈ps,p.1∈ins)->(ps.map (·.1)).Nodup->Q (.ref l) (bT H l (.ext fun h=>cF w h l ps))
theorem we (hc:X.calm=true) (hu:X.A.units+64<cLine):cj X (.type "set") (w8 X.K X.w):=by
 intro pins s σ H xs us Q I r h
 obtain ⟨a,ns,rfl,ha,hq,q⟩:=h
 obtain ⟨u,rfl,ru⟩:=dY r
 cases ru
 have fin:∀ (qs:List KI),qs.map (·.1)=ns->∀ (h':Heap) (tk:Nat),cF X.w h' s.heap.objs.size (fG qs)->(∀ b o,b<s.heap.objs.size->s.heap.get? b=some o->h'.get? b=some o)->EP X pins σ Q (.ref s.heap.objs.size) { s with heap:=h',toks:=tk }:=by
  intro qs eq h' tk hS hk
  obtain ⟨o,es,ep,t,Z,S0,k1,k2⟩:=id hS
  refine ⟨.ref s.heap.objs.size,bT H s.heap.objs.size (.ext fun h=>cF X.w h s.heap.objs.size (fG qs)),I.laid (t':=tk) (fun b ob e=>hk b ob (G9 e) e) (HI _) ?_,rfl,q _ (I.hok.fresh (HI _)) _ (by rw [sC,eq]) k1 k2⟩
  exact ⟨hS,⟨o,S0.ho⟩,fun h1 h2 g k=>g.keeps k⟩
 rcases ha with ha | ha
 ·obtain ⟨its, rv, pl, hz⟩ := I.list ha
  obtain ⟨qs,e1,e2⟩:=rH (dN rv)
  subst e1
  have hsz:(qs.map kL).toArray.size=qs.length:=by rw [HR,Il]
  refine kv (I.ok.hd hc) pl.isList (J:=fun i h=>cF X.w h s.heap.objs.size (fG (qs.take i))) ?_ (fun h' k e=>kx e) fun h' tk j1=>fin qs e2 h' tk ?_
  ·exact oZ fun p hp=>hq _ (by rw [<- e2];exact JG hp)
  ·rw [hsz,Ki] at j1;exact j1
 ·obtain ⟨its, rv, pl, hz⟩ := I.tuple ha
  obtain ⟨qs,e1,e2⟩:=rH (dN rv)
  subst e1
  have hsz:(qs.map kL).toArray.size=qs.length:=by rw [HR,Il]
  refine jF (I.ok.hd hc) pl (J:=fun i h=>cF X.w h s.heap.objs.size (fG (qs.take i))) ?_ (fun h' k e=>kx e) fun h' tk j1=>fin qs e2 h' tk ?_
  ·exact oZ fun p hp=>hq _ (by rw [<- e2];exact JG hp)
  ·rw [hsz,Ki] at j1;exact j1
def xA (w:World):List V->Hp->VK->Prop:=fun xs H Q=>∃ (a:Addr) (ps:List KI),xs=[.ref a]/\H a=some (.ext fun h=>cF w h a ps) /\
 ∀ ns':List Int,ns'.Perm (ps.map (·.1))->ns'.Pairwise (·<=·)->∀ l,H l=none->Q (.ref l) (bT H l (.lst (ns'.map V.int)))
theorem t6 (hc:X.calm=true):cj X (.builtin "sorted") (xA X.w):=by
 intro pins s σ H xs us Q I r h
 obtain ⟨a,ps,rfl,ha,q⟩:=h
 obtain ⟨u,rfl,ru⟩:=dY r
 cases ru
 obtain ⟨hS,_⟩:=(show cW X.prog X.w H s.heap a (.ext fun h=>cF X.w h a ps) from I.hok a _ ha)
 obtain ⟨o,es,ep,t,Z,S0,k1,k2⟩:=id hS
 have h6:=iX k1 k2
 refine rZ (I.ok.hd hc) hS fun out ns' a1 a2 a3 h' D hD hk hn=>?_
 refine ⟨.ref D,bT H D (.lst (ns'.map V.int)),I.laid (t':=s.toks) (fun b ob e=>hk b ob e) hD ?_,rfl,q ns' a2 a3 _ (I.hok.fresh hD)⟩
 obtain ⟨n,e⟩:=hn
 refine ⟨?_,out,n,ku a1,e⟩
 rw [Il,a2.length_eq,Il]
 exact Hg h6 (by decide)
def BJ (w:World):List V->Hp->VK->Prop:=fun xs H Q=>∃ (a:Addr) (ps:List KI),xs=[.ref a]/\H a=some (.ext fun h=>cF w h a ps)/\Q (.int ps.length) H
theorem wq:cj X (.builtin "len") (BJ X.w):=by
 intro pins s σ H xs us Q I r h
 obtain ⟨a,ps,rfl,ha,q⟩:=h
 obtain ⟨u,rfl,ru⟩:=dY r
 cases ru
 obtain ⟨hS,_⟩:=(show cW X.prog X.w H s.heap a (.ext fun h=>cF X.w h a ps) from I.hok a _ ha)
 obtain ⟨o,es,ep,t,Z,S0,k1,k2⟩:=id hS
 have h6:=iX k1 k2
 have hsz:es.size=ps.length:=by rw [S0.tab.size.2,S0.len,Il]
 refine PySem.call_len_set S0.ho S0.ex S0.hd S0.fits (by rw [hsz];omega) ⟨.int ps.length,H,?_,⟨_,by rw [hsz]⟩,q⟩
 exact I.tok _
def BK (w:World):List V->Hp->VK->Prop:=fun xs H Q=>∃ (a:Addr) (ps:List KP),xs=[.ref a]/\H a=some (.ext fun h=>bJ w h a ps)/\Q (.int ps.length) H
theorem wt:cj X (.builtin "len") (BK X.w):=by
 intro pins s σ H xs us Q I r h
 obtain ⟨a,ps,rfl,ha,q⟩:=h
 obtain ⟨u,rfl,ru⟩:=dY r
 cases ru
 obtain ⟨hS,_⟩:=(show cW X.prog X.w H s.heap a (.ext fun h=>bJ X.w h a ps) from I.hok a _ ha)
 obtain ⟨o,es,ep,t,Z,S0,k1,k2⟩:=id hS
 have h6:=jg k1 k2
 have hsz:es.size=ps.length:=by rw [S0.tab.size.2,S0.len,Il]
 refine PySem.call_len_set S0.ho S0.ex S0.hd S0.fits (by rw [hsz];omega) ⟨.int ps.length,H,?_,⟨_,by rw [hsz]⟩,q⟩
 exact I.tok _
end
end L2
namespace L2
open PySem PySem.Spec PyProof.Rows RS
def aB (k:List Int):D:=.tup (k.map D.int)
def va:D->Option (List Int)
 | .tup [.int a,.int b]=>if 0<=a/\a<b/\b<6 then some [a,b] else none
 | _=>none
def iN:List D->Option (List (List Int))
 | []=>some []
 | d::r=>match va d,iN r with
  | some k,some ks=>some (k::ks)
  | _,_=>none
theorem Be {d:D}{k:List Int} (h:va d=some k):d=aB k/\k∈prs:=by
 unfold va at h
 split at h
 ·split at h
  ·rename_i hc
   cases h
   exact ⟨rfl,uD hc.1 hc.2.1 hc.2.2⟩
  ·cases h
 ·cases h
theorem vU {a b:Int} (h:0<=a/\a<b/\b<6):va (.tup [.int a,.int b])=some [a,b]:=by
 simp only [va,G6 h]
theorem rE:∀ {ds:List D}{ks:List (List Int)},iN ds=some ks->ds=ks.map aB/\∀ k∈ks,k∈prs
 | [],ks,h=>by cases h;exact ⟨rfl,fun k hk=>by simp at hk⟩
 | d::r,ks,h=>by
  unfold iN at h
  split at h
  ·rename_i k ks' h1 h2
   cases h
   obtain ⟨e1,e2⟩:=Be h1
   obtain ⟨f1,f2⟩:=rE h2
   refine ⟨by rw [e1,f1];rfl,fun k' hk=>?_⟩
   rcases Hl.mp hk with z | z
   ·rw [z];exact e2
   ·exact f2 k' z
  ·cases h
theorem kl:∀ {ks:List (List Int)},(∀ k∈ks,k∈prs)->iN (ks.map aB)=some ks
 | [],_=>rfl
 | k::ks,h=>by
  obtain ⟨a,b,rfl,h1,h2,h3⟩:=fO (h k Hj)
  simp only [IH,iN,kl fun k' hk=>h k' (Hk _ hk)]
  have:va (aB [a,b])=some [a,b]:=vU ⟨h1,h2,h3⟩
  rw [this]
def jP (ks:List (List Int)) (k:List Int):List (List Int):=if k∈ks then ks else ks++[k]
def bX (ks:List (List Int)):List (List Int):=ks.foldl jP []
def d7 (ks:List (List Int)):List (List Int):=prs.filter fun k=>decide (k∈ks)
theorem nA:∀ (qs ps:List KP),(qs.foldl (fun ps p=>fR ps p.1 p.2) ps).map (·.1)=(qs.map (·.1)).foldl jP (ps.map (·.1))
 | [],ps=>rfl
 | q::qs,ps=>by
  rw [IQ,IH,IQ,nA qs]
  congr 1
  unfold fR jP
  split <;> simp
theorem wb (qs:List KP):(dM qs).map (·.1)=bX (qs.map (·.1)):=nA qs []
theorem v9 {ks:List (List Int)}{k:List Int}:k∈bX ks↔k∈ks:=by
 have core:∀ (ks acc:List (List Int)),k∈ks.foldl jP acc↔k∈acc\/k∈ks:=by
  intro ks
  induction ks with
  | nil=>intro acc;simp
  | cons x r ih=>
   intro acc
   rw [IQ,ih]
   unfold jP
   split
   ·rename_i hx
    constructor
    ·rintro (h | h)
     ·exact .inl h
     ·exact .inr (Hk _ h)
    ·rintro (h | h)
     ·exact .inl h
     ·rcases Hl.mp h with z | z
      ·exact .inl (by rw [z];exact hx)
      ·exact .inr z
   ·simp [or_assoc]
 unfold bX
 rw [core]
 simp
theorem nk:prs.Pairwise fun a b=>n5 a<n5 b:=by decide +kernel
theorem y9 {l m:List (List Int)} (hl:l.Pairwise fun a b=>n5 a<n5 b) (hm:m.Pairwise fun a b=>n5 a<n5 b) (h:∀ k,k∈l↔k∈m):l=m:=by
 have nl:l.Nodup:=hl.imp fun h e=>by subst e;omega
 have nm:m.Nodup:=hm.imp fun h e=>by subst e;omega
 have hp:l.Perm m:=(JT nl nm).mpr h
 refine hp.eq_of_pairwise (le:=fun a b=>n5 a<n5 b) (fun a b _ _ h1 h2=>by omega) hl hm
theorem yc {out:List KP}{ps:List KP} (hk:∀ p∈ps,p.1∈prs) (hp:out.Perm ps) (hr:fW out):out.map (·.1)=d7 (ps.map (·.1)):=by
 refine y9 ?_ (nk.filter _) fun k=>?_
 ·unfold fW at hr
  rw [Kq]
  exact hr
 ·have h1 : k ∈ out.map (·.1) ↔ k ∈ ps.map (·.1) := (hp.map _).mem_iff
  rw [h1]
  unfold d7
  rw [He,KN]
  constructor
  ·intro h
   refine ⟨?_,h⟩
   obtain ⟨p,hp',rfl⟩:=JC.mp h
   exact hk p hp'
  ·exact fun h=>h.2
theorem gD (ks:List (List Int)):d7 (bX ks)=d7 ks:=by
 unfold d7
 apply List.filter_congr
 intro k _
 simp only [v9]
theorem Reps.keys {K:W.Frag}{H:Hp}{α:List Addr}:∀ {ks:List (List Int)}{vs:List V},Reps K H α (ks.map aB) vs->∃ qs:List KP,qs.map (·.1)=ks/\vs=iK qs/\∀ p∈qs,d6 K H p.2 (p.1.map V.int)
 | [],vs,h=>by simp only [IG,Reps] at h;exact ⟨[],rfl,h,fun p hp=>by simp at hp⟩
 | k::ks,vs,h=>by
  simp only [IH,Reps] at h
  obtain ⟨v,r,rfl,h1,h2⟩:=h
  obtain ⟨a,us,rfl,h3,h4⟩:=aD.mp h1
  obtain ⟨qs,e1,e2,e3⟩:=Reps.keys h2
  refine ⟨(k,a)::qs,by rw [IH,e1],by rw [e2];rfl,fun p hp=>?_⟩
  rcases Hl.mp hp with z | z
  ·subst z
   rw [<- h4.ints];exact h3
  ·exact e3 p z
theorem lJ {K:W.Frag}{H:Hp}{α:List Addr}:∀ {qs:List KP},(∀ p∈qs,d6 K H p.2 (p.1.map V.int))->Reps K H α ((qs.map (·.1)).map aB) (iK qs)
 | [],_=>Reps.nil
 | q::qs,h=>by
  refine Reps.cons (aD.mpr ⟨q.2,_,rfl,h q Hj,gE _⟩) (lJ fun p hp=>h p (Hk _ hp))
def fT:List D->Option (List Int)
 | []=>some []
 | .int i::r=>(fT r).map (i::·)
 | _::_=>none
theorem eS:∀ {ds:List D}{ns:List Int},fT ds=some ns->ds=ns.map D.int
 | [],bs,h=>by cases h;rfl
 | .int b::r,bs,h=>by
  unfold fT at h
  cases e:fT r with
  | none=>rw [e] at h;cases h
  | some cs=>rw [e] at h;cases h;rw [eS e];rfl
 | .non::r,bs,h=>by cases h
 | .bl _::r,bs,h=>by cases h
 | .str _::r,bs,h=>by cases h
 | .tup _::r,bs,h=>by cases h
 | .frz _::r,bs,h=>by cases h
 | .obj _::r,bs,h=>by cases h
theorem gU (ns:List Int):fT (ns.map D.int)=some ns:=by
 induction ns with
 | nil=>rfl
 | cons b r ih=>simp only [IH,fT,ih];rfl
theorem tU {ns:List Int} (h:∀ n∈ns,n∈ins):(eA ns).length<=6:=by
 have core:∀ (l acc:List Int),(∀ n∈l,n∈ins)->(∀ n∈acc,n∈ins)->acc.Nodup->(l.foldl (fun acc k=>if k∈acc then acc else acc++[k]) acc).length<=6:=by
  intro l
  induction l with
  | nil=>
   intro acc _ h2 h3
   have:=gT h3 (l2:=ins) h2
   exact this
  | cons x l ih=>
   intro acc h1 h2 h3
   rw [IQ]
   have hx:=h1 x Hj
   split
   ·exact ih acc (fun n hn=>h1 n (Hk _ hn)) h2 h3
   ·rename_i hxa
    refine ih (acc++[x]) (fun n hn=>h1 n (Hk _ hn)) (fun n hn=>?_) ?_
    ·rcases Hn.mp hn with z | z
     ·exact h2 n z
     ·rw [Ji.mp z];exact hx
    ·refine J2.mpr ⟨h3, by simp, fun u hu v hv e => ?_⟩
     rw [Ji.mp hv] at e
     exact hxa (e ▸ hu)
 exact core ns [] h (fun n hn=>by simp at hn) JR
def wO (xs:List D):Option (List Int):=match fT xs with
 | some ns=>if ns.all (fun n=>decide (0<=n/\n<6))=true then some ns else none
 | none=>none
theorem Bh {xs:List D}{ns:List Int} (h:wO xs=some ns):xs=ns.map D.int/\∀ n∈ns,n∈ins:=by
 unfold wO at h
 split at h
 ·rename_i ms hm
  split at h
  ·rename_i ha
   cases h
   refine ⟨eS hm,fun n hn=>Bg.mpr ?_⟩
   simpa using JV.mp ha n hn
  ·cases h
 ·cases h
def j9 (xs:List D) (μ:ax):ao D:=match iN xs with
 | some ks=>.ok (.obj μ.length) (μ++[.set (bX ks)])
 | none=>match wO xs with
  | some ns=>.ok (.obj μ.length) (μ++[.iset (eA ns)])
  | none=>.bad
def js (ds:List D) (μ:ax):ao D:=match ds with
 | [.tup xs]=>j9 xs μ
 | [.obj n]=>match μ[n]? with
  | some (.lst xs)=>j9 xs μ
  | _=>.bad
 | _=>.bad
section
variable {p:Pa}
theorem A4 {H:Hp}{α:List Addr}{μ:ax}{ks:List (List Int)}{vs:List V}{Q:VK} (S:p.S H α μ) (hk:∀ k∈ks,k∈prs) (r:p.Rs H α (ks.map aB) vs) (P:aw p H α (.ok (.obj μ.length) (μ++[.set (bX ks)])) (RV p Q)) :
  ∃ qs:List KP,vs=iK qs/\(∀ q∈qs,q.1∈prs/\d6 p.K H q.2 (q.1.map V.int))/\∀ l,H l=none->Q (.ref l) (bT H l (.ext fun h=>bJ p.w h l (dM qs))):=by
 obtain ⟨qs,e1,e2,e3⟩:=r.keys
 refine ⟨qs,e2,fun q hq=>⟨hk _ (by rw [<- e1];exact JG hq),e3 q hq⟩,fun l hl=>?_⟩
 have x1:p.X H (bT H l (.ext fun h=>bJ p.w h l (dM qs))) α (α++[l]):=(bF hl).trans (fX [l])
 refine P _ _ x1 (S.more hl ⟨dM qs,by rw [wb,e1],bG,fun q hq=>?_,qk,fun q hq=>?_⟩) _ (aH.mpr ⟨l,rfl,by rw [<- S.len];simp⟩)
 ·exact hk _ (by rw [<- e1];exact JG (jY hq))
 ·exact x1.tup _ _ (e3 q (jY hq))
theorem yN {H:Hp}{α:List Addr}{μ:ax}{ns:List Int}{Q:VK} (S:p.S H α μ) (hk:∀ n∈ns,n∈ins) (P:aw p H α (.ok (.obj μ.length) (μ++[.iset (eA ns)])) (RV p Q)) :
  ∀ l,H l=none->∀ ps:List KI,ps.map (·.1)=eA ns->(∀ p∈ps,p.1∈ins)->(ps.map (·.1)).Nodup->Q (.ref l) (bT H l (.ext fun h=>cF p.w h l ps)):=fun l hl ps e _ _=>by
 have x1:p.X H (bT H l (.ext fun h=>cF p.w h l ps)) α (α++[l]):=(bF hl).trans (fX [l])
 exact P _ _ x1 (S.more hl ⟨ps,e,bG,tU hk⟩) _ (aH.mpr ⟨l,rfl,by rw [<- S.len];simp⟩)
theorem xt {H:Hp}{α:List Addr}{μ:ax}{xs:List D}{us:List V}{a:Addr}{Q:VK} (S:p.S H α μ) (h1:eO p.K H a us\/d6 p.K H a us) (rr:p.Rs H α xs us) (P:aw p H α (j9 xs μ) (RV p Q)):w6 p.K p.w [.ref a] H Q\/w8 p.K p.w [.ref a] H Q:=by
 unfold j9 at P
 split at P
 ·rename_i ks hks
  obtain ⟨f1,f2⟩:=rE hks
  rw [f1] at rr
  obtain ⟨qs,e1,e2,e3⟩:=A4 S f2 rr P
  exact .inl ⟨a,qs,rfl,by rw [<- e1];exact h1,e2,e3⟩
 ·split at P
  ·rename_i ns hns
   obtain ⟨f1,f2⟩:=Bh hns
   rw [f1] at rr
   exact .inr ⟨a,ns,rfl,by rw [<- rr.ints];exact h1,f2,yN S f2 P⟩
  ·exact P.elim
theorem Dz:qu p js (fun xs H Q=>w6 p.K p.w xs H Q\/w8 p.K p.w xs H Q):=by
 intro ds vs H α μ Q S r P
 unfold js at P
 split at P
 ·rename_i xs
  obtain ⟨v,rfl,r1⟩:=r.one
  obtain ⟨a,us,rfl,h1,rr⟩:=aD.mp r1
  exact xt S (.inr h1) rr P
 ·rename_i n
  split at P
  ·rename_i xs hx
   obtain ⟨v,rfl,r1⟩:=r.one
   obtain ⟨a,us,rfl,a1,h1,rr⟩:=cT S r1 hx
   exact xt S (.inl (eO.of h1)) rr P
  ·exact P.elim
 ·exact P.elim
def gk (ns:List Int):List Int:=ns.mergeSort fun a b=>decide (a<=b)
theorem mV {ns ns':List Int} (hp:ns'.Perm ns) (hs:ns'.Pairwise (·<=·)):ns'=gk ns:=by
 have h1:(gk ns).Perm ns:=List.mergeSort_perm ns _
 have h2:(gk ns).Pairwise (·<=·):=by
  have:=List.pairwise_mergeSort (le:=fun (a b:Int)=>decide (a<=b)) (fun a b c h1 h2=>by simp at *;omega) (fun a b=>by simp;omega) ns
  exact this.imp fun h=>by simpa using h
 exact (hp.trans h1.symm).eq_of_pairwise (fun a b _ _ h1 h2=>KU h1 h2) hs h2
def bK (ds:List D) (μ:ax):ao D:=match ds with
 | [.tup xs]=>match fT xs with
  | some ns=>if ns.length<64 then .ok (.obj μ.length) (μ++[.lst ((gk ns).map D.int)]) else .bad
  | none=>.bad
 | [.obj n]=>match μ[n]? with
  | some (.lst xs)=>match fT xs with
   | some ns=>if ns.length<64 then .ok (.obj μ.length) (μ++[.lst ((gk ns).map D.int)]) else .bad
   | none=>.bad
  | some (.set ks)=>.ok (.obj μ.length) (μ++[.lst ((d7 ks).map aB)])
  | some (.iset ks)=>.ok (.obj μ.length) (μ++[.lst ((gk ks).map D.int)])
  | _=>.bad
 | _=>.bad
theorem vL:qu p bK (fun xs H Q=>(xC p.K xs H Q\/xB p.K p.w xs H Q)\/xA p.w xs H Q):=by
 intro ds vs H α μ Q S r P
 have fin:∀ {ns:List Int},aw p H α (.ok (.obj μ.length) (μ++[.lst ((gk ns).map D.int)])) (RV p Q)->∀ ns':List Int,ns'.Perm ns->ns'.Pairwise (·<=·)->∀ l,H l=none->Q (.ref l) (bT H l (.lst (ns'.map V.int))):=by
  intro ns P ns' h1 h2 l hl
  rw [<- mV h1 h2] at P
  obtain ⟨x1,x2,x3⟩:=cQ S hl (gE ns')
  exact P _ _ x1 x2 _ x3
 unfold bK at P
 split at P
 ·rename_i xs
  split at P
  ·rename_i ns hns
   split at P
   ·rename_i hl
    obtain ⟨v,rfl,r1⟩:=r.one
    obtain ⟨a,us,rfl,h1,rr⟩:=aD.mp r1
    rw [eS hns] at rr
    exact .inl (.inl ⟨a,ns,rfl,.inr (by rw [<- rr.ints];exact h1),hl,fin P⟩)
   ·exact P.elim
  ·exact P.elim
 ·rename_i n
  split at P
  ·rename_i xs hx
   split at P
   ·rename_i ns hns
    split at P
    ·rename_i hl
     obtain ⟨v,rfl,r1⟩:=r.one
     obtain ⟨a,us,rfl,a1,h1,rr⟩:=cT S r1 hx
     rw [eS hns] at rr
     exact .inl (.inl ⟨a,ns,rfl,.inl (by rw [<- rr.ints];exact eO.of h1),hl,fin P⟩)
    ·exact P.elim
   ·exact P.elim
  ·rename_i ks hx
   obtain ⟨v,rfl,r1⟩:=r.one
   obtain ⟨a,ea,ps,e1,e2,e3,e4,e5⟩:=S.at hx
   obtain ⟨a',rfl,ea'⟩:=aH.mp r1
   rw [ea] at ea';cases ea'
   refine .inl (.inr ⟨a,ps,rfl,e2,e5,fun out hp hr l hl=>?_⟩)
   have rr:p.Rs H α ((out.map (·.1)).map aB) (iK out):=lJ fun q hq=>e5 q (hp.mem_iff.mp hq)
   rw [yc e3 hp hr,e1] at rr
   obtain ⟨x1,x2,x3⟩:=cQ S hl rr
   exact P _ _ x1 x2 _ x3
  ·rename_i ks hx
   obtain ⟨v,rfl,r1⟩:=r.one
   obtain ⟨a,ea,ps,e1,e2,e3⟩:=S.at hx
   obtain ⟨a',rfl,ea'⟩:=aH.mp r1
   rw [ea] at ea';cases ea'
   exact .inr ⟨a,ps,rfl,e2,by rw [e1];exact fin P⟩
  ·exact P.elim
 ·exact P.elim
def jM (ds:List D) (μ:ax):ao D:=match ds with
 | [.obj n]=>match μ[n]? with
  | some (.iset ks)=>.ok (.int ks.length) μ
  | some (.set ks)=>.ok (.int ks.length) μ
  | _=>qN [.obj n] μ
 | _=>qN ds μ
theorem DC:qu p jM (fun xs H Q=>((∃ x n,xs=[x]/\Cg p.K x H n/\Q (.int n) H)\/BJ p.w xs H Q)\/BK p.w xs H Q):=by
 intro ds vs H α μ Q S r P
 unfold jM at P
 split at P
 ·rename_i n
  split at P
  ·rename_i ks hx
   obtain ⟨v,rfl,r1⟩:=r.one
   obtain ⟨a,ea,ps,e1,e2,e3⟩:=S.at hx
   obtain ⟨a',rfl,ea'⟩:=aH.mp r1
   rw [ea] at ea';cases ea'
   refine .inl (.inr ⟨a,ps,rfl,e2,P.now S _ (ak.mpr ?_)⟩)
   rw [<- e1,Il]
  ·rename_i ks hx
   obtain ⟨v,rfl,r1⟩:=r.one
   obtain ⟨a,ea,ps,e1,e2,e3⟩:=S.at hx
   obtain ⟨a',rfl,ea'⟩:=aH.mp r1
   rw [ea] at ea';cases ea'
   refine .inr ⟨a,ps,rfl,e2,P.now S _ (ak.mpr ?_)⟩
   rw [<- e1,Il]
  ·exact .inl (.inl (uH _ vs H α μ Q S r P))
 ·exact .inl (.inl (uH _ vs H α μ Q S r P))
end
section
variable {X:Cx}
def BH (K:W.Frag):List V->Hp->VK->Prop:=fun xs H Q=>∃ (a:Addr) (ns:List Int),xs=[.ref a]/\(eO K H a (ns.map V.int)\/d6 K H a (ns.map V.int))/\ns≠[]/\∀ m∈ns,(∀ j∈ns,m<=j)->Q (.int m) H
def BI (K:W.Frag):List V->Hp->VK->Prop:=fun xs H Q=>∃ (a:Addr) (ns:List Int),xs=[.ref a]/\(eO K H a (ns.map V.int)\/d6 K H a (ns.map V.int))/\ns≠[]/\∀ m∈ns,(∀ j∈ns,j<=m)->Q (.int m) H
theorem jh {its:List Value}{ns:List Int} (h:IntsAre its ns) {i:Nat}{v:Value} (e:its.toArray[i]?=some v):∃ t,v=.int (ns.getD i 0) t/\i<ns.length:=by
 have e':its[i]?=some v:=by simpa using e
 obtain ⟨n,t,rfl,hn⟩:=h.at i v e'
 have hi:=(Hq.mp hn).1
 exact ⟨t,by rw [Kl,hn];rfl,hi⟩
theorem rL {ns:List Int}{i:Nat} (h:i<ns.length):ns.getD i 0∈ns:=by
 rw [Kl,KA h]
 exact Ky h
theorem rC {ns:List Int}{j:Int} (h:j∈ns):∃ i,i<ns.length/\ns.getD i 0=j:=by
 obtain ⟨i,hi,e⟩:=KG h
 exact ⟨i,hi,by rw [Kl,KA hi];exact e⟩
theorem wj (hc:X.calm=true):cj X (.builtin "min") (BH X.K):=by
 intro pins s σ H xs us Q I r h
 obtain ⟨a,ns,rfl,ha,hne,q⟩:=h
 obtain ⟨u,rfl,ru⟩:=dY r
 cases ru
 have hpos:0<ns.length:=KW.mpr hne
 have core:∀ (its:List Value) (o:Obj),IntsAre its ns->∀ v s',its.toArray[argBest (fun i j=>decide (ns.getD i 0<ns.getD j 0)) (its.toArray.size - 1)]?=some v->Moved [s.heap.objs.size] (fun a b=>b=a) { s with heap:=s.heap.push o } s'->EP X pins σ Q v s':=by
  intro its o hI v s' hv hm
  obtain ⟨t,rfl,hi⟩:=jh hI hv
  have hsz:its.toArray.size - 1=ns.length - 1:=by rw [HR,hI.length]
  rw [hsz] at hi ⊢
  obtain ⟨b1,b2⟩:=argBest_lt (fun i=>ns.getD i 0) (ns.length - 1)
  obtain ⟨hh,g,d,tk,os⟩:=s'
  have e1:g=s.gens:=hm.gens
  have e2:d=s.drawn:=hm.drawn
  have e3:os=s.os:=hm.os
  subst e1 e2 e3
  refine ⟨.int _,H,I.fresh_it (o:=o) (h':=hh) (tk:=tk) fun b ob hb e=>hm.heap b ob hb e,⟨t,rfl⟩,q _ (rL hi) fun j hj=>?_⟩
  obtain ⟨i,hi',rfl⟩:=rC hj
  exact b2 i (by omega)
 have cmp:∀ (its:List Value),IntsAre its ns->CmpOf X.prog X.w X.A.in1 .Lt (fun i v=>its.toArray[i]?=some v) (fun i j=>decide (ns.getD i 0<ns.getD j 0)):=by
  intro its hI i j vi vj s' Q' E' h1 h2 hQ
  obtain ⟨t1,rfl,_⟩:=jh hI h1
  obtain ⟨t2,rfl,_⟩:=jh hI h2
  exact (PyProof.Rows.lt_int hQ:wpAny _ _ (compareOp .Lt _ _) _ _ _)
 rcases ha with ha | ha
 ·obtain ⟨its, rv, pl, hz⟩ := I.list ha
  have hI:IntsAre its ns:=dN rv
  have hne:a≠s.heap.objs.size:=by
   obtain ⟨o,n,e,_⟩:=pl
   exact Hd (G9 e)
  refine call_min_walkS (Kf pl.isList ?_)
  refine ⟨s.heap.objs.size,[s.heap.objs.size,a],[s.heap.objs.size],_,_,_,_,_,rfl,(Walks.list (A:=X.A.in1) (show X.A.in1.handled=none from I.ok.hd hc) _ a hne its.toArray).toS,⟨⟨_,HH _ rfl,rfl,rfl⟩,pl.isList.at fun o e=>HG _ e⟩,fun b hb=>?_,by simp [hI.length,hpos],cmp its hI,fun v s' hv hm=>core its _ hI v s' hv hm⟩
  obtain ⟨o,n,e,_⟩:=pl
  have:=G9 e
  simp only [Hl,Jq,Jr] at hb
  show b<(s.heap.push _).objs.size
  rw [Ku]
  rcases hb with rfl|rfl
  ·exact Ja _
  ·exact Jb this
 ·obtain ⟨its, rv, pl, hz⟩ := I.tuple ha
  have hI:IntsAre its ns:=dN rv
  have hne:a≠s.heap.objs.size:=by
   obtain ⟨o,e,_⟩:=pl
   exact Hd (G9 e)
  refine call_min_walkS (Jp (show s.heap.IsTuple a its.toArray from pl) ?_)
  refine ⟨s.heap.objs.size,[s.heap.objs.size,a],[s.heap.objs.size],_,_,_,_,_,rfl,(Walks.tuple (A:=X.A.in1) (show X.A.in1.handled=none from I.ok.hd hc) _ a hne its.toArray).toS,⟨⟨_,HH _ rfl,rfl,rfl⟩,(show s.heap.IsTuple a its.toArray from pl).at fun o e=>HG _ e⟩,fun b hb=>?_,by simp [hI.length,hpos],cmp its hI,fun v s' hv hm=>core its _ hI v s' hv hm⟩
  obtain ⟨o,e,_⟩:=pl
  have:=G9 e
  simp only [Hl,Jq,Jr] at hb
  show b<(s.heap.push _).objs.size
  rw [Ku]
  rcases hb with rfl|rfl
  ·exact Ja _
  ·exact Jb this
theorem wm (hc:X.calm=true):cj X (.builtin "max") (BI X.K):=by
 intro pins s σ H xs us Q I r h
 obtain ⟨a,ns,rfl,ha,hne,q⟩:=h
 obtain ⟨u,rfl,ru⟩:=dY r
 cases ru
 have hpos:0<ns.length:=KW.mpr hne
 have core:∀ (its:List Value) (o:Obj),IntsAre its ns->∀ v s',its.toArray[argBest (fun i j=>decide (ns.getD i 0 > ns.getD j 0)) (its.toArray.size - 1)]?=some v->Moved [s.heap.objs.size] (fun a b=>b=a) { s with heap:=s.heap.push o } s'->EP X pins σ Q v s':=by
  intro its o hI v s' hv hm
  obtain ⟨t,rfl,hi⟩:=jh hI hv
  have hsz:its.toArray.size - 1=ns.length - 1:=by rw [HR,hI.length]
  rw [hsz] at hi ⊢
  obtain ⟨b1,b2⟩:=argBest_gt (fun i=>ns.getD i 0) (ns.length - 1)
  obtain ⟨hh,g,d,tk,os⟩:=s'
  have e1:g=s.gens:=hm.gens
  have e2:d=s.drawn:=hm.drawn
  have e3:os=s.os:=hm.os
  subst e1 e2 e3
  refine ⟨.int _,H,I.fresh_it (o:=o) (h':=hh) (tk:=tk) fun b ob hb e=>hm.heap b ob hb e,⟨t,rfl⟩,q _ (rL hi) fun j hj=>?_⟩
  obtain ⟨i,hi',rfl⟩:=rC hj
  exact b2 i (by omega)
 have cmp:∀ (its:List Value),IntsAre its ns->CmpOf X.prog X.w X.A.in1 .Gt (fun i v=>its.toArray[i]?=some v) (fun i j=>decide (ns.getD i 0 > ns.getD j 0)):=by
  intro its hI i j vi vj s' Q' E' h1 h2 hQ
  obtain ⟨t1,rfl,_⟩:=jh hI h1
  obtain ⟨t2,rfl,_⟩:=jh hI h2
  exact (PyProof.Rows.gt_int hQ:wpAny _ _ (compareOp .Gt _ _) _ _ _)
 rcases ha with ha | ha
 ·obtain ⟨its, rv, pl, hz⟩ := I.list ha
  have hI:IntsAre its ns:=dN rv
  have hne:a≠s.heap.objs.size:=by
   obtain ⟨o,n,e,_⟩:=pl
   exact Hd (G9 e)
  refine call_max_walkS (Kf pl.isList ?_)
  refine ⟨s.heap.objs.size,[s.heap.objs.size,a],[s.heap.objs.size],_,_,_,_,_,rfl,(Walks.list (A:=X.A.in1) (show X.A.in1.handled=none from I.ok.hd hc) _ a hne its.toArray).toS,⟨⟨_,HH _ rfl,rfl,rfl⟩,pl.isList.at fun o e=>HG _ e⟩,fun b hb=>?_,by simp [hI.length,hpos],cmp its hI,fun v s' hv hm=>core its _ hI v s' hv hm⟩
  obtain ⟨o,n,e,_⟩:=pl
  have:=G9 e
  simp only [Hl,Jq,Jr] at hb
  show b<(s.heap.push _).objs.size
  rw [Ku]
  rcases hb with rfl|rfl
  ·exact Ja _
  ·exact Jb this
 ·obtain ⟨its, rv, pl, hz⟩ := I.tuple ha
  have hI:IntsAre its ns:=dN rv
  have hne:a≠s.heap.objs.size:=by
   obtain ⟨o,e,_⟩:=pl
   exact Hd (G9 e)
  refine call_max_walkS (Jp (show s.heap.IsTuple a its.toArray from pl) ?_)
  refine ⟨s.heap.objs.size,[s.heap.objs.size,a],[s.heap.objs.size],_,_,_,_,_,rfl,(Walks.tuple (A:=X.A.in1) (show X.A.in1.handled=none from I.ok.hd hc) _ a hne its.toArray).toS,⟨⟨_,HH _ rfl,rfl,rfl⟩,(show s.heap.IsTuple a its.toArray from pl).at fun o e=>HG _ e⟩,fun b hb=>?_,by simp [hI.length,hpos],cmp its hI,fun v s' hv hm=>core its _ hI v s' hv hm⟩
  obtain ⟨o,e,_⟩:=pl
  have:=G9 e
  simp only [Hl,Jq,Jr] at hb
  show b<(s.heap.push _).objs.size
  rw [Ku]
  rcases hb with rfl|rfl
  ·exact Ja _
  ·exact Jb this
end
def EI:List Int->Int
 | []=>0
 | x::r=>r.foldl min x
def EJ:List Int->Int
 | []=>0
 | x::r=>r.foldl max x
theorem v5 (r:List Int):∀ x:Int,(r.foldl min x=x\/r.foldl min x∈r)/\r.foldl min x<=x/\∀ j∈r,r.foldl min x<=j:=by
 induction r with
 | nil=>intro x;exact ⟨.inl rfl,Int.le_refl _,fun j hj=>by simp at hj⟩
 | cons y r ih=>
  intro x
  obtain ⟨h1,h2,h3⟩:=ih (min x y)
  rw [IQ]
  have m1:min x y<=x:=Int.min_le_left _ _
  have m2:min x y<=y:=Int.min_le_right _ _
  refine ⟨?_,by omega,fun j hj=>?_⟩
  ·rcases h1 with h | h
   ·rcases (by omega : min x y = x \/ min x y = y) with e | e
    ·exact .inl (by omega)
    ·exact .inr (by rw [h,e];exact Hj)
   ·exact .inr (Hk _ h)
  ·rcases Hl.mp hj with e | e
   ·rw [e];omega
   ·exact h3 j e
theorem v7 (r:List Int):∀ x:Int,(r.foldl max x=x\/r.foldl max x∈r)/\x<=r.foldl max x/\∀ j∈r,j<=r.foldl max x:=by
 induction r with
 | nil=>intro x;exact ⟨.inl rfl,Int.le_refl _,fun j hj=>by simp at hj⟩
 | cons y r ih=>
  intro x
  obtain ⟨h1,h2,h3⟩:=ih (max x y)
  rw [IQ]
  have m1:x<=max x y:=Int.le_max_left _ _
  have m2:y<=max x y:=Int.le_max_right _ _
  refine ⟨?_,by omega,fun j hj=>?_⟩
  ·rcases h1 with h | h
   ·rcases (by omega : max x y = x \/ max x y = y) with e | e
    ·exact .inl (by omega)
    ·exact .inr (by rw [h,e];exact Hj)
   ·exact .inr (Hk _ h)
  ·rcases Hl.mp hj with e | e
   ·rw [e];omega
   ·exact h3 j e
theorem A8 {ns:List Int}{m:Int} (h:m∈ns) (hm:∀ j∈ns,m<=j):m=EI ns:=by
 cases ns with
 | nil=>simp at h
 | cons x r=>
  obtain ⟨h1,h2,h3⟩:=v5 r x
  have a1:m<=r.foldl min x:=by
   rcases h1 with e | e
   ·rw [e];exact hm x Hj
   ·exact hm _ (Hk _ e)
  have a2:r.foldl min x<=m:=by
   rcases Hl.mp h with e | e
   ·rw [e];exact h2
   ·exact h3 m e
  exact KU a1 a2
theorem A9 {ns:List Int}{m:Int} (h:m∈ns) (hm:∀ j∈ns,j<=m):m=EJ ns:=by
 cases ns with
 | nil=>simp at h
 | cons x r=>
  obtain ⟨h1,h2,h3⟩:=v7 r x
  have a1:r.foldl max x<=m:=by
   rcases h1 with e | e
   ·rw [e];exact hm x Hj
   ·exact hm _ (Hk _ e)
  have a2:m<=r.foldl max x:=by
   rcases Hl.mp h with e | e
   ·rw [e];exact h2
   ·exact h3 m e
  exact KU a2 a1
def zy (d:D) (μ:ax):Option (List Int):=match d with
 | .tup xs=>fT xs
 | .frz xs=>fT xs
 | .obj n=>match μ[n]? with
  | some (.lst xs)=>fT xs
  | _=>none
 | _=>none
theorem uC {p:Pa}{H:Hp}{α:List Addr}{μ:ax}{d:D}{v:V}{ns:List Int} (S:p.S H α μ) (r:p.R H α d v) (h:zy d μ=some ns):∃ a,v=.ref a/\(eO p.K H a (ns.map V.int)\/d6 p.K H a (ns.map V.int)):=by
 unfold zy at h
 split at h
 ·obtain ⟨a, us, rfl, h1, rr⟩ := aD.mp r
  rw [eS h] at rr
  exact ⟨a,rfl,.inr (by rw [<- rr.ints];exact h1)⟩
 ·obtain ⟨a, us, rfl, h1, rr⟩ := ba.mp r
  rw [eS h] at rr
  exact ⟨a,rfl,.inl (by rw [<- rr.ints];exact h1.sq)⟩
 ·split at h
  ·rename_i xs hx
   obtain ⟨a,us,rfl,a1,h1,rr⟩:=cT S r hx
   rw [eS h] at rr
   exact ⟨a,rfl,.inl (by rw [<- rr.ints];exact eO.of h1)⟩
  ·cases h
 ·cases h
def vb (ds:List D) (μ:ax):ao D:=match ds with
 | [d]=>match zy d μ with
  | some (n::ns)=>.ok (.int (EI (n::ns))) μ
  | _=>.bad
 | ds=>xh ds μ
def qy (ds:List D) (μ:ax):ao D:=match ds with
 | [d]=>match zy d μ with
  | some (n::ns)=>.ok (.int (EJ (n::ns))) μ
  | _=>.bad
 | ds=>xi ds μ
theorem DA {p:Pa}:qu p vb (fun xs H Q=>BH p.K xs H Q\/∃ i j,xs=[.int i,.int j]/\Q (.int (if j<i then j else i)) H):=by
 intro ds vs H α μ Q S r P
 unfold vb at P
 split at P
 ·rename_i d
  split at P
  ·rename_i n ns hns
   obtain ⟨v,rfl,r1⟩:=r.one
   obtain ⟨a,rfl,h1⟩:=uC S r1 hns
   refine .inl ⟨a,n::ns,rfl,h1,by simp,fun m hm hj=>?_⟩
   rw [A8 hm hj]
   exact P.now S _ (ak.mpr rfl)
  ·exact P.elim
 ·exact .inr (AZ ds vs H α μ Q S r P)
theorem DB {p:Pa}:qu p qy (fun xs H Q=>BI p.K xs H Q\/∃ i j,xs=[.int i,.int j]/\Q (.int (if j > i then j else i)) H):=by
 intro ds vs H α μ Q S r P
 unfold qy at P
 split at P
 ·rename_i d
  split at P
  ·rename_i n ns hns
   obtain ⟨v,rfl,r1⟩:=r.one
   obtain ⟨a,rfl,h1⟩:=uC S r1 hns
   refine .inl ⟨a,n::ns,rfl,h1,by simp,fun m hm hj=>?_⟩
   rw [A9 hm hj]
   exact P.now S _ (ak.mpr rfl)
  ·exact P.elim
 ·exact .inr (A0 ds vs H α μ Q S r P)
theorem nh:∀ {xs:List V}{us:List Value},xs.length=us.length->(∀ (i:Nat) x u,xs[i]?=some x->us[i]?=some u->bH x u)->aU xs us
 | [],[],_,_=>.nil
 | [],_::_,h,_=>by simp at h
 | _::_,[],h,_=>by simp at h
 | x::xs,u::us,h,k=>.cons (k 0 x u rfl rfl) (nh (by simpa using h) fun i x' u' h1 h2=>k (i+1) x' u' (by simpa using h1) (by simpa using h2))
section
variable {X:Cx}
def E3 (ta:TA):TE:=fun σ H Q=>ta σ H fun vs H1=>∃ j:Int,vs=[.int j]/\∀ r,H1 r=none->Q (.ref r) (bT H1 r (.rng 0 j))
theorem vH {a:Expr}{ta:TA}{p pos:Pos} (hg:Gl X "range") (hm:X.mg "range" = none) (ha:PA X [a] ta) (hs:starEach [a] X.env=[(false,eval a X.env)]):PE X (.Call (.Name "range" p) [a] [] pos) (E3 ta):=by
 intro pins s σ H Q I h
 refine Call_ (jR I hg hm boot_range (HJ (dD (ha pos pins s σ H _ I h) fun us s1 ⟨vs,H1,I1,r1,q1⟩=>?_) hs rfl))
 obtain ⟨j,e,q⟩:=q1
 subst e
 cases r1 with
 | cons r rr=>
  cases rr
  obtain ⟨t,rfl⟩:=r
  refine call_range_1 ?_
  refine ⟨.ref s1.heap.objs.size,bT H1 s1.heap.objs.size (.rng 0 j),I1.laid (fun b ob e=>HG _ e) (HI _) ⟨_,_,_,HH _ rfl⟩,rfl,q _ (I1.hok.fresh (HI _))⟩
def C2:List V->Hp->VK->Prop:=fun xs H Q=>∃ (r:Addr) (j:Int),xs=[.ref r]/\H r=some (.rng 0 j)/\-(2 ^ 62)<=j/\j<=2 ^ 20/\∀ l,H l=none->Q (.ref l) (bT H l (.lst ((List.range j.toNat).map fun (i:Nat)=>V.int (i:Int))))
theorem ub (hc:X.calm=true):cj X (.type "list") C2:=by
 intro pins s σ H xs us Q I r h
 obtain ⟨r0,j,rfl,ha,j1,j2,q⟩:=h
 obtain ⟨u,rfl,ru⟩:=dY r
 cases ru
 obtain ⟨t,u,v,hr⟩:=(show cW X.prog X.w H s.heap r0 (.rng 0 j) from I.hok r0 _ ha)
 have hn:Builtin.Range.rangeSize 0 j 1=((j.toNat:Nat):Int):=by rw [rangeSize_one];split <;> omega
 refine call_list_range (n:=j.toNat) (I.ok.hd hc) hr (small_one (by omega) (by omega) (by omega) (by omega)) hn (by omega) fun h' tk acc' c' hk hl hit=>?_
 have hv:aU ((List.range j.toNat).map fun (i:Nat)=>V.int (i:Int)) acc'.toList:=by
  obtain ⟨e1,e2⟩:=hit
  refine nh (by simp [e1]) fun i x u h1 h2=>?_
  rw [Ih] at h1
  have hi:i<j.toNat:=by
   have:=(Hq.mp h2).1
   simp [e1] at this
   omega
  rw [Kn hi] at h1
  cases h1
  obtain ⟨t,rfl⟩:=e2 i u (by simpa using h2)
  exact ⟨t,by simp⟩
 refine ⟨.ref s.heap.objs.size,bT H s.heap.objs.size (.lst ((List.range j.toNat).map fun (i:Nat)=>V.int (i:Int))),I.laid (fun b ob e=>hk b ob e) (HI _) ⟨?_,acc'.toList,c',hv,by simpa using hl⟩,rfl,q _ (I.hok.fresh (HI _))⟩
 have:(sizeLine:Nat)=16777216:=HQ
 simp only [Il,Jw]
 omega
end
def mM (o1 o2:D->D->ax->ao D) (fa fb fc:ME):ME:=fun ρ μ=>(fa ρ μ).bind fun a μ1=>(fb ρ μ1).bind fun b μ2=>(o1 a b μ2).bind fun z μ3=>(zl z μ3).bind fun k μ4=>
 if k=true then (fc ρ μ4).bind fun c μ5=>o2 b c μ5 else .ok (.bl false) μ4
section
variable {X:Cx}{p:Pa}{a b c d:Expr}{ta tb tc td:TE}{fa fb fc fd:ME}{pos:Pos}{op op' op'':CmpOp}{r r' r'':R2}{o1 o2 o3:D->D->ax->ao D}
theorem t5 (hd1:qp p o1 r) (hd2:qp p o2 r') {σ:St}{H:Hp}{Q:VK} (h:tD p (mM o1 o2 fa fb fc) σ H Q):xr r r' (tD p fa) (tD p fb) (tD p fc) σ H Q:=by
 obtain ⟨α,ρ,μ,S,R,P⟩:=h
 refine ⟨α,ρ,μ,S,R,(aw.bind P).imp fun x μ1 H1 α1 X1 S1 P1 v rv=>⟨α1,ρ,μ1,S1,R.mono X1,(aw.bind P1).imp fun y μ2 H2 α2 X2 S2 P2 u ru=>?_⟩⟩
 refine hd1 x y v u H2 α2 μ2 _ S2 (rv.mono X2) ru ((aw.bind P2).imp fun z μ3 H3 α3 X3 S3 P3 w rw'=>?_)
 obtain ⟨k,_,e,q⟩:=pJ (aw.bind P3) rw' S3
 refine ⟨k,e,?_⟩
 cases k with
 | true=>
  rw [G6 rfl] at q ⊢
  exact ⟨α3,ρ,μ3,S3,((R.mono X1).mono X2).mono X3,(aw.bind q).imp fun c μ5 H5 α5 X5 S5 P5 t rt=>hd2 y c u t H5 α5 μ5 Q S5 ((ru.mono X3).mono X5) rt P5⟩
 | false=>rw [G7 HP] at q ⊢;exact q.now S3 _ (aS.mpr rfl)
theorem yk (ho:iJ X (compareOp op) r) (ho':iJ X (compareOp op') r') (hd1:qp p o1 r) (hd2:qp p o2 r') (ha:PE X a (tD p fa)) (hb:PE X b (tD p fb)) (hc:PE X c (tD p fc))
  (hm:lastMarks [op,op'] [b,c]=false):PE X (.Compare a [op,op'] [b,c] pos) (tD p (mM o1 o2 fa fb fc)):=(yF ho ho' ha hb hc hm).weak fun σ H Q h=>t5 hd1 hd2 h
def wH (d:D) (μ:ax):ao Bool:=match d with
 | .non=>.ok false μ
 | .bl b=>.ok b μ
 | .int i=>.ok (i != 0) μ
 | .str x=>if x.length<=sizeLine then .ok ((x.length:Int) != 0) μ else .bad
 | .tup xs=>.ok (!xs.isEmpty) μ
 | .frz xs=>.ok (!xs.isEmpty) μ
 | .obj n=>match μ[n]? with
  | some (.lst xs)=>.ok (!xs.isEmpty) μ
  | _=>.bad
def qC (f:ME):MT:=fun ρ μ=>(f ρ μ).bind wH
theorem Reps.isEmpty {K:W.Frag}{H:Hp}{α:List Addr}{xs:List D}{vs:List V} (r:Reps K H α xs vs):vs.isEmpty=xs.isEmpty:=by
 have:=r.length
 cases xs with
 | nil=>have h:vs=[]:=KQ (by simpa using this);rw [h];rfl
 | cons x r=>cases vs with
  | nil=>simp at this
  | cons _ _=>rfl
theorem zS {d:D}{μ:ax}{H:Hp}{α:List Addr}{v:V}{R:Bool->ax->Hp->List Addr->Prop} (S:p.S H α μ) (r:p.R H α d v) (P:aw p H α (wH d μ) R):∃ k,Ce p.K v H k/\R k μ H α:=by
 unfold wH at P
 split at P
 ·rw [bD.mp r];exact ⟨false,rfl,P.now S⟩
 ·rename_i b;rw [aS.mp r];exact ⟨b,rfl,P.now S⟩
 ·rename_i i;rw [ak.mp r];exact ⟨_,rfl,P.now S⟩
 ·rename_i x
  split at P
  ·rename_i hl;rw [bo.mp r];exact ⟨_,⟨hl,rfl⟩,P.now S⟩
  ·exact P.elim
 ·obtain ⟨a, vs, rfl, h1, h2⟩ := aD.mp r
  exact ⟨_,.inr (.inl ⟨vs,h1,by rw [h2.isEmpty]⟩),P.now S⟩
 ·obtain ⟨a, vs, rfl, h1, h2⟩ := ba.mp r
  exact ⟨_,.inl ⟨vs,h1.sq,by rw [h2.isEmpty]⟩,P.now S⟩
 ·split at P
  ·rename_i xs hx
   obtain ⟨a,us,rfl,a1,h1,rr⟩:=cT S r hx
   exact ⟨_,.inl ⟨us,eO.of h1,by rw [rr.isEmpty]⟩,P.now S⟩
  ·exact P.elim
theorem xX {e:Expr}{f:ME} (hK:X.K=p.K) (h:PE X e (tD p f)) (he:∀ whole,isTrue e X.env whole=(do let v <- whole;standAt e.pos;holding [v] (truthy v))):PT X e (gL p (qC f)):=
 (yv h he).weak fun σ H Q ⟨α, ρ, μ, S, R, P⟩ => ⟨α, ρ, μ, S, R, (aw.bind P).imp fun d μ1 H1 α1 X1 S1 P1 v rv => by
  rw [hK];exact zS S1 rv P1⟩
def il (ds:List D) (μ:ax):ao D:=match ds with
 | [.int j]=>if -(2 ^ 62)<=j/\j<=2 ^ 20 then .ok (.obj μ.length) (μ++[.lst (bq 0 j.toNat)]) else .bad
 | _=>.bad
theorem yr {K:W.Frag}{H:Hp}{α:List Addr} (n:Nat):Reps K H α (bq 0 n) ((List.range n).map fun (i:Nat)=>V.int (i:Int)):=by
 have:bq 0 n=((List.range n).map fun (i:Nat)=>((i:Nat):Int)).map D.int:=by
  unfold bq;rw [Ju];apply Jv;intro i _;simp
 rw [this]
 have h2:((List.range n).map fun (i:Nat)=>V.int (i:Int))=((List.range n).map fun (i:Nat)=>((i:Nat):Int)).map V.int:=by rw [Ju];rfl
 rw [h2]
 exact gE _
theorem yj {fr:MA}{pl pr pos p1:Pos} (hc:X.calm=true) (hg:Gl X "range") (hm:X.mg "range" = none) (hgl:Gl X "list") (hml:X.mg "list" = none) (ha:PA X [a] (j5 p fr)) (hs:starEach [a] X.env=[(false,eval a X.env)]) :
  PE X (.Call (.Name "list" pl) [.Call (.Name "range" pr) [a] [] p1] [] pos) (tD p (aC il fr)):=by
 refine (oC (T:="list") (ub hc) hgl hml boot_list (gp (vH hg hm ha hs) mJ rfl) (by decide) (by decide) rfl rfl).weak fun σ H Q ⟨α,ρ,μ,S,R,P⟩=>⟨α,ρ,μ,S,R,(aw.bind P).imp fun ds μ1 H1 α1 X1 S1 P1 vs rv=>?_⟩
 unfold il at P1
 split at P1
 ·rename_i j
  obtain ⟨v,rfl,r1⟩:=rv.one
  split at P1
  ·rename_i hj
   refine ⟨j,by rw [ak.mp r1],fun r0 hr=>?_⟩
   refine ⟨r0,j,rfl,bG,hj.1,hj.2,fun l hl=>?_⟩
   have S2:p.S (bT H1 r0 (.rng 0 j)) α1 μ1:=S1.same (bF hr) fun a ha=>aY fun z=>ha (by rw [z];exact hr)
   obtain ⟨x1,x2,x3⟩:=cQ S2 hl (yr j.toNat)
   exact P1 _ _ ((bF hr).trans x1) x2 _ x3
  ·exact P1.elim
 ·exact P1.elim
def E7:TE:=fun _ H Q=>∀ q,H q=none->Q (.ref q) (bT H q (.dK []))
theorem AK:PE X (.Dict [] [] pos) E7:=fun pins s σ H Q I h=>by
 have hb:sysModules<s.heap.objs.size:=Nat.lt_trans (by decide) (I.mod.glob.keeps I.bk).lt
 refine wpAny_Dict_empty ⟨.ref s.heap.objs.size,_,I.laid (a:=s.heap.objs.size) (o:=.dK []) (t':=s.toks) (fun _ _ q=>HG _ q) (HI _) ?_,rfl,h _ (I.hok.fresh (HI _))⟩
 exact ⟨Jh _,G4.mpr (Hm (Hd hb)),[],.nil,Heap.DictOf.new s.heap⟩
def zE:ME:=fun _ μ=>.ok (.obj μ.length) (μ++[.dic])
theorem CU:PE X (.Dict [] [] pos) (tD p zE):=AK.weak fun σ H Q ⟨α,ρ,μ,S,R,P⟩ q hq=>by
 have x1:p.X H (bT H q (.dK [])) α (α++[q]):=(bF hq).trans (fX [q])
 exact P _ _ x1 (S.more hq bG) _ (aH.mpr ⟨q,rfl,by rw [<- S.len];simp⟩)
def FS (p:Pa) (f:D->List D->ax->ao D) (r:V->List V->Hp->VK->Prop):Prop:=∀ d ds v vs H α μ Q,p.S H α μ->p.R H α d v->p.Rs H α ds vs->aw p H α (f d ds μ) (RV p Q)->r v vs H Q
def wG (d:D) (μ:ax):Bool:=match d with
 | .obj n=>match μ[n]? with
  | some (.lst _)=>true
  | _=>false
 | _=>false
def By (f:D->List D->ax->ao D) (fo:ME) (fr:MA):ME:=fun ρ μ=>(fo ρ μ).bind fun o μ1=>if wG o μ1=true then (fr ρ μ1).bind fun ds μ2=>f o ds μ2 else .bad
theorem D0 {d:D}{μ:ax}{H:Hp}{α:List Addr}{v:V} (S:p.S H α μ) (r:p.R H α d v) (h:wG d μ=true):F1 p.K "list" v H:=by
 unfold wG at h
 split at h
 ·split at h
  ·rename_i xs hx
   obtain ⟨a,us,rfl,a1,h1,rr⟩:=cT S r hx
   exact .inl ⟨rfl,us,eO.of h1⟩
  ·cases h
 ·cases h
theorem wZ {o e:Expr}{es:List Expr}{fo:ME}{fr:MA}{name:Str}{apos cpos:Pos}{id:String}{rr:V->List V->Hp->VK->Prop}{f:D->List D->ax->ao D} (hK:X.K=p.K) (slot:Slot "list" name id) (hty:typeOf (.builtin id)=pure (.type "method_descriptor")) (hm:GN X id rr) (hf:FS p f rr)
  (ho:PE X o (tD p fo)) (ha:PA X (e::es) (j5 p fr)) (hbase:attributeBase o name X.env (eval o X.env)=eval o X.env)
  (hfew : ((backTo cpos (starEach (e :: es) X.env)).all (fun x => !x.1) && (backToKw cpos (keywordEach [] X.env)).all (fun x => x.1.isSome)
   && decide ((e::es).length+([]:List Keyword).length+(if ([]:List Keyword).isEmpty then 0 else 1)<30))=true)
  (hline:(apos.endLine == cpos.line)=true) (hs:starEach (e::es) X.env=(false,eval e X.env)::starEach es X.env) (hplain:(backTo cpos (starEach es X.env)).any (·.1)=false) :
  PE X (.Call (.Attribute o name apos) (e::es) [] cpos) (tD p (By f fo fr)):=
 (Fs PySem.F.plainAttrs_list slot hty hm ho ha hbase hfew hline hs hplain).weak fun σ H Q ⟨α, ρ, μ, S, R, P⟩ => ⟨α, ρ, μ, S, R, (aw.bind P).imp fun d μ1 H1 α1 X1 S1 P1 v rv => by
  by_cases hl:wG d μ1=true
  ·rw [G6 hl] at P1
   rw [hK]
   exact ⟨D0 S1 rv hl,α1,ρ,μ1,S1,R.mono X1,(aw.bind P1).imp fun ds μ2 H2 α2 X2 S2 P2 vs rs=>hf d ds v vs H2 α2 μ2 Q S2 (rv.mono X2) rs P2⟩
  ·rw [G7 hl] at P1;exact P1.elim⟩
def mL (d:D) (ds:List D) (μ:ax):ao D:=match d,ds with
 | .obj n,[.int i]=>match μ[n]? with
  | some (.lst xs)=>match sD xs.length i with
   | some k=>match xs[k]? with
    | some y=>if -(2 ^ 63)<=i/\i<2 ^ 63 then .ok y (μ.set n (.lst (xs.eraseIdx k))) else .bad
    | none=>.bad
   | none=>.bad
  | _=>.bad
 | _,_=>.bad
theorem A6:FS p mL xE:=by
 intro d ds v vs H α μ Q S rd rs P
 unfold mL at P
 split at P
 ·rename_i n i
  split at P
  ·rename_i xs hx
   split at P
   ·rename_i k hk
    split at P
    ·rename_i y hy
     split at P
     ·rename_i hb
      obtain ⟨a,us,rfl,a1,h1,rr⟩:=cT S rd hx
      obtain ⟨w,rfl,rw'⟩:=rs.one
      obtain ⟨z,hz,rz⟩:=rr.get hy
      have hk':=(pR hk).1
      have q:=rr.eraseIdx k
      refine ⟨a,us,i,k,z,rfl,by rw [ak.mp rw'],h1,hb.1,hb.2,by rw [rr.length];exact hk',hz,?_⟩
      exact P _ _ (ip h1) (S.put hx a1 h1 q) _ (rz.mono (ip h1))
     ·exact P.elim
    ·exact P.elim
   ·exact P.elim
  ·exact P.elim
 ·exact P.elim
end
abbrev eZ (K:W.Frag) (w:World):Pa:=⟨K,w,fun _ _ _ _=>False⟩
abbrev iI:D->D->ax->ao D:=dI fun i j=>.int (i - j)
noncomputable abbrev qO:D->D->ax->ao D:=B3 zL fun i j=>.int (i / j)
noncomputable abbrev nK:D->D->ax->ao D:=B3 (fun _ j=>0<j) fun i j=>.int (i % j)
noncomputable abbrev Ca:D->D->ax->ao D:=B3 Ci fun i j=>.int (i ^ j.toNat)
def sZ (N:List Str) (sc scope:Scope) (Nc:List Str) (cap:List (Option Nat)):Bool:=
 (scope.kind == .function) && scope.names.all (fun y=>scope.names.lookup y.1 == some y.2) &&
 scope.names.all (fun y=>y.2 != .free || sc.names.lookup y.1 == some .cell || sc.names.lookup y.1 == some .free) && eQ N { scope:=sc,globals:=0,builtins:=0,locals:=0,cells:=[],qual:="",func:=none,code:=.none,frame:=none } scope Nc cap
theorem lg {N:List Str}{e1 e2:Env}{scope:Scope}:∀ {Nc:List Str}{cap:List (Option Nat)},eQ N e1 scope Nc cap=eQ N e2 scope Nc cap
 | [],[]=>rfl
 | _::_,[]=>rfl
 | [],_::_=>rfl
 | _::Nc,none::cap=>by unfold eQ;exact lg
 | x::Nc,some j::cap=>by unfold eQ;rw [lg (Nc:=Nc) (cap:=cap) (e1:=e1) (e2:=e2)]
theorem wc {X:Cx}{N:List Str}{sc scope:Scope}{Nc:List Str}{cap:List (Option Nat)} (hN:X.N=N) (hk:∀ x,(sc.names.lookup x=some .cell\/sc.names.lookup x=some .free)->X.env.kindOf x=some .cell\/X.env.kindOf x=some .free) (h:sZ N sc scope Nc cap=true):bP X.N X.env scope Nc cap:=by
 unfold sZ at h
 simp only [IE] at h
 obtain ⟨⟨⟨h1,h3⟩,h4⟩,h5⟩:=h
 refine ⟨eq_of_beq h1,fun y hy=>?_,fun y hy hf=>?_,?_⟩
 ·exact eq_of_beq (JV.mp h3 y hy)
 ·have := JV.mp h4 y hy
  simp only [Bool.or_eq_true,hf] at this
  refine hk _ ?_
  rcases this with (z | z) | z
  ·exact absurd z (by decide)
  ·exact .inl (eq_of_beq z)
  ·exact .inr (eq_of_beq z)
 ·rw [hN,lg];exact h5
theorem cB {X:Cx}{N:List Str}{sc scope:Scope}{Nc:List Str}{cap:List (Option Nat)} (hN:X.N=N) (hs:X.env.scope=sc) (h:sZ N sc scope Nc cap=true):bP X.N X.env scope Nc cap:=
 wc hN (fun x hx=>by subst hs;exact hx) h
structure Bx (P:Prop):Prop where
 h:P
section
variable {X:Cx}{p:Pa}{a b c d e:Expr}{es:List Expr}{fa fb fc fd f:ME}{fr:MA}{pos:Pos}{ft gt:MT}
theorem aF (i:Nat) {x:Str} (hN:X.N[i]?=some x:=by rfl) (hv:F5 X.env.scope x:=by first | exact Or.inl rfl | exact Or.inr (Or.inl rfl) | exact Or.inr (Or.inr rfl)) (hd:(x == ("__debug__" : Str))=false:=by decide) (hcd:(x == ("__classdict__" : Str))=false:=by decide):Bx (PE X (.Name x pos) (tD p (ai i))):=⟨CO (Df hN hv hd hcd)⟩
theorem cc {i j}:Bx (PE X (.Constant (.int i) j pos) (tD p (cC (.int i)))):=⟨wK Dm fun _ _=>ak.mpr rfl⟩
theorem BZ {i j}:Bx (PE X (.Constant (.bool i) j pos) (tD p (cC (.bl i)))):=⟨wK Ft fun _ _=>aS.mpr rfl⟩
theorem En {j}:Bx (PE X (.Constant .none j pos) (tD p (cC .non))):=⟨wK Dk fun _ _=>bD.mpr rfl⟩
theorem wD {x j}:Bx (PE X (.Constant (.str x) j pos) (tD p (cC (.str x)))):=⟨wK Dh fun _ _=>bo.mpr rfl⟩
theorem Gc {x:Str}{i:Int} (h:∃ t,X.mg x=some (.int i t)) (hg:Gl X x:=by rfl) (hd:(x == ("__debug__" : Str))=false:=by decide):Bx (PE X (.Name x pos) (tD p (cC (.int i)))):=Bx.mk (by
 obtain ⟨t,ht⟩:=h
 exact wK (uF (v:=.int i) hg ht ⟨t,rfl⟩ hd) fun _ _=>ak.mpr rfl)
theorem cP (ha:Bx (PE X a (tD p fa))) (hb:Bx (PE X b (tD p fb))) (hK:X.K=p.K:=by rfl):Bx (PE X (.BinOp a .Add b pos) (tD p (ay ck fa fb))):=⟨kQ (r:=xa p.K) (hK ▸ AX) DJ ha.h hb.h⟩
theorem lz (ha:Bx (PE X a (tD p fa))) (hb:Bx (PE X b (tD p fb))):Bx (PE X (.BinOp a .Sub b pos) (tD p (ay iI fa fb))):=⟨kQ Dp (Gr fun _ _ _ _=>ak.mpr rfl) ha.h hb.h⟩
theorem ui (ha:Bx (PE X a (tD p fa))) (hb:Bx (PE X b (tD p fb))):Bx (PE X (.BinOp a .Mult b pos) (tD p (ay kM fa fb))):=⟨kQ AR DG ha.h hb.h⟩
theorem xp (ha:Bx (PE X a (tD p fa))) (hb:Bx (PE X b (tD p fb))):Bx (PE X (.BinOp a .FloorDiv b pos) (tD p (ay qO fa fb))):=⟨kQ AS (xc fun _ _ _ _=>ak.mpr rfl) ha.h hb.h⟩
theorem n9 (ha:Bx (PE X a (tD p fa))) (hb:Bx (PE X b (tD p fb))):Bx (PE X (.BinOp a .Mod b pos) (tD p (ay nK fa fb))):=⟨kQ Du (xc fun _ _ _ _=>ak.mpr rfl) ha.h hb.h⟩
theorem ET (ha:Bx (PE X a (tD p fa))) (hb:Bx (PE X b (tD p fb))):Bx (PE X (.BinOp a .Pow b pos) (tD p (ay Ca fa fb))):=⟨kQ Dr (xc fun _ _ _ _=>ak.mpr rfl) ha.h hb.h⟩
theorem EV (ha:Bx (PE X a (tD p fa))):Bx (PE X (.UnaryOp .USub a pos) (tD p (lW wR fa))):=⟨Fg Cp DK ha.h⟩
structure nM (X:Cx) (p:Pa) (op:CmpOp) (o:D->D->ax->ao D):Prop where
 ex:∃ r,iJ X (compareOp op) r/\qp p o r
theorem jL (hu:X.A.units+64<cLine) (hK:X.K=p.K:=by rfl):nM X p .Eq (gf false):=⟨wN p.K false,hK ▸ Dw hu,BM⟩
theorem zA (hu:X.A.units+64<cLine) (hK:X.K=p.K:=by rfl):nM X p .NotEq (gf true):=⟨wN p.K true,hK ▸ Ds hu,BM⟩
theorem Fy:nM X p .Is (sO false):=⟨_,Dv,DH⟩
theorem DU:nM X p .IsNot (sO true):=⟨_,AQ,A3⟩
theorem lD {op:CmpOp} (hu:X.A.units+64<cLine) (ho:qJ op=true:=by rfl) (hK:X.K=p.K:=by rfl):nM X p op (jO op):=⟨w9 p.K op,hK ▸ AU hu ho,DI⟩
variable {op op' op'':CmpOp}{o o' o'':D->D->ax->ao D}
theorem og (k:nM X p op o) (ha:Bx (PE X a (tD p fa))) (hb:Bx (PE X b (tD p fb))) (hm:behindInMarks op b=false:=by rfl):Bx (PE X (.Compare a [op] [b] pos) (tD p (ay o fa fb))):=Bx.mk (let ⟨_,h1,h2⟩:=k.ex;CV h1 h2 ha.h hb.h hm)
theorem dc (k:nM X p op o) (ha:Bx (PE X a (tD p fa))) (hb:Bx (PE X b (tD p fb))) (hm:behindInMarks op b=false:=by rfl):Bx (PT X (.Compare a [op] [b] pos) (gL p (ia (ay o fa fb)))):=Bx.mk (let ⟨_,h1,h2⟩:=k.ex;Cz h1 h2 ha.h hb.h hm)
theorem EY (k:nM X p op o) (k':nM X p op' o') (ha:Bx (PE X a (tD p fa))) (hb:Bx (PE X b (tD p fb))) (hc:Bx (PE X c (tD p fc))) (hm:lastMarks [op,op'] [b,c]=false:=by rfl):Bx (PE X (.Compare a [op,op'] [b,c] pos) (tD p (mM o o' fa fb fc))):=Bx.mk (let ⟨_,h1,h2⟩:=k.ex;let ⟨_,h3,h4⟩:=k'.ex;yk h1 h3 h2 h4 ha.h hb.h hc.h hm)
theorem Eo (h:Bx (PE X e (tD p f))) (he:∀ whole,isTrue e X.env whole=(do let v <- whole;standAt e.pos;holding [v] (truthy v)):=by intro _;rfl) (hK:X.K=p.K:=by rfl):Bx (PT X e (gL p (qC f))):=⟨xX hK h.h he⟩
theorem qG {rest:List Expr} (ha:Bx (PT X a (gL p ft))) (hb:Bx (PW X (.BoolOp .And (b::rest) pos) (gL p gt))):Bx (PW X (.BoolOp .And (a::b::rest) pos) (gL p (jE ft gt))):=⟨Cw ha.h hb.h⟩
theorem Gd {rest:List Expr} (ha:Bx (PT X a (gL p ft))) (hb:Bx (PW X (.BoolOp .Or (b::rest) pos) (gL p gt))):Bx (PW X (.BoolOp .Or (a::b::rest) pos) (gL p (zD ft gt))):=⟨Fb ha.h hb.h⟩
theorem mG (ha:Bx (PT X a (gL p ft))):Bx (PW X (.BoolOp .And [a] pos) (gL p ft)):=⟨Ay ha.h⟩
theorem EZ (ha:Bx (PT X a (gL p ft))):Bx (PW X (.BoolOp .Or [a] pos) (gL p ft)):=⟨C3 ha.h⟩
theorem mw {op} (ha:Bx (PE X a (tD p fa))):Bx (PE X (.BoolOp op [a] pos) (tD p fa)):=⟨Di ha.h⟩
def xH:Expr->Bool
 | .Starred _ _=>false
 | _=>true
theorem vp {a:Expr}{es:List Expr}{env:Env} (h:xH a=true):starEach (a::es) env=(false,eval a env)::starEach es env:=by
 cases a <;> first | rfl | cases h
theorem aJ (ha:Bx (PE X a (tD p fa))) (hr:Bx (PA X es (j5 p fr))) (hs:xH a=true:=by rfl):Bx (PA X (a::es) (j5 p (af fa fr))):=⟨As ha.h hr.h (vp hs)⟩
theorem bp  : Bx (PA X [] (j5 p aA)):=⟨CY⟩
theorem bb {k n:Nat}{x:Str}{F:List D->ax->ao D}{px:Pos} (h:fq X.prog X.w X.K X.mg X.base p k x n F) (hr:eP k X.A) (ha:Bx (PA X (a::es) (j5 p fr))) (hg:Gl X x:=by rfl) (hdb:(x == ("__debug__" : Str))=false:=by decide) (he:starEach (a::es) X.env=(false,eval a X.env)::starEach es X.env:=by rfl) (hpl:(backTo pos (starEach es X.env)).any (·.1)=false:=by rfl):Bx (PE X (.Call (.Name x px) (a::es) [] pos) (tD p (aC F fr))):=⟨Aq h hr hg ha.h hdb he hpl⟩
structure mv (X:Cx) (p:Pa) (x:Str) (F:List D->ax->ao D):Prop where
 ex:∃ (u:Value) (r:List V->Hp->VK->Prop),((∃ id,u=.builtin id)\/∃ T,u=.type T)/\bootBuiltins x=some u/\cj X u r/\qu p F r/\x ≠ "__name__" /\ (x == ("__debug__" : Str))=false
theorem bL {x:Str}{F:List D->ax->ao D}{px:Pos} (k:mv X p x F) (hm:X.mg x=none) (ha:Bx (PA X (a::es) (j5 p fr))) (hg:Gl X x:=by rfl) (he:starEach (a::es) X.env=(false,eval a X.env)::starEach es X.env:=by rfl) (hpl:(backTo pos (starEach es X.env)).any (·.1)=false:=by rfl):Bx (PE X (.Call (.Name x px) (a::es) [] pos) (tD p (aC F fr))):=Bx.mk (by
 obtain ⟨u,r,hu,h1,h2,h3,h4,h5⟩:=k.ex
 rcases hu with ⟨id,rfl⟩ | ⟨T,rfl⟩
 ·exact yl h2 h3 hg hm h1 ha.h h4 h5 he hpl
 ·exact vA h2 h3 hg hm h1 ha.h h4 h5 he hpl)
theorem oq (hK:X.K=p.K:=by rfl) (hw:X.w=p.w:=by rfl):mv X p "len" jM:=⟨_,_,.inl ⟨_,rfl⟩,PySem.boot_len,(ze.or wq).or wt,by rw [hK,hw];exact DC,by decide,by decide⟩
theorem BW (hc:X.calm=true:=by rfl) (hK:X.K=p.K:=by rfl):mv X p "all" qA:=⟨_,_,.inl ⟨_,rfl⟩,by decide +kernel,wx hc,hK ▸ DE,by decide,by decide⟩
theorem iq (hK:X.K=p.K:=by rfl):mv X p "tuple" fC:=⟨_,_,.inr ⟨_,rfl⟩,by decide +kernel,nW,hK ▸ yJ,by decide,by decide⟩
theorem Ej (hK:X.K=p.K:=by rfl):mv X p "list" qM:=⟨_,_,.inr ⟨_,rfl⟩,by decide +kernel,qj,hK ▸ A1,by decide,by decide⟩
theorem BV:mv X p "int" lE:=⟨_,_,.inr ⟨_,rfl⟩,by decide +kernel,wu,DD,by decide,by decide⟩
theorem BU (hc:X.calm=true:=by rfl) (hK:X.K=p.K:=by rfl):mv X p "min" vb:=⟨_,_,.inl ⟨_,rfl⟩,by decide +kernel,(wj hc).or (wg hc),hK ▸ DA,by decide,by decide⟩
theorem xk (hc:X.calm=true:=by rfl) (hK:X.K=p.K:=by rfl):mv X p "max" qy:=⟨_,_,.inl ⟨_,rfl⟩,by decide +kernel,(wm hc).or (wk hc),hK ▸ DB,by decide,by decide⟩
theorem xj (hu:X.A.units+64<cLine) (hc:X.calm=true:=by rfl) (hK:X.K=p.K:=by rfl) (hw:X.w=p.w:=by rfl):mv X p "set" js:=⟨_,_,.inr ⟨_,rfl⟩,by decide +kernel,(wd hc hu).or (we hc hu),by rw [hK,hw];exact Dz,by decide,by decide⟩
theorem i4 (hc:X.calm=true:=by rfl) (hK:X.K=p.K:=by rfl) (hw:X.w=p.w:=by rfl):mv X p "sorted" bK:=⟨_,_,.inl ⟨_,rfl⟩,by decide +kernel,(t8.or (t7 hc)).or (t6 hc),by rw [hK,hw];exact vL,by decide,by decide⟩
theorem oa {T:String}{xT:Str}{px pt:Pos} (hT:T∈["int", "bool", "tuple", "list", "str", "dict"]) (hbT:bootBuiltins xT=some (.type T)) (hnT:xT ≠ "__name__") (hdT:(xT == ("__debug__" : Str))=false) (hm:X.mg "isinstance" = none) (hmT:X.mg xT=none) (ha:Bx (PE X a (tD p fa))) (hg:Gl X "isinstance" := by rfl) (hgT:Gl X xT:=by rfl) (hs1:starEach [a,.Name xT pt] X.env=(false,eval a X.env)::starEach [.Name xT pt] X.env:=by rfl) (hK:X.K=p.K:=by rfl):Bx (PE X (.Call (.Name "isinstance" px) [a,.Name xT pt] [] pos) (tD p (lW (ie T) fa))):=⟨CT hK hT hg hm hgT hmT hbT ha.h hnT hdT hs1⟩
theorem xU:bootBuiltins "int" = some (.type "int"):=by decide +kernel
theorem u3:bootBuiltins "bool" = some (.type "bool"):=by decide +kernel
theorem rS:bootBuiltins "tuple" = some (.type "tuple"):=by decide +kernel
theorem xo {pl pr p1:Pos} (hm:X.mg "range" = none) (hml:X.mg "list" = none) (ha:Bx (PA X [a] (j5 p fr))) (hc:X.calm=true:=by rfl) (hg:Gl X "range" := by rfl) (hgl:Gl X "list" := by rfl) (hs:starEach [a] X.env=[(false,eval a X.env)]:=by rfl):Bx (PE X (.Call (.Name "list" pl) [.Call (.Name "range" pr) [a] [] p1] [] pos) (tD p (aC il fr))):=⟨yj hc hg hm hgl hml ha.h hs⟩
theorem cn (ha:Bx (PE X a (tD p fa))) (hb:Bx (PE X b (tD p fb))) (hs:pZ b:=by exact fun _ _=>rfl) (hK:X.K=p.K:=by rfl):Bx (PE X (.Subscript a b pos) (tD p (ay dH fa fb))):=⟨Fh hK ha.h hb.h hs⟩
theorem sI {lo hi:Option Expr}{fl fh:MO}{p2:Pos} (he:Bx (PE X e (tD p fa))) (hl:Bx (PO X lo (Bw p fl))) (hu:Bx (PO X hi (Bw p fh))) (hK:X.K=p.K:=by rfl):Bx (PE X (.Subscript e (.Slice lo hi none p2) pos) (tD p (zk fa fl fh))):=⟨yi hK he.h hl.h hu.h⟩
theorem EU {fo:ME}{ob:Expr}{apos:Pos} (ho:Bx (PE X ob (tD p fo))) (ha:Bx (PA X [e] (j5 p fr))) (hbase:attributeBase ob "pop" X.env (eval ob X.env)=eval ob X.env:=by rfl) (hfew:((backTo pos (starEach [e] X.env)).all (fun x=>!x.1) && (backToKw pos (keywordEach [] X.env)).all (fun x=>x.1.isSome)
   && decide ([e].length+([]:List Keyword).length+(if ([]:List Keyword).isEmpty then 0 else 1)<30))=true:=by rfl) (hline:(apos.endLine == pos.line)=true:=by rfl) (hs:starEach [e] X.env=(false,eval e X.env)::starEach [] X.env:=by rfl) (hpl:(backTo pos (starEach [] X.env)).any (·.1)=false:=by rfl) (hK:X.K=p.K:=by rfl):Bx (PE X (.Call (.Attribute ob "pop" apos) [e] [] pos) (tD p (By mL fo fr))):=⟨wZ hK PySem.F.slot_list_pop PySem.F.type_list_pop yP A6 ho.h ha.h hbase hfew hline hs hpl⟩
variable {tg iter elt:Expr}{fi:MI}{g:MG}{u:B5}
theorem wB (hl:Bx (PE X e (tD p f))) (hK:X.K=p.K:=by rfl):Bx (PI X tg e (qt p (iH f))):=⟨CL hK hl.h⟩
theorem pB {px:Pos} (hm:X.mg "range" = none) (ha:Bx (PA X [a] (j5 p fr))) (hg:Gl X "range" := by rfl) (hs:starEach [a] X.env=[(false,eval a X.env)]:=by rfl):Bx (PI X tg (.Call (.Name "range" px) [a] [] pos) (qt p (fu jq fr))):=⟨vz hg hm ha.h hs⟩
theorem zC {px:Pos} (hm:X.mg "range" = none) (ha:Bx (PA X [a,b] (j5 p fr))) (hg:Gl X "range" := by rfl) (hs:starEach [a,b] X.env=[(false,eval a X.env),(false,eval b X.env)]:=by rfl) (hs2:starEach [b] X.env=[(false,eval b X.env)]:=by rfl):Bx (PI X tg (.Call (.Name "range" px) [a,b] [] pos) (qt p (fu mj fr))):=⟨vy hg hm ha.h hs hs2⟩
theorem Gu {px tpos:Pos}{elts:List Expr}{k1:Nat} (hm:X.mg "enumerate" = none) (ha:Bx (PA X [a] (j5 p fr))) (hg:Gl X "enumerate" := by rfl) (hs:starEach [a] X.env=[(false,eval a X.env)]:=by rfl) (hK:X.K=p.K:=by rfl):Bx (PI X (.Tuple elts k1 tpos) (.Call (.Name "enumerate" px) [a] [] pos) (qt p (fu oo fr))):=⟨Ak hK hg hm ha.h hs⟩
theorem jo (i:Nat) {x:Str} (hN:X.N.Nodup) (hi:X.N[i]?=some x:=by rfl) (hx:zo X.env.scope x:=by first | exact Or.inl rfl | exact Or.inr rfl) (hf:X.fn x=true\/X.env.scope.names.lookup x=some .local:=by first | exact .inl rfl | exact .inr rfl):Bx (PG X (.Name x pos) (nJ p (ah i))):=⟨Am hN hi hx hf⟩
theorem om  : Bx (sG X [] (qw p d9)):=⟨Al⟩
theorem fA (h1:Bx (PG X e (nJ p g))) (h2:Bx (sG X es (qw p u))) (hs:(assignEach (e::es) X.env).map (·.2)=assign e X.env::(assignEach es X.env).map (·.2):=by rfl):Bx (sG X (e::es) (qw p (bf g u))):=⟨yd h1.h h2.h hs⟩
theorem oj {k n:Nat} (h:Bx (sG X es (qw p u))) (hc:X.calm=true:=by rfl) (hn:(assignEach es X.env).length=n:=by rfl) (hst:(assignEach es X.env).findIdx? (·.1)=none:=by rfl) (hK:X.K=p.K:=by rfl):Bx (PG X (.Tuple es k pos) (nJ p (d8 n u))):=⟨CM hK hc h.h hn hst⟩
theorem uj {fo fi:ME} (ho:Bx (PE X a (tD p fo))) (hi:Bx (PE X b (tD p fi))) (ha:∀ v,assign (.Subscript a b pos) X.env v=(do
   let ov <- holding [v] (eval a X.env)
   let iv <- holding [v,ov] (eval b X.env)
   standAt pos
   holding [v,ov,iv] (setItem ov iv v)
   release [v,ov,iv] []):=by intro _;rfl):Bx (PG X (.Subscript a b pos) (nJ p (mz fo fi))):=⟨CN ho.h hi.h ha⟩
variable {ifs:List Expr}{scope:Scope}{Nc:List Str}{cap:List (Option Nat)}{tt:MT}{te:ME}
theorem iR (S:bP X.N X.env scope Nc cap) (hi:Bx (PI X tg iter (qt p fi))) (hg:∀ cl C s H fp,Bx (PG (gN X Nc scope cl C s H fp) tg (nJ p.nx g))) (ht:∀ cl C s H fp,Bx (qo (gN X Nc scope cl C s H fp) ifs (gL p.nx tt))) (he:∀ cl C s H fp,Bx (PE (gN X Nc scope cl C s H fp) elt (tD p.nx te))) (hc:X.calm=true:=by rfl) (hs:∀ x,foldedSetIterable iter X.env x=pure x:=by intro _;rfl):Bx (PE X (.ListComp elt [⟨tg,iter,ifs,0⟩] scope pos) (tD p (cA fi cap g tt te))):=⟨Ap hc S hi.h (fun cl C s H fp=>(hg cl C s H fp).h) (fun cl C s H fp=>(ht cl C s H fp).h) (fun cl C s H fp=>(he cl C s H fp).h) hs⟩
def u4 (gs:List Comprehension):Bool:=gs.all fun g=>g.is_async == 0
theorem zW {gs:List Comprehension} (h:u4 gs=true):∀ g∈gs,g.is_async=0:=fun g hg=>eq_of_beq (JV.mp h g hg)
variable {mb:MB}{cl0:Comprehension}{rest:List Comprehension}{d:Nat}{acc:Addr}
variable {fs gs:MS}{st:Stmt}{sts A B body:List Stmt}
theorem cf (i:Nat) {x:Str}{pos':Pos} (hN:X.N.Nodup) (he:Bx (PE X e (tD p f))) (hi:X.N[i]?=some x:=by rfl) (hx:zo X.env.scope x:=by first | exact Or.inl rfl | exact Or.inr rfl) (hs:swapsWith e (some (.Name x pos')) pos.line X.env=pure false:=by rfl) (hf:X.fn x=true\/X.env.scope.names.lookup x=some .local:=by first | exact .inl rfl | exact .inr rfl):Bx (PS X (.Assign [.Name x pos'] e pos) (gb p (bE f (ah i)))):=⟨CA hN hi hx he.h hs hf⟩
theorem jQ (i:Nat) {x:Str}{pos1 pos2:Pos} (hN:X.N.Nodup) (S:bP X.N X.env scope Nc cap) (hi:Bx (PI X tg iter (qt p fi))) (hg:∀ cl C s H fp,Bx (PG (gN X Nc scope cl C s H fp) tg (nJ p.nx g))) (ht:∀ cl C s H fp,Bx (qo (gN X Nc scope cl C s H fp) ifs (gL p.nx tt))) (he:∀ cl C s H fp,Bx (PE (gN X Nc scope cl C s H fp) elt (tD p.nx te))) (hix:X.N[i]?=some x:=by rfl) (hx:X.env.scope.names.lookup x=some .local:=by rfl) (hc:X.calm=true:=by rfl) (hsw:swapsWith (.ListComp elt [⟨tg,iter,ifs,0⟩] scope pos) (some (.Name x pos1)) pos2.line X.env=pure true:=by rfl) (hs:∀ x,foldedSetIterable iter X.env x=pure x:=by intro _;rfl):Bx (PS X (.Assign [.Name x pos1] (.ListComp elt [⟨tg,iter,ifs,0⟩] scope pos) pos2) (gb p (bE (cA fi cap g tt te) (ah i)))):=⟨z6 hc hN hix hx S hi.h (fun cl C s H fp=>(hg cl C s H fp).h) (fun cl C s H fp=>(ht cl C s H fp).h) (fun cl C s H fp=>(he cl C s H fp).h) hsw hs⟩
theorem qH (he:Bx (PE X e (tD p f))) (hg:Bx (PG X tg (nJ p g))) (hs:swapsWithSole [tg] e pos.line X.env=pure false:=by rfl) (hw:swappedStores [tg] e X.env=pure none:=by rfl) (h1:(assignEach [tg] X.env).map (·.2)=[assign tg X.env]:=by rfl):Bx (PS X (.Assign [tg] e pos) (gb p (bE f g))):=⟨CG he.h hg.h hs hw h1⟩
theorem jC (hp:PassesOwn (model X.prog X.w) X.A X.env X.xe) (hi:Bx (PI X tg iter (qt p fi))) (hg:Bx (PG X tg (nJ p g))) (hb:Bx (hZ X body (gb p fs))) (hc:X.calm=true:=by rfl) (hs:∀ x,foldedSetIterable iter X.env x=pure x:=by intro _;rfl):Bx (PS X (.For tg iter body [] pos) (gb p (j6 fi g fs))):=⟨CF hp hc hi.h hg.h hb.h hs⟩
end
section
variable {X:Cx}{p:Pa}{a b c e:Expr}{es rest:List Expr}{fa fb f:ME}{fr:MA}{ft gt:MT}{pos:Pos}{fs gs:MS}{st:Stmt}{sts A B:List Stmt}
theorem BA (ha:Bx (PE X a (tD p fa))):Bx (PE X (.UnaryOp .Not a pos) (tD p (qP fa))):=⟨CQ ha.h⟩
theorem j8 (ha:Bx (PE X a (tD p fa))) (hb:Bx (PE X (.BoolOp .And (b::rest) pos) (tD p fb))):Bx (PE X (.BoolOp .And (a::b::rest) pos) (tD p (gR fa fb))):=⟨CW ha.h hb.h⟩
theorem cI {k:Nat} (h:Bx (PA X es (j5 p fr))):Bx (PE X (.Tuple es k pos) (tD p (dJ fr))):=⟨CP h.h⟩
theorem iD (h:Bx (PA X es (j5 p fr))):Bx (PE X (.List es pos) (tD p (jt fr))):=⟨CS h.h⟩
theorem ES:Bx (PE X (.Dict [] [] pos) (tD p zE)):=⟨CU⟩
theorem jf:Bx (PO X none (Bw p zq)):=⟨Ah⟩
theorem gn (h:Bx (PE X e (tD p f))):Bx (PO X (some e) (Bw p (iL f))):=⟨Ag h.h⟩
theorem uh (ha:Bx (PT X a (gL p ft))):Bx (PT X (.UnaryOp .Not a pos) (gL p (mE ft))):=⟨Cy ha.h⟩
theorem u7 (h:Bx (PW X e (gL p ft))):Bx (PT X e (gL p ft)):=⟨h.h.pt⟩
theorem gP:Bx (qo X [] (gL p bx)):=⟨zY⟩
theorem wW (h:Bx (PT X c (gL p ft))):Bx (qo X [c] (gL p ft)):=⟨zX h.h⟩
theorem gO:Bx (hZ X [] (gb p fe)):=⟨CD⟩
theorem aQ (h1:Bx (PS X st (gb p fs))) (h2:Bx (hZ X sts (gb p gs))):Bx (hZ X (st::sts) (gb p (bQ fs gs))):=⟨z7 h1.h h2.h⟩
theorem aT (h1:Bx (PS X st (gb p fs))):Bx (hZ X [st] (gb p fs)):=⟨CC h1.h⟩
theorem bW (h:Bx (PE X e (tD p f))):Bx (PS X (.Return (some e) pos) (gb p (c4 f))):=⟨CB h.h⟩
theorem ur:Bx (PS X st (gb p zz)):=⟨x4⟩
theorem ic (hc:Bx (PT X c (gL p ft))) (ha:Bx (hZ X A (gb p fs))) (hb:Bx (hZ X B (gb p gs))):Bx (PS X (.If c A B pos) (gb p (kI ft fs gs))):=⟨Fd hc.h ha.h hb.h⟩
end
theorem dX {P:Program}{w:World}{K:W.Frag}{mg:Str->Option Value}{base:Heap}{p:Pa}{k n:Nat}{x qual:Str}{st:Stmt}{f:Addr}{fd:FuncData}{N ps:List Str}{fb:MS}
  (F:gM K x qual st f fd) (S:aW N ps (ar st)) (hn:ps.length=n) (hm:mg x=some (.ref f)) (hb:ff K fd ps [])
  (body : ∀ (cdv : Value) (A : Around) (outer : List Env) (s : Shared) (H : Hp) (E : XK), eP k (A.deeper (envOfC qual (ar st) s.heap.objs.size f cdv)) ->
   Bx (hZ (mn sH P w K mg base N qual (ar st) f cdv A outer s H E).nox (bO st) (gb p fb))):fq P w K mg base p (k+1) x n (iC n N.length fb):=
 Eg F S hn hm hb fun cdv A outer s H E hr=>(body cdv A outer s H E hr).h
end L2
namespace L2
open PySem RS
section
variable {ρ:Ro}{μ:ax}{fa fb fc fd f:ME}{fr:MA}{ft gt:MT}{op o1 o2 o3:D->D->ax->ao D}{fs gs:MS}{g:MG}
@[simp] theorem ag {d:D}{r:Ro}:ai 0 (some d::r) μ=.ok d μ:=KH (KJ _)
@[simp] theorem aj {i:Nat}{x:Option D}{r:Ro}:ai (i+1) (x::r) μ=ai i r μ:=KH (KJ _)
@[simp] theorem bh {d:D}:cC d ρ μ=.ok d μ:=KH (KJ _)
@[simp] theorem aE:ay op fa fb ρ μ=(fa ρ μ).bind fun a μ1=>(fb ρ μ1).bind fun b μ2=>op a b μ2:=KH (KJ _)
@[simp] theorem iQ {o:D->ax->ao D}:lW o fa ρ μ=(fa ρ μ).bind fun a μ1=>o a μ1:=KH (KJ _)
@[simp] theorem au:aA ρ μ=.ok [] μ:=KH (KJ _)
@[simp] theorem aq:af fa fr ρ μ=(fa ρ μ).bind fun a μ1=>(fr ρ μ1).bind fun r μ2=>.ok (a::r) μ2:=KH (KJ _)
@[simp] theorem az {F:List D->ax->ao D}:aC F fr ρ μ=(fr ρ μ).bind F:=KH (KJ _)
@[simp] theorem bR:dJ fr ρ μ=(fr ρ μ).bind fun ds μ=>if ds.length<=sizeLine then .ok (.tup ds) μ else .bad:=KH (KJ _)
@[simp] theorem fB:jt fr ρ μ=(fr ρ μ).bind fun ds μ=>if ds.length<=sizeLine then .ok (.obj μ.length) (μ++[.lst ds]) else .bad:=KH (KJ _)
@[simp] theorem aR {b:Bool}:zl (.bl b) μ=.ok b μ:=KH (KJ _)
@[simp] theorem cE:ia f ρ μ=(f ρ μ).bind zl:=KH (KJ _)
@[simp] theorem eD:jE ft gt ρ μ=(ft ρ μ).bind fun b μ1=>if b=true then gt ρ μ1 else .ok false μ1:=KH (KJ _)
@[simp] theorem D7:zD ft gt ρ μ=(ft ρ μ).bind fun b μ1=>if b=true then .ok true μ1 else gt ρ μ1:=KH (KJ _)
@[simp] theorem kf:mE ft ρ μ=(ft ρ μ).bind fun b μ1=>.ok (!b) μ1:=KH (KJ _)
@[simp] theorem dm:gR fa fb ρ μ=(fa ρ μ).bind fun a μ1=>(zl a μ1).bind fun b μ2=>if b=true then fb ρ μ2 else .ok (.bl false) μ2:=KH (KJ _)
@[simp] theorem pU:qP f ρ μ=(f ρ μ).bind fun a μ1=>(zl a μ1).bind fun b μ2=>.ok (.bl (!b)) μ2:=KH (KJ _)
@[simp] theorem rP:mM o1 o2 fa fb fc ρ μ=(fa ρ μ).bind fun a μ1=>(fb ρ μ1).bind fun b μ2=>(o1 a b μ2).bind fun z μ3=>(zl z μ3).bind fun k μ4=>
 if k=true then (fc ρ μ4).bind fun c μ5=>o2 b c μ5 else .ok (.bl false) μ4:=KH (KJ _)
@[simp] theorem iT:qC f ρ μ=(f ρ μ).bind wH:=KH (KJ _)
@[simp] theorem gv {b:Bool}:wH (.bl b) μ=.ok b μ:=KH (KJ _)
@[simp] theorem uk {fl fh:MO}:zk fa fl fh ρ μ=(fa ρ μ).bind fun a μ1=>(fl ρ μ1).bind fun lo μ2=>(fh ρ μ2).bind fun hi μ3=>uf a lo hi μ3:=KH (KJ _)
@[simp] theorem sV:zq ρ μ=.ok none μ:=KH (KJ _)
@[simp] theorem ko:iL f ρ μ=(f ρ μ).bind FO:=KH (KJ _)
@[simp] theorem pH {i:Int}:FO (.int i) μ=.ok (some i) μ:=KH (KJ _)
@[simp] theorem Ea:zE ρ μ=.ok (.obj μ.length) (μ++[.dic]):=KH (KJ _)
@[simp] theorem xg {F:D->List D->ax->ao D}{fo:ME}:By F fo fr ρ μ=(fo ρ μ).bind fun o μ1=>if wG o μ1=true then (fr ρ μ1).bind fun ds μ2=>F o ds μ2 else .bad:=KH (KJ _)
@[simp] theorem bg:c4 f ρ μ=(f ρ μ).bindS fun d μ'=>.ret d μ':=KH (KJ _)
@[simp] theorem cv:fe ρ μ=.next ρ μ:=KH (KJ _)
@[simp] theorem aX:bQ fs gs ρ μ=(fs ρ μ).bind gs:=KH (KJ _)
@[simp] theorem bB:kI ft fs gs ρ μ=(ft ρ μ).bindS fun b μ1=>if b=true then fs ρ μ1 else gs ρ μ1:=KH (KJ _)
@[simp] theorem aZ:bE f g ρ μ=(f ρ μ).bindS fun d μ1=>(g d ρ μ1).bindS fun ρ' μ2=>.next ρ' μ2:=KH (KJ _)
@[simp] theorem aL {g:MS}:(SO.next ρ μ).bind g=g ρ μ:=KH (KJ _)
@[simp] theorem pE {d:D}{g:MS}:(SO.ret d μ).bind g=.ret d μ:=KH (KJ _)
@[simp] theorem uJ {g:MS}:(SO.next ρ μ).loop g=g ρ μ:=KH (KJ _)
@[simp] theorem aN {d:D}:(SO.ret d μ).out=.ok d μ:=KH (KJ _)
@[simp] theorem cu {i:Nat}{d:D}:ah i d ρ μ=.ok (ρ.set i (some d)) μ:=KH (KJ _)
@[simp] theorem l9 {fo fi:ME}{d:D}:mz fo fi d ρ μ=(fo ρ μ).bind fun o μ1=>(fi ρ μ1).bind fun i μ2=>(sL o i d μ2).bind fun _ μ3=>.ok ρ μ3:=KH (KJ _)
@[simp] theorem ik {fi:MI}:j6 fi g fs ρ μ=(fi ρ μ).bindS fun src μ1=>gH src g fs src.items ρ μ1:=KH (KJ _)
@[simp] theorem cX:iH f ρ μ=(f ρ μ).bind u9:=KH (KJ _)
@[simp] theorem cY {F:List D->ax->ao lX}:fu F fr ρ μ=(fr ρ μ).bind F:=KH (KJ _)
@[simp] theorem ji {xs:List D}:u9 (.tup xs) μ=.ok (.fix xs) μ:=KH (KJ _)
@[simp] theorem cw {fi:MI}{cap:List (Option Nat)}:cA fi cap g ft f ρ μ=(fi ρ μ).bind fun src μ1=>compLoop src μ1.length g ft f src.items (fv cap ρ) (μ1++[.lst []]):=KH (KJ _)
@[simp] theorem br {xs:List D}:(lX.fix xs).items=xs:=KH (KJ _)
@[simp] theorem dZ {n:Nat}{xs:List D}:(lX.own n xs).items=xs:=KH (KJ _)
theorem fV {N:Nat}{a:D}:iC 1 N fs [a] μ=nZ μ (fs (some a::List.replicate (N - 1) none) μ).out:=G6 rfl
theorem cU {N:Nat}{a b:D}:iC 2 N fs [a,b] μ=nZ μ (fs (some a::some b::List.replicate (N - 2) none) μ).out:=G6 rfl
theorem xQ {N:Nat}{a b c:D}:iC 3 N fs [a,b,c] μ=nZ μ (fs (some a::some b::some c::List.replicate (N - 3) none) μ).out:=G6 rfl
@[simp] theorem eC {op:CmpOp}{i j:Int}:jO op (.int i) (.int j) μ=.ok (.bl (dk op i j)) μ:=KH (KJ _)
@[simp] theorem fF {i j:Int}:ck (.int i) (.int j) μ=.ok (.int (i+j)) μ:=KH (KJ _)
@[simp] theorem FF {gg:Int->Int->D}{i j:Int}:dI gg (.int i) (.int j) μ=.ok (gg i j) μ:=KH (KJ _)
@[simp] theorem kS {C:Int->Int->Prop}{gg:Int->Int->D}{i j:Int} (h:C i j):B3 C gg (.int i) (.int j) μ=.ok (gg i j) μ:=by unfold B3;simp [h]
@[simp] theorem FZ {i j:Int} (h:qF i j):kM (.int i) (.int j) μ=.ok (.int (i * j)) μ:=by unfold kM;simp [h]
@[simp] theorem D8 {i:Int}:wR (.int i) μ=.ok (.int (-i)) μ:=KH (KJ _)
@[simp] theorem cz {neg:Bool}{i j:Int}:gf neg (.int i) (.int j) μ=.ok (.bl (if neg then !(i == j) else i == j)) μ:=KH (KJ _)
@[simp] theorem xP {neg:Bool}{a:D}:sO neg a .non μ=.ok (.bl (if neg then !a.isNon else a.isNon)) μ:=KH (KJ _)
@[simp] theorem l7 {xs:List D}:jM [.tup xs] μ=.ok (.int xs.length) μ:=KH (KJ _)
@[simp] theorem uT {xs:List D}:jM [.frz xs] μ=.ok (.int xs.length) μ:=KH (KJ _)
theorem Bn {n:Nat}{xs:List D} (h:μ[n]?=some (.lst xs)):jM [.obj n] μ=.ok (.int xs.length) μ:=by unfold jM qN;simp [h]
theorem uS {n:Nat}{ks:List Int} (h:μ[n]?=some (.iset ks)):jM [.obj n] μ=.ok (.int ks.length) μ:=by unfold jM;simp [h]
theorem gu {n:Nat}{xs:List D} (h:μ[n]?=some (.lst xs)):fC [.obj n] μ=.ok (.tup xs) μ:=by unfold fC;simp [h]
theorem uU {n:Nat}{bs:List Bool} (h:μ[n]?=some (.lst (bs.map D.bl))):qA [.obj n] μ=.ok (.bl (bs.all id)) μ:=by unfold qA;simp [h,wy]
theorem ij {xs:List D}{i:Int}{d:D} (h:atI xs i=some d):dH (.tup xs) (.int i) μ=.ok d μ:=by unfold dH;simp [h]
theorem D9 {xs:List D}{i:Int}{d:D} (h:atI xs i=some d):dH (.frz xs) (.int i) μ=.ok d μ:=by unfold dH;simp [h]
theorem gI {n:Nat}{xs:List D}{i:Int}{d:D} (hm:μ[n]?=some (.lst xs)) (h:atI xs i=some d):dH (.obj n) (.int i) μ=.ok d μ:=by unfold dH;simp [hm,h]
theorem pT {n j:Nat}{xs:List D}{i:Int}{d:D} (hm:μ[n]?=some (.lst xs)) (h:sD xs.length i=some j):sL (.obj n) (.int i) d μ=.ok () (μ.set n (.lst (xs.set j d))):=by unfold sL;simp [hm,h]
theorem gw {n:Nat}{xs:List D} (hm:μ[n]?=some (.lst xs)):u9 (.obj n) μ=.ok (.own n xs) μ:=by unfold u9;simp [hm]
theorem gx {j:Int} (h0:0<=j) (h:j<1000):jq [.int j] μ=.ok (.fix (bq 0 j.toNat)) μ:=by
 unfold jq;dsimp only;rw [G6];omega
theorem l6 {i j:Int} (h0:0<=i) (h1:i<1000) (h2:-1000<=j) (h:j<1000):mj [.int i,.int j] μ=.ok (.fix (bq i (j - i).toNat)) μ:=by
 unfold mj;dsimp only;rw [G6];omega
theorem uq {α:Type}{x:α}{r:List α}:atI (x::r) 0=some x:=by unfold atI sD;simp
theorem xm {α:Type}{x y:α}{r:List α}:atI (x::y::r) 1=some y:=pX (j:=1) rfl
theorem BX {α:Type}{x y z:α}{r:List α}:atI (x::y::z::r) 2=some z:=pX (j:=2) rfl
@[simp] theorem eB {x:D}{r:List D}:dH (.tup (x::r)) (.int 0) μ=.ok x μ:=ij uq
@[simp] theorem jj {x y:D}{r:List D}:dH (.tup (x::y::r)) (.int 1) μ=.ok y μ:=ij xm
theorem mP {α:Type}{xs:List α}{i:Int}{x:α} (h0:0<=i) (h:xs[i.toNat]?=some x):atI xs i=some x:=by
 have:=pX h
 rwa [show ((i.toNat:Nat):Int)=i by omega] at this
theorem pG {n:Nat}{i:Int} (h0:0<=i) (h:i<n):sD n i=some i.toNat:=by unfold sD;simp [h0,h]
end
section
variable {μ g:ax}{d:D}
@[simp] theorem Bb {n:Nat}{i:Int}:(D.int i).low n=True:=by simp [D.low]
@[simp] theorem GF {n:Nat}{i:Bool}:(D.bl i).low n=True:=by simp [D.low]
@[simp] theorem FX {n:Nat}{x:Str}:(D.str x).low n=True:=by simp [D.low]
@[simp] theorem FW {n:Nat}{xs:List D}:(D.tup xs).low n=D.lows n xs:=by simp [D.low]
@[simp] theorem FY {n m:Nat}:(D.obj m).low n=(m<n):=by simp [D.low]
@[simp] theorem FJ {n:Nat}:D.lows n []=True:=by simp [D.lows]
@[simp] theorem Em {n:Nat}{x:D}{xs:List D}:D.lows n (x::xs)=(x.low n/\D.lows n xs):=by simp [D.lows]
theorem fk {n:Nat}:∀ {xs:List D},D.lows n xs↔∀ x∈xs,x.low n
 | []=>by simp
 | x::xs=>by simp [fk (xs:=xs)]
theorem fU (hd:d.low μ.length):nZ μ (.ok d (μ++g))=.ok d μ:=by
 unfold nZ
 dsimp only
 rw [G6]
 ·simp
 ·refine ⟨hd, by simp, fun i o hi h => .inl ?_⟩
  rw [Ig hi] at h
  exact h
theorem bN (hd:d.low μ.length):nZ μ (.ok d μ)=.ok d μ:=by
 have:=fU (μ:=μ) (g:=[]) hd
 simpa using this
theorem sU {i:Nat}{o:O} (hd:d.low μ.length) (ho:o.low μ.length):nZ μ (.ok d (μ.set i o++g))=.ok d (μ.set i o):=by
 unfold nZ
 dsimp only
 rw [G6]
 ·congr 1
  rw [List.take_append_of_le_length (by simp)]
  exact JB (by simp)
 ·refine ⟨hd, by simp, fun j o' hj h => ?_⟩
  rw [Ig (by simpa using hj)] at h
  by_cases hij:i=j
  ·subst hij
   rw [Hs hj] at h
   cases h
   exact .inr ho
  ·rw [Ht hij] at h
   exact .inl h
theorem uQ {i:Nat}{o:O} (hd:d.low μ.length) (ho:o.low μ.length):nZ μ (.ok d (μ.set i o))=.ok d (μ.set i o):=by
 have:=sU (μ:=μ) (g:=[]) (i:=i) hd ho
 simpa using this
theorem BQ {μ':ax} (h:¬ d.low μ.length):nZ μ (.ok d μ')=.ok d μ':=by
 unfold nZ
 dsimp only
 rw [G7 fun z=>h z.1]
theorem D3 {μ':ax}:nZ μ (.ok d μ')=.ok d μ'\/(nZ μ (.ok d μ')=.ok d (μ'.take μ.length)/\d.low μ.length):=by
 unfold nZ
 dsimp only
 by_cases h:B9 μ μ' d
 ·rw [G6 h];exact .inr ⟨rfl,h.1⟩
 ·rw [G7 h];exact .inl rfl
end
theorem kh {μ1 g:ax}{a b:O}:(μ1++a::g).set μ1.length b=μ1++b::g:=by
 rw [List.set_append_right _ _ (HI _),Nat.sub_self];rfl
theorem av {μ1 g:ax}{a:O}:(μ1++a::g)[μ1.length]?=some a:=by
 rw [Ic (HI _),Nat.sub_self];rfl
theorem kZ {μ1 g:ax}{ys:List D}{y:D} (h:ys.length<sizeLine):qI μ1.length y (μ1++.lst ys::g)=.ok () (μ1++.lst (ys++[y])::g):=by
 unfold qI
 rw [av]
 dsimp only
 rw [G6 h,kh]
theorem d3 {src:lX}{g:MG}{t:MT}{e:ME}{μ1:ax}{q:D->Bool}{h:D->D} (R:Ro->Prop) (ho:∀ a,cg src (μ1++[.lst a])) :
  ∀ {xs acc:List D}{ρ:Ro},R ρ->acc.length+xs.length<=sizeLine->(∀ x∈xs,∀ a ρ,R ρ->∃ ρ1,R ρ1/\g x ρ (μ1++[.lst a])=.ok ρ1 (μ1++[.lst a])/\t ρ1 (μ1++[.lst a])=.ok (q x) (μ1++[.lst a])/\(q x=true->e ρ1 (μ1++[.lst a])=.ok (h x) (μ1++[.lst a]))) ->
   compLoop src μ1.length g t e xs ρ (μ1++[.lst acc])=.ok (.obj μ1.length) (μ1++[.lst (acc++(xs.filter q).map h)])
 | [],acc,ρ,hr,hl,he=>by
  unfold compLoop
  rw [G6 (ho acc)]
  simp
 | x::xs,acc,ρ,hr,hl,he=>by
  obtain ⟨ρ1,r1,e1,e2,e3⟩:=he x Hj acc ρ hr
  unfold compLoop
  rw [G6 (ho acc),e1]
  simp only [bj,aa]
  rw [e2]
  simp only [bj,aa]
  have he':=fun y hy=>he y (Hk _ hy)
  simp only [I0] at hl
  cases hq:q x with
  | false=>
   rw [G7 HP,d3 R ho r1 (by omega) he',KY,hq]
   rfl
  | true=>
   rw [G6 rfl,e3 hq]
   simp only [bj,aa]
   rw [kZ (by omega)]
   simp only [aa]
   rw [d3 R ho r1 (by simp;omega) he',KY,hq]
   simp
theorem gY {src:lX}{g:MG}{t:MT}{e:ME}{n:Nat} (J:List D->List D->Ro->ax->ax->Prop)
  (fin:∀ ys ρ μ1 s,J [] ys ρ μ1 s->μ1.length=n/\cg src (μ1++.lst ys::s))
  (step : ∀ x r ys ρ μ1 s, J (x :: r) ys ρ μ1 s -> μ1.length = n /\ cg src (μ1 ++ .lst ys :: s) /\ ∃ ρ1 μa sa b μb sb, g x ρ (μ1 ++ .lst ys :: s) = .ok ρ1 (μa ++ .lst ys :: sa) /\ t ρ1 (μa ++ .lst ys :: sa) = .ok b (μb ++ .lst ys :: sb) /\
   (b=true->∃ y μc sc,e ρ1 (μb++.lst ys::sb)=.ok y (μc++.lst ys::sc)/\ys.length<sizeLine/\μc.length=n/\J r (ys++[y]) ρ1 μc sc)/\(b=false->J r ys ρ1 μb sb)) :
  ∀ {xs ys:List D}{ρ:Ro}{μ1 s:ax},J xs ys ρ μ1 s->∃ ys' ρ' μ1' s',J [] ys' ρ' μ1' s'/\compLoop src n g t e xs ρ (μ1++.lst ys::s)=.ok (.obj n) (μ1'++.lst ys'::s')
 | [],ys,ρ,μ1,s,hJ=>by
  refine ⟨ys,ρ,μ1,s,hJ,?_⟩
  unfold compLoop
  rw [G6 (fin ys ρ μ1 s hJ).2]
 | x::xs,ys,ρ,μ1,s,hJ=>by
  obtain ⟨hn,ho,ρ1,μa,sa,b,μb,sb,e1,e2,e3,e4⟩:=step x xs ys ρ μ1 s hJ
  unfold compLoop
  rw [G6 ho,e1]
  simp only [bj,aa]
  rw [e2]
  simp only [bj,aa]
  cases b with
  | false=>
   rw [G7 HP]
   exact gY J fin step (e4 rfl)
  | true=>
   obtain ⟨y,μc,sc,f1,f2,f3,f4⟩:=e3 rfl
   rw [G6 rfl,f1]
   simp only [bj,aa]
   subst f3
   rw [kZ f2]
   simp only [aa]
   exact gY J fin step f4
theorem gr {src:lX}{g:MG}{fb:MS} (J:List D->Ro->ax->Prop) (fin:∀ ρ μ,J [] ρ μ->cg src μ)
  (step:∀ x r ρ μ,J (x::r) ρ μ->cg src μ/\∃ ρ1 μ1 ρ2 μ2,g x ρ μ=.ok ρ1 μ1/\fb ρ1 μ1=.next ρ2 μ2/\J r ρ2 μ2) :
  ∀ {xs:List D}{ρ:Ro}{μ:ax},J xs ρ μ->∃ ρ' μ',J [] ρ' μ'/\gH src g fb xs ρ μ=.next ρ' μ'
 | [],ρ,μ,h=>⟨ρ,μ,h,by unfold gH;rw [G6 (fin ρ μ h)]⟩
 | x::xs,ρ,μ,h=>by
  obtain ⟨ho,ρ1,μ1,ρ2,μ2,e1,e2,h2⟩:=step x xs ρ μ h
  obtain ⟨ρ',μ',h3,e3⟩:=gr J fin step h2
  refine ⟨ρ',μ',h3,?_⟩
  unfold gH
  rw [G6 ho,e1]
  simp only [ae]
  rw [e2]
  exact e3
end L2
namespace L2
open PySem PySem.Spec PyProof.Rows RS
theorem FE {P:Program}{w:World}{K:W.Frag}{mg:Str->Option Value}{base:Heap}{p:Pa}{k n:Nat}{x qual:Str}{st:Stmt}{f:Addr}{fd:FuncData}{N ps:List Str}{fb:MS}
  (F:gM K x qual st f fd) (S:aW N ps (ar st)) (hn:ps.length=n)
  (body : ∀ (cdv : Value) (A : Around) (outer : List Env) (s : Shared) (H : Hp) (E : XK), eP k (A.deeper (envOfC qual (ar st) s.heap.objs.size f cdv)) ->
   Bx (hZ (mn sH P w K mg base N qual (ar st) f cdv A outer s H E).nox (bO st) (gb p fb))):mr P w K mg base sH (k+1) f fd ps (zj p n (iC n N.length fb)):=by
 refine F.ok S (fun vs H Q E h=>h.1.trans hn.symm) fun cdv A outer s H vs Q E hr h=>?_
 refine ⟨_,(body cdv A outer s H E hr).h,?_⟩
 obtain ⟨hl,α,ds,μ,S1,R1,P1⟩:=h
 unfold iC at P1
 have hd:ds.length=n:=by rw [<- R1.length];exact hl
 rw [G6 hd] at P1
 have P2:=l5 S1 P1
 unfold start
 rw [hl]
 refine ⟨α,_,μ,S1,iy R1 _,?_⟩
 cases e:fb (ds.map some++List.replicate (N.length - n) none) μ with
 | ret d μ'=>rw [e] at P2;exact fun H' α' v x s r=>P2 H' α' x s v r
 | next ρ μ'=>rw [e] at P2;exact fun H' α' σ' x s r=>P2 H' α' x s .non (bD.mpr rfl)
 | exc x μ'=>rw [e] at P2;exact P2
 | brk ρ μ'=>rw [e] at P2;exact P2.elim
 | cnt ρ μ'=>rw [e] at P2;exact P2.elim
 | bad=>rw [e] at P2;exact P2.elim
theorem oA {K:W.Frag}{H:Hp}{α:List Addr}:∀ ns:List Int,Reps K H α (ns.map D.int) (ns.map V.int)
 | []=>by simp only [IG,Reps]
 | n::ns=>by
  simp only [IH,Reps]
  exact ⟨_,_,rfl,ak.mpr rfl,oA ns⟩
theorem yS {K:W.Frag}{w:World}{F:List D->ax->ao D}{H:Hp}{a:Addr}{ns:List Int}{E:XK} (hF:∃ μ',F [.frz (ns.map D.int)] []=.ok (.bl true) μ') (hO:zH H) (hS:eO K H a (ns.map V.int)) :
  zj (eZ K w) 1 F [.ref a] H (fun v _=>v=.bl true) E:=by
 obtain ⟨μ',e⟩:=hF
 have fz:Bz K H a (ns.map V.int):=by
  rcases hS with (h | h) | h
  ·rcases hO a with z | ⟨o, xs, z⟩
   ·rw [h] at z;cases z
   ·rw [h] at z;cases z
  ·exact .inl h
  ·exact .inr h
 refine ⟨rfl,[],[.frz (ns.map D.int)],[],⟨rfl,JR,fun n o a h=>by simp at h⟩,?_,?_⟩
 ·simp only [Reps]
  exact ⟨_,_,rfl,ba.mpr ⟨a,_,rfl,fz,oA ns⟩,rfl⟩
 ·rw [e]
  exact fun H' α' x s v r=>aS.mp r
end L2
namespace L2
open PySem PySem.Spec PyProof.Rows RS
section
variable {X:Cx}{p:Pa}
def sS (K:W.Frag):List V->Hp->VK->Prop:=fun xs H Q=>∃ a d,xs=[.ref a]/\ly K H d (.ref a)/\d.showable=true/\d.hasDict=false/\d.depth<=60/\d.shown.length<=sizeLine/\Q (.str d.shown) H
theorem t9 (hu:X.A.units+64<cLine) (hg:X.A.guards=some []):cj X (.builtin "repr") (sS X.K):=by
 intro pins s σ H xs us Q I r h
 obtain ⟨a,d,rfl,h1,hs,hd,hdp,hz,q⟩:=h
 obtain ⟨u,rfl,ru⟩:=dY r
 cases ru
 obtain ⟨as,r1⟩:=fg I d (.ref a) (.ref a) h1 rfl
 exact PySem.repr_of_reads' (h₀:=s.heap) r1 hs (by rw [hd];nofun) hg (by omega) (fun _ _ e=>e) (fun h' u tk hk=>⟨.str _,H,I.kept hk,⟨u,rfl⟩,q⟩) hz
def sT:D->Bool
 | .tup _=>true
 | .frz _=>true
 | .obj _=>true
 | _=>false
def pF (q:PyData):Bool:=q.showable && !q.hasDict && decide (q.depth<=60) && decide (q.shown.length<=sizeLine)
def qL (ds:List D) (μ:ax):ao D:=match ds with
 | [d]=>match qm μ d with
  | some q=>if sT d=true/\pF q=true then .ok (.str q.shown) μ else .bad
  | none=>.bad
 | _=>.bad
theorem tQ {K:W.Frag}{H:Hp}{α:List Addr}{d:D}{v:V} (h:sT d=true) (r:aG K H α d v):∃ a,v=.ref a:=by
 cases d with
 | tup xs=>obtain ⟨a,us,rfl,_⟩:=aD.mp r;exact ⟨a,rfl⟩
 | frz xs=>obtain ⟨a,us,rfl,_⟩:=ba.mp r;exact ⟨a,rfl⟩
 | obj n=>obtain ⟨a,rfl,_⟩:=aH.mp r;exact ⟨a,rfl⟩
 | _=>cases h
theorem AY:qu p qL (sS p.K):=by
 intro ds vs H α μ Q S r P
 unfold qL at P
 split at P
 ·rename_i d
  split at P
  ·rename_i q hq
   split at P
   ·rename_i hf
    obtain ⟨v,rfl,r1⟩:=r.one
    obtain ⟨a,rfl⟩:=tQ hf.1 r1
    have h2:=hf.2
    unfold pF at h2
    simp only [IE,Bool.not_eq_true',KN] at h2
    exact ⟨a,q,rfl,mF S hq r1,h2.1.1.1,h2.1.1.2,h2.1.2,h2.2,P.now S _ (bo.mpr rfl)⟩
   ·exact P.elim
  ·exact P.elim
 ·exact P.elim
def sP (neg:Bool) (a b:D) (μ:ax):ao D:=match a,b with
 | .str x,.str y=>.ok (.bl (if neg then !decide (x=y) else decide (x=y))) μ
 | _,_=>.bad
theorem zZ {x y:Str}:decide (V.str x=V.str y)=decide (x=y):=by
 by_cases e:x=y
 ·subst e;simp
 ·rw [G3 e, G3]
  intro z;cases z;exact e rfl
theorem DF:qp p (sP true) F3:=by
 intro a b v y H α μ Q S ra rb P
 unfold sP at P
 split at P
 ·rename_i x z
  obtain rfl:=bo.mp ra
  obtain rfl:=bo.mp rb
  exact ⟨rfl,by rw [zZ];exact P.now S _ (aS.mpr rfl)⟩
 ·exact P.elim
theorem BP:nM X p .NotEq (sP true):=⟨F3,Fv,DF⟩
end
end L2
namespace L2
open PySem PySem.W PyProof.Rows RS
section
variable {prog:Program}{w:World}{A:Around}{E:Value->Shared->Prop}
end
section
variable {X:Cx}
def xD (K:W.Frag):List V->Hp->VK->Prop:=fun xs H Q=>sS K xs H Q\/(xs=[.non]/\Q (.str "None") H)\/∃ a:Int,xs=[.int a]/\a.natAbs.log2<1920/\Q (.str (toString a)) H
theorem ua (hu:X.A.units+64<cLine) (hg:X.A.guards=some []):cj X (.builtin "repr") (xD X.K):=by
 intro pins s σ H xs us Q I r h
 rcases h with h | ⟨rfl,q⟩ | ⟨a,rfl,ha,q⟩
 ·exact t9 hu hg pins s σ H xs us Q I r h
 ·obtain ⟨u, rfl, ru⟩ := dY r
  cases ru
  exact PySem.P.repr_of_none ⟨.str _,H,I.kept (fun _ _ e=>e),⟨_,rfl⟩,q⟩
 ·obtain ⟨u, rfl, t, rfl⟩ := dY r
  exact PySem.P.repr_of_int ha ⟨.str _,H,I.kept (fun _ _ e=>e),⟨_,rfl⟩,q⟩
def iU (ds:List D) (μ:ax):ao D:=match ds with
 | [.non]=>.ok (.str "None") μ
 | [.int a]=>if a.natAbs.log2<1920 then .ok (.str (toString a)) μ else .bad
 | ds=>qL ds μ
theorem yK {p:Pa}:qu p iU (xD p.K):=by
 intro ds vs H α μ Q S r P
 unfold iU at P
 split at P
 ·obtain ⟨v, rfl, r1⟩ := r.one
  rw [bD.mp r1]
  exact .inr (.inl ⟨rfl,P.now S _ (bo.mpr rfl)⟩)
 ·obtain ⟨v, rfl, r1⟩ := r.one
  rw [ak.mp r1]
  split at P
  ·rename_i ha
   exact .inr (.inr ⟨_,rfl,ha,P.now S _ (bo.mpr rfl)⟩)
  ·exact P.elim
 ·exact .inl (AY _ vs H α μ Q S r P)
theorem ma {p:Pa}{k:Nat} (hr:eP k X.A) (hK:X.K=p.K:=by rfl):mv X p "repr" iU:=⟨_,_,.inl ⟨_,rfl⟩,by decide +kernel,ua hr.units hr.gd,hK ▸ yK,by decide,by decide⟩
end
theorem GP {α:Type}{P:List α->Prop} (h:∀ a,P [a]):∀ us:List α,us.length=1->P us
 | [a],_=>h a
theorem us2 {α:Type}{P:List α->Prop} (h:∀ a b,P [a,b]):∀ us:List α,us.length=2->P us
 | [a,b],_=>h a b
theorem GO {α:Type}{P:List α->Prop} (h:∀ a b c,P [a,b,c]):∀ us:List α,us.length=3->P us
 | [a,b,c],_=>h a b c
theorem gM.b1 {K:W.Frag}{x qual:Str}{st:Stmt}{f:Addr}{fd:FuncData}{ps:List Str} (F:gM K x qual st f fd) (hl:ps.length=1) (h:∀ (kV doc pm:Value) (an:Option Addr) (cdv ct a:Value),bindArgs (W.fnOf x qual (dn st) (bO st) (ar st) .none kV doc pm an cdv ct) ⟨[a],[]⟩=pure (ps.zip [a])):ff K fd ps []:=
 F.binds fun kV doc pm an cdv ct us e=>GP (P:=fun us=>bindArgs (W.fnOf x qual (dn st) (bO st) (ar st) .none kV doc pm an cdv ct) ⟨us,[]⟩=pure (ps.zip us)) (fun a=>h kV doc pm an cdv ct a) us (e.trans hl)
theorem gM.b2 {K:W.Frag}{x qual:Str}{st:Stmt}{f:Addr}{fd:FuncData}{ps:List Str} (F:gM K x qual st f fd) (hl:ps.length=2) (h:∀ (kV doc pm:Value) (an:Option Addr) (cdv ct a b:Value),bindArgs (W.fnOf x qual (dn st) (bO st) (ar st) .none kV doc pm an cdv ct) ⟨[a,b],[]⟩=pure (ps.zip [a,b])):ff K fd ps []:=
 F.binds fun kV doc pm an cdv ct us e=>us2 (P:=fun us=>bindArgs (W.fnOf x qual (dn st) (bO st) (ar st) .none kV doc pm an cdv ct) ⟨us,[]⟩=pure (ps.zip us)) (fun a b=>h kV doc pm an cdv ct a b) us (e.trans hl)
theorem gM.b3 {K:W.Frag}{x qual:Str}{st:Stmt}{f:Addr}{fd:FuncData}{ps:List Str} (F:gM K x qual st f fd) (hl:ps.length=3) (h:∀ (kV doc pm:Value) (an:Option Addr) (cdv ct a b c:Value),bindArgs (W.fnOf x qual (dn st) (bO st) (ar st) .none kV doc pm an cdv ct) ⟨[a,b,c],[]⟩=pure (ps.zip [a,b,c])):ff K fd ps []:=
 F.binds fun kV doc pm an cdv ct us e=>GO (P:=fun us=>bindArgs (W.fnOf x qual (dn st) (bO st) (ar st) .none kV doc pm an cdv ct) ⟨us,[]⟩=pure (ps.zip us)) (fun a b c=>h kV doc pm an cdv ct a b c) us (e.trans hl)
end L2
namespace L2
open PySem PySem.Spec PyProof.Rows RS
section
variable {X:Cx}{d:Nat}{acc:Addr}
theorem A7 {X:Cx}:F7 X (newSet (.type "set")) (fun a=>.ext fun h=>bJ X.w h a []):=fun pins s σ H Q I h=>by
 unfold newSet setsByText
 simp only [bind_assoc,pure_bind]
 refine HA (Jf ?_)
 try dsimp only
 simp only [newObj]
 refine HA (wpAny_alloc (HE ?_))
 have hS:bJ X.w (s.heap.push { cls:=.type "set",dict:=none,data:=.set #[] 0 (.fresh 0 0 (jD X.w)) }) s.heap.objs.size []:=i6 (HH _ rfl)
 refine h _ (I.laid (t':=s.toks) (fun b o e=>HG _ e) (HI _) ⟨hS,⟨_,HH _ rfl⟩,fun h1 h2 g k=>g.keeps k⟩) (fun b o e=>HG _ e) ?_
 show s.heap.objs.size<(s.heap.push _).objs.size
 rw [Jc];exact Ja _
def xq (K:W.Frag) (w:World) (te:TE) (acc:Addr):zu:=fun σ H N=>te σ H fun y H4=>∃ (r:Addr) (k:List Int) (ps:List KP),y=.ref r/\H4 acc=some (.ext fun h=>bJ w h acc ps)/\k∈prs/\d6 K H4 r (k.map V.int)/\(∀ p∈ps,d6 K H4 p.2 (p.1.map V.int)) /\
 N σ (bT H4 acc (.ext fun h=>bJ w h acc (fR ps k r)))
theorem vI {te:TE}{elt:Expr}{gens:List Comprehension}{scope:Scope}{pos:Pos} (hg:gens[d]?=none) (hxe:X.xe=ug) (hu:X.A.units+64<cLine) (hel:PE X elt te):zw X (.SetComp elt gens scope pos) d acc (xq X.K X.w te acc):=by
 intro pins s σ H N I h
 unfold ka
 show (match gens[d]? with | some g=>_ | none=>_:Prop)
 rw [hg]
 show wpAny _ _ (do let v <- eval elt X.env;standAt elt.pos;let _ <- call (.builtin "set.add") [.ref acc,v]) _ _ _
 have z:=hel pins s σ H _ I h
 rw [hxe] at z
 refine HA (dD z fun v10 s10 ⟨y,H10,I10,r10,r,k,ps,ey,hacc,hk,hr,hps,nn⟩=>?_)
 subst ey
 cases r10
 refine HA (HC (HA ?_))
 obtain ⟨hS,_⟩:=(show cW X.prog X.w H10 s10.heap acc (.ext fun h=>bJ X.w h acc ps) from I10.hok acc _ hacc)
 obtain ⟨o,es,ep,t,Z,S0,k1,k2⟩:=id hS
 have hin:X.A.in1.units<cLine:=by
  have:X.A.in1.units<=X.A.units+1:=by first | exact IW rfl | exact IW (units_in1 _) | exact Nat.le_succ_of_le (IW (units_in1 _))
  omega
 have tps:∀ q∈ps,Tk X.prog X.w s10.heap q.1 q.2:=fun q hq=>oh I10 (hps q hq)
 have tr:Tk X.prog X.w s10.heap k r:=oh I10 hr
 refine IC F.slot_set_add ⟨o,S0.ho,S0.ex.1⟩ F.entry_set_add ?_ (F.args_set_add_2 _ _)
 unfold Builtin.«set.add» Builtin.Frozenset.oneOther
 simp only [List.isEmpty_nil,bind_assoc]
 unfold Builtin.Frozenset.addrOf setAdd
 refine HA (HE ?_)
 try dsimp only
 refine HA (HE ?_)
 try dsimp only
 refine HA (HB ?_)
 refine HA (wpAny_pyHash_tuple hin (oh I10 hr) ?_)
 rw [xM]
 refine xn (s:={ s10 with toks:=s10.toks+(k.length+1) }) hS hk tr tps hin fun b h' hsb hS2=>?_
 show wpAny _ _ (ret Value.none) _ _ _
 refine HE ⟨_,rfl,HE ⟨_,_,?_,nn⟩⟩
 refine I10.write (x:=acc) (e:=acc) (by rw [hacc];exact trivial) (.inl rfl) (fun b' u hb hu=>(hsb.2 b' hb).trans hu) ?_ ⟨hS2,?_,fun h1 h2 g k=>g.keeps k⟩
 ·obtain ⟨o', _, _, _, _, S', _⟩ := hS2
  exact ⟨o',S'.ho⟩
 ·obtain ⟨o', _, _, _, _, S', _⟩ := hS2
  exact ⟨o',S'.ho⟩
variable {e:Expr}{cl0:Comprehension}{rest:List Comprehension}{scope:Scope}{Nc:List Str}{cap:List (Option Nat)}{wi:TI}{g:TG}{tt:TT}{tb:Addr->zu}{elt:Expr}{pos:Pos}
theorem yD (hc:X.calm=true) (hz:∀ g∈cl0::rest,g.is_async=0) (S:bP X.N X.env scope Nc cap) (hi:PI X cl0.target cl0.iter wi)
  (hg:∀ cl C s H fp,PG (gN X Nc scope cl C s H fp) cl0.target g) (ht:∀ cl C s H fp,qo (gN X Nc scope cl C s H fp) cl0.ifs tt) (hb:∀ cl C s H fp acc,zw (gN X Nc scope cl C s H fp) (.SetComp elt (cl0::rest) scope pos) 1 acc (tb acc))
  (hs:∀ x,foldedSetIterable cl0.iter X.env x=pure x):PE X (.SetComp elt (cl0::rest) scope pos) (kP (fun a=>.ext fun h=>bJ X.w h a []) wi cap g tt tb):=by
 intro pins s σ H Q I h
 have h0:=hz cl0 Hj
 obtain ⟨tg0,it0,if0,as0⟩:=cl0
 have h0':as0=0:=h0
 subst h0'
 rw [arm_eval_SetComp]
 refine k9 (e:=.SetComp elt (_::rest) scope pos) (Q:=Q) rfl hz rfl A7 hc S hi hg ht hb I h (fun C acc s' H' I' hf hn q=>?_) hs
 obtain ⟨m,hn⟩:=hn
 refine ⟨m,hn,fun h' sb=>⟨.ref acc,H',?_,rfl,q⟩⟩
 exact I'.turned (t':=s'.toks) (it:=C) (fun b o hb e=>(sb.2 b hb).trans e) hf.1 hf.2.1 hf.2.2.2.1 hf.2.2.2.2.1 hf.2.2.2.2.2
end
section
variable {K:W.Frag}{w:World}{H:Hp}{α:List Addr}{μ:ax}
theorem rO {p:Addr}{φ:Heap->Prop}{o:HO} (h:H p=some (.ext φ)):jJ K H (bT H p o) α α:=by
 refine ⟨fun a xs q=>?_,fun a xs q=>?_,fun _ _ z=>z⟩
 ·rcases q with (q | ⟨x, q⟩) | q
  ·exact .inl (.inl (by rw [aY (oi q h (by intro z;cases z))];exact q))
  ·exact .inl (.inr ⟨x,by rw [aY (oi q h (by intro z;cases z))];exact q⟩)
  ·exact .inr q
 ·rcases q with ⟨x, q⟩ | q
  ·exact .inl ⟨x,by rw [aY (oi q h (by intro z;cases z))];exact q⟩
  ·exact .inr q
theorem pd (S:d5 K w H α μ) {n:Nat}{a:Addr}{ks ks':List (List Int)}{φ:Heap->Prop}{ho:HO} (h1:μ[n]?=some (.set ks)) (h2:α[n]?=some a) (h3:H a=some (.ext φ)) (q:nL K w (bT H a ho) α (.set ks') a):d5 K w (bT H a ho) α (μ.set n (.set ks')):=by
 have e:=rO (K:=K) (α:=α) (o:=ho) h3
 refine ⟨by simp [S.len],S.nd,fun m o b g1 g2=>?_⟩
 have hn:n<μ.length:=(Hq.mp h1).1
 by_cases hm:m=n
 ·subst hm
  rw [Hs hn] at g1
  cases g1
  rw [h2] at g2;cases g2
  exact q
 ·rw [Ht (fun z => hm z.symm)] at g1
  refine (S.ob m o b g1 g2).mono e (aY fun z=>hm ?_)
  subst z
  obtain ⟨l1,e1⟩:=Hq.mp g2
  obtain ⟨l2,e2⟩:=Hq.mp h2
  exact (Hr S.nd).mp (e1.trans e2.symm)
end
def zF (n:Nat) (y:D) (μ:ax):ao Unit:=match μ[n]?,y with
 | some (.set ks),.tup [.int a,.int b]=>if [a,b]∈prs then .ok () (μ.set n (.set (jP ks [a,b]))) else .bad
 | _,_=>.bad
theorem zh {ps:List KP}{k:List Int}{r:Addr}:(fR ps k r).map (·.1)=jP (ps.map (·.1)) k:=by
 unfold fR jP
 split <;> simp
theorem Bt {p:Pa}{n:Nat}{y:D}{μ:ax}{H:Hp}{α:List Addr}{R:Unit->ax->Hp->List Addr->Prop}{v:V}{acc:Addr} (S:p.S H α μ) (ha:α[n]?=some acc) (rv:p.R H α y v) (P:aw p H α (zF n y μ) R) :
  ∃ (r:Addr) (k:List Int) (ps:List KP),v=.ref r/\H acc=some (.ext fun h=>bJ p.w h acc ps)/\k∈prs/\d6 p.K H r (k.map V.int)/\(∀ q∈ps,d6 p.K H q.2 (q.1.map V.int)) /\
   ∃ μ',p.X H (bT H acc (.ext fun h=>bJ p.w h acc (fR ps k r))) α α/\p.S (bT H acc (.ext fun h=>bJ p.w h acc (fR ps k r))) α μ'/\R () μ' (bT H acc (.ext fun h=>bJ p.w h acc (fR ps k r))) α:=by
 unfold zF at P
 split at P
 ·rename_i ks a b hx
  split at P
  ·rename_i hk
   obtain ⟨acc',ea,ps,e1,e2,e3,e4,e5⟩:=S.at hx
   rw [ha] at ea;cases ea
   obtain ⟨r,vs,rfl,h1,rr⟩:=aD.mp rv
   have hvs:vs=[a,b].map V.int:=Reps.ints (ns:=[a,b]) rr
   subst hvs
   have x1:p.X H (bT H acc (.ext fun h=>bJ p.w h acc (fR ps [a,b] r))) α α:=rO e2
   have q:nL p.K p.w (bT H acc (.ext fun h=>bJ p.w h acc (fR ps [a,b] r))) α (.set (jP ks [a,b])) acc:=by
    refine ⟨fR ps [a,b] r,by rw [zh,e1],bG,fun q hq=>?_,nz e4,fun q hq=>?_⟩
    ·rcases ng hq with z | z
     ·exact e3 q z
     ·subst z;exact hk
    ·rcases ng hq with z | z
     ·exact x1.tup _ _ (e5 q z)
     ·subst z;exact x1.tup _ _ h1
   exact ⟨r,[a,b],ps,rfl,e2,hk,h1,e5,_,x1,pd S hx ha e2 q,P _ _ x1 (pd S hx ha e2 q)⟩
  ·exact P.elim
 ·exact P.elim
def um (e:ME):MB:=fun n ρ μ=>(e ρ μ).nox.bind fun y μ1=>(zF n y μ1).bind fun _ μ2=>.ok ρ μ2
noncomputable def pI (fi:MI) (cap:List (Option Nat)) (g:MG) (t:MT) (fb:MB):ME:=fun ρ μ=>(fi ρ μ).bind fun src μ1=>(iM src μ1.length g t fb src.items (fv cap ρ) (μ1++[.set []])).bind fun _ μ2=>.ok (.obj μ1.length) μ2
section
variable {p:Pa}
theorem tT {e:ME}{acc:Addr}{σ:St}{H:Hp}{N:St->Hp->Prop} (h:Ep p (um e) acc σ H N):xq p.K p.w (tD p.nx e) acc σ H N:=by
 obtain ⟨α,ρ,μ,n,S,R,a,P⟩:=h
 refine ⟨α,ρ,μ,S,R,(dO P).imp fun y μ6 H6 α6 X6 S6 P6 v rv=>?_⟩
 obtain ⟨r,k,ps,e1,e2,e3,e4,e5,μ7,x7,s7,q7⟩:=Bt (p:=p) S6 (X6.pre _ _ a) rv (aw.bind P6)
 exact ⟨r,k,ps,e1,e2,e3,e4,e5,q7.now s7 σ ((R.mono X6).mono x7)⟩
theorem tX {fi:MI}{cap:List (Option Nat)}{g:MG}{t:MT}{fb:MB}{σ:St}{H:Hp}{Q:VK} (h:tD p (pI fi cap g t fb) σ H Q):kP (fun a=>.ext fun h=>bJ p.w h a []) (qt p fi) cap (nJ p.nx g) (gL p.nx t) (fun acc=>Ep p.nx fb acc) σ H Q:=by
 obtain ⟨α,ρ,μ,S,R,P⟩:=h
 refine ⟨α,ρ,μ,S,R,(aw.bind P).imp fun src μ1 H1 α1 X1 S1 P1 J hok hJ acc hacc=>?_⟩
 have x1:p.X H1 (bT H1 acc (.ext fun h=>bJ p.w h acc [])) α1 (α1++[acc]):=(bF hacc).trans (fX [acc])
 have s1:p.S (bT H1 acc (.ext fun h=>bJ p.w h acc [])) (α1++[acc]) (μ1++[.set []]):=S1.more hacc ⟨[],rfl,bG,nofun,JR,nofun⟩
 have hn:(α1++[acc])[μ1.length]?=some acc:=by rw [<- S1.len];simp
 refine tP (p:=p) x1 s1 (((R.mono X1).cap cap).mono x1) hn hJ ((aw.from x1 (aw.bind P1)).imp fun ρ' μ' H' α' X' S' P' σ' r'=>?_)
 exact P'.now S' _ (aH.mpr ⟨acc,rfl,X'.pre _ _ hn⟩)
variable {X:Cx}{elt tg iter:Expr}{ifs:List Expr}{rest:List Comprehension}{scope:Scope}{Nc:List Str}{cap:List (Option Nat)}{fi:MI}{g:MG}{tt:MT}{te:ME}{mb:MB}{pos:Pos}{d:Nat}{acc:Addr}
theorem FH {gens:List Comprehension} (hg:gens[d]?=none) (hu:X.A.units+64<cLine) (hel:Bx (PE X elt (tD p.nx te))) (hxe:X.xe=ug:=by rfl) (hK:X.K=p.K:=by rfl) (hw:X.w=p.w:=by rfl):Bx (zw X (.SetComp elt gens scope pos) d acc (Ep p.nx (um te) acc)):=
 ⟨fun pins s σ H N I h=>vI hg hxe hu hel.h pins s σ H N I (by rw [hK,hw];exact tT (p:=p.nx) h)⟩
theorem zP (S:bP X.N X.env scope Nc cap) (hi:Bx (PI X tg iter (qt p fi))) (hg:∀ cl C s H fp,Bx (PG (gN X Nc scope cl C s H fp) tg (nJ p.nx g))) (ht:∀ cl C s H fp,Bx (qo (gN X Nc scope cl C s H fp) ifs (gL p.nx tt))) (hb:∀ cl C s H fp acc,Bx (zw (gN X Nc scope cl C s H fp) (.SetComp elt (⟨tg,iter,ifs,0⟩::rest) scope pos) 1 acc (Ep p.nx mb acc))) (hz:u4 (⟨tg,iter,ifs,0⟩::rest)=true:=by rfl) (hc:X.calm=true:=by rfl) (hs:∀ x,foldedSetIterable iter X.env x=pure x:=by intro _;rfl) (hw:X.w=p.w:=by rfl):Bx (PE X (.SetComp elt (⟨tg,iter,ifs,0⟩::rest) scope pos) (tD p (pI fi cap g tt mb))):=
 ⟨(yD (cl0:=⟨tg,iter,ifs,0⟩) hc (zW hz) S hi.h (fun cl C s H fp=>(hg cl C s H fp).h) (fun cl C s H fp=>(ht cl C s H fp).h) (fun cl C s H fp acc=>(hb cl C s H fp acc).h) hs).weak fun σ H Q h=>by rw [hw];exact tX h⟩
end
section
variable {p:Pa}{X:Cx}{e:Expr}{fr:MA}{pos:Pos}
end
end L2
namespace L2
open PySem PySem.Spec PyProof.Rows RS
abbrev B1 (K:W.Frag) (w:World) (E:XK):Pa:=⟨K,w,fun x _ H _=>∃ C,W.nsIn K mainGlobals x.cls=some (some (.ref C))/\∀ ea,H ea=none->E (.ref C) (some ea) H⟩
def GI (K:W.Frag) (w:World) (n:Nat) (F:List D->ax->ao D):Sp:=fun vs H Q E=>vs.length=n/\∃ α ds μ,d5 K w H α μ/\Reps K H α ds vs/\aw (B1 K w E) H α (F ds μ) (RV (B1 K w E) Q)
structure zJ (P:Program) (w:World) (K:W.Frag) (mg:Str->Option Value) (base:Heap) (k:Nat) (x:Str) (n:Nat) (F:List D->ax->ao D):Prop where
 len:∀ ds μ,ds.length≠n->F ds μ=.bad
 fn:∃ f fd ps,mg x=some (.ref f)/\W.keepIn K (.ref f)=true/\ff K fd ps []/\mr P w K mg base (FV P w) k f fd ps (GI K w n F)
theorem Cm {P:Program}{w:World}{K:W.Frag}{mg:Str->Option Value}{base:Heap}{k n:Nat}{x qual:Str}{st:Stmt}{f:Addr}{fd:FuncData}{N ps:List Str}{fb:MS}
  (F:gM K x qual st f fd) (S:aW N ps (ar st)) (hn:ps.length=n) (hm:mg x=some (.ref f)) (hb:ff K fd ps [])
  (body : ∀ (cdv : Value) (A : Around) (outer : List Env) (s : Shared) (H : Hp) (E : XK), eP k (A.deeper (envOfC qual (ar st) s.heap.objs.size f cdv)) ->
   Bx (hZ (zr P w K mg base N qual (ar st) f cdv A outer s H E) (bO st) (gb (B1 K w E) fb))):zJ P w K mg base (k+1) x n (iC n N.length fb):=by
 refine ⟨fun ds μ h=>by unfold iC;rw [G7 h],f,fd,ps,hm,F.kp,hb,?_⟩
 obtain ⟨oc,od,kV,doc,pm,an,cdv,ct,osl,rfl,lk,hcd⟩:=F.ex
 refine BR lk hcd S (fun vs H Q E h=>h.1.trans hn.symm) fun A outer s H vs Q E hr h=>?_
 refine ⟨_,(body cdv A outer s H E hr).h,?_⟩
 obtain ⟨hl,α,ds,μ,S1,R1,P1⟩:=h
 unfold iC at P1
 have hd:ds.length=n:=by rw [<- R1.length];exact hl
 rw [G6 hd] at P1
 have P2:=l5 S1 P1
 unfold start
 rw [hl]
 refine ⟨α,_,μ,S1,iy R1 _,?_⟩
 cases e:fb (ds.map some++List.replicate (N.length - n) none) μ with
 | ret d μ'=>rw [e] at P2;exact fun H' α' v x s r=>P2 H' α' x s v r
 | next ρ μ'=>rw [e] at P2;exact fun H' α' σ' x s r=>P2 H' α' x s .non (bD.mpr rfl)
 | exc x μ'=>rw [e] at P2;exact P2
 | brk ρ μ'=>rw [e] at P2;exact P2.elim
 | cnt ρ μ'=>rw [e] at P2;exact P2.elim
 | bad=>rw [e] at P2;exact P2.elim
section
variable {X:Cx}{E:XK}{k n:Nat}{x:Str}{F:List D->ax->ao D}{a:Expr}{es:List Expr}{fr:MA}{pos px:Pos}
theorem zQ (h:zJ X.prog X.w X.K X.mg X.base k x n F) (hp:jT (FV X.prog X.w) X E) (hr:eP k X.A) (ha:Bx (PA X (a::es) (j5 (B1 X.K X.w E) fr))) (hg:Gl X x:=by rfl) (hdb:(x == ("__debug__" : Str))=false:=by decide)
  (he:starEach (a::es) X.env=(false,eval a X.env)::starEach es X.env:=by rfl) (hpl:(backTo pos (starEach es X.env)).any (·.1)=false:=by rfl):Bx (PE X (.Call (.Name x px) (a::es) [] pos) (tD (B1 X.K X.w E) (aC F fr))):=Bx.mk (by
 obtain ⟨f,fd,ps,h1,h2,h3,h4⟩:=h.fn
 refine (pO (dvs:=[]) (E:=E) h4 hr hg h1 h2 h3 .nil hp ha.h hdb he hpl).weak fun σ H Q ⟨α,ρ,μ,S,R,P⟩=>⟨α,ρ,μ,S,R,(aw.bind P).imp fun ds μ1 H1 α1 X1 S1 P1 vs rv=>?_⟩
 show GI X.K X.w n F (vs++[]) H1 Q E
 rw [HS]
 refine ⟨?_,α1,ds,μ1,S1,rv,P1⟩
 by_cases hl:ds.length=n
 ·rw [rv.length];exact hl
 ·rw [h.len ds μ1 hl] at P1;exact P1.elim)
theorem uu {p:Pa} (h:fq X.prog X.w X.K X.mg X.base p.nx k x n F) (hr:eP k X.A) (ha:Bx (PA X (a::es) (j5 p fr))) (hg:Gl X x:=by rfl) (hdb:(x == ("__debug__" : Str))=false:=by decide)
  (he:starEach (a::es) X.env=(false,eval a X.env)::starEach es X.env:=by rfl) (hpl:(backTo pos (starEach es X.env)).any (·.1)=false:=by rfl):Bx (PE X (.Call (.Name x px) (a::es) [] pos) (tD p (aC (fun ds μ=>(F ds μ).nox) fr))):=Bx.mk (by
 obtain ⟨f,fd,ps,h1,h2,h3,h4⟩:=h.fn
 refine (pO (dvs:=[]) (E:=E0) h4 hr hg h1 h2 h3 .nil xb ha.h hdb he hpl).weak fun σ H Q ⟨α,ρ,μ,S,R,P⟩=>⟨α,ρ,μ,S,R,(aw.bind P).imp fun ds μ1 H1 α1 X1 S1 P1 vs rv=>?_⟩
 show zj p.nx n F (vs++[]) H1 Q E0
 rw [HS]
 have P2:aw p.nx H1 α1 (F ds μ1) (RV p.nx Q):=by
  cases e:F ds μ1 with
  | ok d μ'=>rw [e] at P1;exact P1
  | exc y μ'=>rw [e] at P1;exact False.elim P1
  | bad=>rw [e] at P1;exact P1
 refine ⟨?_,α1,ds,μ1,S1,rv,P2⟩
 by_cases hl:ds.length=n
 ·rw [rv.length];exact hl
 ·rw [h.len ds μ1 hl] at P2;exact P2.elim)
end
def xu (c:Str):MS:=fun _ μ=>.exc ⟨c,[]⟩ μ
section
variable {P:Program}{w:World}{K:W.Frag}{mg:Str->Option Value}{base:Heap}{N:List Str}{qual:Str}{scope:Scope}{f:Addr}{cdv:Value}{A:Around}{outer:List Env}{s0:Shared}{H0:Hp}{E:XK}
theorem zM {c:Str}{C:Addr}{np cpos pos:Pos} (hc:W.nsIn K mainGlobals c=some (some (.ref C))) (O:ve mg base c C) (hg:Gl (zr P w K mg base N qual scope f cdv A outer s0 H0 E) c:=by rfl) (hd:(c == ("__debug__" : Str))=false:=by decide) :
  Bx (PS (zr P w K mg base N qual scope f cdv A outer s0 H0 E) (.Raise (some (.Call (.Name c np) [] [] cpos)) none pos) (gb (B1 K w E) (xu c))):=Bx.mk (by
 refine (vD O hg hd).weak fun D σ H ⟨α,ρ,μ,S,R,P⟩=>?_
 obtain ⟨C',h1,h2⟩:=P H α jJ.refl S
 rw [hc] at h1
 cases h1
 exact h2)
end
def SO.ro (o:SO):SO:=match o with
 | .ret d μ=>.ret d μ
 | _=>.bad
def wL (known:List Str) (i N:Nat) (fb fh:MS):MS:=fun ρ μ=>match fb ρ μ with
 | .exc x μ'=>if known.contains x.cls=true then (fh ((List.replicate N none).set i (some (.obj μ'.length))) (μ'++[.exc x.cls])).ro else .bad
 | o=>o
def qQ (K:W.Frag) (r:Str) (R:Addr) (known:List Str):Prop:=∀ c∈known,∃ C,W.nsIn K mainGlobals c=some (some (.ref C))/\W.exmOne K (.ref C) (.ref R)=some true
theorem du.ro {p:Pa}{H:Hp}{α:List Addr}{o:SO}{D:kO} (h:du p H α o.ro D):du p H α o { nx:=fun _ _=>False,rt:=D.rt }:=by
 cases o with
 | ret d μ=>exact h
 | next ρ μ=>exact False.elim h
 | brk ρ μ=>exact False.elim h
 | cnt ρ μ=>exact False.elim h
 | exc x μ=>exact False.elim h
 | bad=>exact False.elim h
theorem ER {X:Cx}{xw:DX->ax->Hp->List Addr->Prop}{r n:Str}{R:Addr}{known:List Str}{i m:Nat}{np hpos pos:Pos}{body suite:List Stmt}{b0:Stmt}{fb fh:MS}
  (F:X.Fn) (hN:X.N.Nodup) (hk:qQ X.K r R known) (hm:X.mg r=some (.ref R)) (hb:∀ pins E,Bx (hZ (X.tri pins E) body (gb (B1 X.K X.w E) fb))) (hs:∀ ea,Bx (hZ (X.hnd ea) (b0::suite) (gb ⟨X.K,X.w,xw⟩ fh)))
  (hl:X.N.length=m:=by rfl) (hi:X.N[i]?=some n:=by rfl) (hx:zo X.env.scope n:=by exact Or.inl rfl) (hlo:X.env.kindOf n=some .local:=by rfl) (hg:Gl X r:=by rfl) (hd:(r == ("__debug__" : Str))=false:=by decide) :
  Bx (PS X (.Try body [.ExceptHandler (some (.Name r np)) (some n) (b0::suite) hpos] [] [] pos) (gb ⟨X.K,X.w,xw⟩ (wL known i m fb fh))):=Bx.mk (by
 refine (C6 F hN hi hx hlo hg hm hd (fun pins E=>(hb pins E).h) fun ea=>(hs ea).h).weak fun D σ H ⟨α,ρ,μ,S,Rl,P⟩=>?_
 refine ⟨fun cls ea' H'=>∃ C ea,cls=.ref C/\ea'=some ea/\(W.exmOne X.K (.ref C) (.ref R)=some true/\∀ σ':St,σ'.length=X.N.length->gb ⟨X.K,X.w,xw⟩ fh { nx:=fun _ _=>False,rt:=D.rt } (σ'.set i (some (.ref ea))) (bT H' ea (qE ea C))),
  fun C ea H' h _=>?_,α,ρ,μ,S,Rl,?_⟩
 ·obtain ⟨C', ea', h1, h2, h3⟩ := h
  cases h1
  cases h2
  exact h3
 ·unfold wL at P
  cases e:fb ρ μ with
  | ret d μ'=>rw [e] at P;exact P
  | next ρ' μ'=>rw [e] at P;exact P
  | brk ρ' μ'=>rw [e] at P;exact P
  | cnt ρ' μ'=>rw [e] at P;exact P
  | bad=>rw [e] at P;exact P
  | exc x μ'=>
   rw [e] at P
   dsimp only at P
   by_cases hc:known.contains x.cls=true
   ·rw [G6 hc] at P
    obtain ⟨C,c1,c2⟩:=hk x.cls (List.contains_iff_mem.mp hc)
    intro H' α' X' S'
    refine ⟨C,c1,fun ea hea=>⟨C,ea,rfl,rfl,c2,fun σ' hσ=>?_⟩⟩
    have X3:jJ X.K H H' α α':=X'
    have X2:jJ X.K H' (bT H' ea (qE ea C)) α' (α'++[ea]):=(bF hea).trans (fX [ea])
    have S2:d5 X.K X.w (bT H' ea (qE ea C)) (α'++[ea]) (μ'++[.exc x.cls]):=d5.more S' hea ⟨C,c1,bG⟩
    refine ⟨α'++[ea],_,_,S2,⟨by simp [hσ,hl],fun j d hj=>?_⟩,(du.from (p:=⟨X.K,X.w,xw⟩) (X3.trans X2) P).ro⟩
    by_cases hji:j=i
    ·subst hji
     have hlt:j<(List.replicate m (none:Option L2.D)).length:=by
      have:=(Hq.mp hi).1
      simp;omega
     rw [Hs hlt] at hj
     cases hj
     refine ⟨.ref ea,by rw [Hs (by rw [hσ];simpa [hl] using hlt)],aH.mpr ⟨ea,rfl,?_⟩⟩
     have hla:α'.length=μ'.length:=S'.len
     rw [<- hla,Ic (HI _)]
     simp
    ·rw [Ht (Hm hji), Ie] at hj
     split at hj <;> cases hj
   ·rw [G7 hc] at P
    exact False.elim P)
theorem xO {CX:qq}{P:Program}{w:World}{K:W.Frag}{mg:Str->Option Value}{base:Heap}{N:List Str}{qual:Str}{scope:Scope}{f:Addr}{cdv:Value}{A:Around}{outer:List Env}{s:Shared}{H:Hp}{E:XK}:(mn CX P w K mg base N qual scope f cdv A outer s H E).nox.Fn:=⟨rfl,rfl,rfl⟩
theorem oV {x:V}:∀ {xs:List V}{us:List Value},aU xs us->xs.all iP=true->us.countP (B2 x)=xs.countP fun y=>ue y x
 | _,_,.nil,_=>rfl
 | y::xs,u::us,.cons r t,f=>by
  rw [IJ,IE] at f
  rw [List.countP_cons,List.countP_cons,sX r f.1,oV t f.2]
def xG:V->List V->Hp->VK->Prop:=fun x vs H Q=>∃ l xs y,x=.ref l/\vs=[y]/\H l=some (.lst xs)/\iP y=true/\xs.all iP=true/\Q (.int (xs.countP fun z=>ue z y:Nat)) H
def xF:V->List V->Hp->VK->Prop:=fun x vs H Q=>∃ l xs y j,x=.ref l/\vs=[y]/\H l=some (.lst xs)/\iP y=true/\xs.all iP=true/\(∃ z,xs[j]?=some z/\ue z y=true)/\(∀ m z,m<j->xs[m]?=some z->ue z y=false)/\xs.length<1000/\Q (.int (j:Nat)) H
section
variable {X:Cx}
theorem yR:FR X "list.count" xG:=by
 intro pins s σ H x vs v us Q I rx rv h
 obtain ⟨l,xs,y,rfl,rfl,hH,fy,fs,q⟩:=h
 cases rx
 obtain ⟨u,rfl,ru⟩:=rv.one
 obtain ⟨z,its,n,r,hl,e⟩:=I.lstM hH
 refine IR F.slot_list_count ⟨_,e,rfl⟩ F.entry_list_count (F.args_list_count_2 _ _) (SeqAt.list_countAt l its.toArray n none #[] u (B2 y)) ⟨e,fun w hw=>mY ru fy r fs w (by simpa using hw),?_⟩
 refine ⟨.int (xs.countP fun z=>ue z y:Nat),H,I.tok _,⟨s.toks,?_⟩,q⟩
 rw [<- oV r fs]
theorem yQ:FR X "list.index" xF:=by
 intro pins s σ H x vs v us Q I rx rv h
 obtain ⟨l,xs,y,j,rfl,rfl,hH,fy,fs,⟨z0,hz,ht⟩,hno,hsz,q⟩:=h
 cases rx
 obtain ⟨u,rfl,ru⟩:=rv.one
 obtain ⟨z,its,n,r,hl,e⟩:=I.lstM hH
 have hlt:j<xs.length:=(Hq.mp hz).1
 have hb:∀ m w,its[m]?=some w->∃ z,xs[m]?=some z/\B2 y w=ue z y:=fun m w hw=>by
  have hm:m<its.length:=(Hq.mp hw).1
  have hm':m<xs.length:=by rw [r.length];exact hm
  obtain ⟨u',hu',ru'⟩:=r.get (KA hm')
  rw [hw] at hu'
  cases hu'
  exact ⟨_,KA hm',sX ru' (JV.mp fs _ (Ky hm'))⟩
 have hlen:=r.length
 refine IR F.slot_list_index ⟨_,e,rfl⟩ F.entry_list_index (F.args_list_index_2 _ _) (SeqAt.list_indexAt l its.toArray n none #[] u (B2 y) j (by rw [HR];omega) (by omega) ?_ ?_) ⟨e,fun w hw=>mY ru fy r fs w (by simpa using hw),?_⟩
 ·have hw : its[j]? = some its[j] := KA (by omega)
  obtain ⟨z1,a1,a2⟩:=hb j _ hw
  rw [hz] at a1
  cases a1
  show B2 y its.toArray[j]=true
  rw [List.getElem_toArray,a2];exact ht
 ·intro m hm hmj
  have hm':m<its.length:=by rw [HR] at hm;exact hm
  obtain ⟨z1,a1,a2⟩:=hb m _ (KA hm')
  rw [List.getElem_toArray,a2]
  exact hno m z1 hmj a1
 ·exact ⟨.int (j:Nat),H,I.tok _,⟨s.toks,rfl⟩,q⟩
end
def iO:List D->Bool
 | []=>true
 | .bl _::r=>iO r
 | _::_=>false
def kN:D->Bool
 | .bl b=>b
 | _=>false
theorem rT {K:W.Frag}{H:Hp}{α:List Addr}{xs:List D}:∀ {vs:List V},Reps K H α xs vs->iO xs=true->vs=xs.map fun d=>V.bl (kN d):=by
 induction xs with
 | nil=>intro vs h _;simp only [Reps] at h;exact h
 | cons d r ih=>
  intro vs h q
  simp only [Reps] at h
  obtain ⟨v,r',rfl,h1,h2⟩:=h
  cases d with
  | bl b=>rw [aS.mp h1,ih h2 (by simpa only [iO] using q)];rfl
  | non=>simp only [iO] at q;cases q
  | int i=>simp only [iO] at q;cases q
  | str i=>simp only [iO] at q;cases q
  | tup i=>simp only [iO] at q;cases q
  | frz i=>simp only [iO] at q;cases q
  | obj i=>simp only [iO] at q;cases q
theorem m8:∀ xs:List D,(xs.map fun d=>V.bl (kN d)).all iP=true
 | []=>rfl
 | _::xs=>by rw [IH,IJ,m8 xs];rfl
def jl (d:D) (ds:List D) (μ:ax):ao D:=match d,ds with
 | .obj n,[.bl true]=>match μ[n]? with
  | some (.lst xs)=>if iO xs=true then .ok (.int (xs.countP kN:Nat)) μ else .bad
  | _=>.bad
 | _,_=>.bad
def jk (d:D) (ds:List D) (μ:ax):ao D:=match d,ds with
 | .obj n,[.bl true]=>match μ[n]? with
  | some (.lst xs)=>if iO xs=true/\xs.length<1000/\xs.any kN=true then .ok (.int (xs.findIdx kN:Nat)) μ else .bad
  | _=>.bad
 | _,_=>.bad
section
variable {p:Pa}
theorem vQ:FS p jl xG:=by
 intro d ds v vs H α μ Q S rd rs P
 unfold jl at P
 split at P
 ·split at P
  ·rename_i n xs hx
   split at P
   ·rename_i hb
    obtain ⟨a,us,rfl,a1,h1,rr⟩:=cT S rd hx
    have hv:=rT rr hb
    simp only [Reps] at rs
    obtain ⟨y,r',rfl,h3,rfl⟩:=rs
    rw [aS.mp h3]
    refine ⟨a,us,.bl true,rfl,rfl,h1,rfl,by rw [hv];exact m8 xs,?_⟩
    have z:=P.now S (.int (xs.countP kN:Nat)) (ak.mpr rfl)
    have e:(us.countP fun z=>ue z (.bl true))=xs.countP kN:=by
     rw [hv,List.countP_map]
     congr 1
     funext d
     cases h:kN d <;> simp [ue,h]
    rw [e];exact z
   ·exact P.elim
  ·exact P.elim
 ·exact P.elim
theorem vP:FS p jk xF:=by
 intro d ds v vs H α μ Q S rd rs P
 unfold jk at P
 split at P
 ·split at P
  ·rename_i n xs hx
   split at P
   ·rename_i hb
    obtain ⟨hb,hlen,hany⟩:=hb
    obtain ⟨a,us,rfl,a1,h1,rr⟩:=cT S rd hx
    have hv:=rT rr hb
    simp only [Reps] at rs
    obtain ⟨y,r',rfl,h3,rfl⟩:=rs
    rw [aS.mp h3]
    have hlt:xs.findIdx kN<xs.length:=List.findIdx_lt_length_of_exists (by simpa using hany)
    refine ⟨a,us,.bl true,xs.findIdx kN,rfl,rfl,h1,rfl,by rw [hv];exact m8 xs,⟨.bl true,?_,rfl⟩,fun m z hm hz=>?_,by rw [hv,Il];exact hlen,P.now S (.int (xs.findIdx kN:Nat)) (ak.mpr rfl)⟩
    ·rw [hv, Ih, KA hlt]
     have:=List.findIdx_getElem (w:=hlt)
     simp [this]
    ·rw [hv, Ih, KA (by omega : m < xs.length)] at hz
     cases hz
     have hf:=List.not_of_lt_findIdx hm
     show (kN _ == true)=false
     rw [beq_true]
     cases z:kN xs[m] with
     | false=>rfl
     | true=>rw [z] at hf;exact absurd hf (by decide)
   ·exact P.elim
  ·exact P.elim
 ·exact P.elim
end
def jN (subs known:List Str) (d:D) (μ:ax):ao D:=match d with
 | .obj n=>match μ[n]? with
  | some (.exc c)=>if known.contains c=true then .ok (.bl (subs.contains c)) μ else .bad
  | _=>.bad
 | _=>.bad
def bC (K:W.Frag) (u:Value) (subs known:List Str):Prop:=∀ c∈known,∃ C,W.nsIn K mainGlobals c=some (some (.ref C))/\W.excCls K C=true/\W.kitOne K (.ref C) u=some (subs.contains c)
theorem xK {p:Pa}{K:W.Frag}{u:Value}{v x:V}{subs known:List Str}{d:D}{H:Hp}{α:List Addr}{μ:ax}{Q:VK} (hK:K=p.K) (hk:bC K u subs known) (ru:bH v u) (S:p.S H α μ) (r:p.R H α d x) (P:aw p H α (jN subs known d μ) (RV p Q)):EE K u [x,v] H Q:=by
 subst hK
 unfold jN at P
 split at P
 ·split at P
  ·rename_i n c hx
   split at P
   ·rename_i hc
    obtain ⟨a,ea,C,h1,h2⟩:=S.at hx
    obtain ⟨a',rfl,ea'⟩:=aH.mp r
    rw [ea] at ea';cases ea'
    obtain ⟨C',k1,k2,k3⟩:=hk c (List.contains_iff_mem.mp hc)
    rw [h1] at k1
    cases k1
    exact ⟨a,C,_,v,rfl,ru,h2,k2,k3,P.now S _ (aS.mpr rfl)⟩
   ·exact P.elim
  ·exact P.elim
 ·exact P.elim
section
variable {X:Cx}{p:Pa}{a e ob:Expr}{fa fo:ME}{fr:MA}{pos px pt apos:Pos}{xT:Str}{subs known:List Str}
theorem lC {C:Addr} (hk:bC X.K (.ref C) subs known) (hm:X.mg "isinstance" = none) (hmT:X.mg xT=some (.ref C)) (ha:Bx (PE X a (tD p fa))) (hg:Gl X "isinstance" := by rfl) (hgT:Gl X xT:=by rfl) (hdT:(xT == ("__debug__" : Str))=false:=by decide)
  (hs1:starEach [a,.Name xT pt] X.env=(false,eval a X.env)::starEach [.Name xT pt] X.env:=by rfl) (hK:X.K=p.K:=by rfl):Bx (PE X (.Call (.Name "isinstance" px) [a,.Name xT pt] [] pos) (tD p (lW (jN subs known) fa))):=Bx.mk (by
 have hb:PE X (.Name xT pt) (tC (.ref C)):=uF hgT hmT rfl hdT
 refine (kj (rR (u:=.ref C) fun v w h1 h2=>?_) hg hm KR (gp ha.h (gp hb mJ rfl) hs1) (by decide) (by decide) hs1 rfl).weak fun σ H Q ⟨α,ρ,μ,S,R,P⟩=>⟨α,ρ,μ,S,R,(aw.bind P).imp fun d μ1 H1 α1 X1 S1 P1 v rv=>?_⟩
 ·cases v with
  | ref b=>cases (show Value.ref C=Value.ref b from h1);exact h2
  | non=>cases (show Value.ref C=Value.none from h1)
  | bl b=>cases (show Value.ref C=Value.bool b from h1)
  | int b=>obtain ⟨t,z⟩:=(show ∃ t,Value.ref C=Value.int b t from h1);cases z
  | str b=>obtain ⟨t,z⟩:=(show ∃ t,Value.ref C=Value.str b t from h1);cases z
  | byt b=>obtain ⟨t,z⟩:=(show ∃ t,Value.ref C=Value.bytes b t from h1);cases z
  | flt b=>obtain ⟨t,z⟩:=(show ∃ t,Value.ref C=Value.float b t from h1);cases z
  | ty b=>cases (show Value.ref C=Value.type b from h1)
 ·exact xK hK hk rfl S1 rv P1)
theorem Co {T:String} (hk:bC X.K (.type T) subs known) (hm:X.mg "isinstance" = none) (hmT:X.mg xT=none) (hbT:bootBuiltins xT=some (.type T)) (ha:Bx (PE X a (tD p fa))) (hg:Gl X "isinstance" := by rfl) (hgT:Gl X xT:=by rfl) (hnT:xT ≠ "__name__" := by decide) (hdT:(xT == ("__debug__" : Str))=false:=by decide)
  (hs1:starEach [a,.Name xT pt] X.env=(false,eval a X.env)::starEach [.Name xT pt] X.env:=by rfl) (hK:X.K=p.K:=by rfl):Bx (PE X (.Call (.Name "isinstance" px) [a,.Name xT pt] [] pos) (tD p (lW (jN subs known) fa))):=Bx.mk (by
 have hb:PE X (.Name xT pt) (tC (.ty T)):=uG hgT hmT hbT rfl hnT hdT
 refine (kj (rR (u:=.type T) fun v w h1 h2=>?_) hg hm KR (gp ha.h (gp hb mJ rfl) hs1) (by decide) (by decide) hs1 rfl).weak fun σ H Q ⟨α,ρ,μ,S,R,P⟩=>⟨α,ρ,μ,S,R,(aw.bind P).imp fun d μ1 H1 α1 X1 S1 P1 v rv=>?_⟩
 ·cases v with
  | ty b=>cases (show Value.type T=Value.type b from h1);exact h2
  | non=>cases (show Value.type T=Value.none from h1)
  | bl b=>cases (show Value.type T=Value.bool b from h1)
  | int b=>obtain ⟨t,z⟩:=(show ∃ t,Value.type T=Value.int b t from h1);cases z
  | str b=>obtain ⟨t,z⟩:=(show ∃ t,Value.type T=Value.str b t from h1);cases z
  | byt b=>obtain ⟨t,z⟩:=(show ∃ t,Value.type T=Value.bytes b t from h1);cases z
  | flt b=>obtain ⟨t,z⟩:=(show ∃ t,Value.type T=Value.float b t from h1);cases z
  | ref b=>cases (show Value.type T=Value.ref b from h1)
 ·exact xK hK hk rfl S1 rv P1)
theorem EX (ho:Bx (PE X ob (tD p fo))) (ha:Bx (PA X [e] (j5 p fr))) (hbase:attributeBase ob "count" X.env (eval ob X.env)=eval ob X.env:=by rfl) (hfew:((backTo pos (starEach [e] X.env)).all (fun x=>!x.1) && (backToKw pos (keywordEach [] X.env)).all (fun x=>x.1.isSome)
   && decide ([e].length+([]:List Keyword).length+(if ([]:List Keyword).isEmpty then 0 else 1)<30))=true:=by rfl) (hline:(apos.endLine == pos.line)=true:=by rfl) (hs:starEach [e] X.env=(false,eval e X.env)::starEach [] X.env:=by rfl) (hpl:(backTo pos (starEach [] X.env)).any (·.1)=false:=by rfl) (hK:X.K=p.K:=by rfl):Bx (PE X (.Call (.Attribute ob "count" apos) [e] [] pos) (tD p (By jl fo fr))):=
 ⟨wZ hK PySem.F.slot_list_count PySem.F.type_list_count yR vQ ho.h ha.h hbase hfew hline hs hpl⟩
theorem EW (ho:Bx (PE X ob (tD p fo))) (ha:Bx (PA X [e] (j5 p fr))) (hbase:attributeBase ob "index" X.env (eval ob X.env)=eval ob X.env:=by rfl) (hfew:((backTo pos (starEach [e] X.env)).all (fun x=>!x.1) && (backToKw pos (keywordEach [] X.env)).all (fun x=>x.1.isSome)
   && decide ([e].length+([]:List Keyword).length+(if ([]:List Keyword).isEmpty then 0 else 1)<30))=true:=by rfl) (hline:(apos.endLine == pos.line)=true:=by rfl) (hs:starEach [e] X.env=(false,eval e X.env)::starEach [] X.env:=by rfl) (hpl:(backTo pos (starEach [] X.env)).any (·.1)=false:=by rfl) (hK:X.K=p.K:=by rfl):Bx (PE X (.Call (.Attribute ob "index" apos) [e] [] pos) (tD p (By jk fo fr))):=
 ⟨wZ hK PySem.F.slot_list_index PySem.F.type_list_index yQ vP ho.h ha.h hbase hfew hline hs hpl⟩
end
structure zK (P:Program) (w:World) (K:W.Frag) (mg:Str->Option Value) (base:Heap) (p:Pa) (k:Nat) (x:Str) (n:Nat) (F:List D->ax->ao D):Prop where
 len:∀ ds μ,ds.length≠n->F ds μ=.bad
 fn:∃ f fd ps,mg x=some (.ref f)/\W.keepIn K (.ref f)=true/\ff K fd ps []/\qR P w K mg base sH k f fd ps (zj p n F)
theorem Cn {P:Program}{w:World}{K:W.Frag}{mg:Str->Option Value}{base:Heap}{p:Pa}{k n:Nat}{x qual:Str}{st:Stmt}{f:Addr}{fd:FuncData}{N ps:List Str}{fb:MS}
  (F:gM K x qual st f fd) (S:aW N ps (ar st)) (hn:ps.length=n) (hm:mg x=some (.ref f)) (hb:ff K fd ps [])
  (body : ∀ (cdv : Value) (A : Around) (outer : List Env) (s : Shared) (H : Hp) (E : XK), dr k (A.deeper (envOfC qual (ar st) s.heap.objs.size f cdv)) ->
   Bx (hZ (mC sH P w K mg base N qual (ar st) f cdv A outer s H E).nox (bO st) (gb p fb))):zK P w K mg base p (k+1) x n (iC n N.length fb):=by
 refine ⟨fun ds μ h=>by unfold iC;rw [G7 h],f,fd,ps,hm,F.kp,hb,?_⟩
 refine F.okH S (fun vs H Q E h=>h.1.trans hn.symm) fun cdv A outer s H vs Q E hr h=>?_
 refine ⟨_,(body cdv A outer s H E hr).h,?_⟩
 obtain ⟨hl,α,ds,μ,S1,R1,P1⟩:=h
 unfold iC at P1
 have hd:ds.length=n:=by rw [<- R1.length];exact hl
 rw [G6 hd] at P1
 have P2:=l5 S1 P1
 unfold start
 rw [hl]
 refine ⟨α,_,μ,S1,iy R1 _,?_⟩
 cases e:fb (ds.map some++List.replicate (N.length - n) none) μ with
 | ret d μ'=>rw [e] at P2;exact fun H' α' v x s r=>P2 H' α' x s v r
 | next ρ μ'=>rw [e] at P2;exact fun H' α' σ' x s r=>P2 H' α' x s .non (bD.mpr rfl)
 | exc x μ'=>rw [e] at P2;exact P2
 | brk ρ μ'=>rw [e] at P2;exact P2.elim
 | cnt ρ μ'=>rw [e] at P2;exact P2.elim
 | bad=>rw [e] at P2;exact P2.elim
theorem zR {X:Cx}{p:Pa}{k n:Nat}{x:Str}{F:List D->ax->ao D}{a:Expr}{es:List Expr}{fr:MA}{pos px:Pos} (h:zK X.prog X.w X.K X.mg X.base p k x n F) (hr:dr k X.A) (ha:Bx (PA X (a::es) (j5 p fr))) (hg:Gl X x:=by rfl) (hdb:(x == ("__debug__" : Str))=false:=by decide)
  (he:starEach (a::es) X.env=(false,eval a X.env)::starEach es X.env:=by rfl) (hpl:(backTo pos (starEach es X.env)).any (·.1)=false:=by rfl):Bx (PE X (.Call (.Name x px) (a::es) [] pos) (tD p (aC F fr))):=Bx.mk (by
 obtain ⟨f,fd,ps,h1,h2,h3,h4⟩:=h.fn
 refine (yG (dvs:=[]) (E:=E0) h4 hr hg h1 h2 h3 .nil xb ha.h hdb he hpl).weak fun σ H Q ⟨α,ρ,μ,S,R,P⟩=>⟨α,ρ,μ,S,R,(aw.bind P).imp fun ds μ1 H1 α1 X1 S1 P1 vs rv=>?_⟩
 show zj p n F (vs++[]) H1 Q E0
 rw [HS]
 refine ⟨?_,α1,ds,μ1,S1,rv,P1⟩
 by_cases hl:ds.length=n
 ·rw [rv.length];exact hl
 ·rw [h.len ds μ1 hl] at P1;exact P1.elim)
theorem nX:bootBuiltins "ValueError" = some (.type "ValueError"):=PyProof.Rows.Boot.«ValueError»
def yU (K:W.Frag) (u:Value) (subs known:List Str):Bool:=known.all fun c=>match W.nsIn K mainGlobals c with
 | some (some (.ref C))=>W.excCls K C && W.kitOne K (.ref C) u == some (subs.contains c)
 | _=>false
theorem bC.of {K:W.Frag}{u:Value}{subs known:List Str} (h:yU K u subs known=true):bC K u subs known:=fun c hc=>by
 have q:=JV.mp h c hc
 split at q
 ·rename_i C e
  rw [IE] at q
  exact ⟨C,e,q.1,beq_iff_eq.mp q.2⟩
 ·cases q
def DO (K:W.Frag) (R:Addr) (known:List Str):Bool:=known.all fun c=>match W.nsIn K mainGlobals c with
 | some (some (.ref C))=>W.exmOne K (.ref C) (.ref R) == some true
 | _=>false
theorem qQ.of {K:W.Frag}{r:Str}{R:Addr}{known:List Str} (h:DO K R known=true):qQ K r R known:=fun c hc=>by
 have q:=JV.mp h c hc
 split at q
 ·rename_i C e
  exact ⟨C,e,beq_iff_eq.mp q⟩
 ·cases q
theorem ve.of {K:W.Frag}{base:Heap}{mg:Str->Option Value}{x nm q:Str}{C N:Addr}{bs bm:List Value}{hd:Bool}{sn:List Str}{sub:List Value}{ab:Bool}{col:Option Bool}{dd:Option Addr}{k0 k1 k2 k3 k5:Option Value} (X:K.In base) (G:base.Ns mainGlobals mg) (e:W.nsIn K mainGlobals x=some (some (.ref C)))
  (l:K.lookup C=some (excClassObj nm q C N bs bm hd sn sub ab col dd k0 k1 k2 k3 k5 "ValueError.__new__")) (h1:W.nsOkIn K N=true) (h2:W.nsIn K N "__init__" = some none) (h3:W.tailIn K [.type "ValueError",.type "Exception",.type "BaseException",.type "object"] bm=true):ve mg base x C:=
 ⟨_,_,_,_,⟨W.mg_of X G e,bm,N,nm,q,bs,hd,sn,sub,ab,col,dd,k0,k1,k2,k3,k5,_,X _ _ l,.of_isNs (W.isNs_of_in X h1),W.nsMap_none_of_in X h1 h2,W.tail_of_in X h3⟩,PySem.F.excBase_ValueError⟩
end L2
namespace Lw
open PySem L2
section
variable {P:Program}{w:World}{K:W.Frag}{mg:Str->Option Value}{base:Heap}
structure Nm (mg:Str->Option Value):Prop where
 ValueError:mg "ValueError" = none
 all:mg "all" = none
 bool:mg "bool" = none
 enumerate:mg "enumerate" = none
 int:mg "int" = none
 isinstance:mg "isinstance" = none
 len:mg "len" = none
 list:mg "list" = none
 max:mg "max" = none
 min:mg "min" = none
 range:mg "range" = none
 repr:mg "repr" = none
 set:mg "set" = none
 sorted:mg "sorted" = none
 tuple:mg "tuple" = none
theorem r8:aW ["thing"] ["thing"] (ar gA):=⟨rfl,rfl,rfl,by decide +kernel,rfl,by decide +kernel,by decide +kernel⟩
noncomputable def j3:MS:=c4 (gR (lW (ie "int") (ai 0)) (qP (lW (ie "bool") (ai 0))))
noncomputable def dP:List D->ax->ao D:=iC 1 1 j3
theorem lp:aW ["thing", "least", "most"] ["thing", "least", "most"] (ar dq):=⟨rfl,rfl,rfl,by decide +kernel,rfl,by decide +kernel,by decide +kernel⟩
noncomputable def fE:MS:=c4 (gR (aC dP (af (ai 0) (aA))) (mM (jO .LtE) (jO .LtE) (ai 1) (ai 0) (ai 2)))
noncomputable def bu:List D->ax->ao D:=iC 3 3 fE
theorem r9:aW ["many", "thing"] ["many", "thing"] (ar gB):=⟨rfl,rfl,rfl,by decide +kernel,rfl,by decide +kernel,by decide +kernel⟩
noncomputable def nC:MS:=c4 (aC bu (af (ai 1) (af (cC (.int 0)) (af (ay iI (ai 0) (cC (.int 1))) (aA)))))
noncomputable def fZ:List D->ax->ao D:=iC 2 2 nC
theorem qd:aW ["many", "thing"] ["many", "thing"] (ar eE):=⟨rfl,rfl,rfl,by decide +kernel,rfl,by decide +kernel,by decide +kernel⟩
theorem nI:(["place", "many"]:List Str).Nodup:=by decide +kernel
noncomputable def gK:ME:=aC fZ (af (ai 1) (af (ai 0) (aA)))
noncomputable def i9:MS:=c4 (gR (lW (ie "tuple") (ai 1)) (aC qA (af (cA (iH (ai 1)) [none,some 0] (ah 0) (bx) (gK)) (aA))))
noncomputable def bM:List D->ax->ao D:=iC 2 2 i9
theorem tG:aW ["thing"] ["thing"] (ar iu):=⟨rfl,rfl,rfl,by decide +kernel,rfl,by decide +kernel,by decide +kernel⟩
noncomputable def ph:MS:=c4 (aC bu (af (ai 0) (af (cC (.int 1)) (af (cC (.int 6)) (aA)))))
noncomputable def hG:List D->ax->ao D:=iC 1 1 ph
theorem tF:aW ["many", "thing"] ["many", "thing"] (ar ir):=⟨rfl,rfl,rfl,by decide +kernel,rfl,by decide +kernel,by decide +kernel⟩
noncomputable def pf:MS:=c4 (gR (aC bM (af (ai 0) (af (ai 1) (aA)))) (gR (ay (gf false) (aC jM (af (ai 1) (aA))) (cC (.int 2))) (ay (gf true) (ay dH (ai 1) (cC (.int 0))) (ay dH (ai 1) (cC (.int 1))))))
noncomputable def fP:List D->ax->ao D:=iC 2 2 pf
theorem kX:aW ["many", "things", "at", "thing"] ["many", "things"] (ar gZ):=⟨rfl,rfl,rfl,by decide +kernel,rfl,by decide +kernel,by decide +kernel⟩
theorem sg:(["pair"]:List Str).Nodup:=by decide +kernel
noncomputable def jZ:MS:=kI (mE (qC (aC fP (af (ai 0) (af (ai 3) (aA)))))) (zz) (fe)
noncomputable def nB:ME:=dJ (af (aC vb (af (ai 0) (aA))) (af (aC qy (af (ai 0) (aA))) (aA)))
noncomputable def iz:MB:=um (nB)
noncomputable def rX:MS:=bQ (kI (mE (qC (aC hG (af (ai 0) (aA))))) (zz) (fe))
 (bQ (j6 (fu oo (af (ai 1) (aA))) (d8 2 (bf (ah 2) (bf (ah 3) (d9)))) jZ)
 (c4 (dJ (af (ai 0) (af (aC fC (af (aC bK (af (pI (iH (ai 1)) [none] (ah 0) (bx) (iz)) (aA))) (aA))) (aA))))))
noncomputable def i5:List D->ax->ao D:=iC 2 4 rX
theorem nE:aW ["many", "thing"] ["many", "thing"] (ar eH):=⟨rfl,rfl,rfl,by decide +kernel,rfl,by decide +kernel,by decide +kernel⟩
noncomputable def eX:MS:=c4 (gR (aC bM (af (ai 0) (af (ai 1) (aA)))) (gR (ay (gf false) (aC jM (af (ai 1) (aA))) (ai 0)) (ay (gf false) (aC jM (af (aC js (af (ai 1) (aA))) (aA))) (ai 0))))
noncomputable def bA:List D->ax->ao D:=iC 2 2 eX
theorem jV:aW ["web", "names", "many", "ties"] ["web", "names"] (ar fY):=⟨rfl,rfl,rfl,by decide +kernel,rfl,by decide +kernel,by decide +kernel⟩
theorem kC:(["a", "b", "names"]:List Str).Nodup:=by decide +kernel
noncomputable def i8:ME:=dJ (af (ay dH (ai 2) (ai 0)) (af (ay dH (ai 2) (ai 1)) (aA)))
noncomputable def ll:MS:=bQ (bE (ai 0) (d8 2 (bf (ah 2) (bf (ah 3) (d9)))))
 (bQ (kI (mE (qC (aC (fun ds μ=>(bA ds μ).nox) (af (ai 2) (af (ai 1) (aA)))))) (xu "NoPlace") (fe))
 (c4 (aC (fun ds μ=>(i5 ds μ).nox) (af (ai 2) (af (cA (iH (ai 3)) [none,none,some 1] (d8 2 (bf (ah 0) (bf (ah 1) (d9)))) (bx) (i8)) (aA))))))
noncomputable def eT:List D->ax->ao D:=iC 2 4 ll
theorem lP:aW ["_law_script", "_law_k"] ["_law_script", "_law_k"] (ar dF):=⟨rfl,rfl,rfl,by decide +kernel,rfl,by decide +kernel,by decide +kernel⟩
noncomputable def f7:MS:=bQ (kI (ia (ay (jO .Lt) (ai 1) (aC jM (af (ai 0) (aA))))) (c4 (ay dH (ai 0) (ai 1))) (fe))
 (c4 (cC (.int 0)))
noncomputable def dj:List D->ax->ao D:=iC 2 2 f7
theorem kz:aW ["_law_seed"] ["_law_seed"] (ar fI):=⟨rfl,rfl,rfl,by decide +kernel,rfl,by decide +kernel,by decide +kernel⟩
noncomputable def lL:MS:=bQ (bE (ay nK (ay ck (ai 0) (cC (.int 7919))) (cC (.int 2147483647))) (ah 0))
 (c4 (ay nK (ay ck (ay ck (ay kM (ai 0) (ai 0)) (ay kM (cC (.int 48271)) (ai 0))) (cC (.int 12345))) (cC (.int 2147483629))))
noncomputable def d4:List D->ax->ao D:=iC 1 1 lL
theorem jc:aW ["_law_cell", "_law_left"] ["_law_cell"] (ar eK):=⟨rfl,rfl,rfl,by decide +kernel,rfl,by decide +kernel,by decide +kernel⟩
noncomputable def jI:MS:=bQ (bE (aC qy (af (ai 0) (af (ay iI (cC (.int 0)) (ai 0)) (aA)))) (ah 1))
 (c4 (jt (af (ai 1) (af (aC lE (af (ay (jO .GtE) (ai 1) (ay Ca (cC (.int 10)) (cC (.int 18)))) (aA))) (af (ay nK (ai 1) (cC (.int 1000003))) (aA))))))
noncomputable def dC:List D->ax->ao D:=iC 1 2 jI
theorem kA:aW ["_law_pen", "_law_many", "_law_found"] ["_law_pen", "_law_many"] (ar fJ):=⟨rfl,rfl,rfl,by decide +kernel,rfl,by decide +kernel,by decide +kernel⟩
noncomputable def jb:MS:=bQ (kI (ia (ay (gf false) (ay dH (ai 0) (cC (.int 1))) (cC (.int 1)))) (bQ (bE (ay nK (ay dH (ai 0) (cC (.int 0))) (ai 1)) (ah 2))
 (bQ (bE (ay qO (ay dH (ai 0) (cC (.int 0))) (ai 1)) (mz (ai 0) (cC (.int 0))))
 (c4 (ai 2)))) (fe))
 (bQ (bE (aC d4 (af (ay ck (aC d4 (af (ay dH (ai 0) (cC (.int 2))) (aA))) (cC (.int 7))) (aA))) (mz (ai 0) (cC (.int 2))))
 (c4 (ay nK (ay qO (ay dH (ai 0) (cC (.int 2))) (cC (.int 64))) (ai 1))))
noncomputable def aK:List D->ax->ao D:=iC 2 3 jb
theorem nQ:aW ["_law_found"] ["_law_found"] (ar eW):=⟨rfl,rfl,rfl,by decide +kernel,rfl,by decide +kernel,by decide +kernel⟩
noncomputable def kF:MS:=c4 (gR (lW (ie "int") (ai 0)) (qP (lW (ie "bool") (ai 0))))
noncomputable def eF:List D->ax->ao D:=iC 1 1 kF
theorem fD:aW ["_law_e", "_law_marks"] ["_law_e"] (ar dE):=⟨rfl,rfl,rfl,by decide +kernel,rfl,by decide +kernel,by decide +kernel⟩
noncomputable def je:MS:=bQ (bE (jt (af (lW (jN ["NoPlace"] ["NoPlace"]) (ai 0)) (af (lW (jN [] ["NoPlace"]) (ai 0)) (af (lW (jN [] ["NoPlace"]) (ai 0)) (af (lW (jN [] ["NoPlace"]) (ai 0)) (aA)))))) (ah 1))
 (bQ (bE (ay ck (ai 1) (jt (af (lW (jN [] ["NoPlace"]) (ai 0)) (af (lW (jN [] ["NoPlace"]) (ai 0)) (af (lW (jN [] ["NoPlace"]) (ai 0)) (af (lW (jN [] ["NoPlace"]) (ai 0)) (aA))))))) (ah 1))
 (bQ (kI (zD (mE (qC (lW (jN ["NoPlace"] ["NoPlace"]) (ai 0)))) (ia (ay (gf true) (By jl (ai 1) (af (cC (.bl true)) (aA))) (cC (.int 1))))) (c4 (cC (.str "other"))) (fe))
 (c4 (ay dH (jt (af (cC (.str "place")) (af (cC (.str "number")) (af (cC (.str "line")) (af (cC (.str "root")) (af (cC (.str "tree")) (af (cC (.str "web")) (af (cC (.str "text")) (af (cC (.str "great")) (aA)))))))))) (By jk (ai 1) (af (cC (.bl true)) (aA)))))))
noncomputable def di:List D->ax->ao D:=iC 1 2 je
theorem jG:aW ["_law_web", "_law_names", "_law_ties"] ["_law_web", "_law_names"] (ar cS):=⟨rfl,rfl,rfl,by decide +kernel,rfl,by decide +kernel,by decide +kernel⟩
theorem iE:(["_law_one", "_law_other", "_law_names"]:List Str).Nodup:=by decide +kernel
theorem lT:(["_law_tie"]:List Str).Nodup:=by decide +kernel
noncomputable def cb:ME:=dJ (af (ay dH (ai 2) (ai 0)) (af (ay dH (ai 2) (ai 1)) (aA)))
noncomputable def bZ:ME:=dJ (af (aC vb (af (ai 0) (aA))) (af (aC qy (af (ai 0) (aA))) (aA)))
noncomputable def iB:MS:=bQ (bE (cA (iH (ay dH (ai 0) (cC (.int 1)))) [none,none,some 1] (d8 2 (bf (ah 0) (bf (ah 1) (d9)))) (bx) (cb)) (ah 2))
 (c4 (dJ (af (ay dH (ai 0) (cC (.int 0))) (af (aC fC (af (aC bK (af (aC js (af (cA (iH (ai 2)) [none] (ah 0) (bx) (bZ)) (aA))) (aA))) (aA))) (aA)))))
noncomputable def bt:List D->ax->ao D:=iC 2 3 iB
theorem hV:aW ["_law_pen", "_law_many", "_law_left"] ["_law_pen", "_law_many"] (ar cG):=⟨rfl,rfl,rfl,by decide +kernel,rfl,by decide +kernel,by decide +kernel⟩
theorem j4:(["_law_place", "_law_left", "_law_pen"]:List Str).Nodup:=by decide +kernel
noncomputable def cZ:ME:=By mL (ai 1) (af (aC aK (af (ai 2) (af (aC jM (af (ai 1) (aA))) (aA)))) (aA))
noncomputable def iG:MS:=bQ (bE (aC il (af (ai 1) (aA))) (ah 2))
 (c4 (aC fC (af (cA (fu jq (af (ai 1) (aA))) [none,some 2,some 0] (ah 0) (bx) (cZ)) (aA))))
noncomputable def bS:List D->ax->ao D:=iC 2 3 iG
theorem cx:aW ["_law_web", "_law_many", "_law_far_here", "_law_place", "_law_size", "_law_one", "_law_other", "_law_a", "_law_b"] ["_law_web"] (ar fm):=⟨rfl,rfl,rfl,by decide +kernel,rfl,by decide +kernel,by decide +kernel⟩
theorem nU:(["_law_place", "_law_many"]:List Str).Nodup:=by decide +kernel
noncomputable def eG:ME:=ay kM (jt (af (cC .non) (aA))) (ai 1)
noncomputable def iA:MS:=kI (jE (ia (ay (gf false) (ay dH (ay dH (ai 2) (ai 3)) (ai 7)) (ay iI (ai 4) (cC (.int 1))))) (ia (ay (sO false) (ay dH (ay dH (ai 2) (ai 3)) (ai 8)) (cC .non)))) (bE (ai 4) (mz (ay dH (ai 2) (ai 3)) (ai 8))) (fe)
noncomputable def fM:MS:=j6 (iH (jt (af (dJ (af (ai 5) (af (ai 6) (aA)))) (af (dJ (af (ai 6) (af (ai 5) (aA)))) (aA))))) (d8 2 (bf (ah 7) (bf (ah 8) (d9)))) iA
noncomputable def fL:MS:=j6 (iH (ay dH (ai 0) (cC (.int 1)))) (d8 2 (bf (ah 5) (bf (ah 6) (d9)))) fM
noncomputable def fK:MS:=bQ (bE (cC (.int 0)) (mz (ay dH (ai 2) (ai 3)) (ai 3)))
 (j6 (fu mj (af (cC (.int 1)) (af (ai 1) (aA)))) (ah 4) fL)
noncomputable def nD:MS:=bQ (bE (ay dH (ai 0) (cC (.int 0))) (ah 1))
 (bQ (bE (cA (fu jq (af (ai 1) (aA))) [none,some 1] (ah 0) (bx) (eG)) (ah 2))
 (bQ (j6 (fu jq (af (ai 1) (aA))) (ah 3) fK)
 (c4 (ai 2))))
noncomputable def f6:List D->ax->ao D:=iC 1 9 nD
theorem dz:aW ["_law_web", "_law_k", "_law_far_here", "_law_ties", "_law_one"] ["_law_web", "_law_k"] (ar dy):=⟨rfl,rfl,rfl,by decide +kernel,rfl,by decide +kernel,by decide +kernel⟩
theorem lS:(["_law_b", "_law_one", "_law_k", "_law_far_here"]:List Str).Nodup:=by decide +kernel
noncomputable def eN:ME:=dJ (af (ai 1) (af (ai 0) (aA)))
noncomputable def dh:MT:=jE (ia (ay (sO true) (ay dH (ay dH (ai 3) (ai 1)) (ai 0)) (cC .non))) (ia (ay (jO .LtE) (ay dH (ay dH (ai 3) (ai 1)) (ai 0)) (ai 2)))
noncomputable def eM:MS:=bE (ay ck (ai 3) (cA (fu mj (af (ay ck (ai 4) (cC (.int 1))) (af (ay dH (ai 0) (cC (.int 0))) (aA)))) [none,some 4,some 1,some 2] (ah 0) (dh) (eN))) (ah 3)
noncomputable def kG:MS:=bQ (bE (aC f6 (af (ai 0) (aA))) (ah 2))
 (bQ (bE (jt (aA)) (ah 3))
 (bQ (j6 (fu jq (af (ay dH (ai 0) (cC (.int 0))) (aA))) (ah 4) eM)
 (c4 (dJ (af (ay dH (ai 0) (cC (.int 0))) (af (aC fC (af (ai 3) (aA))) (aA)))))))
noncomputable def cL:List D->ax->ao D:=iC 2 5 kG
theorem aP:aW ["_law_pen", "_law_way", "_law_many", "_law_every", "_law_other", "_law_ties"] ["_law_pen"] (ar aV):=⟨rfl,rfl,rfl,by decide +kernel,rfl,by decide +kernel,by decide +kernel⟩
theorem jA:(["_law_one", "_law_other"]:List Str).Nodup:=by decide +kernel
theorem jz:(["_law_pair", "_law_pen"]:List Str).Nodup:=by decide +kernel
theorem jy:(["_law_pair", "_law_pen"]:List Str).Nodup:=by decide +kernel
theorem jx:(["_law_place"]:List Str).Nodup:=by decide +kernel
theorem jw:(["_law_place"]:List Str).Nodup:=by decide +kernel
theorem jv:(["_law_place"]:List Str).Nodup:=by decide +kernel
theorem ju:(["_law_place", "_law_pen"]:List Str).Nodup:=by decide +kernel
noncomputable def f9:ME:=dJ (af (ai 0) (af (ai 1) (aA)))
noncomputable def cM:MS:=bE (ay ck (ai 3) (cA (fu jq (af (ai 4) (aA))) [none,some 4] (ah 0) (bx) (f9))) (ah 3)
noncomputable def dW:ME:=ai 0
noncomputable def dR:MT:=ia (ay (gf false) (aC aK (af (ai 1) (af (cC (.int 2)) (aA)))) (cC (.int 0)))
noncomputable def dU:ME:=ai 0
noncomputable def dQ:MT:=ia (ay (gf false) (aC aK (af (ai 1) (af (cC (.int 3)) (aA)))) (cC (.int 0)))
noncomputable def cO:ME:=dJ (af (ai 0) (af (ay ck (ai 0) (cC (.int 1))) (aA)))
noncomputable def dS:ME:=dJ (af (ai 0) (af (ay ck (ai 0) (cC (.int 1))) (aA)))
noncomputable def cN:ME:=dJ (af (cC (.int 0)) (af (ai 0) (aA)))
noncomputable def bU:ME:=dJ (af (aC aK (af (ai 1) (af (ai 0) (aA)))) (af (ai 0) (aA)))
noncomputable def hX:MS:=bQ (bE (aC aK (af (ai 0) (af (cC (.int 7)) (aA)))) (ah 1))
 (bQ (bE (ay ck (cC (.int 1)) (aC aK (af (ai 0) (af (cC (.int 6)) (aA))))) (ah 2))
 (bQ (bE (jt (aA)) (ah 3))
 (bQ (j6 (fu jq (af (ai 2) (aA))) (ah 4) cM)
 (bQ (kI (ia (ay (gf false) (ai 1) (cC (.int 0)))) (bE (cA (iH (ai 3)) [none,some 0] (ah 0) (dR) (dW)) (ah 5)) (kI (ia (ay (gf false) (ai 1) (cC (.int 1)))) (bE (cA (iH (ai 3)) [none,some 0] (ah 0) (dQ) (dU)) (ah 5)) (kI (ia (ay (gf false) (ai 1) (cC (.int 2)))) (bE (ay ck (cA (fu jq (af (ay iI (ai 2) (cC (.int 1))) (aA))) [none] (ah 0) (bx) (cO)) (ay kM (jt (af (dJ (af (cC (.int 0)) (af (ay iI (ai 2) (cC (.int 1))) (aA)))) (aA))) (aC lE (af (ay (jO .Gt) (ai 2) (cC (.int 2))) (aA))))) (ah 5)) (kI (ia (ay (gf false) (ai 1) (cC (.int 3)))) (bE (cA (fu jq (af (ay iI (ai 2) (cC (.int 1))) (aA))) [none] (ah 0) (bx) (dS)) (ah 5)) (kI (ia (ay (gf false) (ai 1) (cC (.int 4)))) (bE (cA (fu mj (af (cC (.int 1)) (af (ai 2) (aA)))) [none] (ah 0) (bx) (cN)) (ah 5)) (bE (cA (fu mj (af (cC (.int 1)) (af (ai 2) (aA)))) [none,some 0] (ah 0) (bx) (bU)) (ah 5)))))))
 (c4 (aC bt (af (dJ (af (ai 2) (af (aC fC (af (ai 5) (aA))) (aA)))) (af (aC bS (af (ai 0) (af (ai 2) (aA)))) (aA)))))))))
noncomputable def cH:List D->ax->ao D:=iC 1 6 hX
theorem bY:aW ["_law_pen", "_law_web", "_law_way", "_law_spot", "_law_one", "_law_pair"] ["_law_pen"] (ar eJ):=⟨rfl,rfl,rfl,by decide +kernel,rfl,by decide +kernel,by decide +kernel⟩
noncomputable def eY:MS:=bQ (bE (aC cH (af (ai 0) (aA))) (ah 1))
 (bQ (bE (aC aK (af (ai 0) (af (cC (.int 6)) (aA)))) (ah 2))
 (bQ (kI (ia (ay (jO .Lt) (ai 2) (cC (.int 3)))) (bE (aC cL (af (ai 1) (af (cC (.int 2)) (aA)))) (ah 1)) (fe))
 (bQ (kI (jE (ia (ay (gf false) (ai 2) (cC (.int 0)))) (ia (ay (gf true) (ay dH (ai 1) (cC (.int 1))) (dJ (aA))))) (bQ (bE (aC aK (af (ai 0) (af (aC jM (af (ay dH (ai 1) (cC (.int 1))) (aA))) (aA)))) (ah 3))
 (c4 (dJ (af (ay dH (ai 1) (cC (.int 0))) (af (ay ck (zk (ay dH (ai 1) (cC (.int 1))) (zq) (iL (ai 3))) (zk (ay dH (ai 1) (cC (.int 1))) (iL (ay ck (ai 3) (cC (.int 1)))) (zq))) (aA)))))) (fe))
 (bQ (kI (jE (ia (ay (gf false) (ai 2) (cC (.int 1)))) (ia (ay (jO .Gt) (ay dH (ai 1) (cC (.int 0))) (cC (.int 1))))) (bQ (bE (aC aK (af (ai 0) (af (ay dH (ai 1) (cC (.int 0))) (aA)))) (ah 4))
 (bQ (bE (aC fC (af (aC bK (af (dJ (af (ai 4) (af (ay nK (ay ck (ay ck (ai 4) (cC (.int 1))) (aC aK (af (ai 0) (af (ay iI (ay dH (ai 1) (cC (.int 0))) (cC (.int 1))) (aA))))) (ay dH (ai 1) (cC (.int 0)))) (aA)))) (aA))) (aA))) (ah 5))
 (c4 (dJ (af (ay dH (ai 1) (cC (.int 0))) (af (aC fC (af (aC bK (af (aC js (af (ay ck (ay dH (ai 1) (cC (.int 1))) (dJ (af (ai 5) (aA)))) (aA))) (aA))) (aA))) (aA))))))) (fe))
 (c4 (ai 1))))))
noncomputable def dB:List D->ax->ao D:=iC 1 6 eY
theorem ky:aW ["_law_web", "_law_thing", "_law_e"] ["_law_web", "_law_thing"] (ar fH):=⟨rfl,rfl,rfl,by decide +kernel,rfl,by decide +kernel,by decide +kernel⟩
noncomputable def dA:MS:=c4 (aC eT (af (ai 0) (af (ai 1) (aA))))
noncomputable def gJ:MS:=c4 (aC di (af (ai 2) (aA)))
noncomputable def ja:MS:=wL ["NoPlace"] 2 3 dA gJ
noncomputable def bz:List D->ax->ao D:=iC 2 3 ja
theorem eR:aW ["_law_script", "_law_cell", "_law_pen", "_law_web", "_law_many", "_law_turn", "_law_names", "_law_spot", "_law_odd", "_law_bad", "_law_some", "_law_thing", "_law_good"] ["_law_script"] (ar iS):=⟨rfl,rfl,rfl,by decide +kernel,rfl,by decide +kernel,by decide +kernel⟩
theorem yO:(["_law_one"]:List Str).Nodup:=by decide +kernel
noncomputable def kg:ME:=aC eF (af (ai 0) (aA))
noncomputable def gy:MS:=bQ (bE (gR (lW (ie "tuple") (ai 11)) (aC qA (af (cA (iH (ai 11)) [none] (ah 0) (bx) (kg)) (aA)))) (ah 12))
 (kI (jE (qC (ai 12)) (ia (ay (gf false) (aC bK (af (ai 11) (aA))) (aC il (af (ai 4) (aA)))))) (kI (ia (ay (sP true) (aC iU (af (aC bz (af (ai 3) (af (ai 11) (aA)))) (aA))) (aC iU (af (aC bt (af (ai 3) (af (ai 11) (aA)))) (aA))))) (c4 (cC (.bl false))) (fe)) (kI (ia (ay (gf true) (aC bz (af (ai 3) (af (ai 11) (aA)))) (cC (.str "place")))) (c4 (cC (.bl false))) (fe)))
noncomputable def mf:MS:=bQ (bE (aC bS (af (ai 2) (af (ai 4) (aA)))) (ah 6))
 (bQ (kI (ia (ay (sP true) (aC iU (af (aC bz (af (ai 3) (af (ai 6) (aA)))) (aA))) (aC iU (af (aC bt (af (ai 3) (af (ai 6) (aA)))) (aA))))) (c4 (cC (.bl false))) (fe))
 (bQ (bE (aC aK (af (ai 2) (af (ai 4) (aA)))) (ah 7))
 (bQ (bE (ay dH (jt (af (ai 4) (af (lW wR (cC (.int 1))) (af (cC .non) (af (cC (.str "0")) (af (dJ (af (cC (.int 0)) (aA))) (af (ay dH (ai 6) (ay iI (ai 7) (cC (.int 1)))) (af (cC (.bl true)) (aA))))))))) (aC aK (af (ai 2) (af (cC (.int 7)) (aA))))) (ah 8))
 (bQ (bE (ay ck (ay ck (zk (ai 6) (zq) (iL (ai 7))) (dJ (af (ai 8) (aA)))) (zk (ai 6) (iL (ay ck (ai 7) (cC (.int 1)))) (zq))) (ah 9))
 (bQ (bE (jt (af (ai 9) (af (ay ck (zk (ai 6) (zq) (iL (ai 7))) (zk (ai 6) (iL (ay ck (ai 7) (cC (.int 1)))) (zq))) (af (ay ck (ai 6) (dJ (af (ai 4) (aA)))) (af (aC qM (af (ai 6) (aA))) (af (cC .non) (af (cC (.int 0)) (af (zE) (af (ay ck (ai 6) (dJ (af (cC (.int 0)) (aA)))) (aA)))))))))) (ah 10))
 (j6 (iH (ai 10)) (ah 11) gy))))))
noncomputable def me:MS:=bQ (bE (aC dC (af (ai 1) (aA))) (ah 2))
 (bQ (bE (aC dB (af (ai 2) (aA))) (ah 3))
 (bQ (bE (ay dH (ai 3) (cC (.int 0))) (ah 4))
 (j6 (fu jq (af (cC (.int 3)) (aA))) (ah 5) mf)))
noncomputable def BY:MS:=bQ (j6 (iH (ay ck (jt (af (aC dj (af (ai 0) (af (cC (.int 0)) (aA)))) (aA))) (zk (ai 0) (iL (cC (.int 1))) (iL (cC (.int 5)))))) (ah 1) me)
 (c4 (cC (.bl true)))
noncomputable def qS:List D->ax->ao D:=iC 1 13 BY
theorem sd (nm:Nm mg) {f:Addr}{fd:FuncData} (F:gM K "is_whole" "is_whole" gA f fd) (hm:mg "is_whole" = some (.ref f)):fq P w K mg base (eZ K w) 1 "is_whole" 1 dP:=
 dX F r8 rfl hm (F.b1 (by rfl) fun _ _ _ _ _ _ _=>by rfl) fun cdv A outer s H E hr=>
 aT (bW (j8 (oa (T:="int") (by decide) xU (by decide) (by decide) nm.isinstance nm.int (aF 0)) (mw (BA (oa (T:="bool") (by decide) u3 (by decide) (by decide) nm.isinstance nm.bool (aF 0))))))
theorem lq (nm:Nm mg) {f:Addr}{fd:FuncData} (F:gM K "is_whole_from" "is_whole_from" dq f fd) (hm:mg "is_whole_from" = some (.ref f)) (d_is_whole:fq P w K mg base (eZ K w) 1 "is_whole" 1 dP):fq P w K mg base (eZ K w) 2 "is_whole_from" 3 bu:=
 dX F lp rfl hm (F.b3 (by rfl) fun _ _ _ _ _ _ _ _ _=>by rfl) fun cdv A outer s H E hr=>
 aT (bW (j8 (bb d_is_whole (hr.mono (by decide)) (aJ (aF 0) (bp))) (mw (EY (lD (op:=.LtE) hr.units) (lD (op:=.LtE) hr.units) (aF 1) (aF 0) (aF 2)))))
theorem se (nm:Nm mg) {f:Addr}{fd:FuncData} (F:gM K "is_place" "is_place" gB f fd) (hm:mg "is_place" = some (.ref f)) (d_is_whole_from:fq P w K mg base (eZ K w) 2 "is_whole_from" 3 bu):fq P w K mg base (eZ K w) 3 "is_place" 2 fZ:=
 dX F r9 rfl hm (F.b2 (by rfl) fun _ _ _ _ _ _ _ _=>by rfl) fun cdv A outer s H E hr=>
 aT (bW (bb d_is_whole_from (hr.mono (by decide)) (aJ (aF 1) (aJ (cc) (aJ (lz (aF 0) (cc)) (bp))))))
theorem qe (nm:Nm mg) {f:Addr}{fd:FuncData} (F:gM K "is_places" "is_places" eE f fd) (hm:mg "is_places" = some (.ref f)) (d_is_place:fq P w K mg base (eZ K w) 3 "is_place" 2 fZ):fq P w K mg base (eZ K w) 4 "is_places" 2 bM:=
 dX F qd rfl hm (F.b2 (by rfl) fun _ _ _ _ _ _ _ _=>by rfl) fun cdv A outer s H E hr=>
 aT (bW (j8 (oa (T:="tuple") (by decide) rS (by decide) (by decide) nm.isinstance nm.tuple (aF 1)) (mw (bL BW nm.all (aJ (iR (cB (N:=["many", "thing"]) (sc:=ar eE) (Nc:=["place", "many"]) (cap:=[none,some 0]) rfl rfl (by decide +kernel)) (wB (aF 1)) (fun _ _ _ _ _=>jo 0 nI) (fun _ _ _ _ _=>gP) (fun _ _ _ _ _=>bb d_is_place (hr.mono (by decide)) (aJ (aF 1) (aJ (aF 0) (bp))))) (bp))))))
theorem tN (nm:Nm mg) {f:Addr}{fd:FuncData} (F:gM K "is_many" "is_many" iu f fd) (hm:mg "is_many" = some (.ref f)) (c_MOST_PLACES:∃ t,mg "MOST_PLACES" = some (.int 6 t)) (d_is_whole_from:fq P w K mg base (eZ K w) 2 "is_whole_from" 3 bu):fq P w K mg base (eZ K w) 3 "is_many" 1 hG:=
 dX F tG rfl hm (F.b1 (by rfl) fun _ _ _ _ _ _ _=>by rfl) fun cdv A outer s H E hr=>
 aT (bW (bb d_is_whole_from (hr.mono (by decide)) (aJ (aF 0) (aJ (cc) (aJ (Gc c_MOST_PLACES) (bp))))))
theorem tM (nm:Nm mg) {f:Addr}{fd:FuncData} (F:gM K "is_pair" "is_pair" ir f fd) (hm:mg "is_pair" = some (.ref f)) (d_is_places:fq P w K mg base (eZ K w) 4 "is_places" 2 bM):fq P w K mg base (eZ K w) 5 "is_pair" 2 fP:=
 dX F tF rfl hm (F.b2 (by rfl) fun _ _ _ _ _ _ _ _=>by rfl) fun cdv A outer s H E hr=>
 aT (bW (j8 (bb d_is_places (hr.mono (by decide)) (aJ (aF 0) (aJ (aF 1) (bp)))) (j8 (og (jL hr.units) (bL oq nm.len (aJ (aF 1) (bp))) (cc)) (mw (og (zA hr.units) (cn (aF 1) (cc)) (cn (aF 1) (cc)))))))
theorem vM (nm:Nm mg) {f:Addr}{fd:FuncData} (F:gM K "web_of" "web_of" gZ f fd) (hm:mg "web_of" = some (.ref f)) (d_is_many:fq P w K mg base (eZ K w) 3 "is_many" 1 hG) (d_is_pair:fq P w K mg base (eZ K w) 5 "is_pair" 2 fP):fq P w K mg base (eZ K w) 6 "web_of" 2 i5:=
 dX F kX rfl hm (F.b2 (by rfl) fun _ _ _ _ _ _ _ _=>by rfl) fun cdv A outer s H E hr=>
 aQ (ic (uh (Eo (bb d_is_many (hr.mono (by decide)) (aJ (aF 0) (bp))))) (aT (ur)) (gO))
 (aQ (jC KZ (Gu nm.enumerate (aJ (aF 1) (bp))) (oj (fA (jo 2 kX.nd) (fA (jo 3 kX.nd) (om)))) (aT (ic (uh (Eo (bb d_is_pair (hr.mono (by decide)) (aJ (aF 0) (aJ (aF 3) (bp)))))) (aT (ur)) (gO))))
 (aT (bW (cI (aJ (aF 0) (aJ (bL iq nm.tuple (aJ (bL i4 nm.sorted (aJ (zP (cB (N:=["many", "things", "at", "thing"]) (sc:=ar gZ) (Nc:=["pair"]) (cap:=[none]) rfl rfl (by decide +kernel)) (wB (aF 1)) (fun _ _ _ _ _=>jo 0 sg) (fun _ _ _ _ _=>gP) (fun _ _ _ _ _ _=>FH rfl hr.units (cI (aJ (bL BU nm.min (aJ (aF 0) (bp))) (aJ (bL xk nm.max (aJ (aF 0) (bp))) (bp)))))) (bp))) (bp))) (bp)))))))
theorem nF (nm:Nm mg) {f:Addr}{fd:FuncData} (F:gM K "is_renaming" "is_renaming" eH f fd) (hm:mg "is_renaming" = some (.ref f)) (d_is_places:fq P w K mg base (eZ K w) 4 "is_places" 2 bM):fq P w K mg base (eZ K w) 5 "is_renaming" 2 bA:=
 dX F nE rfl hm (F.b2 (by rfl) fun _ _ _ _ _ _ _ _=>by rfl) fun cdv A outer s H E hr=>
 aT (bW (j8 (bb d_is_places (hr.mono (by decide)) (aJ (aF 0) (aJ (aF 1) (bp)))) (j8 (og (jL hr.units) (bL oq nm.len (aJ (aF 1) (bp))) (aF 0)) (mw (og (jL hr.units) (bL oq nm.len (aJ (bL (xj hr.units) nm.set (aJ (aF 1) (bp))) (bp))) (aF 0))))))
theorem tL (nm:Nm mg) {f:Addr}{fd:FuncData} (F:gM K "renamed" "renamed" fY f fd) (hm:mg "renamed" = some (.ref f)) {a_NoPlace:Addr} (k_NoPlace:W.nsIn K mainGlobals "NoPlace" = some (some (.ref a_NoPlace))) (o_NoPlace:ve mg base "NoPlace" a_NoPlace) (d_is_renaming:fq P w K mg base (eZ K w) 5 "is_renaming" 2 bA) (d_web_of:fq P w K mg base (eZ K w) 6 "web_of" 2 i5):zJ P w K mg base 7 "renamed" 2 eT:=
 Cm F jV rfl hm (F.b2 (by rfl) fun _ _ _ _ _ _ _ _=>by rfl) fun cdv A outer s H E hr=>
 aQ (qH (aF 0) (oj (fA (jo 2 jV.nd) (fA (jo 3 jV.nd) (om)))))
 (aQ (ic (uh (Eo (uu d_is_renaming (hr.mono (by decide)) (aJ (aF 2) (aJ (aF 1) (bp)))))) (aT (zM k_NoPlace o_NoPlace)) (gO))
 (aT (bW (uu d_web_of (hr.mono (by decide)) (aJ (aF 2) (aJ (iR (cB (N:=["web", "names", "many", "ties"]) (sc:=ar fY) (Nc:=["a", "b", "names"]) (cap:=[none,none,some 1]) rfl rfl (by decide +kernel)) (wB (aF 3)) (fun _ _ _ _ _=>oj (fA (jo 0 kC) (fA (jo 1 kC) (om)))) (fun _ _ _ _ _=>gP) (fun _ _ _ _ _=>cI (aJ (cn (aF 2) (aF 0)) (aJ (cn (aF 2) (aF 1)) (bp))))) (bp)))))))
theorem lR (nm:Nm mg) {f:Addr}{fd:FuncData} (F:gM K "_law_cell_at" "_law_cell_at" dF f fd) (hm:mg "_law_cell_at" = some (.ref f)):fq P w K mg base (eZ K w) 1 "_law_cell_at" 2 dj:=
 dX F lP rfl hm (F.b2 (by rfl) fun _ _ _ _ _ _ _ _=>by rfl) fun cdv A outer s H E hr=>
 aQ (ic (dc (lD (op:=.Lt) hr.units) (aF 1) (bL oq nm.len (aJ (aF 0) (bp)))) (aT (bW (cn (aF 0) (aF 1)))) (gO))
 (aT (bW (cc)))
theorem qg (nm:Nm mg) {f:Addr}{fd:FuncData} (F:gM K "_law_next" "_law_next" fI f fd) (hm:mg "_law_next" = some (.ref f)):fq P w K mg base (eZ K w) 1 "_law_next" 1 d4:=
 dX F kz rfl hm (F.b1 (by rfl) fun _ _ _ _ _ _ _=>by rfl) fun cdv A outer s H E hr=>
 aQ (cf 0 kz.nd (n9 (cP (aF 0) (cc)) (cc)))
 (aT (bW (n9 (cP (cP (ui (aF 0) (aF 0)) (ui (cc) (aF 0))) (cc)) (cc))))
theorem nH (nm:Nm mg) {f:Addr}{fd:FuncData} (F:gM K "_law_pen_of" "_law_pen_of" eK f fd) (hm:mg "_law_pen_of" = some (.ref f)):fq P w K mg base (eZ K w) 1 "_law_pen_of" 1 dC:=
 dX F jc rfl hm (F.b1 (by rfl) fun _ _ _ _ _ _ _=>by rfl) fun cdv A outer s H E hr=>
 aQ (cf 1 jc.nd (bL xk nm.max (aJ (aF 0) (aJ (lz (cc) (aF 0)) (bp)))))
 (aT (bW (iD (aJ (aF 1) (aJ (bL BV nm.int (aJ (og (lD (op:=.GtE) hr.units) (aF 1) (ET (cc) (cc))) (bp))) (aJ (n9 (aF 1) (cc)) (bp)))))))
theorem qh (nm:Nm mg) {f:Addr}{fd:FuncData} (F:gM K "_law_draw" "_law_draw" fJ f fd) (hm:mg "_law_draw" = some (.ref f)) (d__law_next:fq P w K mg base (eZ K w) 1 "_law_next" 1 d4):fq P w K mg base (eZ K w) 2 "_law_draw" 2 aK:=
 dX F kA rfl hm (F.b2 (by rfl) fun _ _ _ _ _ _ _ _=>by rfl) fun cdv A outer s H E hr=>
 aQ (ic (dc (jL hr.units) (cn (aF 0) (cc)) (cc)) (aQ (cf 2 kA.nd (n9 (cn (aF 0) (cc)) (aF 1)))
 (aQ (qH (xp (cn (aF 0) (cc)) (aF 1)) (uj (aF 0) (cc)))
 (aT (bW (aF 2))))) (gO))
 (aQ (qH (bb d__law_next (hr.mono (by decide)) (aJ (cP (bb d__law_next (hr.mono (by decide)) (aJ (cn (aF 0) (cc)) (bp))) (cc)) (bp))) (uj (aF 0) (cc)))
 (aT (bW (n9 (xp (cn (aF 0) (cc)) (cc)) (aF 1)))))
theorem nR (nm:Nm mg) {f:Addr}{fd:FuncData} (F:gM K "_law_whole" "_law_whole" eW f fd) (hm:mg "_law_whole" = some (.ref f)):fq P w K mg base (eZ K w) 1 "_law_whole" 1 eF:=
 dX F nQ rfl hm (F.b1 (by rfl) fun _ _ _ _ _ _ _=>by rfl) fun cdv A outer s H E hr=>
 aT (bW (j8 (oa (T:="int") (by decide) xU (by decide) (by decide) nm.isinstance nm.int (aF 0)) (mw (BA (oa (T:="bool") (by decide) u3 (by decide) (by decide) nm.isinstance nm.bool (aF 0))))))
theorem lQ (nm:Nm mg) {f:Addr}{fd:FuncData} (F:gM K "_law_kind_of" "_law_kind_of" dE f fd) (hm:mg "_law_kind_of" = some (.ref f)) {a_NoLine a_NoNumber a_NoPlace a_NoRoot a_NoText a_NoTree a_NoWeb a_TooGreat:Addr} (q_NoLine:bC K (.ref a_NoLine) [] ["NoPlace"]) (q_NoNumber:bC K (.ref a_NoNumber) [] ["NoPlace"]) (q_NoPlace:bC K (.ref a_NoPlace) ["NoPlace"] ["NoPlace"]) (q_NoRoot:bC K (.ref a_NoRoot) [] ["NoPlace"]) (q_NoText:bC K (.ref a_NoText) [] ["NoPlace"]) (q_NoTree:bC K (.ref a_NoTree) [] ["NoPlace"]) (q_NoWeb:bC K (.ref a_NoWeb) [] ["NoPlace"]) (q_TooGreat:bC K (.ref a_TooGreat) [] ["NoPlace"]) (q_ValueError:bC K (.type "ValueError") ["NoPlace"] ["NoPlace"]) (m_NoLine:mg "NoLine" = some (.ref a_NoLine)) (m_NoNumber:mg "NoNumber" = some (.ref a_NoNumber)) (m_NoPlace:mg "NoPlace" = some (.ref a_NoPlace)) (m_NoRoot:mg "NoRoot" = some (.ref a_NoRoot)) (m_NoText:mg "NoText" = some (.ref a_NoText)) (m_NoTree:mg "NoTree" = some (.ref a_NoTree)) (m_NoWeb:mg "NoWeb" = some (.ref a_NoWeb)) (m_TooGreat:mg "TooGreat" = some (.ref a_TooGreat)):zK P w K mg base (eZ K w) 1 "_law_kind_of" 1 di:=
 Cn F fD rfl hm (F.b1 (by rfl) fun _ _ _ _ _ _ _=>by rfl) fun cdv A outer s H E hr=>
 aQ (cf 1 fD.nd (iD (aJ (lC q_NoPlace nm.isinstance m_NoPlace (aF 0)) (aJ (lC q_NoNumber nm.isinstance m_NoNumber (aF 0)) (aJ (lC q_NoLine nm.isinstance m_NoLine (aF 0)) (aJ (lC q_NoRoot nm.isinstance m_NoRoot (aF 0)) (bp)))))))
 (aQ (cf 1 fD.nd (cP (aF 1) (iD (aJ (lC q_NoTree nm.isinstance m_NoTree (aF 0)) (aJ (lC q_NoWeb nm.isinstance m_NoWeb (aF 0)) (aJ (lC q_NoText nm.isinstance m_NoText (aF 0)) (aJ (lC q_TooGreat nm.isinstance m_TooGreat (aF 0)) (bp))))))))
 (aQ (ic (u7 (Gd (uh (Eo (Co q_ValueError nm.isinstance nm.ValueError nX (aF 0)))) (EZ (dc (zA hr.units) (EX (aF 1) (aJ (BZ) (bp))) (cc))))) (aT (bW (wD))) (gO))
 (aT (bW (cn (iD (aJ (wD) (aJ (wD) (aJ (wD) (aJ (wD) (aJ (wD) (aJ (wD) (aJ (wD) (aJ (wD) (bp)))))))))) (EW (aF 1) (aJ (BZ) (bp))))))))
theorem nT (nm:Nm mg) {f:Addr}{fd:FuncData} (F:gM K "_law_named" "_law_named" cS f fd) (hm:mg "_law_named" = some (.ref f)):fq P w K mg base (eZ K w) 1 "_law_named" 2 bt:=
 dX F jG rfl hm (F.b2 (by rfl) fun _ _ _ _ _ _ _ _=>by rfl) fun cdv A outer s H E hr=>
 aQ (jQ 2 jG.nd (cB (N:=["_law_web", "_law_names", "_law_ties"]) (sc:=ar cS) (Nc:=["_law_one", "_law_other", "_law_names"]) (cap:=[none,none,some 1]) rfl rfl (by decide +kernel)) (wB (cn (aF 0) (cc))) (fun _ _ _ _ _=>oj (fA (jo 0 iE) (fA (jo 1 iE) (om)))) (fun _ _ _ _ _=>gP) (fun _ _ _ _ _=>cI (aJ (cn (aF 2) (aF 0)) (aJ (cn (aF 2) (aF 1)) (bp)))))
 (aT (bW (cI (aJ (cn (aF 0) (cc)) (aJ (bL iq nm.tuple (aJ (bL i4 nm.sorted (aJ (bL (xj hr.units) nm.set (aJ (iR (cB (N:=["_law_web", "_law_names", "_law_ties"]) (sc:=ar cS) (Nc:=["_law_tie"]) (cap:=[none]) rfl rfl (by decide +kernel)) (wB (aF 2)) (fun _ _ _ _ _=>jo 0 lT) (fun _ _ _ _ _=>gP) (fun _ _ _ _ _=>cI (aJ (bL BU nm.min (aJ (aF 0) (bp))) (aJ (bL xk nm.max (aJ (aF 0) (bp))) (bp))))) (bp))) (bp))) (bp))) (bp))))))
theorem lu (nm:Nm mg) {f:Addr}{fd:FuncData} (F:gM K "_law_names_by" "_law_names_by" cG f fd) (hm:mg "_law_names_by" = some (.ref f)) (d__law_draw:fq P w K mg base (eZ K w) 2 "_law_draw" 2 aK):fq P w K mg base (eZ K w) 3 "_law_names_by" 2 bS:=
 dX F hV rfl hm (F.b2 (by rfl) fun _ _ _ _ _ _ _ _=>by rfl) fun cdv A outer s H E hr=>
 aQ (cf 2 hV.nd (xo nm.range nm.list (aJ (aF 1) (bp))))
 (aT (bW (bL iq nm.tuple (aJ (iR (cB (N:=["_law_pen", "_law_many", "_law_left"]) (sc:=ar cG) (Nc:=["_law_place", "_law_left", "_law_pen"]) (cap:=[none,some 2,some 0]) rfl rfl (by decide +kernel)) (pB nm.range (aJ (aF 1) (bp))) (fun _ _ _ _ _=>jo 0 j4) (fun _ _ _ _ _=>gP) (fun _ _ _ _ _=>EU (aF 1) (aJ (bb d__law_draw (hr.mono (by decide)) (aJ (aF 2) (aJ (bL oq nm.len (aJ (aF 1) (bp))) (bp)))) (bp)))) (bp)))))
theorem sf (nm:Nm mg) {f:Addr}{fd:FuncData} (F:gM K "_law_far" "_law_far" fm f fd) (hm:mg "_law_far" = some (.ref f)):fq P w K mg base (eZ K w) 1 "_law_far" 1 f6:=
 dX F cx rfl hm (F.b1 (by rfl) fun _ _ _ _ _ _ _=>by rfl) fun cdv A outer s H E hr=>
 aQ (cf 1 cx.nd (cn (aF 0) (cc)))
 (aQ (jQ 2 cx.nd (cB (N:=["_law_web", "_law_many", "_law_far_here", "_law_place", "_law_size", "_law_one", "_law_other", "_law_a", "_law_b"]) (sc:=ar fm) (Nc:=["_law_place", "_law_many"]) (cap:=[none,some 1]) rfl rfl (by decide +kernel)) (pB nm.range (aJ (aF 1) (bp))) (fun _ _ _ _ _=>jo 0 nU) (fun _ _ _ _ _=>gP) (fun _ _ _ _ _=>ui (iD (aJ (En) (bp))) (aF 1)))
 (aQ (jC KZ (pB nm.range (aJ (aF 1) (bp))) (jo 3 cx.nd) (aQ (qH (cc) (uj (cn (aF 2) (aF 3)) (aF 3)))
 (aT (jC KZ (zC nm.range (aJ (cc) (aJ (aF 1) (bp)))) (jo 4 cx.nd) (aT (jC KZ (wB (cn (aF 0) (cc))) (oj (fA (jo 5 cx.nd) (fA (jo 6 cx.nd) (om)))) (aT (jC KZ (wB (iD (aJ (cI (aJ (aF 5) (aJ (aF 6) (bp)))) (aJ (cI (aJ (aF 6) (aJ (aF 5) (bp)))) (bp))))) (oj (fA (jo 7 cx.nd) (fA (jo 8 cx.nd) (om)))) (aT (ic (u7 (qG (dc (jL hr.units) (cn (cn (aF 2) (aF 3)) (aF 7)) (lz (aF 4) (cc))) (mG (dc (Fy) (cn (cn (aF 2) (aF 3)) (aF 8)) (En))))) (aT (qH (aF 4) (uj (cn (aF 2) (aF 3)) (aF 8)))) (gO)))))))))))
 (aT (bW (aF 2)))))
theorem nS (nm:Nm mg) {f:Addr}{fd:FuncData} (F:gM K "_law_steps" "_law_steps" dy f fd) (hm:mg "_law_steps" = some (.ref f)) (d__law_far:fq P w K mg base (eZ K w) 1 "_law_far" 1 f6):fq P w K mg base (eZ K w) 2 "_law_steps" 2 cL:=
 dX F dz rfl hm (F.b2 (by rfl) fun _ _ _ _ _ _ _ _=>by rfl) fun cdv A outer s H E hr=>
 aQ (cf 2 dz.nd (bb d__law_far (hr.mono (by decide)) (aJ (aF 0) (bp))))
 (aQ (cf 3 dz.nd (iD (bp)))
 (aQ (jC KZ (pB nm.range (aJ (cn (aF 0) (cc)) (bp))) (jo 4 dz.nd) (aT (cf 3 dz.nd (cP (aF 3) (iR (cB (N:=["_law_web", "_law_k", "_law_far_here", "_law_ties", "_law_one"]) (sc:=ar dy) (Nc:=["_law_b", "_law_one", "_law_k", "_law_far_here"]) (cap:=[none,some 4,some 1,some 2]) rfl rfl (by decide +kernel)) (zC nm.range (aJ (cP (aF 4) (cc)) (aJ (cn (aF 0) (cc)) (bp)))) (fun _ _ _ _ _=>jo 0 lS) (fun _ _ _ _ _=>wW (u7 (qG (dc (DU) (cn (cn (aF 3) (aF 1)) (aF 0)) (En)) (mG (dc (lD (op:=.LtE) hr.units) (cn (cn (aF 3) (aF 1)) (aF 0)) (aF 2)))))) (fun _ _ _ _ _=>cI (aJ (aF 1) (aJ (aF 0) (bp)))))))))
 (aT (bW (cI (aJ (cn (aF 0) (cc)) (aJ (bL iq nm.tuple (aJ (aF 3) (bp))) (bp))))))))
theorem kH (nm:Nm mg) {f:Addr}{fd:FuncData} (F:gM K "_law_sparse_by" "_law_sparse_by" aV f fd) (hm:mg "_law_sparse_by" = some (.ref f)) (d__law_draw:fq P w K mg base (eZ K w) 2 "_law_draw" 2 aK) (d__law_named:fq P w K mg base (eZ K w) 1 "_law_named" 2 bt) (d__law_names_by:fq P w K mg base (eZ K w) 3 "_law_names_by" 2 bS):fq P w K mg base (eZ K w) 4 "_law_sparse_by" 1 cH:=
 dX F aP rfl hm (F.b1 (by rfl) fun _ _ _ _ _ _ _=>by rfl) fun cdv A outer s H E hr=>
 aQ (cf 1 aP.nd (bb d__law_draw (hr.mono (by decide)) (aJ (aF 0) (aJ (cc) (bp)))))
 (aQ (cf 2 aP.nd (cP (cc) (bb d__law_draw (hr.mono (by decide)) (aJ (aF 0) (aJ (cc) (bp))))))
 (aQ (cf 3 aP.nd (iD (bp)))
 (aQ (jC KZ (pB nm.range (aJ (aF 2) (bp))) (jo 4 aP.nd) (aT (cf 3 aP.nd (cP (aF 3) (iR (cB (N:=["_law_pen", "_law_way", "_law_many", "_law_every", "_law_other", "_law_ties"]) (sc:=ar aV) (Nc:=["_law_one", "_law_other"]) (cap:=[none,some 4]) rfl rfl (by decide +kernel)) (pB nm.range (aJ (aF 4) (bp))) (fun _ _ _ _ _=>jo 0 jA) (fun _ _ _ _ _=>gP) (fun _ _ _ _ _=>cI (aJ (aF 0) (aJ (aF 1) (bp)))))))))
 (aQ (ic (dc (jL hr.units) (aF 1) (cc)) (aT (jQ 5 aP.nd (cB (N:=["_law_pen", "_law_way", "_law_many", "_law_every", "_law_other", "_law_ties"]) (sc:=ar aV) (Nc:=["_law_pair", "_law_pen"]) (cap:=[none,some 0]) rfl rfl (by decide +kernel)) (wB (aF 3)) (fun _ _ _ _ _=>jo 0 jz) (fun _ _ _ _ _=>wW (dc (jL hr.units) (bb d__law_draw (hr.mono (by decide)) (aJ (aF 1) (aJ (cc) (bp)))) (cc))) (fun _ _ _ _ _=>aF 0))) (aT (ic (dc (jL hr.units) (aF 1) (cc)) (aT (jQ 5 aP.nd (cB (N:=["_law_pen", "_law_way", "_law_many", "_law_every", "_law_other", "_law_ties"]) (sc:=ar aV) (Nc:=["_law_pair", "_law_pen"]) (cap:=[none,some 0]) rfl rfl (by decide +kernel)) (wB (aF 3)) (fun _ _ _ _ _=>jo 0 jy) (fun _ _ _ _ _=>wW (dc (jL hr.units) (bb d__law_draw (hr.mono (by decide)) (aJ (aF 1) (aJ (cc) (bp)))) (cc))) (fun _ _ _ _ _=>aF 0))) (aT (ic (dc (jL hr.units) (aF 1) (cc)) (aT (cf 5 aP.nd (cP (iR (cB (N:=["_law_pen", "_law_way", "_law_many", "_law_every", "_law_other", "_law_ties"]) (sc:=ar aV) (Nc:=["_law_place"]) (cap:=[none]) rfl rfl (by decide +kernel)) (pB nm.range (aJ (lz (aF 2) (cc)) (bp))) (fun _ _ _ _ _=>jo 0 jx) (fun _ _ _ _ _=>gP) (fun _ _ _ _ _=>cI (aJ (aF 0) (aJ (cP (aF 0) (cc)) (bp))))) (ui (iD (aJ (cI (aJ (cc) (aJ (lz (aF 2) (cc)) (bp)))) (bp))) (bL BV nm.int (aJ (og (lD (op:=.Gt) hr.units) (aF 2) (cc)) (bp))))))) (aT (ic (dc (jL hr.units) (aF 1) (cc)) (aT (jQ 5 aP.nd (cB (N:=["_law_pen", "_law_way", "_law_many", "_law_every", "_law_other", "_law_ties"]) (sc:=ar aV) (Nc:=["_law_place"]) (cap:=[none]) rfl rfl (by decide +kernel)) (pB nm.range (aJ (lz (aF 2) (cc)) (bp))) (fun _ _ _ _ _=>jo 0 jw) (fun _ _ _ _ _=>gP) (fun _ _ _ _ _=>cI (aJ (aF 0) (aJ (cP (aF 0) (cc)) (bp)))))) (aT (ic (dc (jL hr.units) (aF 1) (cc)) (aT (jQ 5 aP.nd (cB (N:=["_law_pen", "_law_way", "_law_many", "_law_every", "_law_other", "_law_ties"]) (sc:=ar aV) (Nc:=["_law_place"]) (cap:=[none]) rfl rfl (by decide +kernel)) (zC nm.range (aJ (cc) (aJ (aF 2) (bp)))) (fun _ _ _ _ _=>jo 0 jv) (fun _ _ _ _ _=>gP) (fun _ _ _ _ _=>cI (aJ (cc) (aJ (aF 0) (bp)))))) (aT (jQ 5 aP.nd (cB (N:=["_law_pen", "_law_way", "_law_many", "_law_every", "_law_other", "_law_ties"]) (sc:=ar aV) (Nc:=["_law_place", "_law_pen"]) (cap:=[none,some 0]) rfl rfl (by decide +kernel)) (zC nm.range (aJ (cc) (aJ (aF 2) (bp)))) (fun _ _ _ _ _=>jo 0 ju) (fun _ _ _ _ _=>gP) (fun _ _ _ _ _=>cI (aJ (bb d__law_draw (hr.mono (by decide)) (aJ (aF 1) (aJ (aF 0) (bp)))) (aJ (aF 0) (bp)))))))))))))))
 (aT (bW (bb d__law_named (hr.mono (by decide)) (aJ (cI (aJ (aF 2) (aJ (bL iq nm.tuple (aJ (aF 5) (bp))) (bp)))) (aJ (bb d__law_names_by (hr.mono (by decide)) (aJ (aF 0) (aJ (aF 2) (bp)))) (bp))))))))))
theorem nG (nm:Nm mg) {f:Addr}{fd:FuncData} (F:gM K "_law_web_by" "_law_web_by" eJ f fd) (hm:mg "_law_web_by" = some (.ref f)) (d__law_sparse_by:fq P w K mg base (eZ K w) 4 "_law_sparse_by" 1 cH) (d__law_draw:fq P w K mg base (eZ K w) 2 "_law_draw" 2 aK) (d__law_steps:fq P w K mg base (eZ K w) 2 "_law_steps" 2 cL):fq P w K mg base (eZ K w) 5 "_law_web_by" 1 dB:=
 dX F bY rfl hm (F.b1 (by rfl) fun _ _ _ _ _ _ _=>by rfl) fun cdv A outer s H E hr=>
 aQ (cf 1 bY.nd (bb d__law_sparse_by (hr.mono (by decide)) (aJ (aF 0) (bp))))
 (aQ (cf 2 bY.nd (bb d__law_draw (hr.mono (by decide)) (aJ (aF 0) (aJ (cc) (bp)))))
 (aQ (ic (dc (lD (op:=.Lt) hr.units) (aF 2) (cc)) (aT (cf 1 bY.nd (bb d__law_steps (hr.mono (by decide)) (aJ (aF 1) (aJ (cc) (bp)))))) (gO))
 (aQ (ic (u7 (qG (dc (jL hr.units) (aF 2) (cc)) (mG (dc (zA hr.units) (cn (aF 1) (cc)) (cI (bp)))))) (aQ (cf 3 bY.nd (bb d__law_draw (hr.mono (by decide)) (aJ (aF 0) (aJ (bL oq nm.len (aJ (cn (aF 1) (cc)) (bp))) (bp)))))
 (aT (bW (cI (aJ (cn (aF 1) (cc)) (aJ (cP (sI (cn (aF 1) (cc)) (jf) (gn (aF 3))) (sI (cn (aF 1) (cc)) (gn (cP (aF 3) (cc))) (jf))) (bp))))))) (gO))
 (aQ (ic (u7 (qG (dc (jL hr.units) (aF 2) (cc)) (mG (dc (lD (op:=.Gt) hr.units) (cn (aF 1) (cc)) (cc))))) (aQ (cf 4 bY.nd (bb d__law_draw (hr.mono (by decide)) (aJ (aF 0) (aJ (cn (aF 1) (cc)) (bp)))))
 (aQ (cf 5 bY.nd (bL iq nm.tuple (aJ (bL i4 nm.sorted (aJ (cI (aJ (aF 4) (aJ (n9 (cP (cP (aF 4) (cc)) (bb d__law_draw (hr.mono (by decide)) (aJ (aF 0) (aJ (lz (cn (aF 1) (cc)) (cc)) (bp))))) (cn (aF 1) (cc))) (bp)))) (bp))) (bp))))
 (aT (bW (cI (aJ (cn (aF 1) (cc)) (aJ (bL iq nm.tuple (aJ (bL i4 nm.sorted (aJ (bL (xj hr.units) nm.set (aJ (cP (cn (aF 1) (cc)) (cI (aJ (aF 5) (bp)))) (bp))) (bp))) (bp))) (bp)))))))) (gO))
 (aT (bW (aF 1)))))))
theorem qf (nm:Nm mg) {f:Addr}{fd:FuncData} (F:gM K "_law_told" "_law_told" fH f fd) (hm:mg "_law_told" = some (.ref f)) {a_RootError:Addr} (m_RootError:mg "RootError" = some (.ref a_RootError)) (kn_RootError:qQ K "RootError" a_RootError ["NoPlace"]) (d_renamed:zJ P w K mg base 7 "renamed" 2 eT) (d__law_kind_of:zK P w K mg base (eZ K w) 1 "_law_kind_of" 1 di):fq P w K mg base (eZ K w) 8 "_law_told" 2 bz:=
 dX F ky rfl hm (F.b2 (by rfl) fun _ _ _ _ _ _ _ _=>by rfl) fun cdv A outer s H E hr=>
 aT (ER xO ky.nd kn_RootError m_RootError (fun pins E=>aT (bW (zQ d_renamed (Fu xO) (hr.mono (by decide)) (aJ (aF 0) (aJ (aF 1) (bp)))))) (fun ea=>aT (bW (zR d__law_kind_of ((hr.h.mark _).mono (by decide)) (aJ (aF 2) (bp))))))
theorem D6 (nm:Nm mg) {f:Addr}{fd:FuncData} (F:gM K "law" "law" iS f fd) (d__law_cell_at:fq P w K mg base (eZ K w) 1 "_law_cell_at" 2 dj) (d__law_pen_of:fq P w K mg base (eZ K w) 1 "_law_pen_of" 1 dC) (d__law_web_by:fq P w K mg base (eZ K w) 5 "_law_web_by" 1 dB) (d__law_names_by:fq P w K mg base (eZ K w) 3 "_law_names_by" 2 bS) (d__law_told:fq P w K mg base (eZ K w) 8 "_law_told" 2 bz) (d__law_named:fq P w K mg base (eZ K w) 1 "_law_named" 2 bt) (d__law_draw:fq P w K mg base (eZ K w) 2 "_law_draw" 2 aK) (d__law_whole:fq P w K mg base (eZ K w) 1 "_law_whole" 1 eF):mr P w K mg base sH 9 f fd ["_law_script"] (zj (eZ K w) 1 qS):=
 FE F eR rfl fun cdv A outer s H E hr=>
 aQ (jC KZ (wB (cP (iD (aJ (bb d__law_cell_at (hr.mono (by decide)) (aJ (aF 0) (aJ (cc) (bp)))) (bp))) (sI (aF 0) (gn (cc)) (gn (cc))))) (jo 1 eR.nd) (aQ (cf 2 eR.nd (bb d__law_pen_of (hr.mono (by decide)) (aJ (aF 1) (bp))))
 (aQ (cf 3 eR.nd (bb d__law_web_by (hr.mono (by decide)) (aJ (aF 2) (bp))))
 (aQ (cf 4 eR.nd (cn (aF 3) (cc)))
 (aT (jC KZ (pB nm.range (aJ (cc) (bp))) (jo 5 eR.nd) (aQ (cf 6 eR.nd (bb d__law_names_by (hr.mono (by decide)) (aJ (aF 2) (aJ (aF 4) (bp)))))
 (aQ (ic (dc (BP) (bL (ma hr) nm.repr (aJ (bb d__law_told (hr.mono (by decide)) (aJ (aF 3) (aJ (aF 6) (bp)))) (bp))) (bL (ma hr) nm.repr (aJ (bb d__law_named (hr.mono (by decide)) (aJ (aF 3) (aJ (aF 6) (bp)))) (bp)))) (aT (bW (BZ))) (gO))
 (aQ (cf 7 eR.nd (bb d__law_draw (hr.mono (by decide)) (aJ (aF 2) (aJ (aF 4) (bp)))))
 (aQ (cf 8 eR.nd (cn (iD (aJ (aF 4) (aJ (EV (cc)) (aJ (En) (aJ (wD) (aJ (cI (aJ (cc) (bp))) (aJ (cn (aF 6) (lz (aF 7) (cc))) (aJ (BZ) (bp))))))))) (bb d__law_draw (hr.mono (by decide)) (aJ (aF 2) (aJ (cc) (bp))))))
 (aQ (cf 9 eR.nd (cP (cP (sI (aF 6) (jf) (gn (aF 7))) (cI (aJ (aF 8) (bp)))) (sI (aF 6) (gn (cP (aF 7) (cc))) (jf))))
 (aQ (cf 10 eR.nd (iD (aJ (aF 9) (aJ (cP (sI (aF 6) (jf) (gn (aF 7))) (sI (aF 6) (gn (cP (aF 7) (cc))) (jf))) (aJ (cP (aF 6) (cI (aJ (aF 4) (bp)))) (aJ (bL Ej nm.list (aJ (aF 6) (bp))) (aJ (En) (aJ (cc) (aJ (ES) (aJ (cP (aF 6) (cI (aJ (cc) (bp)))) (bp)))))))))))
 (aT (jC KZ (wB (aF 10)) (jo 11 eR.nd) (aQ (cf 12 eR.nd (j8 (oa (T:="tuple") (by decide) rS (by decide) (by decide) nm.isinstance nm.tuple (aF 11)) (mw (bL BW nm.all (aJ (iR (cB (N:=["_law_script", "_law_cell", "_law_pen", "_law_web", "_law_many", "_law_turn", "_law_names", "_law_spot", "_law_odd", "_law_bad", "_law_some", "_law_thing", "_law_good"]) (sc:=ar iS) (Nc:=["_law_one"]) (cap:=[none]) rfl rfl (by decide +kernel)) (wB (aF 11)) (fun _ _ _ _ _=>jo 0 yO) (fun _ _ _ _ _=>gP) (fun _ _ _ _ _=>bb d__law_whole (hr.mono (by decide)) (aJ (aF 0) (bp)))) (bp))))))
 (aT (ic (u7 (qG (Eo (aF 12)) (mG (dc (jL hr.units) (bL i4 nm.sorted (aJ (aF 11) (bp))) (xo nm.range nm.list (aJ (aF 4) (bp))))))) (aT (ic (dc (BP) (bL (ma hr) nm.repr (aJ (bb d__law_told (hr.mono (by decide)) (aJ (aF 3) (aJ (aF 11) (bp)))) (bp))) (bL (ma hr) nm.repr (aJ (bb d__law_named (hr.mono (by decide)) (aJ (aF 3) (aJ (aF 11) (bp)))) (bp)))) (aT (bW (BZ))) (gO))) (aT (ic (dc (zA hr.units) (bb d__law_told (hr.mono (by decide)) (aJ (aF 3) (aJ (aF 11) (bp)))) (wD)) (aT (bW (BZ))) (gO))))))))))))))))))))
 (aT (bW (BZ)))
end
end Lw
namespace Lv
variable {adj:Int->Int->Prop}{p:Int}
def R (adj:Int->Int->Prop) (p:Int):Nat->Int->Prop
 | 0,q=>q=p
 | n+1,q=>R adj p n q\/∃ r,adj r q/\R adj p n r
def pk (adj:Int->Int->Prop) (p:Int):Nat->Int->Prop
 | 0,q=>q=p
 | n+1,q=>R adj p (n+1) q/\¬ R adj p n q
theorem R.up {n:Nat}{q:Int} (h:R adj p n q):R adj p (n+1) q:=.inl h
theorem R.mono {n m:Nat}{q:Int} (h:R adj p n q) (hm:n<=m):R adj p m q:=by
 induction hm with
 | refl=>exact h
 | step _ ih=>exact ih.up
theorem pk.r {n:Nat}{q:Int} (h:pk adj p n q):R adj p n q:=by
 cases n with
 | zero=>exact h
 | succ n=>exact h.1
theorem R.lev {n:Nat}{q:Int} (h:R adj p n q):∃ j,j<=n/\pk adj p j q:=by
 induction n with
 | zero=>exact ⟨0,HI _,h⟩
 | succ n ih=>
  by_cases hr:R adj p n q
  ·obtain ⟨j, hj, hl⟩ := ih hr
   exact ⟨j,by omega,hl⟩
  ·exact ⟨n+1,HI _,h,hr⟩
theorem pk.low {n j:Nat}{q:Int} (h:pk adj p n q) (hj:j<n):¬ R adj p j q:=by
 cases n with
 | zero=>omega
 | succ n=>exact fun hr=>h.2 (hr.mono (by omega))
theorem pk.one {n m:Nat}{q:Int} (h:pk adj p n q) (h':pk adj p m q):n=m:=by
 rcases Nat.lt_trichotomy n m with z | z | z
 ·exact absurd h.r (h'.low z)
 ·exact z
 ·exact absurd h'.r (h.low z)
theorem iW {n:Nat}{q:Int}:pk adj p (n+1) q↔¬ R adj p n q/\∃ r,adj r q/\pk adj p n r:=by
 constructor
 ·rintro ⟨h1, h2⟩
  refine ⟨h2,?_⟩
  rcases h1 with h1 | ⟨r,ha,hr⟩
  ·exact absurd h1 h2
  ·refine ⟨r, ha, ?_⟩
   cases n with
   | zero=>exact hr
   | succ n=>exact ⟨hr,fun z=>h2 (.inr ⟨r,ha,z⟩)⟩
 ·rintro ⟨h1, r, ha, hr⟩
  exact ⟨.inr ⟨r,ha,hr.r⟩,h1⟩
def Up (adj:Int->Int->Prop) (p:Int) (D:Int->Prop) (n:Nat) (f:Int->Option Nat):Prop:=∀ q,D q->∀ j,f q=some j↔(j<=n/\pk adj p j q)
theorem Up.none {D:Int->Prop}{n:Nat}{f:Int->Option Nat} (h:Up adj p D n f) {q:Int} (hq:D q):f q=none↔¬ R adj p n q:=by
 constructor
 ·intro e hr
  obtain ⟨j,hj,hl⟩:=hr.lev
  have:=(h q hq j).mpr ⟨hj,hl⟩
  rw [e] at this;cases this
 ·intro hr
  cases e:f q with
  | none=>rfl
  | some j=>
   obtain ⟨hj,hl⟩:=(h q hq j).mp e
   exact absurd (hl.r.mono hj) hr
theorem Bv {D:Int->Prop}{f:Int->Option Nat} (h:∀ q,D q->f q=if q=p then some 0 else Option.none):Up adj p D 0 f:=fun q hq j=>by
 rw [h q hq]
 by_cases e:q=p
 ·rw [G6 e]
  constructor
  ·intro z;cases z;exact ⟨HI _,e⟩
  ·rintro ⟨h1, _⟩
   have:j=0:=by omega
   rw [this]
 ·rw [G7 e]
  constructor
  ·intro z;cases z
  ·rintro ⟨h1, h2⟩
   have:j=0:=by omega
   subst this
   exact absurd h2 e
theorem Up.next {D:Int->Prop}{n:Nat}{f f':Int->Option Nat} (h:Up adj p D n f) (hD:∀ a b,adj a b->D a) (e:∀ q,D q->∀ j,f' q=some j↔(f q=some j\/(f q=Option.none/\j=n+1/\∃ r,adj r q/\f r=some n))):Up adj p D (n+1) f':=fun q hq j=>by
 rw [e q hq j]
 constructor
 ·rintro (z | ⟨z1, z2, r, z3, z4⟩)
  ·obtain ⟨hj, hl⟩ := (h q hq j).mp z
   exact ⟨by omega,hl⟩
  ·subst z2
   refine ⟨HI _,iW.mpr ⟨(h.none hq).mp z1,r,z3,?_⟩⟩
   exact ((h r (hD r q z3) n).mp z4).2
 ·rintro ⟨hj, hl⟩
  by_cases hn:j<=n
  ·exact .inl ((h q hq j).mpr ⟨hn,hl⟩)
  ·have : j = n + 1 := by omega
   subst this
   obtain ⟨h1,r,ha,hr⟩:=iW.mp hl
   exact .inr ⟨(h.none hq).mpr h1,rfl,r,ha,(h r (hD r q ha) n).mpr ⟨HI _,hr⟩⟩
def wU (adj:Int->Int->Prop) (p:Int) (D:Int->Prop) (f:Int->Option Nat):Prop:=∀ q,D q->∀ j,f q=some j↔pk adj p j q
theorem pk.below {n:Nat}:∀ {q:Int},pk adj p n q->∀ j,j<=n->∃ r,pk adj p j r:=by
 induction n with
 | zero => intro q h j hj; exact ⟨q, by have : j = 0 := by omega
                                        subst this;exact h⟩
 | succ n ih=>
  intro q h j hj
  by_cases e:j=n+1
  ·subst e;exact ⟨q,h⟩
  ·obtain ⟨_, r, _, hr⟩ := iW.mp h
   exact ih hr j (by omega)
theorem Up.full {D:Int->Prop}{n:Nat}{f:Int->Option Nat} (h:Up adj p D n f) (hD:∀ a b,adj a b->D b) (e:∀ q,D q->¬ pk adj p (n+1) q):wU adj p D f:=fun q hq j=>by
 rw [h q hq j]
 constructor
 ·exact fun z=>z.2
 ·intro hl
  refine ⟨?_,hl⟩
  apply Nat.le_of_not_lt
  intro hj
  obtain ⟨r,hr⟩:=hl.below (n+1) (by omega)
  obtain ⟨_,s,hs,_⟩:=iW.mp hr
  exact e r (hD s r hs) hr
theorem DM {m:Nat} (hp:0<=p/\p<m) (hD:∀ a b,adj a b->0<=b/\b<m) {n:Nat}{q:Int} (h:pk adj p n q):n<m:=by
 have hr:∀ j,∃ r,j<=n->pk adj p j r:=fun j=>by
  by_cases hj:j<=n
  ·obtain ⟨r,hr⟩:=h.below j hj;exact ⟨r,fun _=>hr⟩
  ·exact ⟨0,fun z=>absurd z hj⟩
 let r:Nat->Int:=fun j=>(hr j).choose
 have hr':∀ j,j<=n->pk adj p j (r j):=fun j hj=>(hr j).choose_spec hj
 have rng:∀ j,j<=n->0<=r j/\r j<m:=fun j hj=>by
  have:=hr' j hj
  cases j with
  | zero=>rw [show r 0=p from this];exact hp
  | succ j=>
   obtain ⟨_,s,hs,_⟩:=iW.mp this
   exact hD s _ hs
 have nd:((List.range (n+1)).map fun j=>(r j).toNat).Nodup:=by
  rw [List.Nodup,Kq]
  refine List.Pairwise.imp_of_mem (R:=(·<·)) ?_ JS
  intro a b ha hb hab e
  rw [Hf] at ha hb
  have r1:=rng a (by omega)
  have r2:=rng b (by omega)
  have e':r a=r b:=by omega
  have h1:=hr' a (by omega)
  have h2:=hr' b (by omega)
  rw [e'] at h1
  have:=h1.one h2
  omega
 have sub:((List.range (n+1)).map fun j=>(r j).toNat) ⊆ List.range m:=fun x hx=>by
  obtain ⟨j,hj,rfl⟩:=JC.mp hx
  rw [Hf] at hj ⊢
  have:=rng j (by omega)
  omega
 have:=nd.length_le_of_subset sub
 rw [Il,Jw,Jw] at this;omega
end Lv
namespace Lv
def sJ (f:Int->Option Nat) (r:Int) (v:Nat):Int->Option Nat:=fun q=>if q=r then some v else f q
def wF (n:Nat) (f:Int->Option Nat) (qr:Int × Int):Int->Option Nat:=if f qr.1=some n/\f qr.2=none then sJ f qr.2 (n+1) else f
theorem z5 {n:Nat}{f0 f:Int->Option Nat}{done:List (Int × Int)}{qr:Int × Int}
  (h:∀ q j,f q=some j↔(f0 q=some j\/(f0 q=none/\j=n+1/\∃ r,(r,q)∈done/\f0 r=some n))) :
  ∀ q j,wF n f qr q=some j↔(f0 q=some j\/(f0 q=none/\j=n+1/\∃ r,(r,q)∈done++[qr]/\f0 r=some n)):=by
 intro q j
 have hn:∀ r,f r=some n↔f0 r=some n:=fun r=>by
  rw [h r n]
  constructor
  ·rintro (z | ⟨_, z, _⟩)
   ·exact z
   ·omega
  ·exact .inl
 have h0:∀ r,f r=none->f0 r=none:=fun r e=>by
  cases e0:f0 r with
  | none=>rfl
  | some i=>
   have:=(h r i).mpr (.inl e0)
   rw [e] at this;cases this
 obtain ⟨a,b⟩:=qr
 unfold wF
 dsimp only
 by_cases c:f a=some n/\f b=none
 ·rw [G6 c]
  unfold sJ
  by_cases e:q=b
  ·subst e
   rw [G6 rfl]
   have z:=h0 q c.2
   constructor
   ·intro e; cases e
    exact .inr ⟨z,rfl,a,by simp,(hn a).mp c.1⟩
   ·rintro (y | ⟨_, y, _⟩)
    ·rw [z] at y;cases y
    ·rw [y]
  ·rw [G7 e, h q j]
   constructor
   ·rintro (y | ⟨y1, y2, r, y3, y4⟩)
    ·exact .inl y
    ·exact .inr ⟨y1,y2,r,Ho _ y3,y4⟩
   ·rintro (y | ⟨y1, y2, r, y3, y4⟩)
    ·exact .inl y
    ·rcases Hn.mp y3 with y3 | y3
     ·exact .inr ⟨y1,y2,r,y3,y4⟩
     ·simp at y3;exact absurd y3.2 e
 ·rw [G7 c, h q j]
  constructor
  ·rintro (y | ⟨y1, y2, r, y3, y4⟩)
   ·exact .inl y
   ·exact .inr ⟨y1,y2,r,Ho _ y3,y4⟩
  ·rintro (y | ⟨y1, y2, r, y3, y4⟩)
   ·exact .inl y
   ·rcases Hn.mp y3 with y3 | y3
    ·exact .inr ⟨y1,y2,r,y3,y4⟩
    ·simp at y3
     obtain ⟨rfl,rfl⟩:=y3
     have c2:f q≠none:=fun z=>c ⟨(hn r).mpr y4,z⟩
     cases e:f q with
     | none=>exact absurd e c2
     | some i=>
      have:=(h q i).mp e
      rcases this with w | ⟨w1,w2,w3⟩
      ·rw [y1] at w;cases w
      ·exact .inr ⟨y1,y2,w3⟩
theorem rM {n:Nat}{f0:Int->Option Nat}:∀ (qs done:List (Int × Int)) (f:Int->Option Nat),
  (∀ q j,f q=some j↔(f0 q=some j\/(f0 q=none/\j=n+1/\∃ r,(r,q)∈done/\f0 r=some n))) ->
  ∀ q j,qs.foldl (wF n) f q=some j↔(f0 q=some j\/(f0 q=none/\j=n+1/\∃ r,(r,q)∈done++qs/\f0 r=some n))
 | [],done,f,h=>by simpa using h
 | qr::qs,done,f,h=>by
  have:=rM qs (done++[qr]) (wF n f qr) (z5 h)
  simpa [IP] using this
theorem yp {adj:Int->Int->Prop}{p:Int}{D:Int->Prop}{n:Nat}{f:Int->Option Nat}{qs:List (Int × Int)} (h:Up adj p D n f) (hD:∀ a b,adj a b->D a) (ha:∀ a b,adj a b↔(a,b)∈qs):Up adj p D (n+1) (qs.foldl (wF n) f):=by
 refine h.next hD fun q hq j=>?_
 have:=rM (n:=n) (f0:=f) qs [] f (fun q j=>by simp) q j
 rw [this]
 simp only [IU,ha]
def rg (m:Nat):List Int:=(List.range m).map Int.ofNat
theorem xI {m:Nat}{p:Int}:p∈rg m↔0<=p/\p<m:=by
 unfold rg
 rw [JC]
 constructor
 ·rintro ⟨i, hi, rfl⟩
  have:=Hf.mp hi
  exact ⟨Int.natCast_nonneg _,by simpa using this⟩
 ·rintro ⟨h0, h1⟩
  exact ⟨p.toNat,Hf.mpr (by omega),by simp;omega⟩
theorem C1 {m:Nat}:(rg m).length=m:=by simp [rg]
structure G0 (m k:Nat) (w:List Int):Prop where
 len:w.length=k+1
 nd:w.Nodup
 rng:∀ p∈w,0<=p/\p<(m:Int)
theorem km {m:Nat}{f:List Int->List (List Int)} (h:∀ w,(f w).length<=m):∀ l:List (List Int),(l.flatMap f).length<=l.length * m
 | []=>by simp
 | w::l=>by
  rw [K0,Ik,I0,Nat.succ_mul]
  have:=h w;have:=km h l;omega
end Lv
namespace Lv
section
variable {adj adj':Int->Int->Prop}{D:Int->Prop}{p:Int}
end
end Lv
namespace Lw
open PySem L2 RS
theorem cJ:1000<=sizeLine:=by decide
theorem uB {μ:ax} (s:Int):∃ r:Int,d4 [.int s] μ=.ok (.int r) μ:=by
 have h0:0<=(s+7919) % 2147483647:=K1 _ (by decide)
 have h1:(s+7919) % 2147483647<2147483647:=K2 _ (by decide)
 generalize ht:(s+7919) % 2147483647=t at h0 h1
 refine ⟨(t * t+48271 * t+12345) % 2147483629,?_⟩
 have c1:qF t t:=.inl ⟨by omega,by omega⟩
 have c2:qF 48271 t:=.inl ⟨by omega,by omega⟩
 unfold d4
 rw [fV]
 simp [lL,ht,c1,c2]
 exact bN (by simp)
def bc (a b c:Int):O:=.lst [.int a,.int b,.int c]
theorem lZ {n:Nat}{a b c:Int}:(bc a b c).low n:=by simp [bc,O.low]
theorem CI {μ:ax} (x:Int):∃ a b c:Int,dC [.int x] μ=.ok (.obj μ.length) (μ++[bc a b c]):=by
 have e:∀ i j:Int,qy [.int i,.int j] μ=.ok (.int (if j > i then j else i)) μ:=fun _ _=>rfl
 have p1:Ci 10 18:=⟨by decide,by decide,by decide⟩
 have ib:∀ k:Bool,∀ μ,lE [.bl k] μ=.ok (.int (if k then 1 else 0)) μ:=fun _ _=>rfl
 refine ⟨(if 0 - x > x then 0 - x else x),(if dk .GtE (if 0 - x > x then 0 - x else x) (10 ^ (18:Int).toNat) then 1 else 0),(if 0 - x > x then 0 - x else x) % 1000003,?_⟩
 unfold dC
 rw [fV]
 have l3:(3:Nat)<=sizeLine:=by decide
 simp only [jI,aX,aZ,az,aq,au,ag,aj,aE,bh,aa,ae,FF,e,cu,aL,bg,fB,List.set,List.replicate,K3,K4]
 have pw:Ca (.int 10) (.int 18) μ=.ok (.int (10 ^ (18:Int).toNat)) μ:=kS p1
 have md:∀ x,nK (.int x) (.int 1000003) μ=.ok (.int (x % 1000003)) μ:=fun x=>kS (show (0:Int)<1000003 by decide)
 simp only [pw,md,aa,eC,ib,I0,Jx,G6 l3,ae,aN]
 rw [BQ (by simp)]
 rfl
theorem lY {μ:ax}{i:Nat}{a b c m:Int} (hp:μ[i]?=some (bc a b c)) (h0:0<m) (h1:m<1000) :
  ∃ r a' b' c':Int,0<=r/\r<m/\aK [.obj i,.int m] μ=.ok (.int r) (μ.set i (bc a' b' c')):=by
 have hi:i<μ.length:=(Hq.mp hp).1
 have hp':μ[i]?=some (.lst [.int a,.int b,.int c]):=hp
 have md:∀ {x:Int}{μ:ax},nK (.int x) (.int m) μ=.ok (.int (x % m)) μ:=fun {x μ}=>kS (show (fun _ j=>(0:Int)<j) x m from h0)
 have fd:∀ {x:Int}{μ:ax},qO (.int x) (.int m) μ=.ok (.int (x / m)) μ:=fun {x μ}=>kS (show zL x m from ⟨h0,by omega⟩)
 have f64:∀ {x:Int}{μ:ax},qO (.int x) (.int 64) μ=.ok (.int (x / 64)) μ:=fun {x μ}=>kS (show zL x 64 from ⟨by decide,by decide⟩)
 unfold aK
 rw [cU]
 by_cases hb:b=1
 ·subst hb
  refine ⟨a % m,a / m,1,c,K1 _ (by omega),K2 _ h0,?_⟩
  simp only [jb,aX,bB,cE,aE,ag,aj,bh,aa]
  rw [gI hp' xm]
  simp only [aa,cz,IY,Iv,aR,ae,aX,aZ,aE,ag,aj,bh]
  simp only [IZ,Iu,Iv,aX,aZ,aE,ag,aj,bh,aa]
  rw [gI hp' uq]
  simp only [aa,md,ae,cu,aL,List.replicate,K3,K4,ag,aj,bh,aE,aZ,aX]
  rw [gI hp' uq]
  simp only [aa,fd,ae,l9,ag,aj,bh]
  rw [pT hp' (pG (by decide) (by simp))]
  simp only [aa,ae,aL,bg,ag,aj,pE,aN]
  exact uQ (by simp only [Bb]) (lZ (a:=a / m) (b:=1) (c:=c))
 ·obtain ⟨s1, e1⟩ := uB (μ := μ) c
  obtain ⟨s2,e2⟩:=uB (μ:=μ) (s1+7)
  refine ⟨s2 / 64 % m,a,b,s2,K1 _ (by omega),K2 _ h0,?_⟩
  have hb':(b == 1)=false:=by simpa using hb
  simp only [jb,aX,bB,cE,aE,ag,aj,bh,aa]
  rw [gI hp' xm]
  simp only [aa,cz,hb',aR,ae,IZ,Iu,cv,aL,aX,aZ,az,aq,au,aE,ag,aj,bh]
  rw [gI hp' BX]
  simp only [aa,e1,fF,e2,ae,l9,ag,aj,bh]
  rw [pT hp' (pG (by decide) (by simp))]
  have hg:(μ.set i (.lst ([D.int a,D.int b,D.int c].set (2:Int).toNat (.int s2))))[i]?=some (.lst [D.int a,D.int b,D.int s2]):=by rw [Hs hi];rfl
  simp only [aa,ae,aL,bg,aE,ag,aj,bh]
  rw [gI hg BX]
  simp only [aa,f64,md,ae,aN]
  exact uQ (by simp) (lZ (a:=a) (b:=b) (c:=s2))
theorem aO {μ g:ax}{i:Nat}{o:O} (h:μ[i]?=some o):(μ++g)[i]?=some o:=by
 rw [Ig (Hq.mp h).1];exact h
theorem kc {μ g:ax}{i:Nat}{o:O} (h:i<μ.length):(μ++g).set i o=μ.set i o++g:=by
 rw [List.set_append_left _ _ h]
theorem gq {μ:ax}{i:Nat}{o:O} (h:i<μ.length):(μ.set i o)[i]?=some o:=Hs h
theorem oR {β γ:Type}{f:β->γ}:∀ {l:List β}{i:Nat},(l.map f).eraseIdx i=(l.eraseIdx i).map f
 | [],_=>rfl
 | _::_,0=>rfl
 | x::r,i+1=>by simp [oR (l:=r) (i:=i)]
theorem A5 {μ:ax}{i:Nat}{a b c:Int}{L:List Int}{ys:List D}{x:D} (hi:i<μ.length) (hL:0<L.length) (hL2:L.length<1000) :
  ∃ (r:Nat) (y:Int) (a' b' c':Int),L[r]?=some y/\cZ [some x,some (.obj μ.length),some (.obj i)] ((μ.set i (bc a b c)++[.lst (L.map D.int)])++.lst ys::[]) =
   .ok (.int y) ((μ.set i (bc a' b' c')++[.lst ((L.eraseIdx r).map D.int)])++.lst ys::[]):=by
 have hn:((μ.set i (bc a b c)++[.lst (L.map D.int)])++.lst ys::[])[μ.length]?=some (.lst (L.map D.int)):=by
  have e:μ.length=(μ.set i (bc a b c)).length:=by simp
  rw [IP,e]
  exact av
 have hp:((μ.set i (bc a b c)++[.lst (L.map D.int)])++.lst ys::[])[i]?=some (bc a b c):=aO (aO (gq hi))
 obtain ⟨r,a',b',c',h0,h1,e⟩:=lY (m:=(L.length:Int)) hp (by omega) (by omega)
 have hr:r.toNat<L.length:=by omega
 refine ⟨r.toNat,L[r.toNat],a',b',c',KA hr,?_⟩
 have hset:((μ.set i (bc a b c)++[O.lst (L.map D.int)])++O.lst ys::[]).set i (bc a' b' c')=(μ.set i (bc a' b' c')++[O.lst (L.map D.int)])++O.lst ys::[]:=by
  rw [kc (by simp;omega),kc (by simpa using hi),List.set_set]
 have hn':((μ.set i (bc a' b' c')++[.lst (L.map D.int)])++.lst ys::[])[μ.length]?=some (.lst (L.map D.int)):=by
  have e:μ.length=(μ.set i (bc a' b' c')).length:=by simp
  rw [IP,e]
  exact av
 have hl:wG (.obj μ.length) ((μ.set i (bc a b c)++[.lst (L.map D.int)])++.lst ys::[])=true:=by
  unfold wG;simp only [hn]
 unfold cZ
 simp only [xg,aj,ag,aa,hl,Iv,aq,au,az]
 rw [Bn hn]
 simp only [aa,Il]
 rw [e]
 simp only [aa,hset]
 unfold mL
 dsimp only
 rw [hn']
 dsimp only
 rw [pG h0 (by simpa using h1)]
 dsimp only
 rw [Ih,KA hr]
 dsimp only [Option.map_some]
 rw [G6 (by omega)]
 congr 1
 have e2:μ.length=(μ.set i (bc a' b' c')).length:=by simp
 rw [IP,e2]
 show (μ.set i (bc a' b' c')++O.lst (L.map D.int)::[O.lst ys]).set _ _=_
 rw [kh,IP]
 congr 2
 congr 1
 exact oR
theorem tJ {L:List Int}{r:Nat}{y:Int} (h:L[r]?=some y):L.Perm (y::L.eraseIdx r):=by
 induction L generalizing r with
 | nil=>simp at h
 | cons x l ih=>
  cases r with
  | zero=>simp at h;subst h;exact List.Perm.refl _
  | succ r=>
   simp at h
   exact ((ih h).cons x).trans (List.Perm.swap y x _)
theorem qW {μ:ax}{i:Nat}{a b c m:Int} (hp:μ[i]?=some (bc a b c)) (h0:1<=m) (h1:m<=6) :
  ∃ (ns:List Int) (a' b' c':Int),ns.Nodup/\(ns.length:Int)=m/\(∀ n∈ns,0<=n/\n<m)/\bS [.obj i,.int m] μ=.ok (.tup (ns.map D.int)) (μ.set i (bc a' b' c')):=by
 have hi:i<μ.length:=(Hq.mp hp).1
 have h00:μ=μ.set i (bc a b c):=by
  apply Km
  intro j
  by_cases hj:i=j
  ·subst hj;rw [gq hi];exact hp
  ·rw [Ht hj]
 let N0:List Int:=(List.range m.toNat).map fun (k:Nat)=>(k:Int)
 have hN0:bq 0 m.toNat=N0.map D.int:=by
  simp only [bq,N0,Ju]
  apply Jv;intro k _;simp
 have run:=gY (src:=.fix (bq 0 m.toNat)) (g:=ah 0) (t:=bx) (e:=cZ) (n:=μ.length+1)
  (fun xs ys ρ μ1 s=>s=[]/\∃ (o:Option D) (L ns:List Int) (a b c:Int),ρ=[o,some (.obj μ.length),some (.obj i)]/\μ1=μ.set i (bc a b c)++[.lst (L.map D.int)]/\ys=ns.map D.int/\(ns++L).Perm N0/\L.length=xs.length/\xs.length<=6)
  (fun ys ρ μ1 s ⟨_,o,L,ns,a,b,c,_,e,_⟩=>⟨by rw [e];simp,trivial⟩)
  (fun x r ys ρ μ1 s hJJ => by
   obtain ⟨es,o,L,ns,a,b,c,e1,e2,e3,e4,e5,e6⟩:=hJJ
   subst es
   refine ⟨by rw [e2];simp,trivial,[some x,some (.obj μ.length),some (.obj i)],μ1,[],true,μ1,[],by rw [e1];rfl,rfl,fun _=>?_,fun z=>by cases z⟩
   simp only [I0] at e5 e6
   obtain ⟨j,y,a',b',c',hj,e⟩:=A5 (a:=a) (b:=b) (c:=c) (L:=L) (ys:=ys) (x:=x) hi (by omega) (by omega)
   rw [e2]
   refine ⟨.int y,_,[],e,?_,by simp,rfl,some x,L.eraseIdx j,ns++[y],a',b',c',rfl,rfl,by rw [e3];simp,?_,?_,by omega⟩
   ·rw [e3, Il]
    have:=e4.length_eq
    have hN:N0.length=m.toNat:=by simp [N0]
    rw [Ik,hN] at this
    exact Hb (show ns.length<1000 by omega) cJ
   ·rw [IP]
    exact (List.Perm.append_left ns (tJ hj).symm).trans e4
   ·have hlt := (Hq.mp hj).1
    rw [List.length_eraseIdx,G6 hlt];omega)
  (xs:=bq 0 m.toNat) (ys:=[]) (ρ:=[none,some (.obj μ.length),some (.obj i)]) (μ1:=μ++[.lst (bq 0 m.toNat)]) (s:=[])
  ⟨rfl,none,N0,[],a,b,c,rfl,by rw [<- h00,hN0],rfl,by simp,by simp [N0,bq],by simp [bq];omega⟩
 obtain ⟨ys',ρ',μ1',s',⟨es,o,L,ns,a',b',c',f1,f2,f3,f4,f5,_⟩,run⟩:=run
 have hLn:L=[]:=KQ (by simpa using f5)
 subst hLn es
 rw [HS] at f4
 refine ⟨ns,a',b',c',?_,?_,fun n hn=>?_,?_⟩
 ·rw [f4.nodup_iff]
  simp only [N0]
  rw [List.nodup_iff_pairwise_ne,Kq]
  exact (JE (n:=m.toNat)).imp fun h e=>h (by omega)
 ·have := f4.length_eq
  rw [this];simp [N0];omega
 ·have := f4.mem_iff.mp hn
  simp only [N0,JC,Hf] at this
  obtain ⟨k,hk,rfl⟩:=this
  omega
 ·unfold bS
  rw [cU]
  have lr:il [.int m] μ=.ok (.obj μ.length) (μ++[.lst (bq 0 m.toNat)]):=by
   unfold il;dsimp only;rw [G6 (by omega)]
  simp only [iG,aX,aZ,az,aq,au,aj,ag,aa,lr,ae,cu,aL,bg,cw,cY]
  simp only [List.replicate,K3,K4,aj,ag,aa]
  rw [gx (by omega) (by omega)]
  simp only [aa,br,Ik,I0,Jx]
  rw [show fv [none,some 2,some 0] [some (D.obj i),some (D.int m),some (D.obj μ.length)]=[none,some (.obj μ.length),some (.obj i)] from rfl]
  rw [run]
  simp only [aa]
  have hl:(μ1'++[O.lst ys'])[μ.length+1]?=some (.lst ys'):=by
   have:μ1'.length=μ.length+1:=by rw [f2];simp
   rw [<- this];exact av
  rw [gu hl]
  simp only [ae,aN]
  rw [f2,f3,IP]
  exact sU (fk.mpr (by simp)) lZ
def pj (m:Int) (k:List Int):Prop:=∃ a b:Int,k=[a,b]/\0<=a/\a<b/\b<m
theorem pj.prs {m:Int}{k:List Int} (h:pj m k) (hm:m<=6):k∈prs:=by
 obtain ⟨a,b,rfl,h1,h2,h3⟩:=h
 exact uD h1 h2 (by omega)
def dw (d:D) (m:Int) (ks:List (List Int)):Prop:=d=.tup [.int m,.tup (ks.map aB)]/\1<=m/\m<=6/\(ks.Pairwise fun a b=>n5 a<n5 b)/\∀ k∈ks,pj m k
theorem gC {m:Int}{ks:List (List Int)} (h0:1<=m) (h1:m<=6) (hk:∀ k∈ks,pj m k):dw (.tup [.int m,.tup ((d7 ks).map aB)]) m (d7 ks):=by
 refine ⟨rfl,h0,h1,nk.filter _,fun k h=>?_⟩
 unfold d7 at h
 rw [He,KN] at h
 exact hk k h.2
theorem iZ {m:Int}{ks:List (List Int)}{d:D} (h:dw d m ks):ks.length<=15:=by
 obtain ⟨_,_,hm,hp,hk⟩:=h
 have hn:ks.Nodup:=hp.imp fun h e=>by subst e;omega
 have hs:ks ⊆ prs:=fun k h=>(hk k h).prs hm
 have:=hn.length_le_of_subset hs
 rw [uE] at this
 exact this
def bw (p:Int × Int):D:=.tup [.int p.1,.int p.2]
theorem l2:(2:Nat)<=sizeLine:=by decide
theorem B7 {u v:Int}{μ:ax}:vb [.tup [.int u,.int v]] μ=.ok (.int (min u v)) μ:=rfl
theorem B8 {u v:Int}{μ:ax}:qy [.tup [.int u,.int v]] μ=.ok (.int (max u v)) μ:=rfl
theorem yb {μ:ax}{m:Int}{ps:List (Int × Int)}{ns:List Int} (h0:1<=m) (h1:m<=6) (hps:∀ p∈ps,0<=p.1/\p.1<m/\0<=p.2/\p.2<m/\p.1≠p.2) (hl:ps.length<1000)
  (hn:ns.Nodup) (hnl:(ns.length:Int)=m) (hnr:∀ n∈ns,0<=n/\n<m) :
  ∃ d ks,dw d m ks/\bt [.tup [.int m,.tup (ps.map bw)],.tup (ns.map D.int)] μ=.ok d μ:=by
 let nm:Int->Int:=fun k=>ns.getD k.toNat 0
 have nmD:∀ k,0<=k->k<m->atI (ns.map D.int) k=some (.int (nm k)):=fun k k0 k1=>by
  have hk:k.toNat<ns.length:=by omega
  refine mP k0 ?_
  rw [Ih,KA hk]
  simp [nm,Kl,KA hk]
 have nmR:∀ k,0<=k->k<m->0<=nm k/\nm k<m:=fun k k0 k1=>by
  have hk:k.toNat<ns.length:=by omega
  have:nm k=ns[k.toNat]:=by simp [nm,Kl,KA hk]
  rw [this];exact hnr _ (Ky hk)
 have nmI:∀ j k,0<=j->j<m->0<=k->k<m->j≠k->nm j≠nm k:=fun j k j0 j1 k0 k1 hjk e=>by
  have hj:j.toNat<ns.length:=by omega
  have hk:k.toNat<ns.length:=by omega
  have e1:nm j=ns[j.toNat]:=by simp [nm,Kl,KA hj]
  have e2:nm k=ns[k.toNat]:=by simp [nm,Kl,KA hk]
  rw [e1,e2] at e
  have:=(Hr hn).mp e
  omega
 let qs:List (Int × Int):=ps.map fun p=>(nm p.1,nm p.2)
 let ks:List (List Int):=qs.map fun p=>[min p.1 p.2,max p.1 p.2]
 have hks:∀ k∈ks,pj m k:=fun k hk=>by
  simp only [ks,qs,Ju,JC,K5] at hk
  obtain ⟨p,hp,rfl⟩:=hk
  obtain ⟨a1,a2,a3,a4,a5⟩:=hps p hp
  have b1:=nmR p.1 a1 a2
  have b2:=nmR p.2 a3 a4
  have b3:=nmI p.1 p.2 a1 a2 a3 a4 a5
  exact ⟨_,_,rfl,by omega,by omega,by omega⟩
 refine ⟨_,_,gC h0 h1 hks,?_⟩
 have c1:compLoop (.fix (ps.map bw)) μ.length (d8 2 (bf (ah 0) (bf (ah 1) d9))) bx cb (ps.map bw) [none,none,some (.tup (ns.map D.int))] (μ++[.lst []])=.ok (.obj μ.length) (μ++[.lst (qs.map bw)]):=by
  have:=d3 (src:=.fix (ps.map bw)) (g:=d8 2 (bf (ah 0) (bf (ah 1) d9))) (t:=bx) (e:=cb) (μ1:=μ) (q:=fun _=>true)
   (h:=fun d=>match d with | .tup [.int a,.int b]=>bw (nm a,nm b) | _=>.non) (fun ρ=>∃ o1 o2,ρ=[o1,o2,some (.tup (ns.map D.int))]) (fun _=>trivial) (xs:=ps.map bw) (acc:=[]) (ρ:=[none,none,some (.tup (ns.map D.int))]) ⟨none,none,rfl⟩
   (by rw [Il,Jx];exact Hg (by omega) cJ)
   (fun x hx a ρ hJJ => by
    obtain ⟨o1,o2,ho⟩:=hJJ
    obtain ⟨p,hp,rfl⟩:=JC.mp hx
    obtain ⟨a1,a2,a3,a4,a5⟩:=hps p hp
    refine ⟨[some (.int p.1),some (.int p.2),some (.tup (ns.map D.int))],⟨_,_,rfl⟩,by subst ho;rfl,rfl,fun _=>?_⟩
    unfold cb
    simp only [bR,aq,au,aE,aj,ag,aa]
    rw [ij (nmD p.1 a1 a2)]
    simp only [aa]
    rw [ij (nmD p.2 a3 a4)]
    simp only [aa,I0,Jx,G6 l2]
    rfl)
  rw [this,K6.mpr (fun _ _=>rfl)]
  simp only [IU,Ju,qs]
  rfl
 have c2:compLoop (.own μ.length (qs.map bw)) (μ++[O.lst (qs.map bw)]).length (ah 0) bx bZ (qs.map bw) [none] ((μ++[O.lst (qs.map bw)])++[.lst []])=.ok (.obj (μ++[O.lst (qs.map bw)]).length) ((μ++[O.lst (qs.map bw)])++[.lst (ks.map aB)]):=by
  have:=d3 (src:=.own μ.length (qs.map bw)) (g:=ah 0) (t:=bx) (e:=bZ) (μ1:=μ++[O.lst (qs.map bw)]) (q:=fun _=>true)
   (h:=fun d=>match d with | .tup [.int a,.int b]=>aB [min a b,max a b] | _=>.non) (fun ρ=>∃ o1,ρ=[o1]) (fun a=>aO av) (xs:=qs.map bw) (acc:=[]) (ρ:=[none]) ⟨none,rfl⟩
   (by rw [Il,Jx];simp only [qs,Il];exact Hg (by omega) cJ)
   (fun x hx a ρ hJJ => by
    obtain ⟨o1,ho⟩:=hJJ
    obtain ⟨p,hp,rfl⟩:=JC.mp hx
    refine ⟨[some (bw p)],⟨_,rfl⟩,by subst ho;rfl,rfl,fun _=>?_⟩
    unfold bZ bw
    simp only [bR,aq,au,az,ag,aa,B7,B8,I0,Jx,G6 l2]
    rfl)
  rw [this,K6.mpr (fun _ _=>rfl)]
  simp only [IU,Ju,ks]
  rfl
 have kd:iN (ks.map aB)=some ks:=kl fun k hk=>(hks k hk).prs h1
 unfold bt
 rw [cU]
 simp only [iB,aX,aZ,cw,cX,aE,ag,aj,bh,aa,jj,ji,br]
 rw [show fv [none,none,some 1] (some (D.tup [D.int m,D.tup (List.map bw ps)])::some (D.tup (List.map D.int ns))::List.replicate (3 - 2) none)=[none,none,some (.tup (ns.map D.int))] from rfl,c1]
 simp only [ae,cu,aL,bg,bR,aq,au,az,aE,ag,aj,bh,aa,List.replicate,K3,K4,eB,cw,cX]
 rw [gw av]
 simp only [aa,dZ]
 rw [show fv [none] _=[none] from rfl,c2]
 simp only [aa]
 have s1:js [.obj (μ++[O.lst (qs.map bw)]).length] (μ++[O.lst (qs.map bw)]++[O.lst (ks.map aB)])=.ok (.obj (μ++[O.lst (qs.map bw)]++[O.lst (ks.map aB)]).length) ((μ++[O.lst (qs.map bw)]++[O.lst (ks.map aB)])++[.set (bX ks)]):=by
  unfold js;dsimp only;rw [av];dsimp only;unfold j9;rw [kd]
 rw [s1]
 simp only [aa]
 have s2:∀ M:ax,bK [.obj M.length] (M++[.set (bX ks)])=.ok (.obj (M++[O.set (bX ks)]).length) ((M++[.set (bX ks)])++[.lst ((d7 ks).map aB)]):=fun M=>by
  unfold bK;dsimp only;rw [av];dsimp only;rw [gD]
 rw [s2]
 simp only [aa]
 rw [gu av]
 simp only [aa,I0,Jx,G6 l2,ae,aN]
 rw [IP,IP,IP]
 exact fU (by simp;exact fk.mpr (fun x hx=>by obtain ⟨k,_,rfl⟩:=JC.mp hx;simp [aB];exact fk.mpr (by simp)))
theorem iY {n:Nat}{d:D}{m:Int}{ks:List (List Int)} (h:dw d m ks):d.low n:=by
 obtain ⟨rfl,_⟩:=h
 simp
 exact fk.mpr fun x hx=>by
  obtain ⟨k,_,rfl⟩:=JC.mp hx
  simp [aB]
  exact fk.mpr (by simp)
theorem fN {lo:Int}{n:Nat}:bq lo (n+1)=.int lo::bq (lo+1) n:=by
 unfold bq
 rw [Jt,IH,Ju]
 congr 1
 ·simp
 ·apply Jv
  intro i _
  simp only [K5]
  congr 1
  omega
theorem g7 {lo:Int}:bq lo 0=[]:=rfl
theorem ki {lo:Int}{n:Nat} (h:bq lo n=[]):n=0:=by
 cases n with
 | zero=>rfl
 | succ n=>rw [fN] at h;cases h
theorem rN {x:D}:∀ k:Nat,(List.replicate k [x]).flatten=List.replicate k x
 | 0=>rfl
 | k+1=>by rw [IK,IL,rN k];rfl
theorem l1:(1:Nat)<=sizeLine:=by decide
theorem Gz {M:ax}{m:Nat}{x:D} (hm:m<=6):eG [some x,some (.int m)] M=.ok (.obj (M.length+1)) (M++[.lst [.non],.lst (List.replicate m .non)]):=by
 unfold eG
 simp only [aE,fB,aq,au,bh,aa,I0,Jx,G6 l1,aj,ag]
 unfold kM
 dsimp only
 rw [av]
 dsimp only
 have hz:(6:Nat)<=sizeLine:=by decide
 rw [G6 (by refine ⟨by omega,by omega,?_⟩;simp only [I0,Jx];omega)]
 simp only [Ir,rN,Ik,I0,Jx,IP,Jz,IU]
end Lw
namespace Lw
open PySem L2 RS Lv
def pA:Option Nat->D
 | none=>.non
 | some n=>.int n
theorem vK (o:Option Nat):pA o=.non\/∃ i,pA o=.int i:=by
 cases o with
 | none=>exact .inl rfl
 | some n=>exact .inr ⟨n,rfl⟩
def mh (m:Nat) (f:Int->Option Nat):List D:=(List.range m).map fun q:Nat=>pA (f q)
theorem yo {m:Nat}{f:Int->Option Nat}{q:Int} (q0:0<=q) (q1:q<m):atI (mh m f) q=some (pA (f q)):=by
 refine mP q0 ?_
 unfold mh
 rw [Ih,Kn (by omega)]
 simp only [Option.map_some,JW q0]
theorem yn {m:Nat}{f:Int->Option Nat}{q:Int}{v:Nat} (q0:0<=q) (q1:q<m):(mh m f).set q.toNat (.int v)=mh m (sJ f q v):=by
 unfold mh
 apply Km
 intro i
 rw [List.getElem?_set,Il,Jw,Ih,Ih]
 by_cases e:q.toNat=i
 ·rw [G6 e, G6 (by omega), Kn (by omega), <- e]
  simp only [Option.map_some,JW q0,sJ,G6 rfl]
  rfl
 ·rw [G7 e]
  by_cases hi:i<m
  ·rw [Kn hi]
   simp only [Option.map_some,sJ]
   rw [G7 (by omega)]
  ·rw [Ko (by rw [Jw]; omega)]
   rfl
def gG (T:Int->Int->Option Nat) (p:Int) (f:Int->Option Nat):Int->Int->Option Nat:=fun p'=>if p'=p then f else T p'
theorem kW {T:Int->Int->Option Nat}{p:Int}{f:Int->Option Nat}:gG T p f p=f:=G6 rfl
theorem q5 {T:Int->Int->Option Nat}{p:Int}{f g:Int->Option Nat}:gG (gG T p f) p g=gG T p g:=by
 funext p'
 unfold gG
 by_cases e:p'=p
 ·rw [G6 e,G6 e]
 ·rw [G7 e,G7 e,G7 e]
def FT (μ0:ax) (m a:Nat) (T:Int->Int->Option Nat) (μ:ax):Prop:=μ0.length<=a/\(∀ i,i<μ0.length->μ[i]?=μ0[i]?)/\∃ bs:List Nat,bs.Nodup/\μ[a]?=some (.lst (bs.map D.obj))/\bs.length=m /\
 ∀ (p b:Nat),bs[p]?=some b->μ0.length<=b/\b≠a/\μ[b]?=some (.lst (mh m (T p)))
theorem FT.app {μ0 μ g:ax}{m a:Nat}{T:Int->Int->Option Nat} (h:FT μ0 m a T μ):FT μ0 m a T (μ++g):=by
 obtain ⟨h1,h2,bs,h0,h3,h4,h5⟩:=h
 have hl:μ0.length<=μ.length:=Hg h1 (Hh (Hq.mp h3).1)
 refine ⟨h1,fun i hi=>?_,bs,h0,aO h3,h4,fun p b hb=>?_⟩
 ·rw [Ig (by omega)];exact h2 i hi
 ·obtain ⟨g1, g2, g3⟩ := h5 p b hb
  exact ⟨g1,g2,aO g3⟩
theorem FT.pre {μ0 μ:ax}{m a:Nat}{T:Int->Int->Option Nat} (h:FT μ0 m a T μ):∃ g,μ=μ0++g:=by
 obtain ⟨h1,h2,bs,h0,h3,h4,h5⟩:=h
 refine ⟨μ.drop μ0.length,?_⟩
 apply Km
 intro i
 by_cases hi:i<μ0.length
 ·rw [Ig hi,h2 i hi]
 ·rw [Ic (by omega), List.getElem?_drop]
  congr 1;omega
theorem FT.get {μ0 μ:ax}{m a:Nat}{T:Int->Int->Option Nat}{p:Int} (h:FT μ0 m a T μ) (p0:0<=p) (p1:p<m):∃ b,dH (.obj a) (.int p) μ=.ok (.obj b) μ/\(∀ q:Int,0<=q->q<m->dH (.obj b) (.int q) μ=.ok (pA (T p q)) μ) /\
  ∀ (q:Int) (v:Nat),0<=q->q<m->∃ μ',sL (.obj b) (.int q) (.int v) μ=.ok () μ'/\(∀ (n:Nat) xs t,μ[n]?=some (.lst xs)->D.tup t∈xs->μ'[n]?=some (.lst xs))/\FT μ0 m a (gG T p (sJ (T p) q v)) μ':=by
 obtain ⟨h1,h2,bs,h0,h3,h4,h5⟩:=h
 have hp:p.toNat<bs.length:=by omega
 have hpe:((p.toNat:Nat):Int)=p:=JW p0
 obtain ⟨g1,g2,g3⟩:=h5 p.toNat bs[p.toNat] (KA hp)
 rw [hpe] at g3
 refine ⟨bs[p.toNat],gI h3 (mP p0 (by rw [Ih,KA hp];rfl)),fun q q0 q1=>gI g3 (yo q0 q1),fun q v q0 q1=>?_⟩
 have hlen:(mh m (T p)).length=m:=by unfold mh;rw [Il,Jw]
 refine ⟨_,pT g3 (pG q0 (by rw [hlen];exact q1)),fun n xs t hn ht=>?_,h1,fun i hi=>?_,bs,h0,?_,h4,fun p' b hb=>?_⟩
 ·by_cases e : bs[p.toNat] = n
  ·subst e
   rw [g3] at hn
   cases hn
   unfold mh at ht
   obtain ⟨j,_,hj⟩:=JC.mp ht
   rcases vK (T p j) with z | ⟨i,z⟩ <;> (rw [z] at hj;cases hj)
  ·rw [Ht e];exact hn
 ·rw [Ht (by omega)];exact h2 i hi
 ·rw [Ht (by omega)];exact h3
 ·obtain ⟨k1, k2, k3⟩ := h5 p' b hb
  obtain ⟨hp',hbe⟩:=Hq.mp hb
  refine ⟨k1,k2,?_⟩
  by_cases e:p'=p.toNat
  ·subst e
   rw [hbe,gq (Hq.mp (hbe ▸ g3)).1,yn q0 q1,hpe,kW]
  ·have hne : bs[p.toNat] ≠ b := fun z => e ((Hr h0).mp (hbe.trans z.symm))
   rw [Ht hne,k3]
   unfold gG
   rw [G7 (by omega)]
def sN (ks:List (List Int)):List (Int × Int):=ks.flatMap fun k=>match k with
 | [u,v]=>[(u,v),(v,u)]
 | _=>[]
def B6 (ks:List (List Int)) (a b:Int):Prop:=(a,b)∈sN ks
theorem Eb {μ:ax}{o:Option Nat}{n:Nat}:gf false (pA o) (.int ((n:Int)+1 - 1)) μ=.ok (.bl (decide (o=some n))) μ:=by
 cases o with
 | none=>rfl
 | some k=>
  show gf false (.int k) (.int ((n:Int)+1 - 1)) μ=_
  rw [cz]
  simp only [IZ,Iu]
  congr 2
  by_cases e:k=n
  ·subst e;simp
  ·have : ¬ (k : Int) = (n : Int) + 1 - 1 := by omega
   rw [G3 (show ¬ some k=some n by simp [e])]
   exact G4.mpr this
theorem oH {o:Option Nat}:(pA o).isNon=decide (o=none):=by
 cases o <;> rfl
section
variable {μ0 μ:ax}{m a:Nat}{web:D}{M p u v q r:Int}{n:Nat}{T:Int->Int->Option Nat}{f:Int->Option Nat}
theorem GK (h:FT μ0 m a (gG T p f) μ) (p0:0<=p) (p1:p<m) (q0:0<=q) (q1:q<m) (r0:0<=r) (r1:r<m) :
  ∃ μ',iA [some web,some (.int M),some (.obj a),some (.int p),some (.int ((n:Int)+1)),some (.int u),some (.int v),some (.int q),some (.int r)] μ=.next [some web,some (.int M),some (.obj a),some (.int p),some (.int ((n:Int)+1)),some (.int u),some (.int v),some (.int q),some (.int r)] μ' /\
   (∀ (n:Nat) xs t,μ[n]?=some (.lst xs)->D.tup t∈xs->μ'[n]?=some (.lst xs))/\FT μ0 m a (gG T p (wF n f (q,r))) μ':=by
 obtain ⟨b,e1,e2,k⟩:=h.get p0 p1
 rw [kW] at k e2
 have sub1:∀ x:Int,iI (.int x) (.int 1) μ=.ok (.int (x - 1)) μ:=fun _=>rfl
 unfold iA
 simp only [bB,eD,cE,aE,aj,ag,bh,aa,e1,e2 q q0 q1,sub1,Eb,aR]
 unfold wF
 dsimp only
 by_cases c1:f q=some n
 ·simp only [IV c1, Iv, e1, e2 r r0 r1, aa, xP, oH, IZ, Iu, aR, ae]
  by_cases c2:f r=none
  ·obtain ⟨μ', g1, g2, g3⟩ := k r (n + 1) r0 r1
   rw [q5] at g3
   rw [show ((n+1:Nat):Int)=(n:Int)+1 by push_cast;rfl] at g1
   simp only [IV c2,Iv,aZ,aj,ag,ae,l9,aE,aa,e1,g1]
   rw [G6 ⟨c1,c2⟩]
   exact ⟨μ',rfl,g2,g3⟩
  ·simp only [G3 c2, IZ, Iu, cv]
   rw [G7 fun z=>c2 z.2]
   exact ⟨μ,rfl,fun _ _ _ h _=>h,h⟩
 ·simp only [G3 c1, IZ, Iu, ae, cv]
  rw [G7 fun z=>c1 z.1]
  exact ⟨μ,rfl,fun _ _ _ h _=>h,h⟩
theorem fr3 (h:FT μ0 m a (gG T p f) μ) (p0:0<=p) (p1:p<m) (u0:0<=u) (u1:u<m) (v0:0<=v) (v1:v<m) {o7 o8:Option D} :
  ∃ o7' o8' μ',fM [some web,some (.int M),some (.obj a),some (.int p),some (.int ((n:Int)+1)),some (.int u),some (.int v),o7,o8] μ=.next [some web,some (.int M),some (.obj a),some (.int p),some (.int ((n:Int)+1)),some (.int u),some (.int v),o7',o8'] μ'/\FT μ0 m a (gG T p (wF n (wF n f (u,v)) (v,u))) μ':=by
 unfold fM
 simp only [ik,cX,fB,aq,au,bR,aj,ag,aa,I0,Jx,G6 l2]
 rw [gw av]
 simp only [ae,dZ]
 have hn:(μ++[O.lst [.tup [.int u,.int v],.tup [.int v,.int u]]])[μ.length]?=some (.lst [.tup [.int u,.int v],.tup [.int v,.int u]]):=av
 obtain ⟨μ1,e1,e2,e3⟩:=GK (web:=web) (M:=M) (n:=n) (u:=u) (v:=v) (h.app (g:=[O.lst [.tup [.int u,.int v],.tup [.int v,.int u]]])) p0 p1 u0 u1 v0 v1
 have hn1:=e2 _ _ _ hn Hj
 obtain ⟨μ2,f1,f2,f3⟩:=GK (web:=web) (M:=M) (n:=n) (u:=u) (v:=v) e3 p0 p1 v0 v1 u0 u1
 have hn2:=f2 _ _ _ hn1 Hj
 refine ⟨some (.int v),some (.int u),μ2,?_,f3⟩
 have g1:d8 2 (bf (ah 7) (bf (ah 8) d9)) (.tup [.int u,.int v]) [some web,some (.int M),some (.obj a),some (.int p),some (.int ((n:Int)+1)),some (.int u),some (.int v),o7,o8] (μ++[O.lst [.tup [.int u,.int v],.tup [.int v,.int u]]])=.ok [some web,some (.int M),some (.obj a),some (.int p),some (.int ((n:Int)+1)),some (.int u),some (.int v),some (.int u),some (.int v)] (μ++[O.lst [.tup [.int u,.int v],.tup [.int v,.int u]]]):=rfl
 have g2:d8 2 (bf (ah 7) (bf (ah 8) d9)) (.tup [.int v,.int u]) [some web,some (.int M),some (.obj a),some (.int p),some (.int ((n:Int)+1)),some (.int u),some (.int v),some (.int u),some (.int v)] μ1=.ok [some web,some (.int M),some (.obj a),some (.int p),some (.int ((n:Int)+1)),some (.int u),some (.int v),some (.int v),some (.int u)] μ1:=rfl
 unfold gH
 rw [G6 (show cg (.own μ.length _) _ from hn),g1,ae,e1,uJ]
 unfold gH
 rw [G6 (show cg (.own μ.length _) _ from hn1),g2,ae,f1,uJ]
 unfold gH
 rw [G6 (show cg (.own μ.length _) _ from hn2)]
theorem GV {ks:List (List Int)} (hk:∀ k∈ks,pj m k) (h:FT μ0 m a (gG T p f) μ) (p0:0<=p) (p1:p<m) {o5 o6 o7 o8:Option D} :
  ∃ o5' o6' o7' o8' μ',fL [some (.tup [.int M,.tup (ks.map aB)]),some (.int M),some (.obj a),some (.int p),some (.int ((n:Int)+1)),o5,o6,o7,o8] μ=.next [some (.tup [.int M,.tup (ks.map aB)]),some (.int M),some (.obj a),some (.int p),some (.int ((n:Int)+1)),o5',o6',o7',o8'] μ'/\FT μ0 m a (gG T p ((sN ks).foldl (wF n) f)) μ':=by
 unfold fL
 simp only [ik,cX,aE,ag,bh,aa,jj,ji,ae,br]
 have run:=gr (src:=.fix (ks.map aB)) (g:=d8 2 (bf (ah 5) (bf (ah 6) d9))) (fb:=fM)
  (fun xs ρ μ1=>∃ ys zs:List (List Int),xs=zs.map aB/\ks=ys++zs/\FT μ0 m a (gG T p ((sN ys).foldl (wF n) f)) μ1/\∃ o5 o6 o7 o8,ρ=[some (.tup [.int M,.tup (ks.map aB)]),some (.int M),some (.obj a),some (.int p),some (.int ((n:Int)+1)),o5,o6,o7,o8])
  (fun _ _ _=>trivial)
  (fun x xs ρ μ1 hJJ => by
   obtain ⟨ys,zs,hx,hks,hF,o5,o6,o7,o8,e⟩:=hJJ
   subst e
   cases zs with
   | nil=>cases hx
   | cons k zs=>
    injection hx with hx1 hx2
    subst hx1 hx2
    obtain ⟨u,v,rfl,u0,uv,v1⟩:=hk k (by rw [hks];simp)
    obtain ⟨o7',o8',μ3,e1,e3⟩:=fr3 (web:=.tup [.int M,.tup (ks.map aB)]) (M:=M) (n:=n) (u:=u) (v:=v) (o7:=o7) (o8:=o8) hF p0 p1 u0 (by omega) (by omega) v1
    refine ⟨trivial,_,μ1,_,μ3,rfl,e1,ys++[[u,v]],zs,rfl,by rw [hks];simp,?_,_,_,_,_,rfl⟩
    have:sN (ys++[[u,v]])=sN ys++[(u,v),(v,u)]:=by simp [sN]
    rw [this,J7]
    exact e3)
  (xs:=ks.map aB) (ρ:=[some (.tup [.int M,.tup (ks.map aB)]),some (.int M),some (.obj a),some (.int p),some (.int ((n:Int)+1)),o5,o6,o7,o8]) (μ:=μ)
  ⟨[],ks,rfl,rfl,h,o5,o6,o7,o8,rfl⟩
 obtain ⟨ρ',μ',⟨ys,zs,hx,hks,hF,o5',o6',o7',o8',e⟩,run⟩:=run
 subst e
 have hz:zs=[]:=by cases zs with
  | nil=>rfl
  | cons=>cases hx
 subst hz
 rw [HS] at hks
 subst hks
 exact ⟨o5',o6',o7',o8',μ',run,hF⟩
theorem pV {ks:List (List Int)} (hk:∀ k∈ks,pj m k) {x y:Int} (h:B6 ks x y):(0<=x/\x<m)/\(0<=y/\y<m):=by
 unfold B6 sN at h
 obtain ⟨k,hk',hm⟩:=List.mem_flatMap.mp h
 obtain ⟨u,v,rfl,u0,uv,v1⟩:=hk k hk'
 simp at hm
 omega
theorem fr5 {ks:List (List Int)} (hk:∀ k∈ks,pj m k) (h:FT μ0 m a (gG T p fun _=>none) μ) (p0:0<=p) (p1:p<m) (hm:m<=6) {o4 o5 o6 o7 o8:Option D} :
  ∃ o4' o5' o6' o7' o8' μ' f,fK [some (.tup [.int m,.tup (ks.map aB)]),some (.int m),some (.obj a),some (.int p),o4,o5,o6,o7,o8] μ=.next [some (.tup [.int m,.tup (ks.map aB)]),some (.int m),some (.obj a),some (.int p),o4',o5',o6',o7',o8'] μ'/\FT μ0 m a (gG T p f) μ'/\wU (B6 ks) p (fun q=>0<=q/\q<m) f:=by
 obtain ⟨b,e1,_,k⟩:=h.get p0 p1
 obtain ⟨μ1,e3,_,h1⟩:=k p 0 p0 p1
 rw [q5,kW] at h1
 unfold fK
 simp only [aX,aZ,bh,ae,l9,aE,aj,ag,aa,e1]
 rw [show (D.int 0)=.int ((0:Nat):Int) from rfl,e3]
 simp only [aa,ae,aL,ik,cY,aq,au,bh,aj,ag]
 rw [l6 (by omega) (by omega) (by omega) (by omega)]
 simp only [ae,br]
 have run:=gr (src:=.fix (bq 1 ((m:Int) - 1).toNat)) (g:=ah 4) (fb:=fL)
  (fun xs ρ μ1=>∃ (n c:Nat) (f:Int->Option Nat),xs=bq ((n:Int)+1) c/\n+1+c=m/\FT μ0 m a (gG T p f) μ1/\Up (B6 ks) p (fun q=>0<=q/\q<m) n f/\∃ o4 o5 o6 o7 o8,ρ=[some (.tup [.int m,.tup (ks.map aB)]),some (.int m),some (.obj a),some (.int p),o4,o5,o6,o7,o8])
  (fun _ _ _=>trivial)
  (fun x xs ρ μ1 hJJ => by
   obtain ⟨n,c,f,hx,hc,hF,hU,o4,o5,o6,o7,o8,e⟩:=hJJ
   subst e
   cases c with
   | zero=>rw [g7] at hx;cases hx
   | succ c=>
    rw [fN] at hx
    injection hx with hx1 hx2
    subst hx1 hx2
    obtain ⟨o5',o6',o7',o8',μ3,e1,e3⟩:=GV (M:=m) (n:=n) (o5:=o5) (o6:=o6) (o7:=o7) (o8:=o8) hk hF p0 p1
    exact ⟨trivial,_,μ1,_,μ3,rfl,e1,n+1,c,_,by push_cast;rfl,by omega,e3,yp hU (fun a b h=>(pV hk h).1) (fun a b=>Iff.rfl),_,_,_,_,_,rfl⟩)
  (xs:=bq 1 ((m:Int) - 1).toNat) (ρ:=[some (.tup [.int m,.tup (ks.map aB)]),some (.int m),some (.obj a),some (.int p),o4,o5,o6,o7,o8]) (μ:=μ1)
  ⟨0,m - 1,_,by rw [show ((m:Int) - 1).toNat=m - 1 by omega];rfl,by omega,h1,Bv (fun q _=>by unfold sJ;rfl),o4,o5,o6,o7,o8,rfl⟩
 obtain ⟨ρ',μ',⟨n,c,f,hx,hc,hF,hU,o4',o5',o6',o7',o8',e⟩,run⟩:=run
 subst e
 have hz:=ki hx.symm
 subst hz
 refine ⟨o4',o5',o6',o7',o8',μ',f,run,hF,hU.full (fun a b h=>(pV hk h).2) fun q hq hl=>?_⟩
 have:=DM (m:=m) ⟨p0,p1⟩ (fun a b h=>(pV hk h).2) hl
 omega
end
theorem vC {m:Nat}:mh m (fun _=>none)=List.replicate m .non:=by
 unfold mh pA
 rw [List.map_const',Jw]
theorem Bm {μ:ax}{m:Nat} (hm:m<=6):∃ (bs:List Nat) (s:ax),compLoop (.fix (bq 0 m)) μ.length (ah 0) bx eG (bq 0 m) [none,some (.int m)] (μ++[.lst []])=.ok (.obj μ.length) (μ++.lst (bs.map D.obj)::s)/\bs.length=m/\bs.Nodup/\∀ b∈bs,∃ j,b=μ.length+1+j/\s[j]?=some (.lst (List.replicate m .non)):=by
 have run:=gY (src:=.fix (bq 0 m)) (g:=ah 0) (t:=bx) (e:=eG) (n:=μ.length)
  (fun xs ys ρ μ1 s=>μ1=μ/\(∃ o,ρ=[o,some (.int m)])/\∃ bs:List Nat,ys=bs.map D.obj/\bs.length+xs.length=m/\bs.Nodup/\∀ b∈bs,∃ j,b=μ.length+1+j/\s[j]?=some (.lst (List.replicate m .non)))
  (fun ys ρ μ1 s ⟨e,_⟩=>⟨by rw [e],trivial⟩)
  (fun x r ys ρ μ1 s hJJ => by
   obtain ⟨e1,⟨o,e2⟩,bs,e3,e4,e6,e5⟩:=hJJ
   subst e1 e2
   refine ⟨rfl,trivial,[some x,some (.int m)],_,s,true,_,s,rfl,rfl,fun _=>?_,fun z=>by cases z⟩
   have e:=Gz (M:=μ1++.lst ys::s) (x:=x) hm
   simp only [I0] at e4
   refine ⟨.obj ((μ1++O.lst ys::s).length+1),μ1,s++[.lst [.non],.lst (List.replicate m .non)],by rw [e];simp,?_,rfl,rfl,⟨_,rfl⟩,bs++[(μ1++O.lst ys::s).length+1],by rw [e3];simp,by simp;omega,?_,fun b hb=>?_⟩
   ·rw [e3, Il]
    exact Hb (show bs.length<1000 by omega) cJ
   ·rw [J2]
    refine ⟨e6,by simp,fun b hb c hc=>?_⟩
    obtain ⟨j,f1,f2⟩:=e5 b hb
    have:=(Hq.mp f2).1
    simp only [Ji,Ik,I0] at hc
    omega
   ·rcases Hn.mp hb with z | z
    ·obtain ⟨j, f1, f2⟩ := e5 b z
     exact ⟨j,f1,aO f2⟩
    ·refine ⟨s.length + 1, ?_, ?_⟩
     ·simp only [Ji,Ik,I0] at z;omega
     ·rw [Ic (by omega)];simp)
  (xs:=bq 0 m) (ys:=[]) (ρ:=[none,some (.int m)]) (μ1:=μ) (s:=[])
  ⟨rfl,⟨_,rfl⟩,[],rfl,by simp [bq],by simp,by simp⟩
 obtain ⟨ys',ρ',μ1',s',⟨e1,_,bs,e3,e4,e6,e5⟩,run⟩:=run
 subst e1 e3
 exact ⟨bs,s',run,by simpa using e4,e6,e5⟩
theorem Ac {μ:ax}{k:Nat}{ks:List (List Int)} (h:dw (.tup [.int k,.tup (ks.map aB)]) k ks):∃ a μ' T,f6 [.tup [.int k,.tup (ks.map aB)]] μ=.ok (.obj a) μ'/\FT μ k a T μ'/\∀ p:Int,0<=p->p<k->wU (B6 ks) p (fun q=>0<=q/\q<k) (T p):=by
 obtain ⟨_,h0,h1,hp,hk⟩:=h
 have hk6:k<=6:=by omega
 obtain ⟨bs,s,e1,e2,e4,e3⟩:=Bm (μ:=μ) hk6
 have F0:FT μ k μ.length (fun _ _=>none) (μ++.lst (bs.map D.obj)::s):=by
  refine ⟨HI _,fun i hi=>by rw [Ig hi],bs,e4,av,e2,fun p b hb=>?_⟩
  obtain ⟨j,rfl,f⟩:=e3 b (Ij hb)
  refine ⟨by omega,by omega,?_⟩
  rw [Ic (by omega),show μ.length+1+j - μ.length=j+1 by omega,vC]
  exact f
 have run:=gr (src:=.fix (bq 0 k)) (g:=ah 3) (fb:=fK)
  (fun xs ρ μ1=>∃ (n c:Nat) (T:Int->Int->Option Nat),xs=bq n c/\n+c=k/\FT μ k μ.length T μ1/\(∀ p:Int,(n:Int)<=p->T p=fun _=>none)/\(∀ p:Int,0<=p->p<n->wU (B6 ks) p (fun q=>0<=q/\q<k) (T p))/\∃ o3 o4 o5 o6 o7 o8,ρ=[some (.tup [.int k,.tup (ks.map aB)]),some (.int k),some (.obj μ.length),o3,o4,o5,o6,o7,o8])
  (fun _ _ _=>trivial)
  (fun x xs ρ μ1 hJJ => by
   obtain ⟨n,c,T,hx,hc,hF,hN,hU,o3,o4,o5,o6,o7,o8,e⟩:=hJJ
   subst e
   cases c with
   | zero=>rw [g7] at hx;cases hx
   | succ c=>
    rw [fN] at hx
    injection hx with hx1 hx2
    subst hx1 hx2
    have hT:gG T n (fun _=>none)=T:=by
     funext p'
     unfold gG
     by_cases e:p'=(n:Int)
     ·rw [G6 e,e,hN n (Int.le_refl _)]
     ·rw [G7 e]
    obtain ⟨o4',o5',o6',o7',o8',μ3,f,g1,g3,g4⟩:=fr5 (T:=T) (p:=(n:Int)) (o4:=o4) (o5:=o5) (o6:=o6) (o7:=o7) (o8:=o8) hk (by rw [hT];exact hF) (by omega) (by omega) hk6
    refine ⟨trivial,_,μ1,_,μ3,rfl,g1,n+1,c,_,by push_cast;rfl,by omega,g3,fun p hp=>?_,fun p p0 p1=>?_,_,_,_,_,_,_,rfl⟩
    ·unfold gG
     rw [G7 (by omega)]
     exact hN p (by omega)
    ·unfold gG
     by_cases e:p=(n:Int)
     ·rw [G6 e,e];exact g4
     ·rw [G7 e];exact hU p p0 (by omega))
  (xs:=bq 0 k) (ρ:=[some (.tup [.int k,.tup (ks.map aB)]),some (.int k),some (.obj μ.length),none,none,none,none,none,none]) (μ:=μ++.lst (bs.map D.obj)::s)
  ⟨0,k,_,rfl,by omega,F0,fun _ _=>rfl,fun p p0 p1=>by omega,_,_,_,_,_,_,rfl⟩
 obtain ⟨ρ',μ',⟨n,c,T,hx,hc,hF,hN,hU,o3,o4,o5,o6,o7,o8,e⟩,run⟩:=run
 subst e
 have hz:=ki hx.symm
 subst hz
 have hnk:n=k:=by omega
 subst hnk
 refine ⟨μ.length,μ',T,?_,hF,hU⟩
 unfold f6
 rw [fV]
 simp only [nD,aX,aZ,aE,ag,bh,aa,eB,ae,cu,aL,cw,cY,aq,au]
 simp only [List.replicate,K3,K4,aj,ag,aa]
 rw [gx (by omega) (by omega)]
 simp only [aa,br,Ir]
 rw [show fv [none,some 1] [some (D.tup [D.int n,D.tup (List.map aB ks)]),some (D.int n),none,none,none,none,none,none,none]=[none,some (.int n)] from rfl,e1]
 simp only [ae,cu,aL,aX,ik,cY,aq,au,K3,K4,aj,ag,aa]
 rw [gx (by omega) (by omega)]
 simp only [ae,br,Ir]
 rw [run]
 simp only [aL,bg,aj,ag,ae,aN]
 exact BQ (by simp)
def FN (k:Int):Option Nat->Bool
 | some j=>decide ((j:Int)<=k)
 | none=>false
def jK (T:Int->Int->Option Nat) (k p lo:Int) (c:Nat):List (List Int):=(((List.range c).map fun i:Nat=>lo+(i:Int)).filter fun q=>FN k (T p q)).map fun q=>[p,q]
def B0 (m:Nat) (T:Int->Int->Option Nat) (k:Int):List (List Int):=(List.range m).flatMap fun p:Nat=>jK T k p ((p:Int)+1) (m - (p+1))
theorem rf {T:Int->Int->Option Nat}{k p lo:Int}{c:Nat}:(jK T k p lo c).length<=c:=by
 unfold jK
 rw [Il]
 refine Hg (List.length_filter_le _ _) ?_
 rw [Il,Jw]
 exact HI _
theorem mW {T:Int->Int->Option Nat}{k p lo:Int}{c:Nat}{x:List Int} (h:x∈jK T k p lo c):∃ q:Int,x=[p,q]/\lo<=q/\q<lo+c:=by
 unfold jK at h
 obtain ⟨q,hq,rfl⟩:=JC.mp h
 obtain ⟨hq,_⟩:=He.mp hq
 obtain ⟨i,hi,rfl⟩:=JC.mp hq
 rw [Hf] at hi
 exact ⟨_,rfl,by omega,by omega⟩
theorem Av {T:Int->Int->Option Nat}{k p lo:Int}{c:Nat}:(jK T k p lo c).Pairwise fun a b=>n5 a<n5 b:=by
 unfold jK
 rw [Kq]
 apply List.Pairwise.filter
 rw [Kq]
 exact JS.imp fun {a b} h=>by show p * 6+(lo+(a:Int))<p * 6+(lo+(b:Int));omega
theorem qU {m:Nat}{T:Int->Int->Option Nat}{k:Int} (h0:1<=m) (h1:m<=6):dw (.tup [.int m,.tup ((B0 m T k).map aB)]) m (B0 m T k):=by
 refine ⟨rfl,by omega,by omega,?_,fun x hx=>?_⟩
 ·unfold B0
  rw [List.pairwise_flatMap]
  refine ⟨fun p _=>Av,?_⟩
  refine List.Pairwise.imp_of_mem (R:=(·<·)) ?_ JS
  intro a b ha hb hab x hx y hy
  rw [Hf] at ha hb
  obtain ⟨q,rfl,q0,q1⟩:=mW hx
  obtain ⟨r,rfl,r0,r1⟩:=mW hy
  show (a:Int) * 6+q<(b:Int) * 6+r
  omega
 ·unfold B0 at hx
  obtain ⟨p,hp,hx⟩:=List.mem_flatMap.mp hx
  rw [Hf] at hp
  obtain ⟨q,rfl,q0,q1⟩:=mW hx
  exact ⟨_,_,rfl,by omega,by omega,by omega⟩
theorem ym {T:Int->Int->Option Nat}{k p lo:Int}{c:Nat}:((bq lo c).filter fun d=>match d with | .int q=>FN k (T p q) | _=>false).map (fun d=>match d with | .int q=>aB [p,q] | _=>.non)=(jK T k p lo c).map aB:=by
 unfold bq jK
 rw [List.filter_map,Ju,List.filter_map,Ju,Ju]
 rfl
section
variable {μ0 μ:ax}{m a:Nat}{p q:Int}{k:Int}{T:Int->Int->Option Nat}
theorem xY (h:FT μ0 m a T μ) (p0:0<=p) (p1:p<m) (q0:0<=q) (q1:q<m):dh [some (.int q),some (.int p),some (.int k),some (.obj a)] μ=.ok (FN k (T p q)) μ:=by
 obtain ⟨b,e1,e2,_⟩:=h.get p0 p1
 unfold dh
 simp only [eD,cE,aE,aj,ag,bh,aa,e1,e2 q q0 q1,xP,oH,aR]
 cases e:T p q with
 | none=>rfl
 | some j=>
  simp only [G3 (show ¬ some j=none by simp),J6,Iv,eC,aa,aR,pA]
  rfl
theorem xZ (h:FT μ0 m a T μ) (hm:m<=6) (p0:0<=p) (p1:p<m) :
  compLoop (.fix (bq (p+1) ((m:Int) - (p+1)).toNat)) μ.length (ah 0) dh eN (bq (p+1) ((m:Int) - (p+1)).toNat) [none,some (.int p),some (.int k),some (.obj a)] (μ++[.lst []])=.ok (.obj μ.length) (μ++[.lst ((jK T k p (p+1) ((m:Int) - (p+1)).toNat).map aB)]):=by
 have:=d3 (src:=.fix (bq (p+1) ((m:Int) - (p+1)).toNat)) (g:=ah 0) (t:=dh) (e:=eN) (μ1:=μ) (q:=fun d=>match d with | .int q=>FN k (T p q) | _=>false)
  (h:=fun d=>match d with | .int q=>aB [p,q] | _=>.non) (fun ρ=>∃ o,ρ=[o,some (.int p),some (.int k),some (.obj a)]) (fun _=>trivial) (xs:=bq (p+1) ((m:Int) - (p+1)).toNat) (acc:=[]) (ρ:=[none,some (.int p),some (.int k),some (.obj a)]) ⟨none,rfl⟩
  (by unfold bq;rw [Il,Jx,Jw];exact Hg (by omega) cJ)
  (fun x hx acc ρ hJJ => by
   obtain ⟨o,ho⟩:=hJJ
   unfold bq at hx
   obtain ⟨i,hi,rfl⟩:=JC.mp hx
   rw [Hf] at hi
   subst ho
   refine ⟨[some (.int (p+1+(i:Int))),some (.int p),some (.int k),some (.obj a)],⟨_,rfl⟩,rfl,xY (h.app) p0 p1 (by omega) (by omega),fun _=>?_⟩
   unfold eN
   simp only [bR,aq,au,aj,ag,aa,I0,Jx,G6 l2]
   rfl)
 rw [this,ym]
 rfl
end
theorem km {m:Nat}{T:Int->Int->Option Nat}{k:Int} (h:m<=6):∀ n,((List.range n).flatMap fun p:Nat=>jK T k p ((p:Int)+1) (m - (p+1))).length<=6 * n
 | 0=>by simp
 | n+1=>by
  rw [List.range_succ,List.flatMap_append,Ik]
  have:=km (T:=T) (k:=k) h n
  have h2:=rf (T:=T) (k:=k) (p:=n) (lo:=(n:Int)+1) (c:=m - (n+1))
  simp only [K0,List.flatMap_nil,HS]
  omega
theorem vq {μ:ax}{m:Nat}{k:Int}{ks:List (List Int)} (h:dw (.tup [.int m,.tup (ks.map aB)]) m ks):∃ T,(∀ p:Int,0<=p->p<m->wU (B6 ks) p (fun q=>0<=q/\q<m) (T p)) /\
  cL [.tup [.int m,.tup (ks.map aB)],.int k] μ=.ok (.tup [.int m,.tup ((B0 m T k).map aB)]) μ:=by
 obtain ⟨a,μf,T,ef,hF,hT⟩:=Ac (μ:=μ) h
 obtain ⟨_,h0,h1,hp,hk⟩:=h
 have hm6:m<=6:=by omega
 refine ⟨T,hT,?_⟩
 have run:=gr (src:=.fix (bq 0 m)) (g:=ah 4) (fb:=eM)
  (fun xs ρ μ1=>∃ (n c t:Nat) (o4:Option D),xs=bq n c/\n+c=m/\ρ=[some (.tup [.int m,.tup (ks.map aB)]),some (.int k),some (.obj a),some (.obj t),o4]/\FT μ m a T μ1/\μ1[t]?=some (.lst (((List.range n).flatMap fun p:Nat=>jK T k p ((p:Int)+1) (m - (p+1))).map aB)))
  (fun _ _ _=>trivial)
  (fun x r ρ μ1 hJJ => by
   obtain ⟨n,c,t,o4,e1,e3,e4,e5,e6⟩:=hJJ
   subst e4
   cases c with
   | zero=>rw [g7] at e1;cases e1
   | succ c=>
    rw [fN] at e1
    injection e1 with ex er
    subst ex er
    have q3:=xZ (k:=k) (p:=(n:Int)) e5 hm6 (by omega) (by omega)
    rw [show ((m:Int) - ((n:Int)+1)).toNat=m - (n+1) by omega] at q3
    have hlen:=km (T:=T) (k:=k) hm6 n
    have hrow:=rf (T:=T) (k:=k) (p:=n) (lo:=(n:Int)+1) (c:=m - (n+1))
    refine ⟨trivial,_,μ1,[some (.tup [.int m,.tup (ks.map aB)]),some (.int k),some (.obj a),some (.obj (μ1.length+1)),some (.int n)],(μ1++[O.lst ((jK T k n ((n:Int)+1) (m - (n+1))).map aB)])++[O.lst (((List.range (n+1)).flatMap fun p:Nat=>jK T k p ((p:Int)+1) (m - (p+1))).map aB)],rfl,?_,n+1,c,μ1.length+1,some (.int n),by push_cast;rfl,by omega,rfl,(e5.app).app,?_⟩
    ·show eM [some (.tup [.int m, .tup (ks.map aB)]), some (.int k), some (.obj a), some (.obj t), some (.int n)] μ1 = _
     unfold eM
     simp only [aZ,aE,aj,ag,aa,cw,cY,aq,au,bh,fF,eB]
     rw [l6 (by omega) (by omega) (by omega) (by omega)]
     simp only [aa,br]
     rw [show ((m:Int) - ((n:Int)+1)).toNat=m - (n+1) by omega]
     rw [show fv [none,some 4,some 1,some 2] [some (D.tup [D.int ↑m,D.tup (List.map aB ks)]),some (D.int k),some (D.obj a),some (D.obj t),some (D.int n)]=[none,some (.int n),some (.int k),some (.obj a)] from rfl,q3]
     simp only [aa]
     unfold ck
     dsimp only
     rw [aO e6,av]
     dsimp only
     rw [G6 (by
      rw [Il,Il]
      exact Hg (show _<=1000 by omega) cJ)]
     simp only [ae,cu]
     simp only [Ik,I0,Jx,K3,K4,List.range_succ,List.flatMap_append,JJ,K0,List.flatMap_nil,HS]
    ·have : μ1.length + 1 = (μ1 ++ [O.lst ((jK T k n ((n : Int) + 1) (m - (n + 1))).map aB)]).length := by simp
     rw [this];exact av)
  (xs:=bq 0 m) (ρ:=[some (.tup [.int m,.tup (ks.map aB)]),some (.int k),some (.obj a),some (.obj μf.length),none]) (μ:=μf++[.lst []])
  ⟨0,m,μf.length,none,rfl,by omega,rfl,hF.app,av⟩
 obtain ⟨ρ',μ',⟨n,c,t,o4,e1,e3,e4,e5,e6⟩,run⟩:=run
 subst e4
 have hz:=ki e1.symm
 subst hz
 have hnm:n=m:=by omega
 subst hnm
 have hg:dw (.tup [.int n,.tup ((B0 n T k).map aB)]) n (B0 n T k):=qU (by omega) hm6
 obtain ⟨g,hpre⟩:=e5.pre
 unfold cL
 rw [cU]
 simp only [kG,aX,aZ,az,aq,au,ag,aa,ef,ae,cu,aL,fB]
 have l0:(0:Nat)<=sizeLine:=Jh _
 simp only [Jx,G6 l0,ae,aL,List.replicate,K3,K4,aX,ik,cY,aq,au,aE,ag,bh,aa,eB]
 rw [gx (by omega) (by omega)]
 simp only [ae,br,Ir]
 rw [run]
 simp only [aL,bg,bR,aq,au,aE,az,aj,ag,bh,aa,eB]
 rw [gu e6]
 simp only [aa,I0,Jx,G6 l2,ae,aN]
 rw [hpre]
 exact fU (iY hg)
theorem mZ {μ:ax}:∀ fs:List Int,gh μ (fs.map D.int)=some (fs.map PyData.int)
 | []=>rfl
 | x::fs=>by simp only [IH,gh,mZ fs];rfl
theorem rJ:∀ fs:List Int,PyData.canLayAll0 (fs.map PyData.int)=true/\PyData.depthAll (fs.map PyData.int)=0
 | []=>by simp [PyData.canLayAll0,PyData.depthAll]
 | x::fs=>by
  have:=rJ fs
  simp only [IH,PyData.canLayAll0,PyData.depthAll,PyData.canLay0,PyData.depth,this.1,this.2]
  exact ⟨rfl,rfl⟩
theorem gW {μ:ax}{i j:Nat}{o o':O} (h:μ[j]?=some o') (ne:i≠j):(μ.set i o)[j]?=some o':=by rw [Ht ne];exact h
def gQ (k:List Int):PyData:=.tuple (k.map PyData.int)
theorem oD {μ:ax}{m:Int}:∀ {ks:List (List Int)},(∀ k∈ks,pj m k)->gh μ (ks.map aB)=some (ks.map gQ)
 | [],_=>rfl
 | k::ks,h=>by
  obtain ⟨a,b,rfl,_⟩:=h k Hj
  have ih:=oD (μ:=μ) fun x hx=>h x (Hk _ hx)
  simp only [IH,gh,ih]
  rfl
theorem k6 {μ:ax}{m:Int}:∀ {ks:List (List Int)},(∀ k∈ks,pj m k)->toPs μ (ks.map aB)=some (ks.map gQ)
 | [],_=>rfl
 | k::ks,h=>by
  obtain ⟨a,b,rfl,_⟩:=h k Hj
  have ih:=k6 (μ:=μ) fun x hx=>h x (Hk _ hx)
  simp only [IH,toPs,ih]
  rfl
theorem k7 {m:Int}:∀ {ks:List (List Int)},(∀ k∈ks,pj m k)->PyData.canLayAll0 (ks.map gQ)=true/\PyData.depthAll (ks.map gQ)<=1
 | [],_=>by simp [PyData.canLayAll0,PyData.depthAll]
 | k::ks,h=>by
  obtain ⟨a,b,rfl,_⟩:=h k Hj
  have ih:=k7 fun x hx=>h x (Hk _ hx)
  simp only [IH,PyData.canLayAll0,PyData.depthAll,ih.1,gQ,IG,PyData.canLay0,PyData.depth]
  refine ⟨rfl,?_⟩
  have:=ih.2
  omega
def qv (m:Int) (ks:List (List Int)):PyData:=.tuple [.int m,.tuple (ks.map gQ)]
theorem zO {μ:ax}{d:D}{m:Int}{ks:List (List Int)} (h:dw d m ks):qm μ d=some (qv m ks):=by
 obtain ⟨rfl,_,_,_,hk⟩:=h
 have e:sE μ (.tup (ks.map aB))=some (.tuple (ks.map gQ)):=by
  simp only [sE,k6 hk,Option.map_some]
 unfold qm
 dsimp only
 simp only [gh,wI,sE,e,k6 hk,Option.map_some,Option.bind_some]
 rfl
end Lw
namespace Lw
open PySem L2 RS
def Pn (μ0:ax) (i:Nat) (μ:ax):Prop:=∃ a b c g,μ=μ0.set i (bc a b c)++g
theorem Pn.app {μ0 μ g:ax}{i:Nat} (h:Pn μ0 i μ):Pn μ0 i (μ++g):=by
 obtain ⟨a,b,c,g',rfl⟩:=h
 exact ⟨a,b,c,g'++g,by rw [IP]⟩
theorem Pn.get {μ0 μ:ax}{i:Nat} (h:Pn μ0 i μ) (hi:i<μ0.length):∃ a b c,μ[i]?=some (bc a b c):=by
 obtain ⟨a,b,c,g',rfl⟩:=h
 exact ⟨a,b,c,aO (gq hi)⟩
theorem Pn.set {μ0 μ:ax}{i:Nat}{a b c:Int} (h:Pn μ0 i μ) (hi:i<μ0.length):Pn μ0 i (μ.set i (bc a b c)):=by
 obtain ⟨a',b',c',g',rfl⟩:=h
 exact ⟨a,b,c,g',by rw [kc (by simpa using hi),List.set_set]⟩
theorem Pn.len {μ0 μ:ax}{i:Nat} (h:Pn μ0 i μ):μ0.length<=μ.length:=by
 obtain ⟨a',b',c',g',rfl⟩:=h
 simp
theorem Pn.self {μ0:ax}{i:Nat}{a b c:Int} (h:μ0[i]?=some (bc a b c)):Pn μ0 i μ0:=by
 refine ⟨a,b,c,[],?_⟩
 rw [HS]
 apply Km
 intro j
 by_cases e:i=j
 ·subst e;rw [gq (Hq.mp h).1,h]
 ·rw [Ht e]
theorem Pn.draw {μ0 μ:ax}{i:Nat}{m:Int} (h:Pn μ0 i μ) (hi:i<μ0.length) (h0:0<m) (h1:m<1000) :
  ∃ r a b c:Int,0<=r/\r<m/\aK [.obj i,.int m] μ=.ok (.int r) (μ.set i (bc a b c))/\Pn μ0 i (μ.set i (bc a b c)):=by
 obtain ⟨a,b,c,hp⟩:=h.get hi
 obtain ⟨r,a',b',c',r0,r1,e⟩:=lY hp h0 h1
 exact ⟨r,a',b',c',r0,r1,e,h.set hi⟩
theorem Pn.gc {μ0 μ:ax}{i:Nat}{d:D} (h:Pn μ0 i μ) (hd:d.low μ0.length):∃ a b c,nZ μ0 (.ok d μ)=.ok d (μ0.set i (bc a b c)):=by
 obtain ⟨a,b,c,g',rfl⟩:=h
 exact ⟨a,b,c,sU hd lZ⟩
theorem kq {μ1:ax}{e:ME}{rest:Ro}{f:Int->Int × Int}{lo:Int}{n:Nat} (hn:n<1000) (he:∀ v a,e (some (.int v)::rest) (μ1++[.lst a])=.ok (bw (f v)) (μ1++[.lst a])) :
  compLoop (.fix (bq lo n)) μ1.length (ah 0) bx e (bq lo n) (none::rest) (μ1++[.lst []])=.ok (.obj μ1.length) (μ1++[.lst (((List.range n).map fun k:Nat=>f (lo+(k:Int))).map bw)]):=by
 have:=d3 (src:=.fix (bq lo n)) (g:=ah 0) (t:=bx) (e:=e) (μ1:=μ1) (q:=fun _=>true)
  (h:=fun d=>match d with | .int a=>bw (f a) | _=>.non) (fun ρ=>∃ o,ρ=o::rest) (fun _=>trivial) (xs:=bq lo n) (acc:=[]) (ρ:=none::rest) ⟨none,rfl⟩
  (by unfold bq;rw [Il,Jx,Jw];exact Hg (by omega) cJ)
  (fun x hx a ρ hJJ => by
   obtain ⟨o,ho⟩:=hJJ
   unfold bq at hx
   obtain ⟨k,hk,rfl⟩:=JC.mp hx
   exact ⟨_,⟨_,rfl⟩,by subst ho;rfl,rfl,fun _=>he _ _⟩)
 rw [this,K6.mpr (fun _ _=>rfl)]
 unfold bq
 simp only [IU,Ju]
 rfl
def Et (m:Int) (ps:List (Int × Int)):Prop:=ps.length<=40/\∀ p∈ps,0<=p.1/\p.1<m/\0<=p.2/\p.2<m/\p.1≠p.2
theorem nu {μ0 μ1:ax}{i t:Nat}{m:Int}{k:Int}{ps:List (Int × Int)} (hi:i<μ0.length) (ht:μ0.length<=t) (h:Pn μ0 i μ1) (hl:μ1[t]?=some (.lst (ps.map bw))) (hps:Et m ps) (k0:0<k) (k1:k<1000) :
  ∃ qs μ2,Et m qs/\Pn μ0 i μ2/\μ2.length=μ1.length/\compLoop (.own t (ps.map bw)) μ1.length (ah 0) (ia (ay (gf false) (aC aK (af (ai 1) (af (cC (.int k)) (aA)))) (cC (.int 0)))) (ai 0) (ps.map bw) [none,some (.obj i)] (μ1++[.lst []])=.ok (.obj μ1.length) (μ2++[.lst (qs.map bw)]):=by
 have run:=gY (src:=.own t (ps.map bw)) (g:=ah 0) (t:=(ia (ay (gf false) (aC aK (af (ai 1) (af (cC (.int k)) (aA)))) (cC (.int 0))))) (e:=ai 0) (n:=μ1.length)
  (fun xs ys ρ μ2 s=>s=[]/\μ2.length=μ1.length/\Pn μ0 i μ2/\μ2[t]?=some (.lst (ps.map bw))/\(∃ o,ρ=[o,some (.obj i)])/\∃ rs qs:List (Int × Int),xs=rs.map bw/\ys=qs.map bw/\qs.length+rs.length<=40/\(∀ p∈rs,0<=p.1/\p.1<m/\0<=p.2/\p.2<m/\p.1≠p.2)/\(∀ p∈qs,0<=p.1/\p.1<m/\0<=p.2/\p.2<m/\p.1≠p.2))
  (fun ys ρ μ2 s ⟨_,e1,_,e2,_⟩=>⟨e1,aO e2⟩)
  (fun x r ys ρ μ2 s hJJ => by
   obtain ⟨es,e1,e2,e3,⟨o,e4⟩,rs,qs,e5,e6,e7,e8,e9⟩:=hJJ
   subst es e4 e6
   cases rs with
   | nil=>cases e5
   | cons p rs=>
    injection e5 with ex er
    subst ex er
    obtain ⟨v,a,b,c,v0,v1,ed,hp⟩:=(e2.app (g:=[.lst (qs.map bw)])).draw hi k0 k1
    have i2:i<μ2.length:=Hb hi e2.len
    rw [kc i2] at ed
    refine ⟨e1,aO e3,[some (bw p),some (.obj i)],μ2,[],v == 0,μ2.set i (bc a b c),[],rfl,?_,fun hc=>?_,fun hc=>?_⟩
    ·simp only [cE,aE,az,aq,au,aj,ag,bh,aa,ed,cz,IZ,Iu,aR]
    ·refine ⟨bw p, μ2.set i (bc a b c), [], by rw [ag], ?_, by simpa using e1, rfl, by simpa using e1, e2.set hi, gW e3 (by omega), ⟨_, rfl⟩, rs, qs ++ [p], rfl, by simp, by simp at e7 ⊢; omega, fun q hq => e8 q (Hk _ hq), fun q hq => ?_⟩
     ·rw [Il]
      simp only [I0] at e7
      exact Hb (show qs.length<1000 by omega) cJ
     ·rcases Hn.mp hq with z | z
      ·exact e9 q z
      ·simp at z;subst z;exact e8 _ Hj
    ·exact ⟨rfl,by simpa using e1,e2.set hi,gW e3 (by omega),⟨_,rfl⟩,rs,qs,rfl,rfl,by simp at e7 ⊢;omega,fun q hq=>e8 q (Hk _ hq),e9⟩)
  (xs:=ps.map bw) (ys:=[]) (ρ:=[none,some (.obj i)]) (μ1:=μ1) (s:=[])
  ⟨rfl,rfl,h,hl,⟨_,rfl⟩,ps,[],rfl,rfl,by have:=hps.1;simpa using this,hps.2,by simp⟩
 obtain ⟨ys',ρ',μ2,s',⟨es,e1,e2,e3,⟨o,e4⟩,rs,qs,e5,e6,e7,e8,e9⟩,run⟩:=run
 subst es e6
 exact ⟨qs,μ2,⟨by omega,e9⟩,e2,e1,run⟩
theorem tW {μ0 μ1:ax}{i:Nat}{m:Int} (hi:i<μ0.length) (h:Pn μ0 i μ1) (m0:1<=m) (m1:m<=6) :
  ∃ qs μ2,Et m qs/\Pn μ0 i μ2/\μ2.length=μ1.length/\compLoop (.fix (bq 1 (m - 1).toNat)) μ1.length (ah 0) bx bU (bq 1 (m - 1).toNat) [none,some (.obj i)] (μ1++[.lst []])=.ok (.obj μ1.length) (μ2++[.lst (qs.map bw)]):=by
 have run:=gY (src:=.fix (bq 1 (m - 1).toNat)) (g:=ah 0) (t:=bx) (e:=bU) (n:=μ1.length)
  (fun xs ys ρ μ2 s=>s=[]/\μ2.length=μ1.length/\Pn μ0 i μ2/\(∃ o,ρ=[o,some (.obj i)])/\∃ (lo:Int) (n:Nat) (qs:List (Int × Int)),xs=bq lo n/\1<=lo/\lo+n=m/\ys=qs.map bw/\qs.length+n<=40/\(∀ p∈qs,0<=p.1/\p.1<m/\0<=p.2/\p.2<m/\p.1≠p.2))
  (fun ys ρ μ2 s ⟨_,e1,_⟩=>⟨e1,trivial⟩)
  (fun x r ys ρ μ2 s hJJ => by
   obtain ⟨es,e1,e2,⟨o,e4⟩,lo,n,qs,e5,e6,e7,e8,e9,e10⟩:=hJJ
   subst es e4 e8
   cases n with
   | zero=>rw [g7] at e5;cases e5
   | succ n=>
    rw [fN] at e5
    injection e5 with ex er
    subst ex er
    obtain ⟨v,a,b,c,v0,v1,ed,hp⟩:=(e2.app (g:=[.lst (qs.map bw)])).draw (m:=lo) hi (by omega) (by omega)
    have i2:i<μ2.length:=Hb hi e2.len
    rw [kc i2] at ed
    refine ⟨e1,trivial,[some (.int lo),some (.obj i)],μ2,[],true,μ2,[],rfl,rfl,fun hc=>?_,fun hc=>nomatch hc⟩
    refine ⟨bw (v,lo),μ2.set i (bc a b c),[],?_,?_,by simpa using e1,rfl,by simpa using e1,e2.set hi,⟨_,rfl⟩,lo+1,n,qs++[(v,lo)],rfl,by omega,by omega,by simp,by simp;omega,fun q hq=>?_⟩
    ·unfold bU
     simp only [bR,az,aq,au,aj,ag,bh,aa,ed,I0,Jx,G6 l2]
     rfl
    ·rw [Il]
     exact Hb (show qs.length<1000 by omega) cJ
    ·rcases Hn.mp hq with z | z
     ·exact e10 q z
     ·simp at z;subst z;exact ⟨v0,by omega,by omega,by omega,by dsimp only;omega⟩)
  (xs:=bq 1 (m - 1).toNat) (ys:=[]) (ρ:=[none,some (.obj i)]) (μ1:=μ1) (s:=[])
  ⟨rfl,rfl,h,⟨_,rfl⟩,1,_,[],rfl,by omega,by omega,rfl,by simp;omega,by simp⟩
 obtain ⟨ys',ρ',μ2,s',⟨es,e1,e2,⟨o,e4⟩,lo,n,qs,e5,e6,e7,e8,e9,e10⟩,run⟩:=run
 subst es e8
 exact ⟨qs,μ2,⟨by omega,e10⟩,e2,e1,run⟩
noncomputable def eV:MS:=(kI (ia (ay (gf false) (ai 1) (cC (.int 0)))) (bE (cA (iH (ai 3)) [none,some 0] (ah 0) (dR) (dW)) (ah 5)) (kI (ia (ay (gf false) (ai 1) (cC (.int 1)))) (bE (cA (iH (ai 3)) [none,some 0] (ah 0) (dQ) (dU)) (ah 5)) (kI (ia (ay (gf false) (ai 1) (cC (.int 2)))) (bE (ay ck (cA (fu jq (af (ay iI (ai 2) (cC (.int 1))) (aA))) [none] (ah 0) (bx) (cO)) (ay kM (jt (af (dJ (af (cC (.int 0)) (af (ay iI (ai 2) (cC (.int 1))) (aA)))) (aA))) (aC lE (af (ay (jO .Gt) (ai 2) (cC (.int 2))) (aA))))) (ah 5)) (kI (ia (ay (gf false) (ai 1) (cC (.int 3)))) (bE (cA (fu jq (af (ay iI (ai 2) (cC (.int 1))) (aA))) [none] (ah 0) (bx) (dS)) (ah 5)) (kI (ia (ay (gf false) (ai 1) (cC (.int 4)))) (bE (cA (fu mj (af (cC (.int 1)) (af (ai 2) (aA)))) [none] (ah 0) (bx) (cN)) (ah 5)) (bE (cA (fu mj (af (cC (.int 1)) (af (ai 2) (aA)))) [none,some 0] (ah 0) (bx) (bU)) (ah 5)))))))
theorem Ar {μ0 μ1:ax}{i t:Nat}{m w:Int}{ps:List (Int × Int)}{o4:Option D} (hi:i<μ0.length) (ht:μ0.length<=t) (h:Pn μ0 i μ1) (hl:μ1[t]?=some (.lst (ps.map bw))) (hps:Et m ps) (m0:1<=m) (m1:m<=6) :
  ∃ (o:Nat) (qs:List (Int × Int)) (μ2:ax),Et m qs/\Pn μ0 i μ2/\μ2[o]?=some (.lst (qs.map bw))/\eV [some (.obj i),some (.int w),some (.int m),some (.obj t),o4,none] μ1=.next [some (.obj i),some (.int w),some (.int m),some (.obj t),o4,some (.obj o)] μ2:=by
 unfold eV
 have r1:∀ n a,cO (some (.int n)::[]) (μ1++[.lst a])=.ok (bw (n,n+1)) (μ1++[.lst a]):=fun n a=>by
  unfold cO
  simp only [bR,aq,au,aE,ag,bh,aa,fF,I0,Jx,G6 l2]
  rfl
 have r2:∀ n a,dS (some (.int n)::[]) (μ1++[.lst a])=.ok (bw (n,n+1)) (μ1++[.lst a]):=r1
 have r3:∀ n a,cN (some (.int n)::[]) (μ1++[.lst a])=.ok (bw (0,n)) (μ1++[.lst a]):=fun n a=>by
  unfold cN
  simp only [bR,aq,au,aE,ag,bh,aa,fF,I0,Jx,G6 l2]
  rfl
 have sb:iI (.int m) (.int 1) μ1=.ok (.int (m - 1)) μ1:=rfl
 have rn:(List.range (m - 1).toNat).length<=5:=by rw [Jw];omega
 have pth:∀ p∈(List.range (m - 1).toNat).map (fun k:Nat=>(((0:Int)+(k:Int)),(0:Int)+(k:Int)+1)),0<=p.1/\p.1<m/\0<=p.2/\p.2<m/\p.1≠p.2:=fun p hp=>by
  obtain ⟨k,hk,rfl⟩:=JC.mp hp
  rw [Hf] at hk
  dsimp only
  omega
 by_cases w0:w=0
 ·subst w0
  obtain ⟨qs,μ2,q1,q2,q3,q4⟩:=nu (k:=2) hi ht h hl hps (by decide) (by decide)
  refine ⟨μ1.length,qs,μ2++[.lst (qs.map bw)],q1,q2.app,by rw [<- q3];exact av,?_⟩
  simp only [bB,cE,aE,aj,ag,bh,aa,cz,IY,aR,ae,IZ,Iu,Iv,aZ,cw,cX]
  rw [gw hl]
  simp only [aa,dZ]
  rw [show fv [none,some 0] [some (D.obj i),some (.int 0),some (.int m),some (.obj t),o4,none]=[none,some (.obj i)] from rfl]
  unfold dR dW
  rw [q4]
  rfl
 have w0':(w == 0)=false:=by simpa using w0
 by_cases w1:w=1
 ·subst w1
  obtain ⟨qs,μ2,q1,q2,q3,q4⟩:=nu (k:=3) hi ht h hl hps (by decide) (by decide)
  refine ⟨μ1.length,qs,μ2++[.lst (qs.map bw)],q1,q2.app,by rw [<- q3];exact av,?_⟩
  simp only [bB,cE,aE,aj,ag,bh,aa,cz,w0',IY,aR,ae,IZ,Iu,Iv,aZ,cw,cX]
  rw [gw hl]
  simp only [aa,dZ]
  rw [show fv [none,some 0] [some (D.obj i),some (.int 1),some (.int m),some (.obj t),o4,none]=[none,some (.obj i)] from rfl]
  unfold dQ dU
  rw [q4]
  rfl
 have w1':(w == 1)=false:=by simpa using w1
 by_cases w2:w=2
 ·subst w2
  let ps1:List (Int × Int):=(List.range (m - 1).toNat).map (fun k:Nat=>(((0:Int)+(k:Int)),(0:Int)+(k:Int)+1))
  let ps2:List (Int × Int):=(List.replicate (if dk .Gt m 2 then (1:Int) else 0).toNat [((0:Int),m - 1)]).flatten
  have hb:ps2=if dk .Gt m 2 then [((0:Int),m - 1)] else []:=by
   simp only [ps2]
   cases dk .Gt m 2 <;> rfl
  have hb2:ps2.length<=1/\∀ p∈ps2,p=(0,m - 1)/\2<m:=by
   rw [hb]
   by_cases z:dk .Gt m 2=true
   ·rw [G6 z]
    have:2<m:=by simpa [dk] using z
    simp [this]
   ·rw [G7 z];simp
  refine ⟨_,ps1++ps2,((μ1++[O.lst (ps1.map bw)]++[O.lst [bw (0,m - 1)]])++[O.lst (ps2.map bw)])++[O.lst ((ps1++ps2).map bw)],⟨?_,fun p hp=>?_⟩,((h.app).app.app).app,av,?_⟩
  ·rw [Ik]
   have:ps1.length<=5:=by simp only [ps1,Il];exact rn
   omega
  ·rcases Hn.mp hp with z | z
   ·exact pth p z
   ·obtain ⟨rfl, z2⟩ := hb2.2 p z
    dsimp only
    omega
  ·simp only [bB, cE, aE, aj, ag, bh, aa, cz, w0', w1', IY, aR, ae, IZ, Iu, Iv, aZ, cw, cY, aq, au, sb]
   rw [gx (by omega) (by omega)]
   simp only [aa,br]
   rw [show fv [none] _=[none] from rfl,kq (f:=fun v=>(v,v+1)) (by omega) r1]
   have l1:(1:Nat)<=sizeLine:=by decide
   have sb':∀ μ,iI (.int m) (.int 1) μ=.ok (.int (m - 1)) μ:=fun _=>rfl
   have ib:∀ k:Bool,∀ μ,lE [.bl k] μ=.ok (.int (if k then 1 else 0)) μ:=fun _ _=>rfl
   simp only [aa,fB,bR,aq,au,aE,aj,ag,bh,sb',I0,Jx,G6 l2,G6 l1,az,eC,ib]
   have mu:∀ M:ax,kM (.obj M.length) (.int (if dk .Gt m 2=true then 1 else 0)) (M++[O.lst [bw (0,m - 1)]])=.ok (.obj (M++[O.lst [bw (0,m - 1)]]).length) ((M++[O.lst [bw (0,m - 1)]])++[O.lst (ps2.map bw)]):=fun M=>by
    unfold kM
    dsimp only
    rw [av]
    dsimp only
    have:(List.replicate (if dk .Gt m 2=true then (1:Int) else 0).toNat [bw (0,m - 1)]).flatten=ps2.map bw:=by
     simp only [ps2]
     cases dk .Gt m 2 <;> rfl
    rw [this,G6]
    have l1':(1:Nat)<=sizeLine:=by decide
    cases dk .Gt m 2
    ·exact ⟨by decide,by decide,Jh _⟩
    ·exact ⟨by decide,by decide,l1'⟩
   rw [show (D.tup [D.int 0,D.int (m - 1)])=bw (0,m - 1) from rfl,mu]
   simp only [aa]
   have ad:ck (.obj μ1.length) (.obj (μ1++[O.lst (ps1.map bw)]++[O.lst [bw (0,m - 1)]]).length) ((μ1++[O.lst (ps1.map bw)]++[O.lst [bw (0,m - 1)]])++[O.lst (ps2.map bw)])=.ok (.obj ((μ1++[O.lst (ps1.map bw)]++[O.lst [bw (0,m - 1)]])++[O.lst (ps2.map bw)]).length) (((μ1++[O.lst (ps1.map bw)]++[O.lst [bw (0,m - 1)]])++[O.lst (ps2.map bw)])++[O.lst ((ps1++ps2).map bw)]):=by
    unfold ck
    dsimp only
    rw [av,aO (aO av)]
    dsimp only
    rw [G6,JJ]
    have e1:((List.range (m - 1).toNat).map (fun k:Nat=>(((0:Int)+(k:Int)),(0:Int)+(k:Int)+1))).length<=5:=by rw [Il];exact rn
    have e2:((ps1.map bw).length:Nat)<=5:=by rw [Il];exact e1
    have e3:((ps2.map bw).length:Nat)<=1:=by rw [Il];exact hb2.1
    exact Hg (show _<=1000 by omega) cJ
   rw [ad]
   rfl
 have w2':(w == 2)=false:=by simpa using w2
 by_cases w3:w=3
 ·subst w3
  refine ⟨μ1.length,(List.range (m - 1).toNat).map (fun k:Nat=>(((0:Int)+(k:Int)),(0:Int)+(k:Int)+1)),μ1++[.lst _],⟨by rw [Il];omega,pth⟩,h.app,av,?_⟩
  simp only [bB,cE,aE,aj,ag,bh,aa,cz,w0',w1',w2',IY,aR,ae,IZ,Iu,Iv,aZ,cw,cY,aq,au,sb]
  rw [gx (by omega) (by omega)]
  simp only [aa,br]
  rw [show fv [none] _=[none] from rfl,kq (f:=fun v=>(v,v+1)) (by omega) r2]
  rfl
 have w3':(w == 3)=false:=by simpa using w3
 by_cases w4:w=4
 ·subst w4
  refine ⟨μ1.length,(List.range (m - 1).toNat).map (fun k:Nat=>((0:Int),(1:Int)+(k:Int))),μ1++[.lst _],⟨by rw [Il];omega,fun p hp=>?_⟩,h.app,av,?_⟩
  ·obtain ⟨k, hk, rfl⟩ := JC.mp hp
   rw [Hf] at hk
   dsimp only
   omega
  simp only [bB,cE,aE,aj,ag,bh,aa,cz,w0',w1',w2',w3',IY,aR,ae,IZ,Iu,Iv,aZ,cw,cY,aq,au,sb]
  rw [l6 (by omega) (by omega) (by omega) (by omega)]
  simp only [aa,br]
  rw [show fv [none] _=[none] from rfl,kq (f:=fun v=>(0,v)) (by omega) r3]
  rfl
 have w4':(w == 4)=false:=by simpa using w4
 obtain ⟨qs,μ2,q1,q2,q3,q4⟩:=tW hi h m0 m1
 refine ⟨μ1.length,qs,μ2++[.lst (qs.map bw)],q1,q2.app,by rw [<- q3];exact av,?_⟩
 simp only [bB,cE,aE,aj,ag,bh,aa,cz,w0',w1',w2',w3',w4',aR,ae,IZ,Iu,aZ,cw,cY,aq,au]
 rw [l6 (by omega) (by omega) (by omega) (by omega)]
 simp only [aa,br]
 rw [show fv [none,some 0] [some (D.obj i),some (.int w),some (.int m),some (.obj t),o4,none]=[none,some (.obj i)] from rfl,q4]
 rfl
theorem g8 {n:Nat}{d:D}{m:Int}{ks:List (List Int)} (h:dw d m ks):d.low n:=iY h
theorem vt {μ:ax}{i:Nat}{a b c:Int} (hp:μ[i]?=some (bc a b c)):∃ d m ks a' b' c',dw d m ks/\cH [.obj i] μ=.ok d (μ.set i (bc a' b' c')):=by
 have hi:i<μ.length:=(Hq.mp hp).1
 have P0:Pn μ i μ:=Pn.self hp
 obtain ⟨w,a1,b1,c1,w0,w1,ew,P1⟩:=P0.draw (m:=7) hi (by decide) (by decide)
 generalize hM1:μ.set i (bc a1 b1 c1)=M1 at ew P1
 obtain ⟨m',a2,b2,c2,m0,m1,em,P2⟩:=P1.draw (m:=6) hi (by decide) (by decide)
 generalize hM2:M1.set i (bc a2 b2 c2)=M2 at em P2
 have run:=gr (src:=.fix (bq 0 (1+m').toNat)) (g:=ah 4) (fb:=cM)
  (fun xs ρ μ1 => ∃ (lo : Int) (n : Nat) (t : Nat) (ps : List (Int × Int)) (o4 : Option D), xs = bq lo n /\ 0 <= lo /\ lo + n = 1 + m' /\ ρ = [some (.obj i), some (.int w), some (.int (1 + m')), some (.obj t), o4, none] /\ Pn μ i μ1 /\ μ.length <= t /\ μ1[t]? = some (.lst (ps.map bw)) /\
   (ps.length:Int)<=6 * lo/\(∀ p∈ps,0<=p.1/\p.1<p.2/\p.2<lo))
  (fun _ _ _=>trivial)
  (fun x r ρ μ1 hJJ => by
   obtain ⟨lo,n,t,ps,o4,e1,e2,e3,e4,e5,e6,e7,e8,e9⟩:=hJJ
   subst e4
   cases n with
   | zero=>rw [g7] at e1;cases e1
   | succ n=>
    rw [fN] at e1
    injection e1 with ex er
    subst ex er
    let qs:List (Int × Int):=(List.range lo.toNat).map fun k:Nat=>((0:Int)+(k:Int),lo)
    have hq:(qs.length:Int)=lo:=by simp only [qs,Il,Jw];omega
    refine ⟨trivial,_,μ1,[some (.obj i),some (.int w),some (.int (1+m')),some (.obj (μ1.length+1)),some (.int lo),none],(μ1++[O.lst (qs.map bw)])++[O.lst ((ps++qs).map bw)],rfl,?_,lo+1,n,μ1.length+1,ps++qs,some (.int lo),rfl,by omega,by omega,rfl,e5.app.app,?_,?_,?_,fun p hp=>?_⟩
    ·show cM [some (.obj i), some (.int w), some (.int (1 + m')), some (.obj t), some (.int lo), none] μ1 = _
     unfold cM
     simp only [aZ,aE,aj,ag,aa,cw,cY,aq,au]
     rw [gx (by omega) (by omega)]
     simp only [aa,br]
     rw [show fv [none,some 4] [some (D.obj i),some (.int w),some (.int (1+m')),some (.obj t),some (.int lo),none]=[none,some (.int lo)] from rfl,
      kq (f:=fun v=>(v,lo)) (by omega) (fun v a=>by
       unfold f9
       simp only [bR,aq,au,aj,ag,aa,I0,Jx,G6 l2]
       rfl)]
     simp only [aa]
     unfold ck
     dsimp only
     rw [aO e7,av]
     dsimp only
     rw [G6 (by
      rw [Il,Il]
      have:qs.length=((List.range lo.toNat).map fun k:Nat=>((0:Int)+(k:Int),lo)).length:=rfl
      rw [<- this]
      exact Hg (show _<=1000 by omega) cJ)]
     simp only [ae,cu]
     simp only [Ik,I0,Jx,K3,K4,JJ]
     rfl
    ·have := e5.len
     omega
    ·have : μ1.length + 1 = (μ1 ++ [O.lst (qs.map bw)]).length := by simp
     rw [this];exact av
    ·rw [Ik];push_cast;omega
    ·rcases Hn.mp hp with z | z
     ·have:=e9 p z;omega
     ·simp only [qs] at z
      obtain ⟨k,hk,rfl⟩:=JC.mp z
      rw [Hf] at hk
      dsimp only
      omega)
  (xs:=bq 0 (1+m').toNat) (ρ:=[some (.obj i),some (.int w),some (.int (1+m')),some (.obj M2.length),none,none]) (μ:=M2++[.lst []])
  ⟨0,(1+m').toNat,M2.length,[],none,rfl,by omega,by omega,rfl,P2.app,P2.len,av,by simp,by simp⟩
 obtain ⟨ρ',M3,⟨lo,n,t,ps,o4,e1,e2,e3,e4,e5,e6,e7,e8,e9⟩,run⟩:=run
 subst e4
 have hn:=ki e1.symm
 subst hn
 obtain ⟨o,qs,M4,q1,q2,q3,q4⟩:=Ar (m:=1+m') (w:=w) (o4:=o4) hi e6 e5 e7 ⟨by omega,fun p hp=>by have:=e9 p hp;omega⟩ (by omega) (by omega)
 obtain ⟨a5,b5,c5,hp4⟩:=q2.get hi
 obtain ⟨ns,a6,b6,c6,n1,n2,n3,n4⟩:=qW hp4 (m:=1+m') (by omega) (by omega)
 obtain ⟨d,ks,g1,g2⟩:=yb (μ:=M4.set i (bc a6 b6 c6)) (m:=1+m') (by omega) (by omega) q1.2 (by have:=q1.1;omega) n1 n2 n3
 obtain ⟨a7,b7,c7,hg⟩:=(q2.set (a:=a6) (b:=b6) (c:=c6) hi).gc (g8 g1)
 refine ⟨d,1+m',ks,a7,b7,c7,g1,?_⟩
 unfold cH
 rw [fV]
 simp only [hX,aX,aZ,az,aq,au,ag,bh,aa,ew,ae,cu,aL,List.replicate,K3,K4,aE,hM1,em,hM2,fF,fB,Jx,G6 (Jh sizeLine),ik,cY,aj]
 rw [gx (by omega) (by omega)]
 simp only [ae,br]
 rw [run]
 simp only [aL,aX]
 have hW:=q4
 unfold eV at hW
 rw [hW]
 simp only [aL,bg,az,aq,au,aj,ag,bR,aa]
 rw [gu q3]
 simp only [aa,I0,Jx,G6 l2,n4,g2,ae,aN]
 exact hg
theorem x9 {μ:ax}{d:D}{m k:Int}{ks:List (List Int)} (h:dw d m ks):∃ d' ks',dw d' m ks'/\cL [d,.int k] μ=.ok d' μ:=by
 have hd:=h.1
 have hm:1<=m/\m<=6:=⟨h.2.1,h.2.2.1⟩
 subst hd
 obtain ⟨n,rfl⟩:∃ n:Nat,m=(n:Int):=⟨m.toNat,by omega⟩
 obtain ⟨T,_,e⟩:=vq (μ:=μ) (k:=k) h
 exact ⟨_,_,qU (by omega) (by omega),e⟩
theorem vJ {m:Int}{ks:List (List Int)} (h:∀ k∈ks,pj m k):jr (.tuple (ks.map gQ))=true:=by
 have:=k7 h
 simp only [jr,PyData.canLay0,this.1,PyData.depth,Bool.true_and]
 exact IV (by omega)
theorem uI {μ:ax}{m:Int}{ks:List (List Int)} (h:∀ k∈ks,pj m k):gf true (.tup (ks.map aB)) (.tup []) μ=.ok (.bl (!ks.isEmpty)) μ:=by
 have e1:qm μ (.tup (ks.map aB))=some (.tuple (ks.map gQ)):=by
  simp only [qm,oD h,Option.map_some]
 have e2:qm μ (.tup [])=some (.tuple []):=rfl
 unfold gf
 rw [e1,e2]
 dsimp only
 rw [G6 ⟨vJ h,by decide⟩]
 congr 2
 cases ks with
 | nil=>rfl
 | cons k ks=>simp [PyData.eqv,PyData.eqvAll]
theorem yZ {m:Int}{ks ks':List (List Int)}{d:D} (h:dw d m ks) (hs:ks'.Sublist ks):dw (.tup [.int m,.tup (ks'.map aB)]) m ks':=by
 obtain ⟨_,h0,h1,hp,hk⟩:=h
 exact ⟨rfl,h0,h1,hp.sublist hs,fun k hk'=>hk k (hs.subset hk')⟩
theorem Ei {β:Type}{xs:List β}{r:Nat} (h:r<=xs.length):ig xs none (some (r:Int))=xs.take r:=by
 unfold ig
 rw [HT.sIx_none,HT.sIx_nat]
 simp [Nat.min_eq_left h]
theorem zb {β:Type}{xs:List β}{r:Nat} (h:r<=xs.length):ig xs (some (r:Int)) none=xs.drop r:=by
 unfold ig
 rw [HT.sIx_none,HT.sIx_nat,Nat.min_eq_left h]
 exact JB (by rw [Iy];exact HI _)
theorem Fe {a b:Int}{μ:ax}:bK [.tup [.int a,.int b]] μ=.ok (.obj μ.length) (μ++[.lst [.int (min a b),.int (max a b)]]):=by
 have e:[min a b,max a b]=gk [a,b]:=by
  refine mV ?_ (by simp;omega)
  by_cases h:a<=b
  ·rw [Int.min_eq_left h,Int.max_eq_right h]
  ·rw [Int.min_eq_right (by omega), Int.max_eq_left (by omega)]
   exact List.Perm.swap a b []
 have e2:fT [.int a,.int b]=some [a,b]:=rfl
 unfold bK
 dsimp only
 rw [e2]
 dsimp only
 rw [G6 (show [a,b].length<64 from (by decide:2<64)),<- e]
 rfl
theorem x8 {μ:ax}{i:Nat}{a b c:Int} (hp:μ[i]?=some (bc a b c)):∃ d m ks a' b' c',dw d m ks/\dB [.obj i] μ=.ok d (μ.set i (bc a' b' c')):=by
 have hi:i<μ.length:=(Hq.mp hp).1
 obtain ⟨d0,m,ks0,a0,b0,c0,g0,e0⟩:=vt hp
 have P0:Pn μ i (μ.set i (bc a0 b0 c0)):=⟨a0,b0,c0,[],by simp⟩
 generalize hM0:μ.set i (bc a0 b0 c0)=M0 at e0 P0
 obtain ⟨w,a1,b1,c1,w0,w1,ew,P1⟩:=P0.draw (m:=6) hi (by decide) (by decide)
 generalize hM1:M0.set i (bc a1 b1 c1)=M1 at ew P1
 have cmpw:dk .Lt w 3=decide (w<3):=rfl
 have st:∃ d ks,dw d m ks/\kI (ia (ay (jO .Lt) (ai 2) (cC (.int 3)))) (bE (aC cL (af (ai 1) (af (cC (.int 2)) (aA)))) (ah 1)) (fe) [some (.obj i),some d0,some (.int w),none,none,none] M1=.next [some (.obj i),some d,some (.int w),none,none,none] M1:=by
  obtain ⟨d',ks',g',e'⟩:=x9 (μ:=M1) (k:=2) g0
  by_cases hw:w<3
  ·refine ⟨d', ks', g', ?_⟩
   simp only [bB,cE,aE,aj,ag,bh,aa,eC,cmpw,IV hw,aR,ae,Iv,aZ,az,aq,au,e',cu,K3,K4]
  ·refine ⟨d0, ks0, g0, ?_⟩
   simp only [bB,cE,aE,aj,ag,bh,aa,eC,cmpw,G3 hw,aR,ae,IZ,Iu,cv]
 obtain ⟨d,ks,g,es⟩:=st
 have hlow:=fun n=>g8 (n:=n) g
 have hg:=g
 obtain ⟨rfl,h0,h1,hpw,hk⟩:=hg
 unfold dB
 rw [fV]
 have sub1:∀ x y:Int,∀ μ,iI (.int x) (.int y) μ=.ok (.int (x - y)) μ:=fun _ _ _=>rfl
 by_cases z0:w=0/\ks≠[]
 ·obtain ⟨rfl, hne⟩ := z0
  have hlen:=iZ g
  have hpos:0<ks.length:=KW.mpr hne
  have hem:ks.isEmpty=false:=by simpa using hne
  obtain ⟨r,a2,b2,c2,r0,r1,er,P2⟩:=P1.draw (m:=(ks.length:Int)) hi (by omega) (by omega)
  generalize hM2:M1.set i (bc a2 b2 c2)=M2 at er P2
  obtain ⟨rn,rfl⟩:∃ rn:Nat,r=(rn:Int):=⟨r.toNat,by omega⟩
  have gs:dw (.tup [.int m,.tup ((ks.take rn++ks.drop (rn+1)).map aB)]) m (ks.take rn++ks.drop (rn+1)):=by
   refine yZ g ?_
   have:=List.Sublist.append (List.Sublist.refl (ks.take rn)) (List.drop_sublist 1 (ks.drop rn))
   rwa [JH,List.drop_drop] at this
  obtain ⟨a7,b7,c7,hgc⟩:=P2.gc (g8 gs)
  refine ⟨_,m,_,a7,b7,c7,gs,?_⟩
  simp only [eY,aX,aZ,az,aq,au,ag,aj,bh,aa,e0,hM0,ae,cu,aL,List.replicate,K3,K4,ew,hM1]
  rw [es]
  simp only [aL,aX,bB,eD,cE,aE,aj,ag,bh,aa,cz,IY,IZ,Iu,Iv,aR,jj,bR,au,Jx,G6 (Jh sizeLine),uI hk,hem,J6,ae,aZ,az,aq,l7,Il,er,hM2,cu,K3,K4,bg,eB,uk,sV,ko,pH,fF]
  have s1:∀ μ,uf (.tup (ks.map aB)) none (some (rn:Int)) μ=.ok (.tup ((ks.map aB).take rn)) μ:=fun μ=>by
   unfold uf;dsimp only;rw [Ei (by rw [Il];omega)]
  have s2:∀ μ,uf (.tup (ks.map aB)) (some ((rn:Int)+1)) none μ=.ok (.tup ((ks.map aB).drop (rn+1))) μ:=fun μ=>by
   unfold uf;dsimp only;rw [show ((rn:Int)+1)=((rn+1:Nat):Int) by push_cast;rfl,zb (by rw [Il];omega)]
  simp only [s1,s2,aa]
  have s3:∀ μ,ck (.tup ((ks.map aB).take rn)) (.tup ((ks.map aB).drop (rn+1))) μ=.ok (.tup ((ks.take rn++ks.drop (rn+1)).map aB)) μ:=fun μ=>by
   unfold ck
   dsimp only
   rw [G6,JJ,JK,JL]
   rw [HZ,Iy,Il]
   exact Hg (show _<=1000 by omega) cJ
  simp only [s3,aa,I0,Jx,G6 l2,ae,pE,aN]
  exact hgc
 ·
  have t0:jE (ia (ay (gf false) (ai 2) (cC (.int 0)))) (ia (ay (gf true) (ay dH (ai 1) (cC (.int 1))) (dJ (aA)))) [some (.obj i),some (.tup [.int m,.tup (ks.map aB)]),some (.int w),none,none,none] M1=.ok false M1:=by
   by_cases hw:w=0
   ·subst hw
    have hem:ks.isEmpty=true:=by
     cases ks with
     | nil=>rfl
     | cons x y=>exact absurd ⟨rfl,by simp⟩ z0
    simp only [eD,cE,aE,aj,ag,bh,aa,cz,IY,IZ,Iu,Iv,aR,jj,bR,au,Jx,G6 (Jh sizeLine),uI hk,hem,JX]
   ·have hw' : (w == 0) = false := by simpa using hw
    simp only [eD,cE,aE,aj,ag,bh,aa,cz,hw',IZ,Iu,aR]
  by_cases z1:w=1/\1<m
  ·obtain ⟨rfl, hm⟩ := z1
   obtain ⟨u,a2,b2,c2,u0,u1,eu,P2⟩:=P1.draw (m:=m) hi (by omega) (by omega)
   generalize hM2:M1.set i (bc a2 b2 c2)=M2 at eu P2
   obtain ⟨v,a3,b3,c3,v0,v1,ev,P3⟩:=P2.draw (m:=m - 1) hi (by omega) (by omega)
   generalize hM3:M2.set i (bc a3 b3 c3)=M3 at ev P3
   have hx0:0<=(u+1+v) % m:=K1 _ (by omega)
   have hx1:(u+1+v) % m<m:=K2 _ (by omega)
   have hxne:(u+1+v) % m≠u:=by
    by_cases hh:u+1+v<m
    ·rw [Int.emod_eq_of_lt (by omega) hh];omega
    ·rw [show u+1+v=(u+1+v - m)+m by omega,Int.add_emod_right,Int.emod_eq_of_lt (by omega) (by omega)];omega
   have md:∀ x μ,nK (.int x) (.int m) μ=.ok (.int (x % m)) μ:=fun x μ=>kS (show (fun _ j=>(0:Int)<j) x m by show 0<m;omega)
   generalize hx:(u+1+v) % m=x at hx0 hx1 hxne
   have hks:∀ k∈ks++[[min u x,max u x]],pj m k:=fun k hk'=>by
    rcases Hn.mp hk' with z | z
    ·exact hk k z
    ·simp at z;subst z;exact ⟨_,_,rfl,by omega,by omega,by omega⟩
   have gs:=gC h0 h1 hks
   have kd:iN ((ks++[[min u x,max u x]]).map aB)=some (ks++[[min u x,max u x]]):=kl fun k hk=>(hks k hk).prs h1
   obtain ⟨a7,b7,c7,hgc⟩:=(((P3.app (g:=[.lst [.int (min u x),.int (max u x)]])).app (g:=[.set (bX (ks++[[min u x,max u x]]))])).app (g:=[.lst ((d7 (ks++[[min u x,max u x]])).map aB)])).gc (g8 gs)
   refine ⟨_,m,_,a7,b7,c7,gs,?_⟩
   have cm:dk .Gt m 1=true:=by simpa [dk] using hm
   have l1:(1:Nat)<=sizeLine:=by decide
   have s3:∀ μ,ck (.tup (ks.map aB)) (.tup [.tup [.int (min u x),.int (max u x)]]) μ=.ok (.tup ((ks++[[min u x,max u x]]).map aB)) μ:=fun μ=>by
    unfold ck
    dsimp only
    rw [G6,JJ]
    ·rfl
    ·have := iZ g
     rw [Il]
     simp only [I0,Jx]
     exact Hg (show _<=1000 by omega) cJ
   have s4:∀ μ,js [.tup ((ks++[[min u x,max u x]]).map aB)] μ=.ok (.obj μ.length) (μ++[.set (bX (ks++[[min u x,max u x]]))]):=fun μ=>by
    unfold js;dsimp only;unfold j9;rw [kd]
   have s5:∀ M:ax,bK [.obj M.length] (M++[.set (bX (ks++[[min u x,max u x]]))])=.ok (.obj (M++[O.set (bX (ks++[[min u x,max u x]]))]).length) ((M++[.set (bX (ks++[[min u x,max u x]]))])++[.lst ((d7 (ks++[[min u x,max u x]])).map aB)]):=fun M=>by
    unfold bK;dsimp only;rw [av];dsimp only;rw [gD]
   simp only [eY,aX,aZ,az,aq,au,ag,aj,bh,aa,e0,hM0,ae,cu,aL,List.replicate,K3,K4,ew,hM1]
   rw [es]
   simp only [aL]
   rw [aX,bB,t0]
   simp only [ae,IZ,Iu,cv,aL,aX,bB,eD,cE,aE,aj,ag,bh,aa,cz,IY,Iv,aR,eB,eC,cm,aZ,az,aq,au,eu,hM2,cu,K3,K4,bR,sub1,ev,hM3,fF,md,hx,I0,Jx,G6 l2,G6 l1,Fe]
   rw [gu av]
   simp only [aa,ae,cu,K3,K4,aL,bg,bR,aq,au,aE,az,aj,ag,bh,eB,jj,I0,Jx,G6 l2,G6 l1,s3,s4,s5]
   rw [gu av]
   simp only [aa,ae,I0,Jx,G6 l2,pE,aN]
   exact hgc
  ·have t1:jE (ia (ay (gf false) (ai 2) (cC (.int 1)))) (ia (ay (jO .Gt) (ay dH (ai 1) (cC (.int 0))) (cC (.int 1)))) [some (.obj i),some (.tup [.int m,.tup (ks.map aB)]),some (.int w),none,none,none] M1=.ok false M1:=by
    by_cases hw:w=1
    ·subst hw
     have cm:dk .Gt m 1=false:=by
      have:¬ 1<m:=fun h=>z1 ⟨rfl,h⟩
      simpa [dk] using this
     simp only [eD,cE,aE,aj,ag,bh,aa,cz,IY,IZ,Iu,Iv,aR,eB,eC,cm]
    ·have hw' : (w == 1) = false := by simpa using hw
     simp only [eD,cE,aE,aj,ag,bh,aa,cz,hw',IZ,Iu,aR]
   obtain ⟨a7,b7,c7,hgc⟩:=P1.gc (g8 g)
   refine ⟨_,m,_,a7,b7,c7,g,?_⟩
   simp only [eY,aX,aZ,az,aq,au,ag,aj,bh,aa,e0,hM0,ae,cu,aL,List.replicate,K3,K4,ew,hM1]
   rw [es]
   simp only [aL]
   rw [aX,bB,t0]
   simp only [ae,IZ,Iu,cv,aL]
   rw [aX,bB,t1]
   simp only [ae,IZ,Iu,cv,aL,bg,aj,ag,aN]
   exact hgc
end Lw
namespace Lw
open PySem L2 RS Lv
theorem i3 {U:Type}{en:U->D}{src:lX}{g:MG}{t:MT}{e:ME}{μ1:ax}{q:U->Bool}{h:U->D} (R:Ro->Prop) (ho:∀ a,cg src (μ1++[.lst a])) :
  ∀ {us:List U}{acc:List D}{ρ:Ro},R ρ->acc.length+us.length<=sizeLine->(∀ x∈us,∀ a ρ,R ρ->∃ ρ1,R ρ1/\g (en x) ρ (μ1++[.lst a])=.ok ρ1 (μ1++[.lst a])/\t ρ1 (μ1++[.lst a])=.ok (q x) (μ1++[.lst a])/\(q x=true->e ρ1 (μ1++[.lst a])=.ok (h x) (μ1++[.lst a]))) ->
   compLoop src μ1.length g t e (us.map en) ρ (μ1++[.lst acc])=.ok (.obj μ1.length) (μ1++[.lst (acc++(us.filter q).map h)])
 | [],acc,ρ,hr,hl,he=>by
  rw [IG]
  unfold compLoop
  rw [G6 (ho acc)]
  simp
 | x::xs,acc,ρ,hr,hl,he=>by
  obtain ⟨ρ1,r1,e1,e2,e3⟩:=he x Hj acc ρ hr
  rw [IH]
  unfold compLoop
  rw [G6 (ho acc),e1]
  simp only [bj,aa]
  rw [e2]
  simp only [bj,aa]
  have he':=fun y hy=>he y (Hk _ hy)
  simp only [I0] at hl
  cases hq:q x with
  | false=>
   rw [G7 HP,i3 R ho r1 (by omega) he',KY,hq]
   rfl
  | true=>
   rw [G6 rfl,e3 hq]
   simp only [bj,aa]
   rw [kZ (by omega)]
   simp only [aa]
   rw [i3 R ho r1 (by simp;omega) he',KY,hq]
   simp
theorem kn {U:Type}:∀ {us:List U},us.filter (fun _=>true)=us
 | []=>rfl
 | _::us=>by rw [KY,G6 rfl,kn]
def lV:D->Bool
 | .int _=>true
 | _=>false
def sF (m:Nat):D->Bool
 | .int i=>decide (0<=i/\i<(m:Int))
 | _=>false
def kJ (μ:ax) (d:D):Prop:=zi μ d≠none
theorem pP {μ:ax}{n:Nat} (h:kJ μ (.obj n)):(∃ xs,μ[n]?=some (.lst xs))\/μ[n]?=some .dic:=by
 unfold kJ zi at h
 dsimp only at h
 split at h
 ·rename_i xs e;exact .inl ⟨xs,e⟩
 ·rename_i e;exact .inr e
 ·exact absurd rfl h
theorem uL {μ:ax}{d:D} (h:kJ μ d):∃ b,ie "int" d μ=.ok (.bl b) μ/\(b=true->∃ c,ie "bool" d μ=.ok (.bl c) μ/\(!c)=lV d)/\(b=false->lV d=false):=by
 cases d with
 | non=>exact ⟨false,rfl,nofun,fun _=>rfl⟩
 | bl b=>exact ⟨true,rfl,fun _=>⟨true,rfl,rfl⟩,nofun⟩
 | int i=>exact ⟨true,rfl,fun _=>⟨false,rfl,rfl⟩,nofun⟩
 | str x=>exact ⟨false,rfl,nofun,fun _=>rfl⟩
 | tup xs=>exact ⟨false,rfl,nofun,fun _=>rfl⟩
 | frz xs=>exact ⟨false,rfl,nofun,fun _=>rfl⟩
 | obj n=>
  refine ⟨false,?_,nofun,fun _=>rfl⟩
  unfold ie zi
  rcases pP h with ⟨xs,e⟩ | e <;> simp only [e] <;> rfl
theorem x5 {μ:ax}{d:D} (h:kJ μ d):dP [d] μ=.ok (.bl (lV d)) μ:=by
 obtain ⟨b,h1,h2,h3⟩:=uL h
 unfold dP
 rw [fV]
 simp only [j3,List.replicate,bg,dm,pU,iQ,ag,aa,h1,aR]
 cases b with
 | false=>
  rw [G7 HP,ae,aN,h3 rfl]
  exact bN (by simp)
 | true=>
  obtain ⟨c,c1,c2⟩:=h2 rfl
  rw [G6 rfl,c1]
  simp only [aa,aR,ae,aN,c2]
  exact bN (by simp)
theorem ya {μ:ax}{m:Nat}{d:D} (h:kJ μ d):fZ [.int m,d] μ=.ok (.bl (sF m d)) μ:=by
 have hw:bu [d,.int 0,.int ((m:Int) - 1)] μ=.ok (.bl (sF m d)) μ:=by
  unfold bu
  rw [xQ]
  simp only [fE,List.replicate,bg,dm,az,aq,au,ag,aj,aa,x5 h,aR,rP]
  cases d with
  | int i=>
   rw [show lV (.int i)=true from rfl,G6 rfl]
   simp only [eC,aa,aR]
   by_cases c:dk .LtE 0 i=true
   ·rw [G6 c, ae, aN]
    rw [show dk .LtE i ((m:Int) - 1)=sF m (.int i) from by
     have c':(0:Int)<=i:=of_decide_eq_true c
     show decide (i<=(m:Int) - 1)=decide (0<=i/\i<(m:Int))
     exact Kk.mpr ⟨fun z=>⟨c',by omega⟩,fun z=>by omega⟩]
    exact bN (by simp)
   ·rw [G7 c, ae, aN]
    rw [show sF m (.int i)=false from by
     have c':¬ (0:Int)<=i:=fun z=>c (IV z)
     exact G3 (fun z=>c' z.1)]
    exact bN (by simp)
  | _=>
   rw [show lV _=false from rfl,G7 HP,ae,aN]
   exact bN (by simp)
 unfold fZ
 rw [cU]
 simp only [nC,List.replicate,bg,az,aq,au,ag,aj,bh,aE,aa]
 rw [show iI (.int m) (.int 1) μ=.ok (.int ((m:Int) - 1)) μ from rfl]
 simp only [aa,hw,ae,aN]
 exact bN (by simp)
theorem fj {μ g:ax}{d:D} (h:kJ μ d):kJ (μ++g) d:=by
 cases d with
 | obj n=>
  unfold kJ zi
  rcases pP h with ⟨xs,e⟩ | e <;> simp only [aO e] <;> exact nofun
 | _=>exact h
theorem jU {μ:ax}{m:Nat}{xs:List D} (h:∀ x∈xs,kJ μ x) (hl:xs.length<=1000):bM [.int m,.tup xs] μ=.ok (.bl (xs.all (sF m))) μ:=by
 have c:=i3 (U:=D) (en:=fun x=>x) (src:=.fix xs) (g:=ah 0) (t:=bx) (e:=gK) (μ1:=μ) (q:=fun _=>true) (h:=fun x=>.bl (sF m x)) (fun ρ=>∃ o,ρ=[o,some (.int m)]) (fun _=>trivial) (us:=xs) (acc:=[]) (ρ:=[none,some (.int m)]) ⟨_,rfl⟩
  (by rw [Jx];exact Hg (by omega) cJ)
  (fun x hx a ρ hJJ => by
   obtain ⟨o,e⟩:=hJJ
   subst e
   refine ⟨[some x,some (.int m)],⟨_,rfl⟩,rfl,rfl,fun _=>?_⟩
   unfold gK
   simp only [az,aq,au,aj,ag,aa,ya (fj (h x hx))])
 rw [List.map_id',IU,kn] at c
 unfold bM
 rw [cU]
 simp only [i9,List.replicate,bg,dm,iQ,aj,ag,aa]
 rw [show ie "tuple" (.tup xs) μ=.ok (.bl true) μ from rfl]
 simp only [aa,aR,Iv,az,aq,au,cw,cX,aj,ag,ji,br]
 rw [show fv [none,some 0] _=[none,some (.int m)] from rfl,c]
 simp only [aa]
 rw [uU (bs:=xs.map (sF m)) (by rw [av,Ju];rfl)]
 simp only [ae,aN]
 rw [show (xs.map (sF m)).all id=xs.all (sF m) from by rw [KS];rfl]
 exact fU (by simp)
def Es:D->Bool
 | .tup _=>true
 | _=>false
theorem uK {μ:ax}{d:D} (h:kJ μ d):ie "tuple" d μ=.ok (.bl (Es d)) μ:=by
 cases d with
 | obj n=>
  unfold ie zi
  rcases pP h with ⟨xs,e⟩ | e <;> simp only [e] <;> rfl
 | _=>rfl
theorem tw {μ:ax}{m:Nat}{d:D} (h:kJ μ d) (hn:Es d=false):bM [.int m,d] μ=.ok (.bl false) μ:=by
 unfold bM
 rw [cU]
 simp only [i9,List.replicate,bg,dm,iQ,aj,ag,aa,uK h,hn,aR,IZ,Iu,ae,aN]
 exact bN (by simp)
abbrev bV (m:Nat) (ks:List (List Int)):D:=.tup [.int m,.tup (ks.map aB)]
abbrev GW (m:Nat) (ks:List (List Int)):Prop:=dw (bV m ks) m ks
section
variable {m:Nat}{ks:List (List Int)}
theorem GW.m0 (h:GW m ks):1<=m:=by have:=h.2.1;omega
theorem GW.m6 (h:GW m ks):m<=6:=by have:=h.2.2.1;omega
end
theorem vh {μ:ax}{k:Int} (h0:1<=k) (h1:k<=6):bu [.int k,.int 1,.int 6] μ=.ok (.bl true) μ:=by
 have w:dP [.int k] μ=.ok (.bl true) μ:=by
  unfold dP
  rw [fV]
  have e1:ie "int" (.int k) μ=.ok (.bl true) μ:=rfl
  have e2:ie "bool" (.int k) μ=.ok (.bl false) μ:=rfl
  simp only [j3,bg,dm,iQ,pU,ag,aa,e1,e2,aR,Iv,J6,ae,aN]
  exact bN (by simp)
 unfold bu
 rw [xQ]
 simp only [fE,bg,dm,az,aq,au,aj,ag,aa,w,aR,Iv,rP,eC]
 rw [show dk .LtE 1 k=true from IV h0,show dk .LtE k 6=true from IV h1]
 simp only [aR,aa,Iv,ae,aN]
 exact bN (by simp)
theorem Aa {μ:ax}{m:Nat} (h0:1<=m) (h1:m<=6):hG [.int m] μ=.ok (.bl true) μ:=by
 unfold hG
 rw [fV]
 simp only [ph,List.replicate,bg,az,aq,au,ag,bh,aa,vh (show (1:Int)<=(m:Int) by omega) (show (m:Int)<=6 by omega),ae,aN]
 exact bN (by simp)
theorem z9 {μ:ax}{m:Nat}{a b:Int} (ha:0<=a/\a<(m:Int)) (hb:0<=b/\b<(m:Int)) (hn:a≠b):fP [.int m,.tup [.int a,.int b]] μ=.ok (.bl true) μ:=by
 have h1:bM [.int m,.tup [.int a,.int b]] μ=.ok (.bl true) μ:=by
  rw [jU (fun x hx=>by simp only [Hl,Jq,Jr] at hx;rcases hx with rfl|rfl <;> exact nofun) (by simp)]
  congr 2
  simp only [IJ,List.all_nil,Bool.and_true,sF,IE,KN]
  exact ⟨ha,hb⟩
 have h2:gf true (.int a) (.int b) μ=.ok (.bl true) μ:=by
  show ao.ok (D.bl (!(a == b))) μ=_
  rw [G4.mpr hn];rfl
 have i0:dH (.tup [.int a,.int b]) (.int 0) μ=.ok (.int a) μ:=rfl
 have i1:dH (.tup [.int a,.int b]) (.int 1) μ=.ok (.int b) μ:=rfl
 have l2:gf false (.int (([.int a,.int b]:List D).length:Int)) (.int 2) μ=.ok (.bl true) μ:=rfl
 unfold fP
 rw [cU]
 simp only [pf,List.replicate,bg,dm,az,aq,au,ag,aj,bh,aa,h1,aR,Iv,aE,l7,l2,i0,i1,h2,ae,aN]
 exact bN (by simp)
def mm (p:Int × Int):List Int:=[min p.1 p.2,max p.1 p.2]
def PP (m:Nat) (p:Int × Int):Prop:=(0<=p.1/\p.1<(m:Int))/\(0<=p.2/\p.2<(m:Int))/\p.1≠p.2
theorem PP.ok {m:Nat}{p:Int × Int} (h:PP m p):pj m (mm p):=⟨_,_,rfl,by have:=h.1;have:=h.2.1;omega,by have:=h.2.2;omega,by have:=h.1;have:=h.2.1;omega⟩
theorem qZ {M:ax}{t m:Nat}{xs:List D} (hm:m<=6) (ht:M[t]?=some (.lst xs)):∀ (rs:List (Int × Int)) (acc:List (List Int)) (o:Option D),(∀ p∈rs,PP m p) ->
  ∃ o',iM (.own t xs) M.length (ah 0) bx iz (rs.map bw) [o] (M++[.set acc])=.ok [o'] (M++[.set ((rs.map mm).foldl jP acc)])
 | [],acc,o,_=>by
  refine ⟨o,?_⟩
  rw [IG]
  unfold iM
  rw [G6 (show cg (.own t xs) (M++[.set acc]) from aO ht)]
  rfl
 | p::rs,acc,o,h=>by
  obtain ⟨o',e⟩:=qZ hm ht rs (jP acc (mm p)) (some (bw p)) fun q hq=>h q (Hk _ hq)
  refine ⟨o',?_⟩
  have hp:=(h p Hj).ok.prs (by omega)
  have ee:iz M.length [some (bw p)] (M++[.set acc])=.ok [some (bw p)] (M++[.set (jP acc (mm p))]):=by
   unfold iz um nB bw
   simp only [bR,aq,au,az,ag,aa,B7,B8,I0,Jx,G6 l2,bj]
   unfold zF
   rw [av]
   dsimp only
   rw [G6 (show [min p.1 p.2,max p.1 p.2]∈prs from hp)]
   simp only [aa]
   rw [show (M++[O.set acc]).set M.length (O.set (jP acc [min p.1 p.2,max p.1 p.2]))=M++[O.set (jP acc [min p.1 p.2,max p.1 p.2])] from kh]
   rfl
  rw [IH]
  unfold iM
  rw [G6 (show cg (.own t xs) (M++[.set acc]) from aO ht)]
  rw [show ah 0 (bw p) [o] (M++[.set acc])=.ok [some (bw p)] (M++[.set acc]) from rfl]
  simp only [bj,aa]
  rw [show bx [some (bw p)] (M++[.set acc])=.ok true (M++[.set acc]) from rfl]
  simp only [bj,aa,Iv]
  rw [ee]
  simp only [bj,aa]
  rw [e]
  rfl
theorem x6 {μ:ax}{m t:Nat}{ps:List (Int × Int)} (h0:1<=m) (hm:m<=6) (ht:μ[t]?=some (.lst (ps.map bw))) (hps:∀ p∈ps,PP m p):i5 [.int m,.obj t] μ=.ok (bV m (d7 (ps.map mm))) μ:=by
 have hks:∀ k∈ps.map mm,pj m k:=fun k hk=>by obtain ⟨p,hp,rfl⟩:=JC.mp hk;exact (hps p hp).ok
 obtain ⟨ρ',μ',⟨rs,o2,o3,e1,e2,e3⟩,run⟩:=gr (src:=.eno t (ps.map bw)) (g:=d8 2 (bf (ah 2) (bf (ah 3) (d9)))) (fb:=jZ)
  (fun xs ρ M=>∃ (rs:List (Nat × (Int × Int))) (o2 o3:Option D),xs=rs.map (fun r=>D.tup [.int (r.1:Nat),bw r.2])/\(M=μ/\∀ r∈rs,PP m r.2)/\ρ=[some (.int m),some (.obj t),o2,o3])
  (fun ρ M hJJ => by
   obtain ⟨_,_,_,_,e,_⟩:=hJJ
   rw [e.1];exact ht)
  (fun x xs ρ M hJJ => by
   obtain ⟨rs,o2,o3,e1,e2,e3⟩:=hJJ
   subst e3
   obtain ⟨rfl,e2⟩:=e2
   cases rs with
   | nil=>cases e1
   | cons r rs=>
    rw [IH] at e1
    injection e1 with h1 h2
    subst h1 h2
    have hp:=e2 r Hj
    refine ⟨ht,[some (.int m),some (.obj t),some (.int (r.1:Nat)),some (bw r.2)],M,[some (.int m),some (.obj t),some (.int (r.1:Nat)),some (bw r.2)],M,rfl,?_,rs,_,_,rfl,⟨rfl,fun z hz=>e2 z (Hk _ hz)⟩,rfl⟩
    unfold jZ
    simp only [bB,kf,iT,az,aq,au,ag,aj,aa]
    rw [show fP [.int m,bw r.2] M=.ok (.bl true) M from z9 hp.1 hp.2.1 hp.2.2]
    simp only [aa,gv,JX,ae,IZ,Iu,cv])
  (xs:=gm 0 (ps.map bw)) (ρ:=[some (.int m),some (.obj t),none,none]) (μ:=μ)
  ⟨(List.range ps.length).zip ps, none, none, by
    have core:∀ (l:List (Int × Int)) (k:Nat),gm k (l.map bw)=((List.range' k l.length).zip l).map (fun r=>D.tup [.int (r.1:Nat),bw r.2]):=by
     intro l
     induction l with
     | nil=>intro k;rfl
     | cons p l ih=>
      intro k
      simp only [IH,gm,I0,List.range'_succ,KO]
      rw [ih (k+1)]
    rw [core,<- List.range_eq_range'],⟨rfl,fun r hr=>hps r.2 (HX hr).2⟩,rfl⟩
 obtain ⟨rfl,_⟩:=e2
 subst e3
 obtain ⟨o',sl⟩:=qZ hm ht ps [] none hps
 unfold i5
 rw [cU]
 simp only [rX,List.replicate,aX,bB,kf,iT,az,aq,au,ag,aj,aa,Aa h0 hm,gv,JX,ae,IZ,Iu,cv,aL,ik,cY]
 rw [show oo [.obj t] μ'=.ok (.eno t (ps.map bw)) μ' from by unfold oo;dsimp only;rw [ht]]
 simp only [ae]
 rw [show (lX.eno t (ps.map bw)).items=gm 0 (ps.map bw) from rfl,run]
 simp only [aL,bg,bR,aq,au,az,ag,aj,aa]
 unfold pI
 simp only [cX,aj,ag,aa]
 rw [gw ht]
 simp only [aa,dZ]
 rw [show fv [none] _=[none] from rfl,sl]
 simp only [aa]
 rw [show (ps.map mm).foldl jP []=bX (ps.map mm) from rfl]
 have s2:bK [.obj μ'.length] (μ'++[.set (bX (ps.map mm))])=.ok (.obj (μ'++[O.set (bX (ps.map mm))]).length) ((μ'++[.set (bX (ps.map mm))])++[.lst ((d7 (ps.map mm)).map aB)]):=by
  unfold bK;dsimp only;rw [av];dsimp only;rw [gD]
 rw [s2]
 simp only [aa]
 rw [gu av]
 simp only [aa,I0,Jx,G6 l2,ae,aN]
 rw [IP]
 exact fU (iY (gC (by omega) (by omega) hks))
theorem Af {m:Nat}{ps:List (Int × Int)} (h0:1<=m) (hm:m<=6) (hps:∀ p∈ps,PP m p):GW m (d7 (ps.map mm)):=gC (by omega) (by omega) fun k hk=>by obtain ⟨p,hp,rfl⟩:=JC.mp hk;exact (hps p hp).ok
abbrev jn (w:List Int):D:=.tup (w.map D.int)
theorem uO {ns:List Int} (h:∀ n∈ns,0<=n/\n<6):wO (ns.map D.int)=some ns:=by
 unfold wO
 rw [gU]
 dsimp only
 rw [G6 (JV.mpr fun n hn=>IV (h n hn))]
structure n8 (m:Nat) (ns:List Int):Prop where
 nd:ns.Nodup
 len:ns.length=m
 rng:∀ n∈ns,0<=n/\n<(m:Int)
def nm (ns:List Int) (k:Int):Int:=ns.getD k.toNat 0
section
variable {m:Nat}{ns:List Int}{ks:List (List Int)}
theorem n8.get (N:n8 m ns) {k:Int} (h:0<=k/\k<(m:Int)):∃ hk:k.toNat<ns.length,nm ns k=ns[k.toNat]:=by
 have hk:k.toNat<ns.length:=by rw [N.len];omega
 exact ⟨hk,by unfold nm;rw [Kl,KA hk];rfl⟩
theorem n8.at (N:n8 m ns) {k:Int} (h:0<=k/\k<(m:Int)):atI (ns.map D.int) k=some (.int (nm ns k)):=by
 obtain ⟨hk,e⟩:=N.get h
 refine mP h.1 ?_
 rw [Ih,KA hk,e];rfl
theorem n8.ran (N:n8 m ns) {k:Int} (h:0<=k/\k<(m:Int)):0<=nm ns k/\nm ns k<(m:Int):=by
 obtain ⟨hk,e⟩:=N.get h
 rw [e];exact N.rng _ (Ky hk)
theorem n8.inj (N:n8 m ns) {a b:Int} (ha:0<=a/\a<(m:Int)) (hb:0<=b/\b<(m:Int)) (e:nm ns a=nm ns b):a=b:=by
 obtain ⟨h1,e1⟩:=N.get ha
 obtain ⟨h2,e2⟩:=N.get hb
 rw [e1,e2] at e
 have:=(Hr N.nd).mp e
 omega
theorem n8.all (N:n8 m ns) {b:Int} (hb:0<=b/\b<(m:Int)):∃ a,(0<=a/\a<(m:Int))/\nm ns a=b:=by
 have sub:ns ⊆ rg m:=fun n hn=>xI.mpr (N.rng n hn)
 have hmem:b∈ns:=by
  apply JD
  intro hc
  have:(b::ns).Nodup:=HW.mpr ⟨hc,N.nd⟩
  have l:=this.length_le_of_subset (show b::ns ⊆ rg m from fun n hn=>by
   rcases Hl.mp hn with z | z
   ·subst z;exact xI.mpr hb
   ·exact sub z)
  rw [C1,I0,N.len] at l
  omega
 obtain ⟨i,hi,e⟩:=KG hmem
 have hi':(0:Int)<=(i:Int)/\(i:Int)<(m:Int):=by have:=N.len;omega
 refine ⟨i,hi',?_⟩
 unfold nm
 rw [show ((i:Int)).toNat=i from by omega,Kl,KA hi,e];rfl
def wM (ns:List Int) (k:List Int):Int × Int:=(nm ns (k.getD 0 0),nm ns (k.getD 1 0))
def qx (ks:List (List Int)) (ns:List Int):List (List Int):=d7 ((ks.map (wM ns)).map mm)
theorem xy (N:n8 m ns) (h:∀ k∈ks,pj m k):∀ p∈ks.map (wM ns),PP m p:=fun p hp=>by
 obtain ⟨k,hk,rfl⟩:=JC.mp hp
 obtain ⟨a,b,rfl,h1,h2,h3⟩:=h k hk
 have x1:0<=a/\a<(m:Int):=⟨h1,by omega⟩
 have y1:0<=b/\b<(m:Int):=⟨by omega,h3⟩
 exact ⟨N.ran x1,N.ran y1,fun e=>by have:=N.inj x1 y1 e;omega⟩
theorem mH (N:n8 m ns) (h:GW m ks):GW m (qx ks ns):=Af h.m0 h.m6 (xy N h.2.2.2.2)
end
theorem yX {m:Nat}{ns:List Int}:(ns.map D.int).all (sF m)=ns.all fun p=>decide (0<=p/\p<(m:Int)):=by
 rw [KS];rfl
theorem za {ns:List Int} (h:ns.Nodup):eA ns=ns:=by
 have core:∀ (l acc:List Int),(acc++l).Nodup->l.foldl (fun acc k=>if k∈acc then acc else acc++[k]) acc=acc++l:=by
  intro l
  induction l with
  | nil=>intro acc _;simp
  | cons x l ih=>
   intro acc hn
   have hx:x ∉ acc:=fun z=>by
    have:=(J2.mp hn).2.2 x z x Hj
    exact this rfl
   rw [IQ,G7 hx,ih (acc++[x]) (by simpa using hn)]
   simp
 have:=core ns [] (by simpa using h)
 simpa [eA] using this
section
variable {m:Nat}{ns:List Int}{ks:List (List Int)}
theorem rY {μ:ax} (h0:1<=m) (hm:m<=6) (N:n8 m ns):bA [.int m,jn ns] μ=.ok (.bl true) μ:=by
 have pl:bM [.int m,jn ns] μ=.ok (.bl true) μ:=by
  rw [show jn ns=.tup (ns.map D.int) from rfl,jU (fun x hx=>by obtain ⟨i,_,rfl⟩:=JC.mp hx;exact nofun) (by rw [Il,N.len];omega),yX]
  congr 2
  exact JV.mpr fun p hp=>IV (N.rng p hp)
 have st:js [jn ns] μ=.ok (.obj μ.length) (μ++[O.iset (eA ns)]):=by
  unfold js
  dsimp only
  unfold j9
  rw [show iN (ns.map D.int)=none from by
   have hl:=N.len
   cases ns with
   | nil=>simp at hl;omega
   | cons a r=>rfl,uO (fun n hn=>by have:=N.rng n hn;omega)]
 unfold bA
 rw [cU]
 simp only [eX,List.replicate,bg,dm,az,aq,au,ag,aj,aa,pl,aR,Iv,aE,l7,Il,cz,N.len,IZ,Iu,IY,st]
 rw [uS av,za N.nd]
 simp only [aa,cz,N.len,IZ,Iu,IY,ae,aN]
 exact fU (by simp)
theorem tu {μ:ax} (h:GW m ks) (N:n8 m ns):eT [bV m ks,jn ns] μ=.ok (bV m (qx ks ns)) μ:=by
 have c:=i3 (U:=List Int) (en:=aB) (src:=.fix (ks.map aB)) (g:=d8 2 (bf (ah 0) (bf (ah 1) (d9)))) (t:=bx) (e:=i8) (μ1:=μ) (q:=fun _=>true) (h:=fun k=>bw (wM ns k)) (fun ρ=>∃ o o',ρ=[o,o',some (jn ns)]) (fun _=>trivial) (us:=ks) (acc:=[]) (ρ:=[none,none,some (jn ns)]) ⟨_,_,rfl⟩
  (by rw [Jx];exact Hg (by have:=iZ h;omega) cJ)
  (fun k hk a ρ hJJ => by
   obtain ⟨o,o',e⟩:=hJJ
   subst e
   obtain ⟨x,y,rfl,g1,g2,g3⟩:=h.2.2.2.2 k hk
   refine ⟨[some (.int x),some (.int y),some (jn ns)],⟨_,_,rfl⟩,rfl,rfl,fun _=>?_⟩
   unfold i8
   simp only [bR,aq,au,aE,aj,ag,aa]
   rw [show jn ns=.tup (ns.map D.int) from rfl,ij (N.at ⟨g1,by omega⟩)]
   simp only [aa]
   rw [ij (N.at ⟨by omega,g3⟩)]
   simp only [aa,I0,Jx,G6 l2]
   rfl)
 rw [kn,IU] at c
 have wo:=x6 (μ:=μ++[.lst (ks.map fun k=>bw (wM ns k))]) (m:=m) (t:=μ.length) (ps:=ks.map (wM ns)) h.m0 h.m6 (by rw [av,Ju];rfl) (xy N h.2.2.2.2)
 unfold eT
 rw [cU]
 simp only [ll,List.replicate,aX,aZ,ag,aa,ae]
 rw [show d8 2 (bf (ah 2) (bf (ah 3) d9)) (bV m ks) [some (bV m ks),some (jn ns),none,none] μ=.ok [some (bV m ks),some (jn ns),some (.int m),some (.tup (ks.map aB))] μ from rfl]
 simp only [ae,aL,aX,bB,kf,iT,az,aq,au,ag,aj,aa,rY h.m0 h.m6 N,bj,gv,JX,IZ,Iu,cv,bg,cw,cX,ji,br]
 rw [show fv [none,none,some 1] [some (bV m ks),some (jn ns),some (.int m),some (.tup (ks.map aB))]=[none,none,some (jn ns)] from rfl,c]
 simp only [aa]
 rw [wo]
 simp only [bj,ae,aN]
 exact fU (iY (mH N h))
end
theorem sW {subs known:List Str}{n:Nat}{c:Str}{μ:ax} (h:μ[n]?=some (.exc c)) (hk:known.contains c=true):jN subs known (.obj n) μ=.ok (.bl (subs.contains c)) μ:=by
 unfold jN
 dsimp only
 rw [h]
 dsimp only
 rw [G6 hk]
theorem mx:(["NoPlace"]:List Str).contains "NoPlace" = true:=by decide +kernel
theorem BN:([]:List Str).contains "NoPlace" = false:=by decide +kernel
theorem u5 {μ:ax}{a b:Nat}{xs ys:List D} (h:μ[a]?=some (.lst xs)) (g:μ[b]?=some (.lst ys)) (hn:xs.length+ys.length<=1000000):ck (.obj a) (.obj b) μ=.ok (.obj μ.length) (μ++[.lst (xs++ys)]):=by
 unfold ck
 simp only [h,g]
 rw [G6 (Hg hn (by decide))]
theorem l4:(4:Nat)<=sizeLine:=by decide
theorem l8:(8:Nat)<=sizeLine:=by decide
abbrev gF:List D:=[.bl true,.bl false,.bl false,.bl false]
abbrev h7:List D:=[.bl false,.bl false,.bl false,.bl false]
abbrev my:List D:=[.str "place",.str "number",.str "line",.str "root",.str "tree",.str "web",.str "text",.str "great"]
theorem Ab {μ:ax}{n:Nat} (h:μ[n]?=some (.exc "NoPlace")):di [.obj n] μ=.ok (.str "place") μ:=by
 have h1:(μ++[O.lst gF])[n]?=some (.exc "NoPlace"):=aO h
 have h2:(μ++[O.lst gF]++[O.lst h7])[n]?=some (.exc "NoPlace"):=aO h1
 have h3:(μ++[O.lst gF]++[O.lst h7]++[O.lst (gF++h7)])[n]?=some (.exc "NoPlace"):=aO h2
 have m3:(μ++[O.lst gF]++[O.lst h7]++[O.lst (gF++h7)])[(μ++[O.lst gF]++[O.lst h7]).length]?=some (.lst (gF++h7)):=av
 have m4:(μ++[O.lst gF]++[O.lst h7]++[O.lst (gF++h7)]++[O.lst my])[(μ++[O.lst gF]++[O.lst h7]).length]?=some (.lst (gF++h7)):=aO m3
 have k4:(μ++[O.lst gF]++[O.lst h7]++[O.lst (gF++h7)]++[O.lst my])[(μ++[O.lst gF]++[O.lst h7]++[O.lst (gF++h7)]).length]?=some (.lst my):=av
 have a1:=u5 (μ:=μ++[O.lst gF]++[O.lst h7]) (a:=μ.length) (b:=(μ++[O.lst gF]).length) (xs:=gF) (ys:=h7) (aO av) av (by decide)
 have c1:jl (.obj (μ++[O.lst gF]++[O.lst h7]).length) [.bl true] (μ++[O.lst gF]++[O.lst h7]++[O.lst (gF++h7)])=.ok (.int 1) (μ++[O.lst gF]++[O.lst h7]++[O.lst (gF++h7)]):=by
  unfold jl
  dsimp only
  rw [m3]
  rfl
 have i1:jk (.obj (μ++[O.lst gF]++[O.lst h7]).length) [.bl true] (μ++[O.lst gF]++[O.lst h7]++[O.lst (gF++h7)]++[O.lst my])=.ok (.int 0) (μ++[O.lst gF]++[O.lst h7]++[O.lst (gF++h7)]++[O.lst my]):=by
  unfold jk
  dsimp only
  rw [m4]
  dsimp only
  rw [G6 ⟨rfl,by decide,rfl⟩]
  rfl
 have e3:wG (.obj (μ++[O.lst gF]++[O.lst h7]).length) (μ++[O.lst gF]++[O.lst h7]++[O.lst (gF++h7)])=true:=by unfold wG;dsimp only;rw [m3]
 have e4:wG (.obj (μ++[O.lst gF]++[O.lst h7]).length) (μ++[O.lst gF]++[O.lst h7]++[O.lst (gF++h7)]++[O.lst my])=true:=by unfold wG;dsimp only;rw [m4]
 unfold di
 rw [fV]
 simp only [je,List.replicate,aX,aZ,fB,aq,au,iQ,ag,aa,sW h mx,mx,BN]
 rw [G6 (show [D.bl true,D.bl false,D.bl false,D.bl false].length<=sizeLine from l4)]
 simp only [ae]
 rw [show ah 1 (D.obj μ.length) [some (D.obj n),none] (μ++[O.lst gF])=.ok [some (D.obj n),some (D.obj μ.length)] (μ++[O.lst gF]) from rfl]
 simp only [ae,aL,aX,aZ,aE,fB,aq,au,iQ,ag,aj,aa,sW h1 mx,mx,BN]
 rw [G6 (show [D.bl false,D.bl false,D.bl false,D.bl false].length<=sizeLine from l4)]
 simp only [aa]
 rw [a1]
 simp only [ae]
 rw [show ah 1 (D.obj (μ++[O.lst gF]++[O.lst h7]).length) [some (D.obj n),some (D.obj μ.length)] (μ++[O.lst gF]++[O.lst h7]++[O.lst (gF++h7)])=.ok [some (D.obj n),some (D.obj (μ++[O.lst gF]++[O.lst h7]).length)] (μ++[O.lst gF]++[O.lst h7]++[O.lst (gF++h7)]) from rfl]
 simp only [ae,aL,aX,bB,D7,kf,iT,iQ,aE,aq,au,ag,aj,bh,aa,sW h3 mx,mx,gv,JX,IZ,Iu]
 unfold ia
 simp only [aE,xg,aq,au,ag,aj,bh,aa,e3,Iv,c1,cz,aR]
 rw [show (!((1:Int) == 1))=false from rfl]
 simp only [ae,IZ,Iu,cv,aL,bg,aE,fB,aq,au,bh,aa]
 rw [G6 (show [D.str "place",D.str "number",D.str "line",D.str "root",D.str "tree",D.str "web",D.str "text",D.str "great"].length<=sizeLine from l8)]
 simp only [aa,xg,aq,au,aj,ag,bh,e4,Iv,i1]
 rw [gI (xs:=my) (d:=.str "place") k4 rfl]
 simp only [ae,aN,IP]
 exact fU (by simp)
theorem qV {μ:ax}{m:Nat}{ks:List (List Int)}{ns:List Int} (h:GW m ks) (N:n8 m ns):bz [bV m ks,jn ns] μ=.ok (bV m (qx ks ns)) μ:=by
 unfold bz
 rw [cU]
 simp only [ja,List.replicate]
 unfold wL
 rw [show dA [some (bV m ks),some (jn ns),none] μ=.ret (bV m (qx ks ns)) μ from by
  simp only [dA,bg,az,aq,au,ag,aj,aa,tu h N,ae]]
 dsimp only
 rw [aN]
 exact bN (iY (mH N h))
theorem mU {μ:ax}{m:Nat}{ks:List (List Int)}{d:D} (h:GW m ks) (r:bA [.int m,d] μ=.ok (.bl false) μ):bz [bV m ks,d] μ=.ok (.str "place") μ:=by
 have rn:eT [bV m ks,d] μ=.exc ⟨"NoPlace",[]⟩ μ:=by
  unfold eT
  rw [cU]
  simp only [ll,List.replicate,aX,aZ,ag,aa,ae]
  rw [show d8 2 (bf (ah 2) (bf (ah 3) d9)) (bV m ks) [some (bV m ks),some d,none,none] μ=.ok [some (bV m ks),some d,some (.int m),some (.tup (ks.map aB))] μ from rfl]
  simp only [ae,aL,aX,bB,kf,iT,az,aq,au,ag,aj,aa,r,bj,gv,J6,Iv]
  rfl
 unfold bz
 rw [cU]
 simp only [ja,List.replicate]
 unfold wL
 rw [show dA [some (bV m ks),some d,none] μ=.exc ⟨"NoPlace",[]⟩ μ from by
  simp only [dA,bg,az,aq,au,ag,aj,aa,rn,nY]]
 dsimp only
 rw [G6 mx]
 rw [show gJ ((List.replicate 3 none).set 2 (some (D.obj μ.length))) (μ++[O.exc "NoPlace"])=.ret (.str "place") (μ++[O.exc "NoPlace"]) from by
  simp only [gJ,bg,az,aq,au,List.replicate,List.set,aj,ag,aa,Ab (μ:=μ++[O.exc "NoPlace"]) (n:=μ.length) av,ae]]
 show nZ μ (.ok (.str "place") (μ++[O.exc "NoPlace"]))=_
 exact fU (by simp)
theorem Bi {m:Nat}{d:D} (h:sF m d=true):∃ i:Int,d=.int i/\0<=i/\i<(m:Int):=by
 unfold sF at h
 split at h
 ·rename_i i
  exact ⟨i,rfl,by simpa using h⟩
 ·cases h
theorem uP {m:Nat}:∀ {xs:List D},xs.all (sF m)=true->∃ ns:List Int,xs=ns.map D.int/\∀ n∈ns,0<=n/\n<(m:Int)
 | [],_=>⟨[],rfl,fun n h=>by cases h⟩
 | d::xs,h=>by
  rw [IJ,IE] at h
  obtain ⟨i,rfl,hi⟩:=Bi h.1
  obtain ⟨ns,rfl,hn⟩:=uP h.2
  exact ⟨i::ns,rfl,fun n hm=>by
   rcases Hl.mp hm with rfl | hm
   ·exact hi
   ·exact hn n hm⟩
theorem sr {ns:List Int} (h:(eA ns).length=ns.length):ns.Nodup:=by
 have core:∀ (l acc:List Int),(l.foldl (fun acc k=>if k∈acc then acc else acc++[k]) acc).length<=acc.length+l.length/\((l.foldl (fun acc k=>if k∈acc then acc else acc++[k]) acc).length=acc.length+l.length->acc.Nodup->(acc++l).Nodup):=by
  intro l
  induction l with
  | nil=>intro acc;simp
  | cons x l ih=>
   intro acc
   rw [IQ]
   by_cases hx:x∈acc
   ·rw [G6 hx]
    have:=(ih acc).1
    refine ⟨by simp;omega,fun e=>?_⟩
    simp at e
    omega
   ·rw [G7 hx]
    obtain ⟨i1,i2⟩:=ih (acc++[x])
    refine ⟨by simp at i1 ⊢;omega,fun e hn=>?_⟩
    have:=i2 (by simp at e ⊢;omega) (by
     rw [J2]
     exact ⟨hn,by simp,fun a ha b hb z=>by simp at hb;subst hb;subst z;exact hx ha⟩)
    simpa using this
 have:=(core ns []).2 (by simpa [eA] using h) JR
 simpa using this
theorem uA {μ:ax}{m:Nat}{xs:List D} (h0:1<=m) (hm:m<=6) (hok:∀ x∈xs,kJ μ x) (hl:xs.length<=1000) (hn:∀ ns:List Int,xs=ns.map D.int->¬ n8 m ns):bA [.int m,.tup xs] μ=.ok (.bl false) μ:=by
 unfold bA
 rw [cU]
 simp only [eX,List.replicate,bg,dm,az,aq,au,ag,aj,aa,jU hok hl,aR]
 cases e:xs.all (sF m) with
 | false=>
  simp only [IZ,Iu,ae,aN]
  exact bN (by simp)
 | true=>
  obtain ⟨ns,rfl,hr⟩:=uP e
  simp only [Iv,aE,az,aq,au,ag,aj,l7,Il,aa,cz,aR,IZ,Iu]
  by_cases hlen:ns.length=m
  ·rw [show ((ns.length : Int) == (m : Int)) = true from by rw [hlen]; exact IY _]
   simp only [Iv,az,aq,au,aj,ag,aa,aE]
   have st:js [.tup (ns.map D.int)] μ=.ok (.obj μ.length) (μ++[O.iset (eA ns)]):=by
    unfold js
    dsimp only
    unfold j9
    rw [show iN (ns.map D.int)=none from by
     cases ns with
     | nil=>simp at hlen;omega
     | cons a r=>rfl,uO (fun n hn=>by have:=hr n hn;omega)]
   rw [st]
   simp only [aa]
   rw [uS av]
   have ne:(((eA ns).length:Int) == (m:Int))=false:=by
    rw [G4]
    intro z
    have z':(eA ns).length=m:=by exact_mod_cast z
    exact hn ns rfl ⟨sr (by omega),hlen,hr⟩
   simp only [aa,cz,IZ,Iu,ne,ae,aN]
   exact fU (by simp)
  ·have ne:((ns.length:Int) == (m:Int))=false:=by
    rw [G4]
    intro z
    exact hlen (by exact_mod_cast z)
   rw [ne]
   simp only [IZ,Iu,ae,aN]
   exact bN (by simp)
theorem z8 {μ:ax}{m:Nat}{d:D} (h:kJ μ d) (hn:Es d=false):bA [.int m,d] μ=.ok (.bl false) μ:=by
 unfold bA
 rw [cU]
 simp only [eX,List.replicate,bg,dm,az,aq,au,ag,aj,aa,tw h hn,aR,IZ,Iu,ae,aN]
 exact bN (by simp)
theorem qX {m:Nat}{ns:List Int}:gk ns=(List.range m).map (fun i:Nat=>(i:Int))↔n8 m ns:=by
 have hp:(gk ns).Perm ns:=List.mergeSort_perm ns _
 have rp:((List.range m).map (fun i:Nat=>(i:Int))).Pairwise (·<=·):=by
  rw [Kq]
  exact JS.imp fun h=>by omega
 have rn:((List.range m).map (fun i:Nat=>(i:Int))).Nodup:=by
  unfold List.Nodup
  rw [Kq]
  exact JE.imp fun h e=>h (by exact_mod_cast e)
 constructor
 ·intro e
  rw [e] at hp
  refine ⟨hp.nodup_iff.mp rn,by rw [<- hp.length_eq];simp,fun n hn=>?_⟩
  have:=hp.mem_iff.mpr hn
  obtain ⟨i,hi,rfl⟩:=JC.mp this
  have:=Hf.mp hi
  omega
 ·intro N
  refine (mV ?_ rp).symm
  refine (JT rn N.nd).mpr fun a=>⟨fun ha=>?_,fun ha=>?_⟩
  ·obtain ⟨i, hi, rfl⟩ := JC.mp ha
   have hi':=Hf.mp hi
   obtain ⟨b,hb,e⟩:=N.all (b:=(i:Int)) ⟨by omega,by omega⟩
   obtain ⟨hk,ek⟩:=N.get hb
   rw [<- e,ek]
   exact Ky hk
  ·have hr := N.rng a ha
   exact JC.mpr ⟨a.toNat,Hf.mpr (by omega),by show ((a.toNat:Nat):Int)=a;omega⟩
theorem vw {μ:ax}{d:D} (h:kJ μ d):eF [d] μ=.ok (.bl (lV d)) μ:=by
 obtain ⟨b,h1,h2,h3⟩:=uL h
 unfold eF
 rw [fV]
 simp only [kF,List.replicate,bg,dm,pU,iQ,ag,aa,h1,aR]
 cases b with
 | false=>
  rw [G7 HP,ae,aN,h3 rfl]
  exact bN (by simp)
 | true=>
  obtain ⟨c,c1,c2⟩:=h2 rfl
  rw [G6 rfl,c1]
  simp only [aa,aR,ae,aN,c2]
  exact bN (by simp)
theorem vZ {μ:ax}{xs:List D} (h:∀ x∈xs,kJ μ x) (hl:xs.length<=1000):compLoop (.fix xs) μ.length (ah 0) bx kg xs [none] (μ++[O.lst []])=.ok (.obj μ.length) (μ++[O.lst (xs.map fun x=>D.bl (lV x))]):=by
 have c:=i3 (U:=D) (en:=fun x=>x) (src:=.fix xs) (g:=ah 0) (t:=bx) (e:=kg) (μ1:=μ) (q:=fun _=>true) (h:=fun x=>.bl (lV x)) (fun ρ=>∃ o,ρ=[o]) (fun _=>trivial) (us:=xs) (acc:=[]) (ρ:=[none]) ⟨_,rfl⟩
  (by rw [Jx];exact Hg (by omega) cJ)
  (fun x hx a ρ hJJ => by
   obtain ⟨o,e⟩:=hJJ
   subst e
   refine ⟨[some x],⟨_,rfl⟩,rfl,rfl,fun _=>?_⟩
   unfold kg
   simp only [az,aq,au,aj,ag,aa,vw (fj (h x hx))])
 rw [List.map_id',IU,kn] at c
 exact c
theorem uN:∀ {xs:List D},xs.all lV=true->∃ ns:List Int,xs=ns.map D.int
 | [],_=>⟨[],rfl⟩
 | d::xs,h=>by
  rw [IJ,IE] at h
  obtain ⟨ns,rfl⟩:=uN h.2
  have h1:=h.1
  unfold lV at h1
  split at h1
  ·rename_i i
   exact ⟨i::ns,rfl⟩
  ·cases h1
theorem rK:∀ {ns ms:List Int},PyData.eqvAll (ns.map PyData.int) (ms.map PyData.int)=decide (ns=ms)
 | [],[]=>rfl
 | [],_::_=>rfl
 | _::_,[]=>rfl
 | a::ns,b::ms=>by
  simp only [IH,PyData.eqvAll,PyData.eqv,rK (ns:=ns) (ms:=ms),List.cons.injEq]
  by_cases h:a=b <;> simp [h]
theorem oJ (ns:List Int):jr (.list (ns.map PyData.int))=true:=by
 have:=rJ ns
 simp only [jr,PyData.canLay0,this.1,PyData.depth,this.2,Bool.true_and]
 rfl
theorem Bo {M:ax}{a b:Nat}{ns ms:List Int} (h:M[a]?=some (.lst (ns.map D.int))) (g:M[b]?=some (.lst (ms.map D.int))):gf false (.obj a) (.obj b) M=.ok (.bl (decide (ns=ms))) M:=by
 have e1:qm M (.obj a)=some (.list (ns.map PyData.int)):=by
  unfold qm;dsimp only;rw [h];dsimp only;rw [mZ];rfl
 have e2:qm M (.obj b)=some (.list (ms.map PyData.int)):=by
  unfold qm;dsimp only;rw [g];dsimp only;rw [mZ];rfl
 unfold gf
 rw [e1,e2]
 dsimp only
 rw [G6 ⟨oJ ns,oJ ms⟩,G7 HP]
 simp only [PyData.eqv,rK]
theorem gU:∀ ns:List Int,fT (ns.map D.int)=some ns
 | []=>rfl
 | n::ns=>by
  rw [IH]
  unfold fT
  rw [gU ns]
  rfl
theorem yq (m:Nat):bq 0 m=((List.range m).map fun i:Nat=>(i:Int)).map D.int:=by
 unfold bq
 rw [Ju]
 apply Jv
 intro i _
 simp
theorem m5 {μ:ax}:gf true (.str "place") (.str "place") μ=.ok (.bl false) μ:=by
 unfold gf
 rw [show qm μ (.str "place")=some (.str "place") from rfl]
 dsimp only
 rw [G6 ⟨by decide +kernel,by decide +kernel⟩]
 rfl
section
variable {m:Nat}{ks:List (List Int)}{M:ax}{a0 a1 a2 a5 a6 a7 a8 a9 a10 a12:Option D}
theorem zU (h:GW m ks) {d:D} (hd:kJ M d) (ht:Es d=false):∃ g,gy [a0,a1,a2,some (bV m ks),some (.int m),a5,a6,a7,a8,a9,a10,some d,a12] M=.next [a0,a1,a2,some (bV m ks),some (.int m),a5,a6,a7,a8,a9,a10,some d,some (.bl false)] (M++g):=by
 refine ⟨[],?_⟩
 unfold gy
 have td:bz [bV m ks,d] M=.ok (.str "place") M:=by
  refine mU h (z8 hd ht)
 simp only [aX,aZ,dm,iQ,aj,ag,aa,uK hd,ht,aR,IZ,Iu,ae,cu,K3,K4,aL,bB,eD,iT,gv,cE,aE,az,aq,au,bh,td,m5,cv,HS]
end
theorem vv {μ:ax}{m:Int}{ps:List (Int × Int)}{ns:List Int} (h0:1<=m) (h1:m<=6) (hps:∀ p∈ps,0<=p.1/\p.1<m/\0<=p.2/\p.2<m/\p.1≠p.2) (hl:ps.length<1000)
  (hn:ns.Nodup) (hnl:(ns.length:Int)=m) (hnr:∀ n∈ns,0<=n/\n<m) :
  bt [.tup [.int m,.tup (ps.map bw)],.tup (ns.map D.int)] μ=.ok (.tup [.int m,.tup ((d7 ((ps.map fun p=>(ns.getD p.1.toNat 0,ns.getD p.2.toNat 0)).map fun p=>[min p.1 p.2,max p.1 p.2])).map aB)]) μ:=by
 let nm:Int->Int:=fun k=>ns.getD k.toNat 0
 have nmD:∀ k,0<=k->k<m->atI (ns.map D.int) k=some (.int (nm k)):=fun k k0 k1=>by
  have hk:k.toNat<ns.length:=by omega
  refine mP k0 ?_
  rw [Ih,KA hk]
  simp [nm,Kl,KA hk]
 have nmR:∀ k,0<=k->k<m->0<=nm k/\nm k<m:=fun k k0 k1=>by
  have hk:k.toNat<ns.length:=by omega
  have:nm k=ns[k.toNat]:=by simp [nm,Kl,KA hk]
  rw [this];exact hnr _ (Ky hk)
 have nmI:∀ j k,0<=j->j<m->0<=k->k<m->j≠k->nm j≠nm k:=fun j k j0 j1 k0 k1 hjk e=>by
  have hj:j.toNat<ns.length:=by omega
  have hk:k.toNat<ns.length:=by omega
  have e1:nm j=ns[j.toNat]:=by simp [nm,Kl,KA hj]
  have e2:nm k=ns[k.toNat]:=by simp [nm,Kl,KA hk]
  rw [e1,e2] at e
  have:=(Hr hn).mp e
  omega
 let qs:List (Int × Int):=ps.map fun p=>(nm p.1,nm p.2)
 let ks:List (List Int):=qs.map fun p=>[min p.1 p.2,max p.1 p.2]
 have hks:∀ k∈ks,pj m k:=fun k hk=>by
  simp only [ks,qs,Ju,JC,K5] at hk
  obtain ⟨p,hp,rfl⟩:=hk
  obtain ⟨a1,a2,a3,a4,a5⟩:=hps p hp
  have b1:=nmR p.1 a1 a2
  have b2:=nmR p.2 a3 a4
  have b3:=nmI p.1 p.2 a1 a2 a3 a4 a5
  exact ⟨_,_,rfl,by omega,by omega,by omega⟩
 show _=ao.ok (D.tup [.int m,.tup ((d7 ks).map aB)]) μ
 have c1:compLoop (.fix (ps.map bw)) μ.length (d8 2 (bf (ah 0) (bf (ah 1) d9))) bx cb (ps.map bw) [none,none,some (.tup (ns.map D.int))] (μ++[.lst []])=.ok (.obj μ.length) (μ++[.lst (qs.map bw)]):=by
  have:=d3 (src:=.fix (ps.map bw)) (g:=d8 2 (bf (ah 0) (bf (ah 1) d9))) (t:=bx) (e:=cb) (μ1:=μ) (q:=fun _=>true)
   (h:=fun d=>match d with | .tup [.int a,.int b]=>bw (nm a,nm b) | _=>.non) (fun ρ=>∃ o1 o2,ρ=[o1,o2,some (.tup (ns.map D.int))]) (fun _=>trivial) (xs:=ps.map bw) (acc:=[]) (ρ:=[none,none,some (.tup (ns.map D.int))]) ⟨none,none,rfl⟩
   (by rw [Il,Jx];exact Hg (by omega) cJ)
   (fun x hx a ρ hJJ => by
    obtain ⟨o1,o2,ho⟩:=hJJ
    obtain ⟨p,hp,rfl⟩:=JC.mp hx
    obtain ⟨a1,a2,a3,a4,a5⟩:=hps p hp
    refine ⟨[some (.int p.1),some (.int p.2),some (.tup (ns.map D.int))],⟨_,_,rfl⟩,by subst ho;rfl,rfl,fun _=>?_⟩
    unfold cb
    simp only [bR,aq,au,aE,aj,ag,aa]
    rw [ij (nmD p.1 a1 a2)]
    simp only [aa]
    rw [ij (nmD p.2 a3 a4)]
    simp only [aa,I0,Jx,G6 l2]
    rfl)
  rw [this,K6.mpr (fun _ _=>rfl)]
  simp only [IU,Ju,qs]
  rfl
 have c2:compLoop (.own μ.length (qs.map bw)) (μ++[O.lst (qs.map bw)]).length (ah 0) bx bZ (qs.map bw) [none] ((μ++[O.lst (qs.map bw)])++[.lst []])=.ok (.obj (μ++[O.lst (qs.map bw)]).length) ((μ++[O.lst (qs.map bw)])++[.lst (ks.map aB)]):=by
  have:=d3 (src:=.own μ.length (qs.map bw)) (g:=ah 0) (t:=bx) (e:=bZ) (μ1:=μ++[O.lst (qs.map bw)]) (q:=fun _=>true)
   (h:=fun d=>match d with | .tup [.int a,.int b]=>aB [min a b,max a b] | _=>.non) (fun ρ=>∃ o1,ρ=[o1]) (fun a=>aO av) (xs:=qs.map bw) (acc:=[]) (ρ:=[none]) ⟨none,rfl⟩
   (by rw [Il,Jx];simp only [qs,Il];exact Hg (by omega) cJ)
   (fun x hx a ρ hJJ => by
    obtain ⟨o1,ho⟩:=hJJ
    obtain ⟨p,hp,rfl⟩:=JC.mp hx
    refine ⟨[some (bw p)],⟨_,rfl⟩,by subst ho;rfl,rfl,fun _=>?_⟩
    unfold bZ bw
    simp only [bR,aq,au,az,ag,aa,B7,B8,I0,Jx,G6 l2]
    rfl)
  rw [this,K6.mpr (fun _ _=>rfl)]
  simp only [IU,Ju,ks]
  rfl
 have kd:iN (ks.map aB)=some ks:=kl fun k hk=>(hks k hk).prs h1
 unfold bt
 rw [cU]
 simp only [iB,aX,aZ,cw,cX,aE,ag,aj,bh,aa,jj,ji,br]
 rw [show fv [none,none,some 1] (some (D.tup [D.int m,D.tup (List.map bw ps)])::some (D.tup (List.map D.int ns))::List.replicate (3 - 2) none)=[none,none,some (.tup (ns.map D.int))] from rfl,c1]
 simp only [ae,cu,aL,bg,bR,aq,au,az,aE,ag,aj,bh,aa,List.replicate,K3,K4,eB,cw,cX]
 rw [gw av]
 simp only [aa,dZ]
 rw [show fv [none] _=[none] from rfl,c2]
 simp only [aa]
 have s1:js [.obj (μ++[O.lst (qs.map bw)]).length] (μ++[O.lst (qs.map bw)]++[O.lst (ks.map aB)])=.ok (.obj (μ++[O.lst (qs.map bw)]++[O.lst (ks.map aB)]).length) ((μ++[O.lst (qs.map bw)]++[O.lst (ks.map aB)])++[.set (bX ks)]):=by
  unfold js;dsimp only;rw [av];dsimp only;unfold j9;rw [kd]
 rw [s1]
 simp only [aa]
 have s2:∀ M:ax,bK [.obj M.length] (M++[.set (bX ks)])=.ok (.obj (M++[O.set (bX ks)]).length) ((M++[.set (bX ks)])++[.lst ((d7 ks).map aB)]):=fun M=>by
  unfold bK;dsimp only;rw [av];dsimp only;rw [gD]
 rw [s2]
 simp only [aa]
 rw [gu av]
 simp only [aa,I0,Jx,G6 l2,ae,aN]
 rw [IP,IP,IP]
 exact fU (by simp;exact fk.mpr (fun x hx=>by obtain ⟨k,_,rfl⟩:=JC.mp hx;simp [aB];exact fk.mpr (by simp)))
theorem oy {μ:ax}{m:Nat}{ks:List (List Int)}{ns:List Int} (h:GW m ks) (N:n8 m ns):bt [bV m ks,jn ns] μ=.ok (bV m (qx ks ns)) μ:=by
 have hp:ks.map aB=(ks.map fun k=>(k.getD 0 0,k.getD 1 0)).map bw:=by
  rw [Ju]
  apply Jv
  intro k hk
  obtain ⟨x,y,rfl,_⟩:=h.2.2.2.2 k hk
  rfl
 have e:=vv (μ:=μ) (m:=(m:Int)) (ps:=ks.map fun k=>(k.getD 0 0,k.getD 1 0)) (ns:=ns) (by have:=h.m0;omega) (by have:=h.m6;omega)
  (fun p hp => by
   obtain ⟨k,hk,rfl⟩:=JC.mp hp
   obtain ⟨x,y,rfl,g1,g2,g3⟩:=h.2.2.2.2 k hk
   exact ⟨g1,by show x<_;omega,by show 0<=y;omega,g3,by show x≠y;omega⟩)
  (by rw [Il];have:=iZ h;omega) N.nd (by rw [N.len]) N.rng
 rw [<- hp] at e
 rw [show bV m ks=.tup [.int m,.tup (ks.map aB)] from rfl,show jn ns=.tup (ns.map D.int) from rfl,e]
 unfold qx
 rw [Ju,Ju,Ju]
 rfl
theorem kU {a:Int} (h0:0<=a) (h1:a<7):PyData.showable (.int a)=true/\PyData.leavesShort 8 (.int a)=true/\PyData.weight (.int a)<=3:=by
 have:a=0\/a=1\/a=2\/a=3\/a=4\/a=5\/a=6:=by omega
 rcases this with rfl|rfl|rfl|rfl|rfl|rfl|rfl <;> decide +kernel
theorem nq {m:Int} (hm:m<=6):∀ {ks:List (List Int)},(∀ k∈ks,pj m k)->PyData.showableAll (ks.map gQ)=true/\PyData.leavesShortAll 8 (ks.map gQ)=true/\PyData.weightAll (ks.map gQ)<=9 * ks.length
 | [],_=>by simp [PyData.showableAll,PyData.leavesShortAll,PyData.weightAll]
 | k::ks,h=>by
  obtain ⟨a,b,rfl,a0,ab,bm⟩:=h k Hj
  have ih:=nq hm fun x hx=>h x (Hk _ hx)
  have ha:=kU (a:=a) a0 (by omega)
  have hb:=kU (a:=b) (by omega) (by omega)
  simp only [IH,IG,gQ,PyData.showableAll,PyData.leavesShortAll,PyData.weightAll,PyData.showable,PyData.leavesShort,PyData.weight] at ih ha hb ⊢
  refine ⟨by simp only [ha.1,hb.1,ih.1,J0],by simp only [ha.2.1,hb.2.1,ih.2.1,J0],?_⟩
  simp only [I0]
  omega
theorem vN {d:PyData} (h1:d.showable=true) (h2:d.canLay0=true) (h3:d.depth<=60) (h4:d.leavesShort 8=true) (h5:d.weight<=1000):pF d=true:=by
 have hs:=PyData.shown_le 8 (HI _) d h4
 have hz:(10008:Nat)<=sizeLine:=by decide
 unfold pF
 rw [h1,PyData.hasDict_of_canLay d h2,IV h3,IV (show d.shown.length<=sizeLine by omega)]
 rfl
theorem yt {μ:ax}{d:D}{m:Int}{ks:List (List Int)} (h:dw d m ks):qL [d] μ=.ok (.str (qv m ks).shown) μ:=by
 have e:=zO (μ:=μ) h
 have hl:=iZ h
 have hr:sT d=true:=by rw [h.1];rfl
 obtain ⟨_,h0,h1,_,hk⟩:=h
 have s:=nq h1 hk
 have l:=k7 hk
 have si:=kU (a:=m) (by omega) (by omega)
 unfold qL
 dsimp only
 rw [e]
 dsimp only
 rw [G6 ⟨hr,vN (by simp only [qv,PyData.showable,PyData.showableAll] at si ⊢;simp only [si.1,s.1,J0]) (by simp only [qv,PyData.canLay0,PyData.canLayAll0,l.1,J0]) (by simp only [qv,PyData.depth,PyData.depthAll];have:=l.2;omega) (by simp only [qv,PyData.leavesShort,PyData.leavesShortAll] at si ⊢;simp only [si.2.1,s.2.1,J0]) (by simp only [qv,PyData.weight,PyData.weightAll] at si ⊢;have:=s.2.2;omega)⟩]
theorem GL {μ:ax}{neg:Bool}{x:Str}:sP neg (.str x) (.str x) μ=.ok (.bl (!neg)) μ:=by
 unfold sP
 dsimp only
 rw [IV rfl]
 cases neg <;> rfl
theorem kY {μ:ax}{m:Nat}{ks:List (List Int)} (h:GW m ks):iU [bV m ks] μ=.ok (.str (qv m ks).shown) μ:=yt h
section
variable {m:Nat}{ks:List (List Int)}{M:ax}{a0 a1 a2 a5 a6 a7 a8 a9 a10 a12:Option D}
theorem xN {xs:List D}{ρ:Ro} (h:∀ x∈xs,kJ M x) (hl:xs.length<=1000) (hr:ai 11 ρ=fun μ=>ao.ok (.tup xs) μ) :
  gR (lW (ie "tuple") (ai 11)) (aC qA (af (cA (iH (ai 11)) [none] (ah 0) (bx) (kg)) (aA))) ρ M=.ok (.bl (xs.all lV)) (M++[O.lst (xs.map fun x=>D.bl (lV x))]):=by
 simp only [dm,iQ,hr,aa]
 rw [show ie "tuple" (.tup xs) M=.ok (.bl true) M from rfl]
 simp only [aa,aR,Iv,az,aq,au,cw,cX,hr,ji,br]
 rw [show fv [none] _=[none] from rfl,vZ h hl]
 simp only [aa]
 rw [uU (bs:=xs.map lV) (by rw [av,Ju];rfl)]
 rw [show (xs.map lV).all id=xs.all lV from by rw [KS];rfl]
end
theorem rG:∀ ns:List Int,(ns.map D.int).all lV=true
 | []=>rfl
 | n::ns=>by rw [IH,IJ,rG ns];rfl
section
variable {m:Nat}{ks:List (List Int)}{M:ax}{a0 a1 a2 a5 a6 a7 a8 a9 a10 a12:Option D}
theorem Ct (h:GW m ks) {xs:List D} (hx:∀ x∈xs,kJ M x) (hl:xs.length<64):∃ g b,gy [a0,a1,a2,some (bV m ks),some (.int m),a5,a6,a7,a8,a9,a10,some (.tup xs),a12] M=.next [a0,a1,a2,some (bV m ks),some (.int m),a5,a6,a7,a8,a9,a10,some (.tup xs),some (.bl b)] (M++g):=by
 have hm0:=h.m0
 have hm6:=h.m6
 cases e:xs.all lV with
 | false=>
  refine ⟨[O.lst (xs.map fun x=>D.bl (lV x))],false,?_⟩
  have td:bz [bV m ks,.tup xs] (M++[O.lst (xs.map fun x=>D.bl (lV x))])=.ok (.str "place") (M++[O.lst (xs.map fun x=>D.bl (lV x))]):=
   mU h (uA hm0 hm6 (fun x hq=>fj (hx x hq)) (by omega) fun ns z _=>by rw [z,rG] at e;cases e)
  unfold gy
  rw [aX,aZ,xN hx (by omega) rfl,e]
  simp only [ae,cu,K3,K4,aL,bB,eD,iT,aj,ag,aa,gv,IZ,Iu,cE,aE,az,aq,au,bh,td,m5,aR,cv]
 | true=>
  obtain ⟨ns,rfl⟩:=uN e
  let M1:ax:=M++[O.lst ((ns.map D.int).map fun x=>D.bl (lV x))]
  let M2:ax:=M1++[O.lst ((gk ns).map D.int)]
  let M3:ax:=M2++[O.lst (((List.range m).map fun i:Nat=>(i:Int)).map D.int)]
  have s1:bK [.tup (ns.map D.int)] M1=.ok (.obj M1.length) M2:=by
   unfold bK
   dsimp only
   rw [gU]
   dsimp only
   rw [G6 (by rw [Il] at hl;exact hl)]
  have s2:il [.int m] M2=.ok (.obj M2.length) M3:=by
   unfold il
   dsimp only
   rw [G6 (by omega),show ((m:Int).toNat)=m from by omega,yq]
  have s3:gf false (.obj M1.length) (.obj M2.length) M3=.ok (.bl (decide (gk ns=(List.range m).map fun i:Nat=>(i:Int)))) M3:=Bo (aO av) av
  have st:M++([O.lst ((ns.map D.int).map fun x=>D.bl (lV x))]++[O.lst ((gk ns).map D.int)]++[O.lst (((List.range m).map fun i:Nat=>(i:Int)).map D.int)])=M3:=by
   show _=M++_++_++_
   rw [IP,IP,IP]
  refine ⟨[O.lst ((ns.map D.int).map fun x=>D.bl (lV x))]++[O.lst ((gk ns).map D.int)]++[O.lst (((List.range m).map fun i:Nat=>(i:Int)).map D.int)],true,?_⟩
  rw [st]
  unfold gy
  rw [aX,aZ,xN hx (by omega) rfl,e]
  simp only [ae,cu,K3,K4,aL,bB,eD,iT,aj,ag,aa,gv,Iv,cE,aE,az,aq,au,bh]
  rw [show bK [.tup (ns.map D.int)] (M++[O.lst ((ns.map D.int).map fun x=>D.bl (lV x))])=.ok (.obj M1.length) M2 from s1]
  simp only [aa]
  rw [s2]
  simp only [aa]
  rw [s3]
  simp only [aa,aR,ae]
  by_cases N:n8 m ns
  ·rw [IV (qX.mpr N)]
   simp only [Iv,bB,cE,aE,az,aq,au,aj,ag,aa]
   rw [show bz [bV m ks,.tup (ns.map D.int)] M3=.ok (bV m (qx ks ns)) M3 from qV h N]
   simp only [aa,kY (mH N h)]
   rw [show bt [bV m ks,.tup (ns.map D.int)] M3=.ok (bV m (qx ks ns)) M3 from oy h N]
   simp only [aa,kY (mH N h),GL,JX,aR,ae,IZ,Iu,cv]
  ·rw [G3 (fun z => N (qX.mp z))]
   have td:bz [bV m ks,.tup (ns.map D.int)] M3=.ok (.str "place") M3:=
    mU h (uA hm0 hm6 (fun x hq=>fj (fj (fj (hx x hq)))) (by omega) fun ns' z=>by
     have a:=gU ns
     rw [z,gU ns'] at a
     have this:ns=ns':=(G8 a).symm
     rw [<- this];exact N)
   simp only [IZ,Iu,bB,cE,aE,az,aq,au,aj,ag,bh,aa,td,m5,aR,ae,cv]
end
def vd (M:ax) (d:D):Prop:=(Es d=false/\kJ M d)\/∃ xs,d=.tup xs/\(∀ x∈xs,kJ M x)/\xs.length<64
theorem vd.more {M g:ax}{d:D} (h:vd M d):vd (M++g) d:=by
 rcases h with ⟨h1,h2⟩ | ⟨xs,rfl,h1,h2⟩
 ·exact .inl ⟨h1,fj h2⟩
 ·exact .inr ⟨xs,rfl,fun x hx=>fj (h1 x hx),h2⟩
section
variable {m:Nat}{ks:List (List Int)}{a0 a1 a2 a5 a6 a7 a8 a9 a10:Option D}
theorem Cu {M:ax}{a12:Option D} (h:GW m ks) {d:D} (t:vd M d):∃ g b,gy [a0,a1,a2,some (bV m ks),some (.int m),a5,a6,a7,a8,a9,a10,some d,a12] M=.next [a0,a1,a2,some (bV m ks),some (.int m),a5,a6,a7,a8,a9,a10,some d,some (.bl b)] (M++g):=by
 rcases t with ⟨h1,h2⟩ | ⟨xs,rfl,h1,h2⟩
 ·obtain ⟨g, e⟩ := zU (a0 := a0) (a1 := a1) (a2 := a2) (a5 := a5) (a6 := a6) (a7 := a7) (a8 := a8) (a9 := a9) (a10 := a10) (a12 := a12) h h2 h1
  exact ⟨g,false,e⟩
 ·exact Ct h h1 h2
theorem uy (h:GW m ks) {s:Nat}{all:List D}:∀ (ds:List D) (a11 a12:Option D) (M:ax),(∀ d∈ds,vd M d)->M[s]?=some (.lst all) ->
  ∃ g a11' a12',gH (.own s all) (ah 11) gy ds [a0,a1,a2,some (bV m ks),some (.int m),a5,a6,a7,a8,a9,a10,a11,a12] M=.next [a0,a1,a2,some (bV m ks),some (.int m),a5,a6,a7,a8,a9,a10,a11',a12'] (M++g)
 | [],a11,a12,M,_,hs=>by
  refine ⟨[],a11,a12,?_⟩
  unfold gH
  rw [G6 (show cg (.own s all) M from hs),HS]
 | d::ds,a11,a12,M,hd,hs=>by
  obtain ⟨g,b,e⟩:=Cu (a0:=a0) (a1:=a1) (a2:=a2) (a5:=a5) (a6:=a6) (a7:=a7) (a8:=a8) (a9:=a9) (a10:=a10) (a12:=a12) h (hd d Hj)
  obtain ⟨g',b1,b2,e'⟩:=uy h ds (some d) (some (.bl b)) (M++g) (fun x hx=>(hd x (Hk _ hx)).more) (aO hs)
  refine ⟨g++g',b1,b2,?_⟩
  unfold gH
  rw [G6 (show cg (.own s all) M from hs)]
  simp only [cu,ae,K3,K4]
  rw [e]
  show gH _ _ _ _ _ _=_
  rw [e',IP]
end
theorem Fc {i j:Int}{μ:ax}:iI (.int i) (.int j) μ=.ok (.int (i - j)) μ:=rfl
theorem gS {f g:MS}{ρ ρ':Ro}{μ μ':ax}{R:SO} (h:f ρ μ=.next ρ' μ') (k:g ρ' μ'=R):bQ f g ρ μ=R:=by rw [aX,h,aL,k]
theorem mQ {μ:ax}{xs ys:List D} (h:xs.length+ys.length<=1000):ck (.tup xs) (.tup ys) μ=.ok (.tup (xs++ys)) μ:=by
 show (if xs.length+ys.length<=sizeLine then _ else _)=_
 rw [G6 (Hg h cJ)]
theorem uW {xs:List D}{lo hi:Option Int}{x:D} (h:x∈ig xs lo hi):x∈xs:=by
 unfold ig at h
 exact JP (JO h)
theorem uX {xs:List D}{lo hi:Option Int}:(ig xs lo hi).length<=xs.length:=by
 unfold ig
 rw [HZ,Iy]
 omega
theorem F4 {M:ax}{ns:List Int}{x:D} (h:x∈ns.map D.int):kJ M x:=by
 obtain ⟨i,_,rfl⟩:=JC.mp h
 exact nofun
section
variable {m:Nat}{ks:List (List Int)}{a0 a1 a5 a6 a7 a8 a9 a10 a11 a12:Option D}
theorem tn {M:ax}{P:Nat}{pa pb pc:Int} (hp:M[P]?=some (bc pa pb pc)) (h:GW m ks):∃ (M':ax) (b6 b7 b8 b9 b10 b11 b12:Option D) (qa qb qc:Int),
  mf [a0,a1,some (.obj P),some (bV m ks),some (.int m),a5,a6,a7,a8,a9,a10,a11,a12] M=.next [a0,a1,some (.obj P),some (bV m ks),some (.int m),a5,b6,b7,b8,b9,b10,b11,b12] M'/\M'[P]?=some (bc qa qb qc)/\∀ i o,P≠i->M[i]?=some o->M'[i]?=some o:=by
 have hm0:=h.m0
 have hm6:=h.m6
 obtain ⟨ns,a1',b1',c1',n1,n2,n3,en⟩:=qW (m:=(m:Int)) hp (by omega) (by omega)
 have N:n8 m ns:=⟨n1,by omega,n3⟩
 have hP:P<M.length:=(Hq.mp hp).1
 have hp1:(M.set P (bc a1' b1' c1'))[P]?=some (bc a1' b1' c1'):=gq hP
 obtain ⟨r,a2',b2',c2',r0,r1,er⟩:=lY (m:=(m:Int)) hp1 (by omega) (by omega)
 have hP1:P<(M.set P (bc a1' b1' c1')).length:=by rw [List.length_set];exact hP
 have hp2:((M.set P (bc a1' b1' c1')).set P (bc a2' b2' c2'))[P]?=some (bc a2' b2' c2'):=gq hP1
 have k2:∀ i o,P≠i->M[i]?=some o->((M.set P (bc a1' b1' c1')).set P (bc a2' b2' c2'))[i]?=some o:=fun i o ne e=>gW (gW e ne) ne
 generalize (M.set P (bc a1' b1' c1')).set P (bc a2' b2' c2')=M2 at er hp2 k2
 obtain ⟨v,ev⟩:∃ v:Int,atI (ns.map D.int) (r - 1)=some (.int v):=by
  have hnl:ns.length=m:=N.len
  obtain ⟨k,hk,ek⟩:∃ k,k<ns.length/\sD (ns.map D.int).length (r - 1)=some k:=by
   unfold sD
   rw [Il]
   by_cases c:0<=r - 1
   ·rw [G6 c, G6 (by omega)]
    exact ⟨_,by omega,rfl⟩
   ·rw [G7 c, G6 (by omega)]
    exact ⟨_,by omega,rfl⟩
  refine ⟨ns[k],?_⟩
  unfold atI
  rw [ek]
  show (ns.map D.int)[k]?=_
  rw [Ih,KA hk]
  rfl
 let odds:List D:=[.int m,.int (-1),.non,.str "0",.tup [.int 0],.int v,.bl true]
 have hp3:(M2++[O.lst odds])[P]?=some (bc a2' b2' c2'):=aO hp2
 obtain ⟨j,a3',b3',c3',j0,j1,ej⟩:=lY (m:=7) hp3 (by omega) (by omega)
 have hP3:P<(M2++[O.lst odds]).length:=(Hq.mp hp3).1
 have hp4:((M2++[O.lst odds]).set P (bc a3' b3' c3'))[P]?=some (bc a3' b3' c3'):=gq hP3
 have hne:P≠M2.length:=by
  have:=(Hq.mp hp2).1
  omega
 have ho4:((M2++[O.lst odds]).set P (bc a3' b3' c3'))[M2.length]?=some (O.lst odds):=gW av hne
 have k4:∀ i o,P≠i->M[i]?=some o->((M2++[O.lst odds]).set P (bc a3' b3' c3'))[i]?=some o:=fun i o ne e=>gW (aO (k2 i o ne e)) ne
 generalize (M2++[O.lst odds]).set P (bc a3' b3' c3')=M4 at ej hp4 ho4 k4
 obtain ⟨o,eo,ho⟩:∃ o:D,atI odds j=some o/\∀ M:ax,kJ M o:=by
  have hj:j=0\/j=1\/j=2\/j=3\/j=4\/j=5\/j=6:=by omega
  rcases hj with rfl|rfl|rfl|rfl|rfl|rfl|rfl <;> exact ⟨_,rfl,fun _=>nofun⟩
 let A:=ig (ns.map D.int) none (some r)
 let B:=ig (ns.map D.int) (some (r+1)) none
 have lA:A.length<=6:=Hg uX (by rw [Il,N.len];exact hm6)
 have lB:B.length<=6:=Hg uX (by rw [Il,N.len];exact hm6)
 let things:List D:=[.tup (A++[o]++B),.tup (A++B),.tup (ns.map D.int++[.int m]),.obj M4.length,.non,.int 0,.obj (M4++[O.lst (ns.map D.int)]).length,.tup (ns.map D.int++[.int 0])]
 let M5:ax:=M4++[O.lst (ns.map D.int)]++[O.dic]
 let M6:ax:=M5++[O.lst things]
 have hth:∀ d∈things,vd M6 d:=by
  have mA:∀ x∈A,kJ M6 x:=fun x hx=>F4 (uW hx)
  have mB:∀ x∈B,kJ M6 x:=fun x hx=>F4 (uW hx)
  have mN:∀ x∈ns.map D.int,kJ M6 x:=fun x hx=>F4 hx
  have lN:(ns.map D.int).length<=6:=by rw [Il,N.len];exact hm6
  intro d hd
  simp only [things,Hl,Jq,Jr] at hd
  rcases hd with rfl|rfl|rfl|rfl|rfl|rfl|rfl|rfl
  ·refine .inr ⟨_, rfl, fun x hx => ?_, by simp only [Ik, I0, Jx]; omega⟩
   rcases Hn.mp hx with hx | hx
   ·rcases Hn.mp hx with hx | hx
    ·exact mA x hx
    ·rw [Ji.mp hx];exact ho M6
   ·exact mB x hx
  ·refine .inr ⟨_, rfl, fun x hx => ?_, by simp only [Ik]; omega⟩
   rcases Hn.mp hx with hx | hx
   ·exact mA x hx
   ·exact mB x hx
  ·refine .inr ⟨_, rfl, fun x hx => ?_, by simp only [Ik, I0, Jx]; omega⟩
   rcases Hn.mp hx with hx | hx
   ·exact mN x hx
   ·rw [Ji.mp hx];exact nofun
  ·refine .inl ⟨rfl, ?_⟩
   unfold kJ zi
   dsimp only
   rw [show M6[M4.length]?=some (.lst (ns.map D.int)) from aO (aO av)]
   exact nofun
  ·exact .inl ⟨rfl,nofun⟩
  ·exact .inl ⟨rfl,nofun⟩
  ·refine .inl ⟨rfl, ?_⟩
   unfold kJ zi
   dsimp only
   rw [show M6[(M4++[O.lst (ns.map D.int)]).length]?=some .dic from aO av]
   exact nofun
  ·refine .inr ⟨_, rfl, fun x hx => ?_, by simp only [Ik, I0, Jx]; omega⟩
   rcases Hn.mp hx with hx | hx
   ·exact mN x hx
   ·rw [Ji.mp hx];exact nofun
 obtain ⟨g,b11,b12,el⟩:=uy (a0:=a0) (a1:=a1) (a2:=some (.obj P)) (a5:=a5) (a6:=some (jn ns)) (a7:=some (.int r)) (a8:=some o) (a9:=some (.tup (A++[o]++B))) (a10:=some (.obj M5.length)) h (s:=M5.length) (all:=things) things a11 a12 M6 hth av
 refine ⟨M6++g,some (jn ns),some (.int r),some o,some (.tup (A++[o]++B)),some (.obj M5.length),b11,b12,a3',b3',c3',?_,aO (aO (aO (aO hp4))),fun i o ne e=>aO (aO (aO (aO (k4 i o ne e))))⟩
 unfold mf
 refine gS (ρ':=[a0,a1,some (.obj P),some (bV m ks),some (.int m),a5,some (jn ns),a7,a8,a9,a10,a11,a12]) (μ':=M.set P (bc a1' b1' c1')) ?_ ?_
 ·simp only [aZ,az,aq,au,aj,ag,aa,en,ae,cu,K3,K4]
 refine gS (ρ':=[a0,a1,some (.obj P),some (bV m ks),some (.int m),a5,some (jn ns),a7,a8,a9,a10,a11,a12]) (μ':=M.set P (bc a1' b1' c1')) ?_ ?_
 ·simp only [bB,cE,aE,az,aq,au,aj,ag,aa,qV h N,oy h N,kY (mH N h),GL,JX,aR,ae,IZ,Iu,cv]
 refine gS (ρ':=[a0,a1,some (.obj P),some (bV m ks),some (.int m),a5,some (jn ns),some (.int r),a8,a9,a10,a11,a12]) (μ':=M2) ?_ ?_
 ·simp only [aZ,az,aq,au,aj,ag,aa,er,ae,cu,K3,K4]
 refine gS (ρ':=[a0,a1,some (.obj P),some (bV m ks),some (.int m),a5,some (jn ns),some (.int r),some o,a9,a10,a11,a12]) (μ':=M4) ?_ ?_
 ·simp only [aZ, aE, fB, iQ, D8, bR, aq, au, aj, ag, bh, aa, Fc, I0, Jx]
  rw [G6 (show 0+1<=sizeLine by decide)]
  simp only [aa]
  rw [show dH (jn ns) (.int (r - 1)) M2=.ok (.int v) M2 from ij ev]
  simp only [aa,I0,Jx]
  rw [G6 (show 0+1+1+1+1+1+1+1<=sizeLine by decide)]
  simp only [aa,az,aq,au,aj,ag,bh]
  rw [show aK [D.obj P,D.int 7] (M2++[O.lst [D.int m,D.int (-1),D.non,D.str "0",D.tup [D.int 0],D.int v,D.bl true]])=.ok (.int j) M4 from ej]
  simp only [aa]
  rw [gI ho4 eo]
  simp only [ae,cu,K3,K4]
 refine gS (ρ':=[a0,a1,some (.obj P),some (bV m ks),some (.int m),a5,some (jn ns),some (.int r),some o,some (.tup (A++[o]++B)),a10,a11,a12]) (μ':=M4) ?_ ?_
 ·simp only [aZ, aE, uk, sV, ko, pH, fF, bR, aq, au, aj, ag, bh, aa, I0, Jx]
  rw [show uf (jn ns) none (some r) M4=.ok (.tup A) M4 from rfl]
  simp only [aa]
  rw [G6 (show 0+1<=sizeLine by decide)]
  simp only [aa]
  rw [mQ (by simp only [I0,Jx];omega)]
  simp only [aa]
  rw [show uf (jn ns) (some (r+1)) none M4=.ok (.tup B) M4 from rfl]
  simp only [aa]
  rw [mQ (by simp only [Ik,I0,Jx];omega)]
  simp only [ae,cu,K3,K4]
 refine gS (ρ':=[a0,a1,some (.obj P),some (bV m ks),some (.int m),a5,some (jn ns),some (.int r),some o,some (.tup (A++[o]++B)),some (.obj M5.length),a11,a12]) (μ':=M6) ?_ ?_
 ·have lN : (ns.map D.int).length <= 6 := by rw [Il, N.len]; exact hm6
  simp only [aZ,fB,aE,uk,sV,ko,pH,fF,bR,az,aq,au,aj,ag,bh,aa,I0,Jx]
  rw [show uf (jn ns) none (some r) M4=.ok (.tup A) M4 from rfl]
  simp only [aa]
  rw [show uf (jn ns) (some (r+1)) none M4=.ok (.tup B) M4 from rfl]
  simp only [aa]
  rw [mQ (by omega)]
  simp only [aa]
  rw [G6 (show 0+1<=sizeLine by decide)]
  simp only [aa]
  rw [show ck (jn ns) (.tup [.int m]) M4=.ok (.tup (ns.map D.int++[.int m])) M4 from mQ (by simp only [I0,Jx];omega)]
  simp only [aa]
  rw [show qM [jn ns] M4=.ok (.obj M4.length) (M4++[O.lst (ns.map D.int)]) from rfl]
  simp only [aa,Ea]
  rw [G6 (show 0+1<=sizeLine by decide)]
  simp only [aa]
  rw [show ck (jn ns) (.tup [.int 0]) (M4++[O.lst (ns.map D.int)]++[O.dic])=.ok (.tup (ns.map D.int++[.int 0])) (M4++[O.lst (ns.map D.int)]++[O.dic]) from mQ (by simp only [I0,Jx];omega)]
  simp only [aa,I0,Jx]
  rw [G6 (show 0+1+1+1+1+1+1+1+1<=sizeLine by decide)]
  simp only [ae,cu,K3,K4]
  rfl
 unfold j6
 simp only [cX,aj,ag,aa]
 rw [gw (show M6[M5.length]?=some (.lst things) from av)]
 simp only [ae,dZ]
 exact el
end
theorem Ad {μ:ax}{ns:List Int}:∃ x:Int,dj [.frz (ns.map D.int),.int 0] μ=.ok (.int x) μ:=by
 unfold dj
 rw [cU]
 cases ns with
 | nil=>
  refine ⟨0,?_⟩
  simp only [f7,IG,List.replicate,aX,bB,cE,aE,aj,ag,az,aq,au,uT,Jx,aa,eC]
  rw [show dk .Lt 0 ((0:Nat):Int)=false from rfl]
  simp only [aR,ae,IZ,Iu,cv,aL,bg,bh,aN]
  exact bN (by simp)
 | cons x r=>
  refine ⟨x,?_⟩
  simp only [f7,IH,List.replicate,aX,bB,cE,aE,aj,ag,az,aq,au,uT,I0,aa,eC]
  rw [show dk .Lt 0 (((r.map D.int).length+1:Nat):Int)=true from IV (by omega)]
  simp only [aR,ae,Iv,bg,aE,aj,ag,aa]
  rw [D9 uq]
  simp only [ae,pE,aN]
  exact bN (by simp)
theorem Bk {d:D}{m:Int}{ks:List (List Int)} (h:dw d m ks):∃ n:Nat,m=(n:Int)/\d=bV n ks/\GW n ks:=by
 obtain ⟨n,rfl⟩:∃ n:Nat,m=(n:Int):=⟨m.toNat,by have:=h.2.1;omega⟩
 have hd:=h.1
 subst hd
 exact ⟨n,rfl,rfl,h⟩
section
variable {m:Nat}{ks:List (List Int)}{a0 a1:Option D}
theorem ux (h:GW m ks) {P:Nat}{all:List D}:∀ (ds:List D) (a5 a6 a7 a8 a9 a10 a11 a12:Option D) (M:ax) (pa pb pc:Int),M[P]?=some (bc pa pb pc) ->
  ∃ (M':ax) (b5 b6 b7 b8 b9 b10 b11 b12:Option D),gH (.fix all) (ah 5) mf ds [a0,a1,some (.obj P),some (bV m ks),some (.int m),a5,a6,a7,a8,a9,a10,a11,a12] M=.next [a0,a1,some (.obj P),some (bV m ks),some (.int m),b5,b6,b7,b8,b9,b10,b11,b12] M'/\∀ i o,P≠i->M[i]?=some o->M'[i]?=some o
 | [],a5,a6,a7,a8,a9,a10,a11,a12,M,pa,pb,pc,hp=>by
  refine ⟨M,a5,a6,a7,a8,a9,a10,a11,a12,?_,fun _ _ _ e=>e⟩
  unfold gH
  rw [G6 (show cg (.fix all) M from trivial)]
 | d::ds,a5,a6,a7,a8,a9,a10,a11,a12,M,pa,pb,pc,hp=>by
  obtain ⟨M1,c6,c7,c8,c9,c10,c11,c12,qa,qb,qc,e,hq,k⟩:=tn (a0:=a0) (a1:=a1) (a5:=some d) (a6:=a6) (a7:=a7) (a8:=a8) (a9:=a9) (a10:=a10) (a11:=a11) (a12:=a12) hp h
  obtain ⟨M2,b5,b6,b7,b8,b9,b10,b11,b12,e',k'⟩:=ux h (all:=all) ds (some d) c6 c7 c8 c9 c10 c11 c12 M1 qa qb qc hq
  refine ⟨M2,b5,b6,b7,b8,b9,b10,b11,b12,?_,fun i o ne z=>k' i o ne (k i o ne z)⟩
  unfold gH
  rw [G6 (show cg (.fix all) M from trivial)]
  simp only [cu,ae,K3,K4]
  rw [e]
  show gH _ _ _ _ _ _=_
  rw [e']
end
theorem Ba {M:ax}{x:Int}{a0 a2 a3 a4 a5 a6 a7 a8 a9 a10 a11 a12:Option D}:∃ (M':ax) (b2 b3 b4 b5 b6 b7 b8 b9 b10 b11 b12:Option D),
  me [a0,some (.int x),a2,a3,a4,a5,a6,a7,a8,a9,a10,a11,a12] M=.next [a0,some (.int x),b2,b3,b4,b5,b6,b7,b8,b9,b10,b11,b12] M'/\∀ (i:Nat) (o:O),M[i]?=some o->M'[i]?=some o:=by
 obtain ⟨a,b,c,ep⟩:=CI (μ:=M) x
 have hp:(M++[bc a b c])[M.length]?=some (bc a b c):=av
 obtain ⟨d,mi,ks,a',b',c',g,ew⟩:=x8 hp
 have hs:(M++[bc a b c]).set M.length (bc a' b' c')=M++[bc a' b' c']:=kh
 rw [hs] at ew
 obtain ⟨m,rfl,rfl,h⟩:=Bk g
 obtain ⟨M',b5,b6,b7,b8,b9,b10,b11,b12,e,k⟩:=ux (a0:=a0) (a1:=some (.int x)) h (P:=M.length) (all:=bq 0 3) (bq 0 3) a5 a6 a7 a8 a9 a10 a11 a12 (M++[bc a' b' c']) a' b' c' av
 refine ⟨M',some (.obj M.length),some (bV m ks),some (.int m),b5,b6,b7,b8,b9,b10,b11,b12,?_,fun i o z=>k i o (by have:=(Hq.mp z).1;omega) (aO z)⟩
 unfold me
 simp only [aX,aZ,az,aq,au,aj,ag,aa,ep,ae,cu,K3,K4,aL,ew,aE,bh,eB,ik,cY]
 exact e
theorem CJ (ns:List Int):∃ μ',qS [.frz (ns.map D.int)] []=.ok (.bl true) μ':=by
 obtain ⟨x0,ex0⟩:=Ad (μ:=[]) (ns:=ns)
 obtain ⟨xs,hxs,hxl⟩:∃ xs:List Int,ig (ns.map D.int) (some 1) (some 5)=xs.map D.int/\xs.length<=6:=by
  refine ⟨(ns.drop (HT.sIx ns.length 0 (some 1))).take (HT.sIx ns.length ns.length (some 5) - HT.sIx ns.length 0 (some 1)),?_,?_⟩
  ·unfold ig
   rw [Il,JK,JL]
  ·rw [HZ]
   have h6:HT.sIx ns.length ns.length (some 5)=min 5 ns.length:=HT.sIx_nat _ _ 5
   omega
 obtain ⟨L,hL⟩:∃ L:List Int,L=x0::xs:=⟨_,rfl⟩
 let M5:ax:=([O.lst [.int x0]]++[O.lst (xs.map D.int)])++[O.lst (L.map D.int)]
 have h5:M5[2]?=some (.lst (L.map D.int)):=rfl
 obtain ⟨ρ3,M6,_,run3⟩:=gr (src:=.own 2 (L.map D.int)) (g:=ah 1) (fb:=me)
  (fun zs ρ μ=>μ[2]?=some (O.lst (L.map D.int))/\(∃ rs:List Int,zs=rs.map D.int)/\∃ o0 o1 o2 o3 o4 o5 o6 o7 o8 o9 o10 o11 o12,ρ=[o0,o1,o2,o3,o4,o5,o6,o7,o8,o9,o10,o11,o12])
  (fun ρ μ hJJ=>hJJ.1)
  (fun x r ρ μ hJJ => by
   obtain ⟨h2,⟨rs,er⟩,o0,o1,o2,o3,o4,o5,o6,o7,o8,o9,o10,o11,o12,eρ⟩:=hJJ
   subst eρ
   cases rs with
   | nil=>cases er
   | cons y rs=>
    injection er with ex er
    subst ex er
    obtain ⟨M',b2,b3,b4,b5,b6,b7,b8,b9,b10,b11,b12,e1,e2⟩:=Ba (M:=μ) (x:=y) (a0:=o0) (a2:=o2) (a3:=o3) (a4:=o4) (a5:=o5) (a6:=o6) (a7:=o7) (a8:=o8) (a9:=o9) (a10:=o10) (a11:=o11) (a12:=o12)
    exact ⟨h2,_,μ,_,_,rfl,e1,e2 2 _ h2,⟨rs,rfl⟩,_,_,_,_,_,_,_,_,_,_,_,_,_,rfl⟩)
  (xs:=L.map D.int) (ρ:=[some (.frz (ns.map D.int)),none,none,none,none,none,none,none,none,none,none,none,none]) (μ:=M5)
  ⟨h5,⟨L,rfl⟩,_,_,_,_,_,_,_,_,_,_,_,_,_,rfl⟩
 have hend:∃ μ',nZ [] (.ok (.bl true) M6)=.ok (.bl true) μ':=by
  rcases D3 (μ:=[]) (d:=.bl true) (μ':=M6) with e | ⟨e,_⟩ <;> exact ⟨_,e⟩
 obtain ⟨μ',hend⟩:=hend
 refine ⟨μ',?_⟩
 unfold qS
 rw [fV]
 unfold BY
 have l1:([.int x0]:List D).length<=sizeLine:=by show 1<=sizeLine;decide
 have sl:∀ μ,uf (.frz (ns.map D.int)) (some 1) (some 5) μ=.ok (.obj μ.length) (μ++[.lst (xs.map D.int)]):=fun μ=>by
  unfold uf;dsimp only;rw [hxs]
 have ad:ck (.obj 0) (.obj 1) ([O.lst [.int x0]]++[O.lst (xs.map D.int)])=.ok (.obj 2) M5:=by
  have:=u5 (μ:=[O.lst [.int x0]]++[O.lst (xs.map D.int)]) (a:=0) (b:=1) rfl rfl (show ([.int x0]:List D).length+(xs.map D.int).length<=1000000 by rw [Il];simp only [I0,Jx];omega)
  rw [this]
  simp only [M5,hL]
  rfl
 simp only [List.replicate]
 rw [aX,ik,cX,aE,fB,aq,az,aq,ag,aa,aq,bh,aa,au,aa,aa,aa,ex0,aa,au,aa,aa]
 simp only [G6 l1,aa,uk,ag,ko,bh,pH]
 rw [sl,aa]
 rw [show ck (.obj ([]:ax).length) (.obj (([]:ax)++[O.lst [.int x0]]).length) (([]:ax)++[O.lst [.int x0]]++[O.lst (xs.map D.int)])=_ from ad]
 rw [aa,gw h5,ae,dZ,run3,aL,bg,bh,ae,aN]
 exact hend
end Lw
namespace Lw
open PySem PySem.Spec PyProof.Rows L2 RS
theorem de (P:Params) (f:Addr) (n m:Str) (t:Tok) (c:Addr) (st:Stmt) (l:(Kz P).lookup f=some (fo n st m t c)) (q:W.codeIn (Kz P) (.ref c) n=true):gM (Kz P) n n st f (W.fnOf n n (dn st) (bO st) (ar st) .none .none .none (.str m t) none (.ref c) .none):=D4 l q (by unfold W.keepIn;dsimp only;rw [l];rfl)
theorem Ek {l:W.OpenLaw}{w:World}{h:Heap}{mg:Str->Option Value}{fa:Addr} (X:(Kz w.params).In h) (G:h.Ns mainGlobals mg) (hfa:mg "law" = some (.ref fa)) :
  ∃ fd:FuncData,(∀ (s:Shared) (v:Value),BindsTo s fd ⟨[v],[]⟩ [("_law_script",v)])/\∀ base:Heap,(Kz w.params).In base->base.Ns mainGlobals mg->mr l.prog w (Kz w.params) mg base sH 9 fa fd ["_law_script"] (zj (eZ (Kz w.params) w) 1 qS):=by
 have e:=hfa.symm.trans (W.mg_of X G (v:=.ref 287) (by kernel_rfl))
 cases e
 have nm:Nm mg:=⟨W.mg_none_of X G (by kernel_rfl),W.mg_none_of X G (by kernel_rfl),W.mg_none_of X G (by kernel_rfl),W.mg_none_of X G (by kernel_rfl),W.mg_none_of X G (by kernel_rfl),W.mg_none_of X G (by kernel_rfl),W.mg_none_of X G (by kernel_rfl),W.mg_none_of X G (by kernel_rfl),W.mg_none_of X G (by kernel_rfl),W.mg_none_of X G (by kernel_rfl),W.mg_none_of X G (by kernel_rfl),W.mg_none_of X G (by kernel_rfl),W.mg_none_of X G (by kernel_rfl),W.mg_none_of X G (by kernel_rfl),W.mg_none_of X G (by kernel_rfl)⟩
 have c_MOST_PLACES:=W.mg_of X G (n:="MOST_PLACES") (v:=(.int 6 398)) (by kernel_rfl)
 have F:=de w.params 287 "law" "law_rootwebs_k04_webs_renamed" 435 286 iS (by kernel_rfl) (by kernel_rfl)
 refine ⟨W.fnOf "law" "law" (dn iS) (bO iS) (ar iS) .none .none .none (.str "law_rootwebs_k04_webs_renamed" 435) none (.ref 286) .none,fun s v=>.of_eq rfl,fun base Xb Gb=>?_⟩
 have d_is_whole:=sd (P:=l.prog) (w:=w) (base:=base)  nm (de w.params 151 "is_whole" "rootwebs.kinds" 364 150 gA (by kernel_rfl) (by kernel_rfl)) (W.mg_of X G (by kernel_rfl))
 have d_is_whole_from:=lq (P:=l.prog) (w:=w) (base:=base)  nm (de w.params 158 "is_whole_from" "rootwebs.kinds" 364 157 dq (by kernel_rfl) (by kernel_rfl)) (W.mg_of X G (by kernel_rfl)) d_is_whole
 have d_is_place:=se (P:=l.prog) (w:=w) (base:=base)  nm (de w.params 165 "is_place" "rootwebs.kinds" 364 164 gB (by kernel_rfl) (by kernel_rfl)) (W.mg_of X G (by kernel_rfl)) d_is_whole_from
 have d_is_places:=qe (P:=l.prog) (w:=w) (base:=base)  nm (de w.params 170 "is_places" "rootwebs.kinds" 364 169 eE (by kernel_rfl) (by kernel_rfl)) (W.mg_of X G (by kernel_rfl)) d_is_place
 have d_is_many:=tN (P:=l.prog) (w:=w) (base:=base)  nm (de w.params 177 "is_many" "rootwebs.webs" 396 176 iu (by kernel_rfl) (by kernel_rfl)) (W.mg_of X G (by kernel_rfl)) ⟨_,c_MOST_PLACES⟩ d_is_whole_from
 have d_is_pair:=tM (P:=l.prog) (w:=w) (base:=base)  nm (de w.params 184 "is_pair" "rootwebs.webs" 396 183 ir (by kernel_rfl) (by kernel_rfl)) (W.mg_of X G (by kernel_rfl)) d_is_places
 have d_web_of:=vM (P:=l.prog) (w:=w) (base:=base)  nm (de w.params 189 "web_of" "rootwebs.webs" 396 188 gZ (by kernel_rfl) (by kernel_rfl)) (W.mg_of X G (by kernel_rfl)) d_is_many d_is_pair
 have d_is_renaming:=nF (P:=l.prog) (w:=w) (base:=base)  nm (de w.params 201 "is_renaming" "rootwebs.webs" 396 200 eH (by kernel_rfl) (by kernel_rfl)) (W.mg_of X G (by kernel_rfl)) d_is_places
 have d_renamed:=tL (P:=l.prog) (w:=w) (base:=base) (a_NoPlace:=37) nm (de w.params 194 "renamed" "rootwebs.webs" 396 193 fY (by kernel_rfl) (by kernel_rfl)) (W.mg_of X G (by kernel_rfl)) (by kernel_rfl) (ve.of (nm:="NoPlace") (q:="NoPlace") (N:=36) (bs:=[(.ref 24)]) (bm:=[(.ref 24),(.type "ValueError"),(.type "Exception"),(.type "BaseException"),(.type "object")]) (hd:=true) (sn:=[]) (sub:=[]) (ab:=false) (col:=none) (dd:=none) (k0:=some (.ref 28)) (k1:=none) (k2:=some (.str "NoPlace" 207)) (k3:=some (.str "NoPlace" 215)) (k5:=some (.bool true)) Xb Gb (by kernel_rfl) (by kernel_rfl) (by kernel_rfl) (by kernel_rfl) (by kernel_rfl)) d_is_renaming d_web_of
 have d__law_cell_at:=lR (P:=l.prog) (w:=w) (base:=base)  nm (de w.params 208 "_law_cell_at" "law_rootwebs_k04_webs_renamed" 435 207 dF (by kernel_rfl) (by kernel_rfl)) (W.mg_of X G (by kernel_rfl))
 have d__law_next:=qg (P:=l.prog) (w:=w) (base:=base)  nm (de w.params 215 "_law_next" "law_rootwebs_k04_webs_renamed" 435 214 fI (by kernel_rfl) (by kernel_rfl)) (W.mg_of X G (by kernel_rfl))
 have d__law_pen_of:=nH (P:=l.prog) (w:=w) (base:=base)  nm (de w.params 222 "_law_pen_of" "law_rootwebs_k04_webs_renamed" 435 221 eK (by kernel_rfl) (by kernel_rfl)) (W.mg_of X G (by kernel_rfl))
 have d__law_draw:=qh (P:=l.prog) (w:=w) (base:=base)  nm (de w.params 229 "_law_draw" "law_rootwebs_k04_webs_renamed" 435 228 fJ (by kernel_rfl) (by kernel_rfl)) (W.mg_of X G (by kernel_rfl)) d__law_next
 have d__law_whole:=nR (P:=l.prog) (w:=w) (base:=base)  nm (de w.params 236 "_law_whole" "law_rootwebs_k04_webs_renamed" 435 235 eW (by kernel_rfl) (by kernel_rfl)) (W.mg_of X G (by kernel_rfl))
 have d__law_kind_of:=lQ (P:=l.prog) (w:=w) (base:=base) (a_NoLine:=61) (a_NoNumber:=49) (a_NoPlace:=37) (a_NoRoot:=73) (a_NoText:=123) (a_NoTree:=85) (a_NoWeb:=104) (a_TooGreat:=142) nm (de w.params 243 "_law_kind_of" "law_rootwebs_k04_webs_renamed" 435 242 dE (by kernel_rfl) (by kernel_rfl)) (W.mg_of X G (by kernel_rfl)) (bC.of (by kernel_rfl)) (bC.of (by kernel_rfl)) (bC.of (by kernel_rfl)) (bC.of (by kernel_rfl)) (bC.of (by kernel_rfl)) (bC.of (by kernel_rfl)) (bC.of (by kernel_rfl)) (bC.of (by kernel_rfl)) (bC.of (by kernel_rfl)) (W.mg_of X G (by kernel_rfl)) (W.mg_of X G (by kernel_rfl)) (W.mg_of X G (by kernel_rfl)) (W.mg_of X G (by kernel_rfl)) (W.mg_of X G (by kernel_rfl)) (W.mg_of X G (by kernel_rfl)) (W.mg_of X G (by kernel_rfl)) (W.mg_of X G (by kernel_rfl))
 have d__law_named:=nT (P:=l.prog) (w:=w) (base:=base)  nm (de w.params 248 "_law_named" "law_rootwebs_k04_webs_renamed" 435 247 cS (by kernel_rfl) (by kernel_rfl)) (W.mg_of X G (by kernel_rfl))
 have d__law_names_by:=lu (P:=l.prog) (w:=w) (base:=base)  nm (de w.params 253 "_law_names_by" "law_rootwebs_k04_webs_renamed" 435 252 cG (by kernel_rfl) (by kernel_rfl)) (W.mg_of X G (by kernel_rfl)) d__law_draw
 have d__law_far:=sf (P:=l.prog) (w:=w) (base:=base)  nm (de w.params 258 "_law_far" "law_rootwebs_k04_webs_renamed" 435 257 fm (by kernel_rfl) (by kernel_rfl)) (W.mg_of X G (by kernel_rfl))
 have d__law_steps:=nS (P:=l.prog) (w:=w) (base:=base)  nm (de w.params 263 "_law_steps" "law_rootwebs_k04_webs_renamed" 435 262 dy (by kernel_rfl) (by kernel_rfl)) (W.mg_of X G (by kernel_rfl)) d__law_far
 have d__law_sparse_by:=kH (P:=l.prog) (w:=w) (base:=base)  nm (de w.params 268 "_law_sparse_by" "law_rootwebs_k04_webs_renamed" 435 267 aV (by kernel_rfl) (by kernel_rfl)) (W.mg_of X G (by kernel_rfl)) d__law_draw d__law_named d__law_names_by
 have d__law_web_by:=nG (P:=l.prog) (w:=w) (base:=base)  nm (de w.params 275 "_law_web_by" "law_rootwebs_k04_webs_renamed" 435 274 eJ (by kernel_rfl) (by kernel_rfl)) (W.mg_of X G (by kernel_rfl)) d__law_sparse_by d__law_draw d__law_steps
 have d__law_told:=qf (P:=l.prog) (w:=w) (base:=base) (a_RootError:=24) nm (de w.params 282 "_law_told" "law_rootwebs_k04_webs_renamed" 435 281 fH (by kernel_rfl) (by kernel_rfl)) (W.mg_of X G (by kernel_rfl)) (W.mg_of X G (by kernel_rfl)) (qQ.of (by kernel_rfl)) d_renamed d__law_kind_of
 exact D6 nm F d__law_cell_at d__law_pen_of d__law_web_by d__law_names_by d__law_told d__law_named d__law_draw d__law_whole
theorem Ga {l:W.OpenLaw}{q:Program}{loose:List Str}{XP:(Str->Option Value)->Heap->Prop}{d:DefRec} (hn:l.most=some 63) (hdf:d.params.defaults=[]) (hd:d.name = "law") :
  W.WalkO q loose XP (W.Hook.says Hz) l.row.toRowW d [] (fun f vs=>PySem.call f vs):=
 L2.walk_of (K:=Kz) (n:=63) (k:=9) (x:="_law_script") (CX:=fun _=>sH) (sp:=fun w=>zj (eZ (Kz w.params) w) 1 qS) hn (by decide) hdf ⟨rfl,by decide,by decide,rfl⟩ (fun _ _ Y=>W.kIn_of Y) (fun _ _ _ _ X G e=>Ek X G (hd ▸ e)) (fun w H a ns hl hO hS=>yS (CJ ns) hO hS) fun _ _ _ _ _ z=>z
end Lw
open PySem PySem.W PyProof.Rows Lw
set_option maxRecDepth 100000 in
set_option maxHeartbeats 0 in
theorem PySem.Challenge.cw_rootwebs_k04_webs_renamed_holds : PySem.Challenge.rw_rootwebs_k04_webs_renamed.Holds := by
 w_on;refine holds_law Cj fun said=>?_
 exact holds_open (Xt:=Xz) (XP:=XL Qz []) (YP:=Hook.says Hz) Ck (Hook.of Hz) (Hook.keeps Hz) (fun s e=>xl_of s (Bool.and_eq_true_iff.mp e).1) XL.keeps (by rfl) (by rfl) (by rfl) (fun s e=>recFacts_of (Bool.and_eq_true_iff.mp e).2) (by rfl) said (by decide +kernel) ⟨rfl,rfl,rfl,rfl,rfl,by decide +kernel⟩ (by w_witness2) (Ga rfl rfl rfl)
