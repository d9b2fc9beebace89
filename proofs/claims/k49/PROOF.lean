import PyProof.Rows.All
import Wide.All
import OpenK.AllK
import Wide.FinOn
import PyProof.EqAt
import PyProof.EqKinds
import PyProof.TupleCall
import PyProof.P3In
import PyProof.NeData
import PyProof.ConsumeS
import PyProof.WalksMore
import PyProof.ReprRoads
import PyProof.ReprLen
import PyProof.Draws
import PyProof.EnumMake
import PyProof.EnumFor
import PyProof.CallFns
import PyProof.Rows.CallKwBuiltin
import Lean
import PySem.Challenge.RW_rootwebs_k49_rings
set_option Elab.async false
set_option linter.all false
set_option maxHeartbeats 4000000
set_option maxRecDepth 100000
abbrev Jh := @PySem.Value.isInt_shape
abbrev Ji := @decide_eq_false
abbrev Jj := @beq_eq_false_iff_ne
abbrev Jk := @PySem.wpAny_eqBool_int
abbrev Jl := @if_pos
abbrev Jm := @if_neg
abbrev Jn := @Option.some.inj
abbrev Jo := @PySem.Heap.lt_size
abbrev Jp := @Nat.lt_of_lt_of_le
abbrev Jq := @Nat.lt_irrefl
abbrev Jr := @Nat.ne_of_lt
abbrev Js := @List.mem_filter
abbrev Jt := @List.mem_range
abbrev Ju := @Nat.le_trans
abbrev Jv := @Nat.le_of_lt
abbrev Jw := @List.filterMap_cons
abbrev Jx := @List.mem_cons_self
abbrev Jy := @List.mem_cons_of_mem
abbrev Jz := @List.mem_cons
abbrev JA := @Ne.symm
abbrev JB := @List.mem_append
abbrev JC := @List.mem_append_left
abbrev JD := @List.getElem?_eq_some_iff
abbrev JE := @List.getElem_inj
abbrev JF := @List.getElem?_set_self
abbrev JG := @List.getElem?_set_ne
abbrev JH := @PySem.wpAny_mono
abbrev JI := @PySem.wpAny_truthy_bool
abbrev JJ := @Array.length_toList
abbrev JK := @congrArg
abbrev JL := @PySem.wpAny_execs_nil
abbrev JM := @PySem.wpAny_bind
abbrev JN := @PySem.wpAny_holding
abbrev JO := @PySem.wpAny_standAt
abbrev JP := @Nat.ne_of_gt
abbrev JQ := @PySem.wpAny_pure
abbrev JR := @PySem.wpAny_load
abbrev JS := @Bool.false_and
abbrev JT := @PySem.Heap.get?_push_of_some
abbrev JU := @PySem.Heap.get?_push_size
abbrev JV := @Nat.le_refl
abbrev JW := @PyProof.Rows.callWith_type1
abbrev JX := @List.mem_filterMap
abbrev JY := @List.mem_append_right
abbrev JZ := @PySem.wpAny_passesOwn
abbrev J0 := @Bool.eq_iff_iff
abbrev J1 := @Bool.false_ne_true
abbrev J2 := @PySem.sizeLine_eq
abbrev J3 := @List.size_toArray
abbrev J4 := @List.append_nil
abbrev J5 := @PySem.codeAny_mono
abbrev J6 := @PySem.wpAny_Call_Name_kw
abbrev J7 := @List.nodup_cons
abbrev J8 := @List.of_mem_zip
abbrev J9 := @Option.isSome_iff_exists
abbrev Ka := @List.length_take
abbrev Kb := @PySem.mem_of_lookup
abbrev Kc := @List.getElem?_append_right
abbrev Kd := @List.getElem?_append_left
abbrev Ke := @List.getElem?_map
abbrev Kf := @List.mem_of_getElem?
abbrev Kg := @List.length_append
abbrev Kh := @List.length_map
abbrev Ki := @PySem.noFill_tuple_add
abbrev Kj := @PySem.F.slot_tuple_add
abbrev Kk := @PySem.F.entry_tuple_add
abbrev Kl := @PySem.F.args_tuple_add_2
abbrev Km := @Int.toNat_natCast
abbrev Kn := @Nat.min_le_right
abbrev Ko := @if_false
abbrev Kq := @if_true
abbrev Kr := @PyProof.Rows.slicePart_none
abbrev Ks := @PySem.wpAny_field
abbrev Kt := @List.length_drop
abbrev Ku := @PySem.wpAny_sequenceKey
abbrev Kv := @PySem.wpAny_callSpecial?_slot
abbrev Kw := @PyProof.Rows.slot_tuple_getitem
abbrev Kx := @PySem.wpAny_call_entry
abbrev Ky := @PyProof.Rows.entry_tuple_getitem
abbrev KA := @PyProof.Rows.args_tuple_getitem
abbrev KB := @PySem.wpAny_typeOf
abbrev KC := @Bool.and_eq_true
abbrev KD := @PySem.wpAny_newObj_type
abbrev KE := @List.map_nil
abbrev KF := @List.map_cons
abbrev KG := @PySem.Heap.get?_update_self
abbrev KH := @PySem.Heap.get?_update_other
abbrev KJ := @List.length_set
abbrev KL := @List.reverse_cons
abbrev KM := @List.replicate_succ
abbrev KN := @List.flatten_cons
abbrev KO := @Nat.le_succ
abbrev KQ := @List.append_assoc
abbrev KR := @List.foldl_cons
abbrev KS := @List.length_singleton
abbrev KU := @Array.getElem?_toList
abbrev KW := @List.nil_append
abbrev KY := @decide_eq_true
abbrev KZ := @List.lookup_cons
abbrev K0 := @beq_self_eq_true
abbrev K1 := @Bool.false_eq_true
abbrev K2 := @List.length_cons
abbrev K3 := @Nat.lt_succ_self
abbrev K4 := @Nat.lt_succ_of_lt
abbrev K5 := @PySem.Heap.size_push
abbrev K6 := @PySem.pushCells_keeps
abbrev K7 := @PySem.codeAny_of_tree
abbrev K8 := @PySem.wpAny_askSetting
abbrev K9 := @PySem.wpAny_rule
abbrev La := @PySem.wpAny_of_eq
abbrev Lb := @Nat.zero_le
abbrev Lc := @List.mem_singleton
abbrev Ld := @PySem.F.slot_tuple_iterator_next
abbrev Le := @PySem.F.entry_tuple_iterator_next
abbrev Lf := @PySem.F.args_tuple_iterator_next_1
abbrev Lg := @PySem.wpAny_seqItems
abbrev Lh := @PySem.Heap.SameBut.update
abbrev Li := @PySem.wpAny_pyIter_tuple
abbrev Lj := @List.not_mem_nil
abbrev Lk := @or_false
abbrev Ll := @PySem.Heap.get?_push_ne
abbrev Lm := @List.range_succ_eq_map
abbrev Ln := @List.map_map
abbrev Lo := @List.map_congr_left
abbrev Lp := @List.length_range
abbrev Lq := @List.length_nil
abbrev Lr := @List.cons.inj
abbrev Ls := @List.cons_append
abbrev Lu := @Array.getElem?_eq_some_iff
abbrev Lx := @List.take_of_length_le
abbrev Ly := @List.mem_map
abbrev Lz := @Classical.byContradiction
abbrev LA := @List.nodup_range
abbrev LB := @List.getElem?_of_mem
abbrev LC := @List.mem_map_of_mem
abbrev LD := @List.take_append_drop
abbrev LF := @List.pairwise_cons
abbrev LG := @List.map_append
abbrev LH := @List.map_take
abbrev LI := @List.map_drop
abbrev LJ := @Array.getD_eq_getD_getElem?
abbrev LK := @Option.getD_some
abbrev LL := @List.mem_of_mem_take
abbrev LM := @List.mem_of_mem_drop
abbrev LN := @Array.getElem?_eq_none_iff
abbrev LO := @List.nodup_nil
abbrev LP := @Nat.sub_self
abbrev LQ := @Nat.zero_add
abbrev LR := @List.pairwise_lt_range
abbrev LS := @List.perm_ext_iff_of_nodup
abbrev LU := @Array.getElem?_eq_getElem
abbrev LV := @List.all_eq_true
abbrev LW := @Int.toNat_of_nonneg
abbrev LX := @Bool.not_true
abbrev LY := @PySem.wpAny_forIn_list
abbrev LZ := @PySem.wpAny_setState_of
abbrev L0 := @Bool.and_self
abbrev L1 := @Array.mem_toList_iff
abbrev L4 := @List.nodup_append
abbrev L6 := @PySem.wpAny_storeSet_of
abbrev L8 := @PySem.putSet_of
abbrev L9 := @Bool.not_false
abbrev Ma := @Bool.and_false
abbrev Mb := @List.foldl_append
abbrev Mc := @PySem.codeAny_builtin
abbrev Md := @PySem.Around.under_plainId
abbrev Me := @PyProof.Rows.F.plain_set_update_loop
abbrev Mf := @PySem.plainId_quiet
abbrev Mg := @PySem.isSubtype_type
abbrev Mh := @PySem.F.called_set
abbrev Mi := @PySem.Code.quiet_builtin
abbrev Mj := @PySem.codeAny_call_builtin
abbrev Ml := @PySem.wpAny_pyIter_list
abbrev Mm := @PySem.wpAny_runValue
abbrev Mn := @PySem.Walks.list
abbrev Mo := @List.take_add_one
abbrev Mp := @Nat.le_add_right
abbrev Mq := @List.take_length
abbrev Mr := @PySem.W.KasT.kasWp_bind
abbrev Ms := @decide_eq_decide
abbrev Mt := @List.getD_eq_getElem?_getD
abbrev Mu := @List.ext_getElem?
abbrev Mv := @List.getElem?_range
abbrev Mw := @List.getElem?_eq_none
abbrev Mx := @List.pairwise_map
abbrev My := @PyProof.Rows.listUpdate_at
abbrev Mz := @PyProof.Rows.get?_update_seq
abbrev MF := @PySem.wpAny_newList
abbrev MH := @PyProof.Rows.size_push'
abbrev MJ := @PySem.Heap.size_update
abbrev MK := @PySem.Heap.get?_update_ne
abbrev ML := @bne_self_eq_false
abbrev MM := @List.getElem_mem
abbrev MN := @List.getElem?_eq_getElem
abbrev MP := @PySem.wpAny_setEntries_of
abbrev MQ := @PySem.wpAny_setField_rec
abbrev MR := @PySem.Calls.call_function_entry
abbrev MU := @PyProof.Rows.entry_list_sort
abbrev MV := @List.getElem_of_mem
abbrev MW := @of_eq_true
abbrev MX := @eq_self
abbrev MY := @List.getElem?_cons_succ
abbrev MZ := @List.drop_eq_getElem_cons
abbrev Na := @List.drop_length
abbrev Nb := @decide_eq_true_eq
abbrev Nd := @List.eq_nil_of_length_eq_zero
abbrev Nf := @List.all_cons
abbrev Ng := @List.all_map
abbrev Nh := @Int.le_antisymm
abbrev Ni := @List.length_pos_iff
abbrev Nj := @Bool.or_eq_true
abbrev Nk := @List.take_append_of_le_length
abbrev Nl := @List.filter_cons
abbrev Nn := @Bool.not_eq_true'
abbrev Np := @PySem.F.entry_min_loop
abbrev Nq := @PySem.F.plain_min_loop
abbrev Nr := @PySem.wpAny_tryCatch
abbrev Nt := @PySem.PassesOwn.never
abbrev Nu := @List.mem_flatMap
abbrev Nv := @List.length_filter_le
abbrev Nw := @List.flatMap_cons
abbrev Nx := @List.dropLast_concat_getLast
abbrev Ny := @of_decide_eq_true
abbrev Nz := @Int.emod_nonneg
abbrev NA := @Int.emod_lt_of_pos
abbrev NB := @List.set_cons_succ
abbrev NC := @List.set_cons_zero
abbrev ND := @List.set_set
abbrev NF := @List.filter_eq_self
abbrev NG := @List.flatMap_append
abbrev NH := @List.flatMap_nil
abbrev NI := @Bool.true_and
abbrev NJ := @List.any_map
abbrev NK := @List.any_eq_true
abbrev NL := @Int.min_eq_left
abbrev NM := @Int.max_eq_right
abbrev NN := @Int.min_eq_right
abbrev NO := @Int.max_eq_left
abbrev NP := @List.filter_append
abbrev NQ := @List.mem_of_find?_eq_some
namespace L2
open PySem PySem.Spec PyProof.Rows
abbrev rA := Sum Int Str
def DE : rA -> Value -> Bool
 | .inl k, v => Value.isInt k v
 | .inr x, v => Value.isStrOf x v
def Iq (w : World) : rA -> Int
 | .inl k => hashInt k
 | .inr x => hashStr w x
theorem cJ : ∀ {k : rA} {v : Value}, DE k v = true -> (∃ i t, k = Sum.inl i /\ v = Value.int i t) \/ (∃ x t, k = Sum.inr x /\ v = Value.str x t)
 | .inl i, v, h => by
  obtain ⟨t, e⟩ := Jh (k := i) (v := v) h
  exact .inl ⟨i, t, rfl, e⟩
 | .inr x, v, h => by
  obtain ⟨t, e⟩ := Value.isStrOf_shape (x := x) (v := v) h
  exact .inr ⟨x, t, rfl, e⟩
theorem FI (a b : Int) : decide ((Sum.inl a : rA) = Sum.inl b) = (a == b) := by
 by_cases e : a = b
 ·subst e; simp
 ·have h : ¬ (Sum.inl a : rA) = Sum.inl b := fun q => e (Sum.inl.inj q)
  rw [Ji h]
  exact (Jj.mpr e).symm
theorem FF (a b : Str) : decide ((Sum.inr a : rA) = Sum.inr b) = decide (a = b) := by
 by_cases e : a = b
 ·subst e; simp
 ·have h : ¬ (Sum.inr a : rA) = Sum.inr b := fun q => e (Sum.inr.inj q)
  rw [Ji h, Ji e]
theorem FH (a : Int) (b : Str) : decide ((Sum.inl a : rA) = Sum.inr b) = false := Ji (fun q => nomatch q)
theorem FG (a : Str) (b : Int) : decide ((Sum.inr a : rA) = Sum.inl b) = false := Ji (fun q => nomatch q)
def rX (prog : Program) (w : World) : PySem.KeyKind prog w rA where
 is := DE
 hash := Iq w
 inj := fun v a b ha hb => by
  rcases cJ ha with ⟨i, t, rfl, rfl⟩ | ⟨x, t, rfl, rfl⟩
  ·rcases cJ hb with ⟨j, u, rfl, e⟩ | ⟨y, u, rfl, e⟩
   ·injection e with e1 _; rw [e1]
   ·exact nomatch e
  ·rcases cJ hb with ⟨j, u, rfl, e⟩ | ⟨y, u, rfl, e⟩
   ·exact nomatch e
   ·injection e with e1 _; rw [e1]
 byValue := fun k v h => by
  rcases cJ h with ⟨i, t, rfl, rfl⟩ | ⟨x, t, rfl, rfl⟩ <;> rfl
 pyHash := fun hv h => by
  rcases cJ hv with ⟨i, t, rfl, rfl⟩ | ⟨x, t, rfl, rfl⟩
  ·exact wpAny_pyHash_int h
  ·exact wpAny_pyHash_str h
 eqBool := fun hu hv h => by
  rcases cJ hu with ⟨i, t, rfl, rfl⟩ | ⟨x, t, rfl, rfl⟩
  ·rcases cJ hv with ⟨j, u, rfl, rfl⟩ | ⟨y, u, rfl, rfl⟩
   ·rw [FI] at h; exact Jk h
   ·rw [FH] at h; exact SeqAt.EqAt.int_str i t y u _ _ _ _ h
  ·rcases cJ hv with ⟨j, u, rfl, rfl⟩ | ⟨y, u, rfl, rfl⟩
   ·rw [FG] at h; exact SeqAt.EqAt.str_int x t j u _ _ _ _ h
   ·rw [FF] at h; exact wpAny_eqBool_str h
 «strs» := fun k x t v h => by
  rcases cJ h with ⟨i, u, rfl, e⟩ | ⟨y, u, rfl, e⟩
  ·exact nomatch e
  ·injection e with e1 _
   subst e1
   cases v <;> rfl
end L2
namespace L2
open PySem PySem.Spec PyProof.Rows
inductive V where
 | non | bl (b : Bool) | int (i : Int) | str (x : Str) | byt (b : Array UInt8) | flt (b : UInt64) | ref (a : Addr) | ty (n : String)
 deriving DecidableEq
def cz : V -> Value -> Prop
 | .non, u => u = Value.none
 | .bl b, u => u = Value.bool b
 | .int i, u => ∃ t, u = Value.int i t
 | .str x, u => ∃ t, u = Value.str x t
 | .byt b, u => ∃ t, u = Value.bytes b t
 | .flt b, u => ∃ t, u = Value.float b t
 | .ref a, u => u = Value.ref a
 | .ty n, u => u = Value.type n
abbrev bb : List V -> List Value -> Prop := Paired cz
theorem bb.length {xs : List V} {us : List Value} (r : bb xs us) : xs.length = us.length := Paired.length r
theorem bb.get : ∀ {xs : List V} {us : List Value} {i : Nat} {x : V}, bb xs us -> xs[i]? = some x -> ∃ u, us[i]? = some u /\ cz x u
 | _, _, _, _, .nil, e => by simp at e
 | _, _, 0, _, .cons r _, e => by simp at e; subst e; exact ⟨_, rfl, r⟩
 | _, _, i + 1, x, .cons _ t, e => by
  obtain ⟨u, h1, h2⟩ := bb.get (i := i) (x := x) t (by simpa using e)
  exact ⟨u, by simpa using h1, h2⟩
theorem bb.set {x : V} {u : Value} (r : cz x u) : ∀ {xs : List V} {us : List Value} (i : Nat), bb xs us -> bb (xs.set i x) (us.set i u)
 | _, _, _, .nil => .nil
 | _, _, 0, .cons _ t => .cons r t
 | _, _, i + 1, .cons q t => .cons q (bb.set r i t)
theorem bb.append : ∀ {xs ys : List V} {us ws : List Value}, bb xs us -> bb ys ws -> bb (xs ++ ys) (us ++ ws)
 | _, _, _, _, .nil, s => s
 | _, _, _, _, .cons r t, s => .cons r (bb.append t s)
theorem bb.take : ∀ {xs : List V} {us : List Value} (n : Nat), bb xs us -> bb (xs.take n) (us.take n)
 | _, _, 0, _ => .nil
 | _, _, _ + 1, .nil => .nil
 | _, _, n + 1, .cons r t => .cons r (bb.take n t)
theorem bb.drop : ∀ {xs : List V} {us : List Value} (n : Nat), bb xs us -> bb (xs.drop n) (us.drop n)
 | _, _, 0, r => r
 | _, _, _ + 1, .nil => .nil
 | _, _, n + 1, .cons _ t => bb.drop n t
def GG : Option V -> Option Value -> Prop
 | some v, some u => cz v u
 | none, none => True
 | _, _ => False
def KV {κ : Type} : List (κ × V) -> List (κ × Value) -> Prop := Paired fun (p : κ × V) (q : κ × Value) => p.1 = q.1 /\ cz p.2 q.2
def kV : rA -> V
 | .inl i => .int i
 | .inr x => .str x
inductive HO where
 | lst (xs : List V)
 | tup (xs : List V)
 | dK (kvs : List (rA × V)) | dT (kvs : List (List rA × V))
 | set (S : Int -> Bool) (n : Nat)
 | ins (C dx : Addr) (fs : List (Str × V))
 | own (x : Addr)
 | xd (fs : List (Str × V))
 | met (f x : Addr)
 | rng (lo hi : Int)
 | frz (o : Obj) (u : HO)
 | tbl (ps : Array Value)
 | ext (φ : Heap -> Prop)
abbrev Hp := Addr -> Option HO
def cM (H : Hp) (a : Addr) (o : HO) : Hp := fun b => if b = a then some o else H b
theorem cw {H : Hp} {a : Addr} {o : HO} : cM H a o a = some o := by unfold cM; rw [Jl rfl]
theorem bX {H : Hp} {a b : Addr} {o : HO} (h : b ≠ a) : cM H a o b = H b := by unfold cM; rw [Jm h]
theorem ze {H : Hp} {a b : Addr} {o u : HO} (h : H a = some o) (h' : H b = some u) (d : o ≠ u) : a ≠ b := by
 intro e; subst e; rw [h] at h'; exact d (Jn h')
theorem dS {H : Hp} {a b : Addr} {o : HO} (h : H a = some o) (h' : H b = none) : a ≠ b := by
 intro e; subst e; rw [h] at h'; cases h'
section
variable (P : Program) (w : World)
def fk (H : Hp) (h : Heap) (a : Addr) : HO -> Prop
 | .lst xs => xs.length <= sizeLine /\ ∃ (its : List Value) (n : Nat), bb xs its /\ h.get? a = some { cls := .type "list", data := .seq its.toArray n }
 | .tup xs => xs.length <= sizeLine /\ ∃ its : List Value, bb xs its /\ IsTup h a its.toArray
 | .dK kvs => kvs.length <= sizeLine /\ (a == sysModules) = false /\ ∃ vs, KV kvs vs /\ h.DictOf (rX P w) a vs
 | .dT kvs => kvs.length <= sizeLine /\ (a == sysModules) = false /\ ∃ xs : List (List rA × Addr × Value),
   Paired (fun (p : List rA × V) (q : List rA × Addr × Value) => p.1 = q.1 /\ H q.2.1 = some (.tup (p.1.map kV)) /\ cz p.2 q.2.2) kvs xs /\
   ∃ o es ep, h.get? a = some o /\ o.ExactDict /\ o.data = .dict es ep /\ es.toList = xs.map (entryOfKey (tupleKind (rX P w))) /\ (xs.map (·.1)).Nodup
 | .set S n => h.SetOf (intKind P w) a S n
 | .ins C dx fs => H dx = some (.own a) /\ fs.length <= 1000 /\ dx ≠ a /\ h.get? a = some (W.instObj C dx) /\
   ∃ mA, h.Ns1 dx mA /\ (∀ f, GG (fs.lookup f) (mA f)) /\ PySem.Within mA (fs.map (·.1))
 | .own _ => ∃ o, h.get? a = some o
 | .xd fs => ∃ mA, h.Ns1 a mA /\ ∀ f, GG (fs.lookup f) (mA f)
 | .rng lo hi => ∃ t u v, h.get? a = some { cls := .type "range", data := .fields #[.int lo t, .int hi u, .int 1 v] }
 | .frz o u => h.get? a = some o /\ fk H h a u
 | .tbl ps => h.get? a = some { cls := .none, data := .fields ps }
 | .met f x => h.get? a = some (W.methodObj (.ref f) (.ref x))
 | .ext φ => φ h /\ (∃ o, h.get? a = some o) /\ ∀ h1 h2 : Heap, φ h1 -> (∀ o, h1.get? a = some o -> h2.get? a = some o) -> φ h2
def nR (H : Hp) (h : Heap) : Prop := ∀ a o, H a = some o -> fk P w H h a o
end
section
variable {P : Program} {w : World} {H H' : Hp} {h h' : Heap} {a : Addr} {o : HO}
theorem fk.lt (x : fk P w H h a o) : a < h.objs.size := by
 cases o with
 | lst xs => obtain ⟨_, _, _, _, e⟩ := x; exact Jo e
 | tup xs => obtain ⟨_, _, _, p⟩ := x; exact p.lt
 | dK kvs => obtain ⟨_, _, _, _, o, _, _, e, _⟩ := x; exact Jo e
 | dT kvs => obtain ⟨_, _, _, _, o, _, _, e, _⟩ := x; exact Jo e
 | set S n => obtain ⟨o, _, _, _, e, _⟩ := x; exact Jo e
 | ins C dx fs => obtain ⟨_, _, _, e, _⟩ := x; exact Jo e
 | own y => obtain ⟨_, e⟩ := x; exact Jo e
 | xd fs => obtain ⟨_, ⟨_, _, _, e, _⟩, _⟩ := x; exact Jo e
 | rng lo hi => obtain ⟨_, _, _, e⟩ := x; exact Jo e
 | frz ob u => obtain ⟨e, _⟩ := x; exact Jo e
 | tbl ps => exact Jo (show h.get? a = some _ from x)
 | met f y => exact Jo (show h.get? a = some _ from x)
 | ext φ => obtain ⟨_, ⟨_, e⟩, _⟩ := x; exact Jo e
theorem nr {α β : Type} {F G : α -> β -> Prop} : ∀ {l₁ : List α} {l₂ : List β}, Paired F l₁ l₂ -> (∀ a b, F a b -> G a b) -> Paired G l₁ l₂
 | _, _, .nil, _ => .nil
 | _, _, .cons r t, f => .cons (f _ _ r) (nr t f)
theorem fk.stay (x : fk P w H h a o) (k : ∀ b u, (b = a \/ H b = some (.own a)) -> h.get? b = some u -> h'.get? b = some u)
  (ho : ∀ b, H b = some (.own a) -> H' b = some (.own a)) (ht : ∀ b xs, H b = some (.tup xs) -> H' b = some (.tup xs)) : fk P w H' h' a o := by
 induction o with
 | lst xs => obtain ⟨z, its, n, r, e⟩ := x; exact ⟨z, its, n, r, k _ _ (.inl rfl) e⟩
 | tup xs => obtain ⟨z, its, r, ob, e, c⟩ := x; exact ⟨z, its, r, ob, k _ _ (.inl rfl) e, c⟩
 | dK kvs => obtain ⟨z, y, vs, r, ob, es, ep, e, c⟩ := x; exact ⟨z, y, vs, r, ob, es, ep, k _ _ (.inl rfl) e, c⟩
 | dT kvs =>
  obtain ⟨z, y, xs, r, ob, es, ep, e, c⟩ := x
  exact ⟨z, y, xs, nr r fun p q z => ⟨z.1, ht _ _ z.2.1, z.2.2⟩, ob, es, ep, k _ _ (.inl rfl) e, c⟩
 | set S n => obtain ⟨ob, es, ep, t, e, c⟩ := x; exact ⟨ob, es, ep, t, k _ _ (.inl rfl) e, c⟩
 | ins C dx fs =>
  obtain ⟨d, z, ne, e, mA, ⟨od, es, ep, e2, c⟩, r⟩ := x
  exact ⟨ho _ d, z, ne, k _ _ (.inl rfl) e, mA, ⟨od, es, ep, k _ _ (.inr d) e2, c⟩, r⟩
 | own y => obtain ⟨ob, e⟩ := x; exact ⟨ob, k _ _ (.inl rfl) e⟩
 | xd fs => obtain ⟨mA, ⟨od, es, ep, e, c⟩, r⟩ := x; exact ⟨mA, ⟨od, es, ep, k _ _ (.inl rfl) e, c⟩, r⟩
 | rng lo hi => obtain ⟨t, u, v, e⟩ := x; exact ⟨t, u, v, k _ _ (.inl rfl) e⟩
 | frz ob u ih => obtain ⟨e, q⟩ := x; exact ⟨k _ _ (.inl rfl) e, ih q⟩
 | tbl ps =>
  have e : h.get? a = some { cls := .none, data := .fields ps } := x
  show h'.get? a = some { cls := .none, data := .fields ps }
  exact k a _ (.inl rfl) e
 | met f y =>
  have e : h.get? a = some (W.methodObj (.ref f) (.ref y)) := x
  show h'.get? a = some (W.methodObj (.ref f) (.ref y))
  exact k a _ (.inl rfl) e
 | ext φ => obtain ⟨p, ⟨o, e⟩, st⟩ := x; exact ⟨st _ _ p fun o q => k _ _ (.inl rfl) q, ⟨o, k _ _ (.inl rfl) e⟩, st⟩
theorem nR.lt (x : nR P w H h) (e : H a = some o) : a < h.objs.size := (x a o e).lt
theorem nR.fresh (x : nR P w H h) (e : h.objs.size <= a) : H a = none := by
 cases q : H a with
 | none => rfl
 | some u => exact absurd (Jp (x.lt q) e) (Jq _)
theorem nR.kept (x : nR P w H h) (k : ∀ b u, h.get? b = some u -> h'.get? b = some u) : nR P w H h' := fun a o e =>
 (x a o e).stay (fun b u _ q => k b u q) (fun _ q => q) fun _ _ q => q
theorem nR.laid (x : nR P w H h) (k : ∀ b u, h.get? b = some u -> h'.get? b = some u) (hp : h.objs.size <= a) (new : fk P w (cM H a o) h' a o) : nR P w (cM H a o) h' := fun b u e => by
 have hn := x.fresh hp
 by_cases hb : b = a
 ·subst hb; rw [cw] at e; cases e; exact new
 ·rw [bX hb] at e
  exact (x b u e).stay (fun c v _ q => k c v q) (fun c q => by rw [bX (dS q hn)]; exact q) fun c xs q => by rw [bX (dS q hn)]; exact q
end
def Rd (H : Hp) (a : Addr) (u : HO) : Prop := H a = some u \/ ∃ o, H a = some (.frz o u)
theorem Rd.ok {P : Program} {w : World} {H : Hp} {h : Heap} {a : Addr} {u : HO} (r : Rd H a u) (x : nR P w H h) : fk P w H h a u := by
 rcases r with r | ⟨o, r⟩
 ·exact x a u r
 ·obtain ⟨_, q⟩ := x a _ r
  exact q
def HH : Option HO -> Prop
 | some (.lst _) => True
 | some (.dK _) => True
 | some (.dT _) => True
 | some (.set _ _) => True
 | some (.ins _ _ _) => True
 | some (.ext _) => True
 | _ => False
section
variable {P : Program} {w : World} {H : Hp} {h h' : Heap} {x e : Addr} {o' : HO}
theorem nR.write (ok : nR P w H h) (mu : HH (H x)) (he : e = x \/ H e = some (.own x)) (k : ∀ b u, b ≠ e -> h.get? b = some u -> h'.get? b = some u) (heo : ∃ u, h'.get? e = some u)
  (new : fk P w (cM H x o') h' x o') : nR P w (cM H x o') h' := fun b u q => by
 have nown : ∀ c y, H c = some (.own y) -> c ≠ x := fun c y r z => by subst z; rw [r] at mu; exact mu
 have ntup : ∀ c xs, H c = some (.tup xs) -> c ≠ x := fun c xs r z => by subst z; rw [r] at mu; exact mu
 by_cases hb : b = x
 ·subst hb; rw [cw] at q; cases q; exact new
 ·rw [bX hb] at q
  by_cases hbe : b = e
  ·have q' : H b = some (.own x) := by
    rcases he with z | z
    ·exact absurd (hbe.trans z) hb
    ·rw [hbe]; exact z
   rw [q] at q'; cases q'
   obtain ⟨v, hv⟩ := heo
   exact ⟨v, by rw [hbe]; exact hv⟩
  ·refine (ok b u q).stay (fun c v hc r => k c v ?_ r) (fun c r => by rw [bX (nown c b r)]; exact r) fun c xs r => by rw [bX (ntup c xs r)]; exact r
   rcases hc with rfl | hc
   ·exact hbe
   ·rintro rfl
    rcases he with z | z
    ·exact nown c b hc z
    ·rw [hc] at z; cases z; exact hb rfl
end
structure Un (fs ex : List Addr) (H H' : Hp) (h h' : Heap) : Prop where
 keep : ∀ b o, h.get? b = some o -> H b = none -> b ∉ fs -> b ∉ ex -> h'.get? b = some o
 slot : ∀ b o, h.get? b = some o -> H b = none -> b ∈ fs -> b ∉ ex -> ∃ sl, h'.get? b = some { o with slots := sl }
 free : ∀ b o, h.get? b = some o -> H b = none -> b ∉ ex -> H' b = none
 there : ∀ b o, h.get? b = some o -> b ∉ ex -> ∃ o', h'.get? b = some o'
 tups : ∀ b xs, H b = some (.tup xs) -> H' b = some (.tup xs)
 frzs : ∀ b o u, H b = some (.frz o u) -> H' b = some (.frz o u)
 tbls : ∀ b ps, H b = some (.tbl ps) -> ∃ more, H' b = some (.tbl (ps ++ more))
section
variable {fs fs' ex ex' : List Addr} {H H1 H2 : Hp} {h h1 h2 h' : Heap} {a x e : Addr} {o : HO}
theorem Un.any (u : Un fs ex H H1 h h1) {b : Addr} {ob : Obj} (q : h.get? b = some ob) (n : H b = none) (hx : b ∉ ex) : ∃ sl, h1.get? b = some { ob with slots := sl } := by
 by_cases hb : b ∈ fs
 ·exact u.slot b ob q n hb hx
 ·exact ⟨ob.slots, u.keep b ob q n hb hx⟩
theorem Un.kept (k : ∀ b u, h.get? b = some u -> h'.get? b = some u) : Un fs ex H H h h' :=
 ⟨fun b ob q _ _ _ => k b ob q, fun b ob q _ _ _ => ⟨ob.slots, k b ob q⟩, fun _ _ _ n _ => n, fun b ob q _ => ⟨ob, k b ob q⟩, fun _ _ q => q, fun _ _ _ q => q, fun _ ps q => ⟨#[], by rw [q]; simp⟩⟩
theorem Un.refl : Un fs ex H H h h := Un.kept fun _ _ q => q
theorem Un.laid (k : ∀ b u, h.get? b = some u -> h'.get? b = some u) (hp : h.objs.size <= a) (hn : H a = none) : Un fs ex H (cM H a o) h h' where
 keep := fun b u q _ _ _ => k b u q
 slot := fun b u q _ _ _ => ⟨u.slots, k b u q⟩
 free := fun b u q n _ => by rw [bX (Jr (Jp (Jo q) hp))]; exact n
 there := fun b u q _ => ⟨u, k b u q⟩
 tups := fun b xs q => by rw [bX (dS q hn)]; exact q
 frzs := fun b u xs q => by rw [bX (dS q hn)]; exact q
 tbls := fun b ps q => ⟨#[], by rw [bX (dS q hn), q]; simp⟩
theorem Un.write (mu : HH (H x)) (he : e = x \/ H e = some (.own x)) (k : ∀ b u, b ≠ e -> h.get? b = some u -> h'.get? b = some u) (heo : ∃ u, h'.get? e = some u) : Un fs ex H (cM H x o) h h' := by
 have hx : ∀ b, H b = none -> b ≠ x := fun b n z => by subst z; rw [n] at mu; exact mu
 have hb : ∀ b, H b = none -> b ≠ e := fun b n z => by
  subst z
  rcases he with r | r
  ·exact hx b n r
  ·rw [n] at r; cases r
 have hm : ∀ b u, H b = some u -> ¬ HH (some u) -> b ≠ x := fun b u q nm z => by subst z; rw [q] at mu; exact nm mu
 refine ⟨fun b u q n _ _ => k b u (hb b n) q, fun b u q n _ _ => ⟨u.slots, k b u (hb b n) q⟩, fun b u q n _ => by rw [bX (hx b n)]; exact n, fun b u q _ => ?_,
  fun b xs q => by rw [bX (hm b _ q fun z => z)]; exact q, fun b u xs q => by rw [bX (hm b _ q fun z => z)]; exact q, fun b ps q => ⟨#[], by rw [bX (hm b _ q fun z => z), q]; simp⟩⟩
 by_cases hbe : b = e
 ·subst hbe; exact heo
 ·exact ⟨u, k b u hbe q⟩
end
def HA (h : Heap) (H : Hp) : List Addr := (List.range h.objs.size).filter fun a => (H a).isSome
def rC (h : Heap) (H : Hp) : Heap := W.hideAll h (HA h H)
theorem yb (h : Heap) (H : Hp) : (rC h H).objs.size = h.objs.size := W.hideAll_size _ _
theorem AZ {h : Heap} {H : Hp} {b : Addr} {o : Obj} (e : h.get? b = some o) (n : H b = none) : (rC h H).get? b = some o :=
 W.hideAll_get _ e fun hm => by
  have q : (H b).isSome = true := (Js.mp hm).2
  rw [n] at q; simp at q
theorem CP {h : Heap} {H : Hp} {b : Addr} {o : Obj} (e : (rC h H).get? b = some o) : h.get? b = some o /\ H b = none := by
 have e' : h.get? b = some o := W.of_hideAll (HA h H) e
 refine ⟨e', ?_⟩
 cases q : H b with
 | none => rfl
 | some x =>
  have hm : b ∈ HA h H := Js.mpr ⟨Jt.mpr (Jo e'), by simp [q]⟩
  have z : (rC h H).get? b = none := W.hideAll_none (HA h H) hm
  rw [z] at e; cases e
end L2
namespace L2
open PySem PySem.Spec PyProof.Rows
structure Mod (K : W.Frag) (mg : Str -> Option Value) (base : Heap) : Prop where
 kin : K.In base
 glob : base.Ns mainGlobals mg
 blt : ∃ mb, base.Ns builtinsNs mb /\ ∀ x : Str, x ≠ "__name__" -> mb x = bootBuiltins x
 nolimit : base.NoLimit
structure Cx where
 prog : Program
 w : World
 K : W.Frag
 mg : Str -> Option Value
 base : Heap
 A : Around
 N : List Str
 s₀ : Shared
 H₀ : Hp
 env : Env
 outer : List Env
 stack : List Env
 ex : List Addr
 fn : Str -> Bool
 calm : Bool
 pn : List (Addr × Obj)
 xe : Value -> Shared -> Prop
def yH (l : List Env) : List Addr := l.filterMap (·.frame)
abbrev Cx.fs (X : Cx) : List Addr := yH X.outer
def HQ (sc : Scope) (x : Str) : Prop := sc.names.lookup x = some .local \/ sc.names.lookup x = some .cell \/ sc.names.lookup x = some .free
def Dp (sc : Scope) (x : Str) : Prop := sc.names.lookup x = some .local \/ sc.names.lookup x = some .cell
def II (env : Env) (h : Heap) (m : Str -> Option Value) (x : Str) (u : Value) : Prop :=
 (env.kindOf x = some .local /\ m x = some u) \/ ((env.kindOf x = some .cell \/ env.kindOf x = some .free) /\ ∃ c, env.cells.lookup x = some c /\ h.IsCell c (some u))
structure Cx.Ok (X : Cx) : Prop where
 mod : Mod X.K X.mg X.base
 kind : X.env.scope.kind = .function
 glob : X.env.globals = mainGlobals
 blt : X.env.builtins = builtinsNs
 above : X.s₀.heap.objs.size <= X.env.locals
 inj : ∀ x y c, X.env.cells.lookup x = some c -> X.env.cells.lookup y = some c -> x = y
 has : ∀ x, (X.env.kindOf x = some .cell \/ X.env.kindOf x = some .free) -> ∃ c, X.env.cells.lookup x = some c
 cab : ∀ x c, X.fn x = true -> X.env.cells.lookup x = some c -> X.s₀.heap.objs.size <= c
 hd : X.calm = true -> X.A.handled = none
 frames : X.A.frames = some X.stack
 stk : X.stack = X.outer \/ (X.stack = X.env :: X.outer /\ X.env.frame = some X.env.locals)
 exf : ∀ b ∈ X.ex, b ≠ X.env.locals /\ ∀ x c, X.env.cells.lookup x = some c -> c ≠ b
 bs : ∀ b o, X.base.get? b = some o -> X.s₀.heap.get? b = some o /\ X.H₀ b = none
 bsz : X.base.objs.size <= X.s₀.heap.objs.size
 noex : ∀ b o, X.base.get? b = some o -> b ∉ X.ex
 exfs : ∀ b ∈ X.ex, b ∉ X.fs
 funs : X.s₀.heap.FunFrames X.base X.outer
 frf : ∀ b ∈ X.fs, X.H₀ b = none
structure aT (X : Cx) (pins : List (Addr × Obj)) (σ : List (Option V)) (H : Hp) (s : Shared) : Prop where
 ok : X.Ok
 os : s.os = X.s₀.os
 bare : AllBare s.gens
 base : Un X.fs X.ex X.H₀ H X.s₀.heap s.heap
 loc : ∃ m, s.heap.Ns X.env.locals m /\ ∀ (i : Nat) (x : Str) (v : V), X.N[i]? = some x -> σ[i]? = some (some v) -> HQ X.env.scope x -> ∃ u, cz v u /\ II X.env s.heap m x u
 cell : ∀ x c, X.env.cells.lookup x = some c -> ∃ v, s.heap.IsCell c v
 free : H X.env.locals = none
 freeC : ∀ x c, X.env.cells.lookup x = some c -> H c = none
 pin : ∀ p ∈ X.pn ++ pins, s.heap.get? p.1 = some p.2 /\ H p.1 = none /\ p.1 ≠ X.env.locals /\ p.1 ∉ X.fs /\ ∀ v, p.2.data ≠ .cell v
 hok : nR X.prog X.w H s.heap
 len : σ.length = X.N.length
section
variable {X : Cx} {pins : List (Addr × Obj)} {σ : List (Option V)} {H H' : Hp} {s : Shared} {h' : Heap}
theorem Cx.Ok.nofr (ok : X.Ok) {b : Addr} {o : Obj} (e : X.base.get? b = some o) : b ∉ X.fs := fun hb => by
 have := (ok.funs.mem hb).1
 rw [e] at this; cases this
theorem aT.bs (I : aT X pins σ H s) : ∀ b o, X.base.get? b = some o -> s.heap.get? b = some o /\ H b = none := fun b o e =>
 ⟨I.base.keep b o (I.ok.bs b o e).1 (I.ok.bs b o e).2 (I.ok.nofr e) (I.ok.noex b o e), I.base.free b o (I.ok.bs b o e).1 (I.ok.bs b o e).2 (I.ok.noex b o e)⟩
theorem aT.bk (I : aT X pins σ H s) : ∀ b o, X.base.get? b = some o -> s.heap.get? b = some o := fun b o e => (I.bs b o e).1
theorem aT.mod (I : aT X pins σ H s) : Mod X.K X.mg X.base := I.ok.mod
theorem aT.kIn (I : aT X pins σ H s) : X.K.In s.heap := I.ok.mod.kin.keeps I.bk
theorem aT.lt (I : aT X pins σ H s) : X.env.locals < s.heap.objs.size := let ⟨_, hn, _⟩ := I.loc; hn.lt
theorem aT.sz (I : aT X pins σ H s) : X.s₀.heap.objs.size <= s.heap.objs.size := Ju I.ok.above (Jv I.lt)
theorem aT.nofs (I : aT X pins σ H s) {a : Addr} (h : s.heap.objs.size <= a) : a ∉ X.fs := fun hb => by
 obtain ⟨_, o, ho, _⟩ := I.ok.funs.mem hb
 exact absurd (Jp (Jo ho) (Ju I.sz h)) (Jq _)
theorem aT.cne (I : aT X pins σ H s) : ∀ x c, X.env.cells.lookup x = some c -> c ≠ X.env.locals := fun x c e z => by
 obtain ⟨v, o, ho, hd⟩ := I.cell x c e
 obtain ⟨m, ⟨o', es, ep, ho', hd', _⟩, _⟩ := I.loc
 rw [z, ho'] at ho; cases ho; rw [hd'] at hd; cases hd
theorem aT.funs (I : aT X pins σ H s) : s.heap.FunFrames X.base X.outer := by
 have all : ∀ (l : List Env), (∀ b ∈ yH l, b ∈ X.fs) -> X.s₀.heap.FunFrames X.base l -> s.heap.FunFrames X.base l := by
  intro l
  induction l with
  | nil => intro _ _; trivial
  | cons env r ih =>
   intro hs hl
   obtain ⟨hk, ⟨L, o, hf, hn, ho, hd⟩, hr⟩ := hl
   have hL : L ∈ X.fs := hs L (by unfold yH; rw [Jw, hf]; exact Jx)
   obtain ⟨sl, e⟩ := I.base.slot L o ho (I.ok.frf L hL) hL fun z => I.ok.exfs L z hL
   exact ⟨hk, ⟨L, _, hf, hn, e, hd⟩, ih (fun b hb => hs b (by unfold yH; rw [Jw, hf]; exact Jy _ hb)) hr⟩
 exact all X.outer (fun _ hb => hb) I.ok.funs
theorem aT.stack (I : aT X pins σ H s) : s.heap.FunFrames X.base X.stack := by
 rcases I.ok.stk with e | ⟨e, hf⟩
 ·rw [e]; exact I.funs
 ·rw [e]
  obtain ⟨m, hn, _⟩ := I.loc
  refine .cons (by rw [I.ok.kind]; decide) hf hn ?_ I.funs
  exact Heap.get?_none_of_le (Ju I.ok.bsz I.ok.above)
theorem aT.stkSub (I : aT X pins σ H s) : ∀ b ∈ yH X.stack, b ∈ X.env.locals :: X.fs := fun b hb => by
 rcases I.ok.stk with e | ⟨e, hf⟩
 ·rw [e] at hb; exact Jy _ hb
 ·rw [e] at hb
  unfold yH at hb
  rw [Jw, hf] at hb
  exact hb
theorem aT.stkFree (I : aT X pins σ H s) : ∀ b ∈ yH X.stack, H b = none := fun b hb => by
 rcases Jz.mp (I.stkSub b hb) with e | hb
 ·rw [e]; exact I.free
 ·obtain ⟨_, o, ho, _⟩ := I.ok.funs.mem hb
  exact I.base.free b o ho (I.ok.frf b hb) fun z => I.ok.exfs b z hb
theorem aT.step {g' : Array GenState} {t' : Nat} {d' : Drawn} {ch : List Addr} (I : aT X pins σ H s)
  (hch : ∀ b ∈ ch, (b ∈ X.ex \/ X.s₀.heap.objs.size <= b) /\ b ≠ X.env.locals /\ (∀ x c, X.env.cells.lookup x = some c -> c ≠ b) /\ ∀ p ∈ X.pn ++ pins, p.1 ≠ b)
  (keep : ∀ b o, b ≠ X.env.locals -> b ∉ X.fs -> b ∉ ch -> s.heap.get? b = some o -> H b = none -> h'.get? b = some o)
  (slot : ∀ b o, b ≠ X.env.locals -> b ∈ X.fs -> b ∉ ch -> s.heap.get? b = some o -> H b = none -> ∃ sl, h'.get? b = some { o with slots := sl }) (free : ∀ b o, b ∉ ch -> s.heap.get? b = some o -> H b = none -> H' b = none)
  (there : ∀ b o, b ∉ ch -> s.heap.get? b = some o -> ∃ o', h'.get? b = some o')
  (tups : ∀ b xs, H b = some (.tup xs) -> H' b = some (.tup xs)) (frzs : ∀ b o u, H b = some (.frz o u) -> H' b = some (.frz o u)) (tbls : ∀ b ps, H b = some (.tbl ps) -> ∃ more, H' b = some (.tbl (ps ++ more)))
  (ns : ∀ m, s.heap.Ns X.env.locals m -> h'.Ns X.env.locals m) (hok : nR X.prog X.w H' h') (hg : AllBare g') :
  aT X pins σ H' { s with heap := h', gens := g', drawn := d', toks := t' } := by
 have neL : ∀ b o, X.s₀.heap.get? b = some o -> b ≠ X.env.locals := fun b o e => Jr (Jp (Jo e) I.ok.above)
 have neC : ∀ b o, X.s₀.heap.get? b = some o -> b ∉ X.ex -> b ∉ ch := fun b o e hx hb => by
  rcases (hch b hb).1 with z | z
  ·exact hx z
  ·exact absurd (Jp (Jo e) z) (Jq _)
 have cellK : ∀ x c, X.env.cells.lookup x = some c -> ∀ v, s.heap.IsCell c v -> h'.IsCell c v := fun x c e v ⟨o, ho, hd⟩ => by
  have nch : c ∉ ch := fun z => (hch c z).2.2.1 x c e rfl
  by_cases hc : c ∈ X.fs
  ·obtain ⟨sl, q⟩ := slot c o (I.cne x c e) hc nch ho (I.freeC x c e)
   exact ⟨_, q, hd⟩
  ·exact ⟨o, keep c o (I.cne x c e) hc nch ho (I.freeC x c e), hd⟩
 refine ⟨I.ok, I.os, hg, ⟨fun b o e n hb hx => ?_, fun b o e n hb hx => ?_, fun b o e n hx => ?_, fun b o e hx => ?_, fun b xs e => tups b xs (I.base.tups b xs e), fun b o xs e => frzs b o xs (I.base.frzs b o xs e), fun b ps e => ?_⟩, ?_, fun x c e => ?_, ?_, fun x c e => ?_, fun p hp => ?_, hok, I.len⟩
 ·exact keep b o (neL b o e) hb (neC b o e hx) (I.base.keep b o e n hb hx) (I.base.free b o e n hx)
 ·obtain ⟨sl, e1⟩ := I.base.slot b o e n hb hx
  obtain ⟨sl', e2⟩ := slot b _ (neL b o e) hb (neC b o e hx) e1 (I.base.free b o e n hx)
  exact ⟨sl', e2⟩
 ·obtain ⟨o', e1⟩ := I.base.there b o e hx
  exact free b o' (neC b o e hx) e1 (I.base.free b o e n hx)
 ·obtain ⟨o', e1⟩ := I.base.there b o e hx
  exact there b o' (neC b o e hx) e1
 ·obtain ⟨m1, e1⟩ := I.base.tbls b ps e
  obtain ⟨m2, e2⟩ := tbls b _ e1
  exact ⟨m1 ++ m2, by rw [e2, Array.append_assoc]⟩
 ·obtain ⟨m, hn, hl⟩ := I.loc
  refine ⟨m, ns m hn, fun i x v e1 e2 e3 => ?_⟩
  obtain ⟨u, r, l⟩ := hl i x v e1 e2 e3
  refine ⟨u, r, ?_⟩
  rcases l with l | ⟨k, c, e, z⟩
  ·exact .inl l
  ·exact .inr ⟨k, c, e, cellK x c e _ z⟩
 ·obtain ⟨v, z⟩ := I.cell x c e
  exact ⟨v, cellK x c e v z⟩
 ·obtain ⟨m, ⟨o, _, _, ho, _⟩, _⟩ := I.loc
  exact free _ o (fun z => (hch _ z).2.1 rfl) ho I.free
 ·obtain ⟨v, o, ho, hd⟩ := I.cell x c e
  exact free c o (fun z => (hch c z).2.2.1 x c e rfl) ho (I.freeC x c e)
 ·obtain ⟨e, n, ne, nf, d⟩ := I.pin p hp
  have nch : p.1 ∉ ch := fun z => (hch p.1 z).2.2.2 p hp rfl
  exact ⟨keep p.1 p.2 ne nf nch e n, free p.1 p.2 nch e n, ne, nf, d⟩
theorem aT.un {t' : Nat} (I : aT X pins σ H s) (u : Un X.fs [] H H' s.heap h') (hok : nR X.prog X.w H' h') : aT X pins σ H' { s with heap := h', toks := t' } := by
 obtain ⟨m, ⟨o, es, ep, ho, r⟩, _⟩ := id I.loc
 obtain ⟨sl, hL⟩ := u.any ho I.free (by simp)
 exact I.step (g' := s.gens) (d' := s.drawn) (ch := []) (fun _ z => nomatch z) (fun b o _ hb _ e n => u.keep b o e n hb (by simp)) (fun b o _ hb _ e n => u.slot b o e n hb (by simp)) (fun b o _ e n => u.free b o e n (by simp)) (fun b o _ e => u.there b o e (by simp)) u.tups u.frzs u.tbls (fun m' hm => by
  obtain ⟨o', es', ep', ho', r'⟩ := hm
  rw [ho] at ho'; cases ho'
  exact ⟨_, es', ep', hL, r'⟩) hok I.bare
theorem aT.call {g' : Array GenState} {t' : Nat} {d' : Drawn} {ch : List Addr} (I : aT X pins σ H s) (u : Un (yH X.stack) ch H H' s.heap h') (hok : nR X.prog X.w H' h') (hg : AllBare g')
  (hch : ∀ b ∈ ch, (b ∈ X.ex \/ X.s₀.heap.objs.size <= b) /\ b ≠ X.env.locals /\ (∀ x c, X.env.cells.lookup x = some c -> c ≠ b) /\ ∀ p ∈ X.pn ++ pins, p.1 ≠ b) :
  aT X pins σ H' { s with heap := h', gens := g', drawn := d', toks := t' } := by
 obtain ⟨m, ⟨o, es, ep, ho, r⟩, _⟩ := id I.loc
 obtain ⟨sl, hL⟩ := u.any ho I.free fun z => (hch _ z).2.1 rfl
 exact I.step (ch := ch) hch (fun b o hL hb hc e n => u.keep b o e n (fun z => (Jz.mp (I.stkSub b z)).elim hL hb) hc) (fun b o _ _ hc e n => u.any e n hc) (fun b o hc e n => u.free b o e n hc) (fun b o hc e => u.there b o e hc) u.tups u.frzs u.tbls (fun m' hm => by
  obtain ⟨o', es', ep', ho', r'⟩ := hm
  rw [ho] at ho'; cases ho'
  exact ⟨_, es', ep', hL, r'⟩) hok hg
theorem aT.turned {t' : Nat} {it : Addr} (I : aT X pins σ H s) (k : ∀ b o, b ≠ it -> s.heap.get? b = some o -> h'.get? b = some o) (hn : H it = none) (hL : it ≠ X.env.locals)
  (h1 : it ∈ X.ex \/ X.s₀.heap.objs.size <= it) (h2 : ∀ x c, X.env.cells.lookup x = some c -> c ≠ it) (h3 : ∀ p ∈ X.pn ++ pins, p.1 ≠ it) : aT X pins σ H { s with heap := h', toks := t' } := by
 have nit : ∀ b u, H b = some u -> b ≠ it := fun b u e z => by rw [z, hn] at e; cases e
 refine I.step (g' := s.gens) (d' := s.drawn) (ch := [it]) (fun b hb => ?_) (fun b o _ _ hc e _ => k b o (fun z => hc (by simp [z])) e) (fun b o _ _ hc e _ => ⟨o.slots, k b o (fun z => hc (by simp [z])) e⟩) (fun _ _ _ _ n => n)
  (fun b o hc e => ⟨o, k b o (fun z => hc (by simp [z])) e⟩) (fun _ _ e => e) (fun _ _ _ e => e) (fun b ps e => ⟨#[], by rw [e]; simp⟩) (fun m hm => ?_) (fun b u e => ?_) I.bare
 ·have e : b = it := by simpa using hb
  subst e
  exact ⟨h1, hL, h2, h3⟩
 ·obtain ⟨o, es, ep, ho, r⟩ := hm
  exact ⟨o, es, ep, k _ o (JA hL) ho, r⟩
 ·refine (I.hok b u e).stay (fun c v hc q => k c v ?_ q) (fun _ q => q) fun _ _ q => q
  rcases hc with z | z
  ·rw [z]; exact nit b u e
  ·exact nit c _ z
theorem aT.tok (I : aT X pins σ H s) (t : Nat) : aT X pins σ H { s with toks := t } := I.un (h' := s.heap) (t' := t) Un.refl I.hok
theorem aT.kept {t' : Nat} (I : aT X pins σ H s) (k : ∀ b u, s.heap.get? b = some u -> h'.get? b = some u) : aT X pins σ H { s with heap := h', toks := t' } := I.un (Un.kept k) (I.hok.kept k)
theorem aT.laid {a : Addr} {o : HO} {t' : Nat} (I : aT X pins σ H s) (k : ∀ b u, s.heap.get? b = some u -> h'.get? b = some u) (hp : s.heap.objs.size <= a) (new : fk X.prog X.w (cM H a o) h' a o) :
  aT X pins σ (cM H a o) { s with heap := h', toks := t' } := I.un (Un.laid k hp (I.hok.fresh hp)) (I.hok.laid k hp new)
theorem aT.write {x e : Addr} {o : HO} {t' : Nat} (I : aT X pins σ H s) (mu : HH (H x)) (he : e = x \/ H e = some (.own x)) (k : ∀ b u, b ≠ e -> s.heap.get? b = some u -> h'.get? b = some u) (heo : ∃ u, h'.get? e = some u)
  (new : fk X.prog X.w (cM H x o) h' x o) : aT X pins σ (cM H x o) { s with heap := h', toks := t' } := I.un (Un.write mu he k heo) (I.hok.write mu he k heo new)
theorem aT.pins_of {pins' : List (Addr × Obj)} (I : aT X pins σ H s) (h : ∀ p ∈ pins', s.heap.get? p.1 = some p.2 /\ H p.1 = none /\ p.1 ≠ X.env.locals /\ p.1 ∉ X.fs /\ ∀ v, p.2.data ≠ .cell v) : aT X pins' σ H s :=
 ⟨I.ok, I.os, I.bare, I.base, I.loc, I.cell, I.free, I.freeC, fun p hp => (JB.mp hp).elim (fun z => I.pin p (JC _ z)) (h p), I.hok, I.len⟩
theorem ua {N : List Str} (hN : N.Nodup) {i j : Nat} {x : Str} (a : N[i]? = some x) (b : N[j]? = some x) : i = j := by
 obtain ⟨h1, e1⟩ := JD.mp a
 obtain ⟨h2, e2⟩ := JD.mp b
 exact (JE hN).mp (e1.trans e2.symm)
theorem qw {M : Model} {A : Around} {E : Value -> Shared -> Prop} {i : Nat} {x : Str} {v : V} {u : Value} {Q : Unit -> Shared -> Prop} (I : aT X pins σ H s) (hN : X.N.Nodup) (hi : X.N[i]? = some x) (hx : Dp X.env.scope x) (r : cz v u)
  (h : ∀ s', aT X pins (σ.set i (some v)) H s' -> (∃ a, Heap.SameBut a s.heap s'.heap /\ (a = X.env.locals \/ X.env.cells.lookup x = some a)) -> Q () s') (hf : X.fn x = true \/ X.env.scope.names.lookup x = some .local := by first | exact .inl rfl | exact .inr rfl | assumption) : wpAny M A (storeName X.env x u) Q E s := by
 obtain ⟨m, hn, hl⟩ := id I.loc
 have hcls : (X.env.scope.kind == .class || (X.env.scope.kind == .module && X.env.locals != X.env.globals)) = false := by rw [I.ok.kind]; rfl
 have hiσ : i < σ.length := by rw [I.len]; exact (JD.mp hi).1
 have cne := I.cne
 have tracked : ∀ {a : Addr} {h' : Heap}, (∃ o, s.heap.get? a = some o /\ H a = none) -> Heap.SameBut a s.heap h' -> nR X.prog X.w H h' := fun {a h'} ha hs b ob e => by
  obtain ⟨_, _, hfree⟩ := ha
  refine (I.hok b ob e).stay (fun c w' hc q => (hs.2 c ?_).trans q) (fun _ q => q) fun _ _ q => q
  rintro rfl
  rcases hc with rfl | hc
  ·rw [hfree] at e; cases e
  ·rw [hfree] at hc; cases hc
 rcases hx with hk | hk
 ·refine wpAny_storeName_local hk hn (fun h' hn' hs => ?_) hcls
  obtain ⟨oL, _, _, hoL, _⟩ := id hn
  refine h _ ⟨I.ok, I.os, I.bare, ⟨fun b o e n hb hx => ?_, fun b o e n hb hx => ?_, I.base.free, fun b o e hx => ?_, I.base.tups, I.base.frzs, I.base.tbls⟩, ⟨_, hn', fun j y v' e1 e2 e3 => ?_⟩, fun y c e => ?_, I.free, I.freeC, fun p hp => ?_, tracked ⟨oL, hoL, I.free⟩ hs, by simpa using I.len⟩ ⟨_, hs, .inl rfl⟩
  ·exact (hs.2 b (Jr (Jp (Jo e) I.ok.above))).trans (I.base.keep b o e n hb hx)
  ·obtain ⟨sl, e1⟩ := I.base.slot b o e n hb hx
   exact ⟨sl, (hs.2 b (Jr (Jp (Jo e) I.ok.above))).trans e1⟩
  ·obtain ⟨o', e1⟩ := I.base.there b o e hx
   exact ⟨o', (hs.2 b (Jr (Jp (Jo e) I.ok.above))).trans e1⟩
  ·by_cases hj : j = i
   ·subst hj
    rw [hi] at e1; cases e1
    rw [JF hiσ] at e2
    cases e2
    exact ⟨u, r, .inl ⟨hk, by simp⟩⟩
   ·rw [JG (JA hj)] at e2
    obtain ⟨u', r', q⟩ := hl j y v' e1 e2 e3
    refine ⟨u', r', ?_⟩
    rcases q with ⟨k, e⟩ | ⟨k, c, e, z⟩
    ·refine .inl ⟨k, ?_⟩
     have : y ≠ x := fun e => hj (ua hN e1 (e ▸ hi))
     simp [this, e]
    ·exact .inr ⟨k, c, e, z.sameBut hs (cne y c e)⟩
  ·obtain ⟨w', z⟩ := I.cell y c e
   exact ⟨w', z.sameBut hs (cne y c e)⟩
  ·obtain ⟨e, n, ne, nf, d⟩ := I.pin p hp
   exact ⟨(hs.2 p.1 ne).trans e, n, ne, nf, d⟩
 ·have hfn : X.fn x = true := by
   rcases hf with z | z
   ·exact z
   ·rw [z] at hk; cases hk
  obtain ⟨c, hc⟩ := I.ok.has x (.inl hk)
  obtain ⟨w', z⟩ := I.cell x c hc
  refine wpAny_storeName_cell I.ok.kind hk hc z (fun h' hc' hs => ?_)
  obtain ⟨oc, hoc, hocd⟩ := id z
  refine h { s with heap := h' } ⟨I.ok, I.os, I.bare, ⟨fun b o e n hb hx => ?_, fun b o e n hb hx => ?_, I.base.free, fun b o e hx => ?_, I.base.tups, I.base.frzs, I.base.tbls⟩, ⟨m, hn.sameBut hs (JA (cne x c hc)), fun j y v' e1 e2 e3 => ?_⟩, fun y c' e => ?_, I.free, I.freeC, fun p hp => ?_, tracked ⟨oc, hoc, I.freeC x c hc⟩ hs, by simpa using I.len⟩ ⟨c, hs, .inr hc⟩
  ·exact (hs.2 b (Jr (Jp (Jo e) (I.ok.cab x c hfn hc)))).trans (I.base.keep b o e n hb hx)
  ·obtain ⟨sl, e1⟩ := I.base.slot b o e n hb hx
   exact ⟨sl, (hs.2 b (Jr (Jp (Jo e) (I.ok.cab x c hfn hc)))).trans e1⟩
  ·obtain ⟨o', e1⟩ := I.base.there b o e hx
   exact ⟨o', (hs.2 b (Jr (Jp (Jo e) (I.ok.cab x c hfn hc)))).trans e1⟩
  ·by_cases hj : j = i
   ·subst hj
    rw [hi] at e1; cases e1
    rw [JF hiσ] at e2
    cases e2
    exact ⟨u, r, .inr ⟨.inl hk, c, hc, hc'⟩⟩
   ·rw [JG (JA hj)] at e2
    obtain ⟨u', r', q⟩ := hl j y v' e1 e2 e3
    refine ⟨u', r', ?_⟩
    rcases q with q | ⟨k, c', e, z'⟩
    ·exact .inl q
    ·refine .inr ⟨k, c', e, z'.sameBut hs ?_⟩
     rintro rfl
     exact hj (ua hN e1 (I.ok.inj _ _ _ e hc ▸ hi))
  ·by_cases hcc : c' = c
   ·subst hcc; exact ⟨_, hc'⟩
   ·obtain ⟨w2, z2⟩ := I.cell y c' e
    exact ⟨w2, z2.sameBut hs hcc⟩
  ·obtain ⟨e, n, ne, nf, d⟩ := I.pin p hp
   refine ⟨(hs.2 p.1 ?_).trans e, n, ne, nf, d⟩
   intro q
   rw [q, hoc] at e
   have q' : oc = p.2 := Jn e
   exact d w' (by rw [<- q']; exact hocd)
theorem tQ {M : Model} {A : Around} {E : Value -> Shared -> Prop} {i : Nat} {x : Str} {v : V} {u : Value} {Q : Unit -> Shared -> Prop} (I : aT X pins σ H s) (hN : X.N.Nodup) (hi : X.N[i]? = some x) (hx : Dp X.env.scope x) (r : cz v u)
  (h : ∀ s', aT X pins (σ.set i (some v)) H s' -> Q () s') (hf : X.fn x = true \/ X.env.scope.names.lookup x = some .local := by first | exact .inl rfl | exact .inr rfl | assumption) : wpAny M A (storeName X.env x u) Q E s :=
 qw I hN hi hx r (fun s' I' _ => h s' I') hf
theorem aT.call' {s' : Shared} {ch : List Addr} (I : aT X pins σ H s) (ho : s'.os = s.os) (u : Un (yH X.stack) ch H H' s.heap s'.heap) (hok : nR X.prog X.w H' s'.heap) (hg : AllBare s'.gens)
  (hch : ∀ b ∈ ch, (b ∈ X.ex \/ X.s₀.heap.objs.size <= b) /\ b ≠ X.env.locals /\ (∀ x c, X.env.cells.lookup x = some c -> c ≠ b) /\ ∀ p ∈ X.pn ++ pins, p.1 ≠ b) : aT X pins σ H' s' := by
 obtain ⟨h', g', d', t', o'⟩ := s'
 have e : o' = s.os := ho
 subst e
 exact I.call (g' := g') (t' := t') (d' := d') u hok hg hch
end
abbrev XK := Value -> Option Addr -> Hp -> Prop
abbrev St := List (Option V)
abbrev VK := V -> Hp -> Prop
abbrev TE := St -> Hp -> VK -> Prop
abbrev TT := St -> Hp -> (Bool -> Hp -> Prop) -> Prop
abbrev TA := St -> Hp -> (List V -> Hp -> Prop) -> Prop
structure nX where
 nx : St -> Hp -> Prop
 rt : VK
 bk : St -> Hp -> Prop := fun _ _ => False
 ct : St -> Hp -> Prop := fun _ _ => False
abbrev TS := nX -> St -> Hp -> Prop
def EP (X : Cx) (pins : List (Addr × Obj)) (σ : St) (Q : VK) (u : Value) (s' : Shared) : Prop := ∃ v H', aT X pins σ H' s' /\ cz v u /\ Q v H'
def TP (X : Cx) (pins : List (Addr × Obj)) (σ : St) (Q : Bool -> Hp -> Prop) (b : Bool) (s' : Shared) : Prop := ∃ H', aT X pins σ H' s' /\ Q b H'
def AP (X : Cx) (pins : List (Addr × Obj)) (σ : St) (Q : List V -> Hp -> Prop) (us : List Value) (s' : Shared) : Prop := ∃ vs H', aT X pins σ H' s' /\ bb vs us /\ Q vs H'
def SP (X : Cx) (pins : List (Addr × Obj)) (D : nX) (f : Flow) (s' : Shared) : Prop :=
 match f with
 | .next => ∃ σ' H', aT X pins σ' H' s' /\ D.nx σ' H'
 | .brk => ∃ σ' H', aT X pins σ' H' s' /\ D.bk σ' H'
 | .cont => ∃ σ' H', aT X pins σ' H' s' /\ D.ct σ' H'
 | .ret u => ∃ v σ' H', aT X pins σ' H' s' /\ cz v u /\ D.rt v H'
def PE (X : Cx) (e : Expr) (t : TE) : Prop :=
 ∀ (pins : List (Addr × Obj)) (s : Shared) (σ : St) (H : Hp) (Q : VK), aT X pins σ H s -> t σ H Q -> wpAny (model X.prog X.w) X.A (eval e X.env) (EP X pins σ Q) X.xe s
def PT (X : Cx) (e : Expr) (t : TT) : Prop :=
 ∀ (pins : List (Addr × Obj)) (s : Shared) (σ : St) (H : Hp) (Q : Bool -> Hp -> Prop), aT X pins σ H s -> t σ H Q -> wpAny (model X.prog X.w) X.A (isTrue e X.env (eval e X.env)) (TP X pins σ Q) X.xe s
def PW (X : Cx) (e : Expr) (t : TT) : Prop :=
 ∀ (whole : Sem Value) (pins : List (Addr × Obj)) (s : Shared) (σ : St) (H : Hp) (Q : Bool -> Hp -> Prop), aT X pins σ H s -> t σ H Q -> wpAny (model X.prog X.w) X.A (isTrue e X.env whole) (TP X pins σ Q) X.xe s
theorem PW.pt {X : Cx} {e : Expr} {t : TT} (h : PW X e t) : PT X e t := h _
def PA (X : Cx) (es : List Expr) (t : TA) : Prop :=
 ∀ (pos : Pos) (pins : List (Addr × Obj)) (s : Shared) (σ : St) (H : Hp) (Q : List V -> Hp -> Prop), aT X pins σ H s -> t σ H Q -> wpAny (model X.prog X.w) X.A (spliced (backTo pos (starEach es X.env))) (AP X pins σ Q) X.xe s
def PS (X : Cx) (st : Stmt) (t : TS) : Prop :=
 ∀ (pins : List (Addr × Obj)) (s : Shared) (σ : St) (H : Hp) (D : nX), aT X pins σ H s -> t D σ H -> wpAny (model X.prog X.w) X.A (exec st X.env) (SP X pins D) X.xe s
def kO (X : Cx) (st : List Stmt) (t : TS) : Prop :=
 ∀ (pins : List (Addr × Obj)) (s : Shared) (σ : St) (H : Hp) (D : nX), aT X pins σ H s -> t D σ H -> wpAny (model X.prog X.w) X.A (execs st X.env) (SP X pins D) X.xe s
theorem dY {α : Type} {t : Sem α} {Q Q' : α -> Shared -> Prop} {M : Model} {A : Around} {E : Value -> Shared -> Prop} {s : Shared} (h : wpAny M A t Q E s) (hQ : ∀ a s, Q a s -> Q' a s) : wpAny M A t Q' E s := JH h hQ fun _ _ x => x
end L2
namespace L2
open PySem PySem.Spec PyProof.Rows
section
variable {X : Cx}
def Gm (i : Nat) : TE := fun σ H Q => ∃ v, σ[i]? = some (some v) /\ Q v H
def tC (v : V) : TE := fun _ H Q => Q v H
theorem EY {i : Nat} {x : Str} {pos : Pos} (hN : X.N[i]? = some x) (hv : HQ X.env.scope x) (hd : (x == ("__debug__" : Str)) = false := by decide) (hcd : (x == ("__classdict__" : Str)) = false := by decide) : PE X (.Name x pos) (Gm i) := by
 intro pins s σ H Q I h
 obtain ⟨v, e, h⟩ := h
 obtain ⟨m, hn, hl⟩ := I.loc
 obtain ⟨u, r, l⟩ := hl i x v hN e hv
 have fin : EP X pins σ Q u s := ⟨v, H, I, r, h⟩
 rcases l with ⟨hk, hm⟩ | ⟨hk, c, hc, hcell⟩
 ·exact wpAny_Name (wpAny_loadName_local I.ok.kind hk hn hm fin) hd
 ·rcases hk with hk | hk
  ·exact wpAny_Name (wpAny_loadName_cell I.ok.kind hk hc hcell fin) hd
  ·exact wpAny_Name (wpAny_loadName_free I.ok.kind hk hc hcell fin hcd) hd
theorem E6 {i j pos} : PE X (.Constant (.int i) j pos) (tC (.int i)) := fun _ _ _ H _ I h => wpAny_Constant_int ⟨.int i, H, I.tok _, ⟨_, rfl⟩, h⟩
theorem Hh {b j pos} : PE X (.Constant (.bool b) j pos) (tC (.bl b)) := fun _ _ _ H _ I h => Constant_bool ⟨.bl b, H, I, rfl, h⟩
theorem zC {j pos} : PE X (.Constant .none j pos) (tC .non) := fun _ _ _ H _ I h => Constant_none ⟨.non, H, I, rfl, h⟩
theorem E1 {x j pos} : PE X (.Constant (.str x) j pos) (tC (.str x)) := fun _ _ _ H _ I h => Calls.Constant_str ⟨.str x, H, I.tok _, ⟨_, rfl⟩, h⟩
def Gl (X : Cx) (x : Str) : Prop := X.env.kindOf x = some .globalImplicit
theorem wM {E : Value -> Shared -> Prop} {pins : List (Addr × Obj)} {s : Shared} {σ : St} {H : Hp} {x : Str} {u : Value} {pos : Pos} {Q : Value -> Shared -> Prop} (I : aT X pins σ H s) (hg : Gl X x) (hm : X.mg x = some u) (h : Q u s)
  (hd : (x == ("__debug__" : Str)) = false := by decide) : wpAny (model X.prog X.w) X.A (eval (.Name x pos) X.env) Q E s :=
 Calls.Name_function_global I.ok.kind hg (Calls.loadGlobal_global (by rw [I.ok.glob]; exact I.mod.glob.keeps I.bk) hm h) hd
theorem j6 {E : Value -> Shared -> Prop} {pins : List (Addr × Obj)} {s : Shared} {σ : St} {H : Hp} {x : Str} {u : Value} {pos : Pos} {Q : Value -> Shared -> Prop} (I : aT X pins σ H s) (hg : Gl X x) (hm : X.mg x = none) (hv : bootBuiltins x = some u) (h : Q u s)
  (hn : x ≠ "__name__" := by decide) (hd : (x == ("__debug__" : Str)) = false := by decide) : wpAny (model X.prog X.w) X.A (eval (.Name x pos) X.env) Q E s := by
 obtain ⟨mb, h1, h2⟩ := I.mod.blt
 exact Calls.Name_function_global I.ok.kind hg (Calls.loadGlobal_builtin (by rw [I.ok.glob]; exact I.mod.glob.keeps I.bk) hm (by rw [I.ok.blt]; exact h1.keeps I.bk) ((h2 x hn).trans hv) h) hd
theorem Ct {x : Str} {v : V} {u : Value} {pos : Pos} (hg : Gl X x) (hm : X.mg x = some u) (r : cz v u) (hd : (x == ("__debug__" : Str)) = false := by decide) : PE X (.Name x pos) (tC v) :=
 fun _ _ _ H _ I h => wM I hg hm ⟨v, H, I, r, h⟩ hd
theorem Cz {x : Str} {v : V} {u : Value} {pos : Pos} (hg : Gl X x) (hm : X.mg x = none) (hv : bootBuiltins x = some u) (r : cz v u) (hn : x ≠ "__name__" := by decide) (hd : (x == ("__debug__" : Str)) = false := by decide) : PE X (.Name x pos) (tC v) :=
 fun _ _ _ H _ I h => j6 I hg hm hv ⟨v, H, I, r, h⟩ hn hd
variable {a b : Expr} {ta tb : TE} {pos : Pos}
variable {tA tB' : TT} {rest : List Expr}
def Ij (t u : TT) : TT := fun σ H Q => t σ H fun c H1 => if c = true then u σ H1 Q else Q false H1
def I0 (t u : TT) : TT := fun σ H Q => t σ H fun c H1 => if c = true then Q true H1 else u σ H1 Q
def Ic (t : TT) : TT := fun σ H Q => t σ H fun c H1 => Q (!c) H1
theorem Cd (ha : PT X a tA) : PW X (.BoolOp .And [a] pos) tA := by
 intro wh pins s σ H Q I h
 refine isTrue_and (dY (ha pins s σ H Q I h) fun c s1 e => ?_)
 cases c with
 | true => exact isTrue_and_nil e
 | false => exact e
theorem EM (ha : PT X a tA) : PW X (.BoolOp .Or [a] pos) tA := by
 intro wh pins s σ H Q I h
 refine isTrue_or (dY (ha pins s σ H Q I h) fun c s1 e => ?_)
 cases c with
 | false => exact isTrue_or_nil e
 | true => exact e
theorem EN (ha : PT X a tA) (hb : PW X (.BoolOp .And (b :: rest) pos) tB') : PW X (.BoolOp .And (a :: b :: rest) pos) (Ij tA tB') := by
 intro wh pins s σ H Q I h
 refine isTrue_and (dY (ha pins s σ H _ I h) fun c s1 ⟨H1, I1, q1⟩ => ?_)
 cases c with
 | true => exact hb wh pins s1 σ H1 Q I1 q1
 | false => exact ⟨H1, I1, q1⟩
theorem Hb (ha : PT X a tA) (hb : PW X (.BoolOp .Or (b :: rest) pos) tB') : PW X (.BoolOp .Or (a :: b :: rest) pos) (I0 tA tB') := by
 intro wh pins s σ H Q I h
 refine isTrue_or (dY (ha pins s σ H _ I h) fun c s1 ⟨H1, I1, q1⟩ => ?_)
 cases c with
 | true => exact ⟨H1, I1, q1⟩
 | false => exact hb wh pins s1 σ H1 Q I1 q1
theorem EO (ha : PT X a tA) : PT X (.UnaryOp .Not a pos) (Ic tA) := by
 intro pins s σ H Q I h
 exact isTrue_not (ha pins s σ H (fun c H1 => Q (!c) H1) I h)
def GZ (ta tb : TE) : TE := fun σ H Q => ta σ H fun x H1 => ∃ c, x = .bl c /\ if c = true then tb σ H1 Q else Q (.bl false) H1
def GT (ta : TE) : TE := fun σ H Q => ta σ H fun x H1 => ∃ c, x = .bl c /\ Q (.bl (!c)) H1
theorem E3 {op} {t : TE} (h : PE X a t) : PE X (.BoolOp op [a] pos) t := fun pins s σ H Q I hw => BoolOp_one (h pins s σ H Q I hw)
theorem E7 (ha : PE X a ta) (hb : PE X (.BoolOp .And (b :: rest) pos) tb) : PE X (.BoolOp .And (a :: b :: rest) pos) (GZ ta tb) := by
 intro pins s σ H Q I h
 refine BoolOp_and (dY (ha pins s σ H _ I h) fun v s1 ⟨x, H1, I1, r1, q1⟩ => ?_)
 obtain ⟨c, rfl, q1⟩ := q1
 cases r1
 refine JI ?_
 cases c with
 | true => exact hb pins s1 σ H1 Q I1 q1
 | false => exact ⟨.bl false, H1, I1, rfl, q1⟩
theorem E4 (ha : PE X a ta) : PE X (.UnaryOp .Not a pos) (GT ta) := by
 intro pins s σ H Q I h
 refine UnaryOp_ (dY (ha pins s σ H _ I h) fun v s1 ⟨x, H1, I1, r1, q1⟩ => ?_)
 obtain ⟨c, rfl, q1⟩ := q1
 cases r1
 exact not_of (JI ⟨.bl (!c), H1, I1, rfl, q1⟩)
def Ja (t : TT) (ta tb : TE) : TE := fun σ H Q => t σ H fun c H1 => if c = true then ta σ H1 Q else tb σ H1 Q
theorem AB {c : Expr} (hc : PT X c tA) (ha : PE X a ta) (hb : PE X b tb) : PE X (.IfExp c a b pos) (Ja tA ta tb) := by
 intro pins s σ H Q I h
 refine wpAny_IfExp (dY (hc pins s σ H _ I h) fun d s1 ⟨H1, I1, q1⟩ => ?_)
 cases d with
 | true => exact ha pins s1 σ H1 Q I1 q1
 | false => exact hb pins s1 σ H1 Q I1 q1
end
end L2
namespace L2
open PySem PySem.Spec PyProof.Rows
def fw (K : W.Frag) (H : Hp) (a : Addr) (xs : List V) : Prop :=
 Rd H a (.lst xs) \/
  ∃ (o : Obj) (its : Array Value) (n : Nat), K.lookup a = some o /\ o.cls = .type "list" /\ o.dict = none /\ o.data = .seq its n /\ its.size <= sizeLine /\ bb xs its.toList
def fW (K : W.Frag) (H : Hp) (a : Addr) (xs : List V) : Prop :=
 Rd H a (.tup xs) \/
  ∃ (o : Obj) (its : Array Value) (n : Nat), K.lookup a = some o /\ o.cls = .type "tuple" /\ o.data = .seq its n /\ its.size <= sizeLine /\ bb xs its.toList
def IG : Value -> Option V
 | .none => some .non
 | .bool b => some (.bl b)
 | .int i _ => some (.int i)
 | .str x _ => some (.str x)
 | .bytes b _ => some (.byt b)
 | .float b _ => some (.flt b)
 | .ref a => some (.ref a)
 | .type n => some (.ty n)
 | _ => none
theorem cz.abs {x : V} {u : Value} (r : cz x u) : IG u = some x := by
 cases x with
 | non => cases r; rfl
 | bl _ => cases r; rfl
 | int _ => obtain ⟨t, rfl⟩ := r; rfl
 | str _ => obtain ⟨t, rfl⟩ := r; rfl
 | byt _ => obtain ⟨t, rfl⟩ := r; rfl
 | flt _ => obtain ⟨t, rfl⟩ := r; rfl
 | ref _ => cases r; rfl
 | ty _ => cases r; rfl
theorem cz.inj {x y : V} {u : Value} (r : cz x u) (q : cz y u) : x = y := Jn (r.abs.symm.trans q.abs)
theorem bb.inj : ∀ {xs ys : List V} {us : List Value}, bb xs us -> bb ys us -> xs = ys
 | _, _, _, .nil, .nil => rfl
 | _, _, _, .cons r t, .cons r' t' => by rw [r.inj r', bb.inj t t']
section
variable {X : Cx} {pins : List (Addr × Obj)} {σ : St} {H : Hp} {s : Shared} {a : Addr} {xs ys : List V}
theorem fw.of {K : W.Frag} (h : H a = some (.lst xs)) : fw K H a xs := .inl (.inl h)
theorem fW.of {K : W.Frag} (h : H a = some (.tup xs)) : fW K H a xs := .inl (.inl h)
theorem aT.list (I : aT X pins σ H s) (h : fw X.K H a xs) : ∃ its : List Value, bb xs its /\ PlainL s.heap a its.toArray /\ xs.length <= sizeLine := by
 rcases h with h | ⟨o, its, n, hk, hc, hd, hs, hz, r⟩
 ·obtain ⟨z, its, n, r, e⟩ := h.ok I.hok
  exact ⟨its, r, ⟨_, n, e, rfl, rfl, rfl⟩, z⟩
 ·refine ⟨its.toList, r, ⟨o, n, I.kIn a o hk, hc, hd, by simpa using hs⟩, ?_⟩
  have e := r.length
  simp only [JJ] at e
  omega
theorem aT.tuple (I : aT X pins σ H s) (h : fW X.K H a xs) : ∃ its : List Value, bb xs its /\ IsTup s.heap a its.toArray /\ xs.length <= sizeLine := by
 rcases h with h | ⟨o, its, n, hk, hc, hs, hz, r⟩
 ·obtain ⟨z, its, r, p⟩ := h.ok I.hok
  exact ⟨its, r, p, z⟩
 ·refine ⟨its.toList, r, ⟨o, I.kIn a o hk, hc, n, by simpa using hs⟩, ?_⟩
  have e := r.length
  simp only [JJ] at e
  omega
theorem aT.list_inj (I : aT X pins σ H s) (h : fw X.K H a xs) (h' : fw X.K H a ys) : xs = ys := by
 obtain ⟨its, r, ⟨o, n, e, _, _, d⟩, _⟩ := I.list h
 obtain ⟨its', r', ⟨o', n', e', _, _, d'⟩, _⟩ := I.list h'
 rw [e] at e'; cases e'
 rw [d] at d'
 injection d' with d1 _
 have : its = its' := by simpa using JK Array.toList d1
 subst this
 exact r.inj r'
theorem aT.tuple_inj (I : aT X pins σ H s) (h : fW X.K H a xs) (h' : fW X.K H a ys) : xs = ys := by
 obtain ⟨its, r, ⟨o, e, _, n, d⟩, _⟩ := I.tuple h
 obtain ⟨its', r', ⟨o', e', _, n', d'⟩, _⟩ := I.tuple h'
 rw [e] at e'; cases e'
 rw [d] at d'
 injection d' with d1 _
 have : its = its' := by simpa using JK Array.toList d1
 subst this
 exact r.inj r'
end
abbrev Cx.wish (X : Cx) (E : Value -> Shared -> Prop) : Cx := { X with xe := E }
abbrev Cx.nox (X : Cx) : Cx := X.wish fun _ _ => False
theorem Cx.Ok.wish {X : Cx} (ok : X.Ok) (E : Value -> Shared -> Prop) : (X.wish E).Ok :=
 ⟨ok.mod, ok.kind, ok.glob, ok.blt, ok.above, ok.inj, ok.has, ok.cab, ok.hd, ok.frames, ok.stk, ok.exf, ok.bs, ok.bsz, ok.noex, ok.exfs, ok.funs, ok.frf⟩
theorem Cx.Ok.unwish {X : Cx} {E : Value -> Shared -> Prop} (ok : (X.wish E).Ok) : X.Ok :=
 ⟨ok.mod, ok.kind, ok.glob, ok.blt, ok.above, ok.inj, ok.has, ok.cab, ok.hd, ok.frames, ok.stk, ok.exf, ok.bs, ok.bsz, ok.noex, ok.exfs, ok.funs, ok.frf⟩
section
variable {X : Cx} {pins : List (Addr × Obj)} {σ : St} {H : Hp} {s : Shared} {E : Value -> Shared -> Prop}
theorem aT.wish (I : aT X pins σ H s) (E : Value -> Shared -> Prop) : aT (X.wish E) pins σ H s := ⟨I.ok.wish E, I.os, I.bare, I.base, I.loc, I.cell, I.free, I.freeC, I.pin, I.hok, I.len⟩
theorem aT.unwish (I : aT (X.wish E) pins σ H s) : aT X pins σ H s := ⟨I.ok.unwish, I.os, I.bare, I.base, I.loc, I.cell, I.free, I.freeC, I.pin, I.hok, I.len⟩
theorem SP.unwish {D : nX} {f : Flow} {s' : Shared} (h : SP (X.wish E) pins D f s') : SP X pins D f s' := by
 cases f with
 | next => obtain ⟨σ', H', I, q⟩ := h; exact ⟨σ', H', I.unwish, q⟩
 | brk => obtain ⟨σ', H', I, q⟩ := h; exact ⟨σ', H', I.unwish, q⟩
 | cont => obtain ⟨σ', H', I, q⟩ := h; exact ⟨σ', H', I.unwish, q⟩
 | ret u => obtain ⟨v, σ', H', I, r, q⟩ := h; exact ⟨v, σ', H', I.unwish, r, q⟩
theorem kO.nox {st : List Stmt} {t : TS} (h : kO X.nox st t) : kO X st t := fun pins s σ H D I hw =>
 JH (h pins s σ H D (I.wish _) hw) (fun _ _ q => q.unwish) fun _ _ z => False.elim z
end
section
variable {X : Cx} {st : Stmt} {rest : List Stmt} {t u : TS} {e : Expr} {te : TE} {pos : Pos}
def GU : TS := fun D σ H => D.nx σ H
def HY (t u : TS) : TS := fun D σ H => t { D with nx := u D } σ H
theorem Cj : kO X [] GU := fun _ _ σ H _ I h => JL ⟨σ, H, I, h⟩
theorem Av (h1 : PS X st t) (h2 : kO X rest u) : kO X (st :: rest) (HY t u) := by
 intro pins s σ H D I h
 refine wpAny_execs_cons (dY (h1 pins s σ H { D with nx := u D } I h) fun f s1 q => ?_)
 cases f with
 | next =>
  obtain ⟨σ', H', I', q⟩ := q
  exact h2 pins s1 σ' H' D I' q
 | ret v => exact q
 | brk => exact q
 | cont => exact q
theorem Ci (h1 : PS X st t) : kO X [st] t := by
 intro pins s σ H D I h
 refine wpAny_execs_cons (dY (h1 pins s σ H D I h) fun f s1 q => ?_)
 cases f with
 | next => exact JL q
 | ret v => exact q
 | brk => exact q
 | cont => exact q
theorem aT.quiet {pins : List (Addr × Obj)} {σ : St} {H : Hp} {s : Shared} (I : aT X pins σ H s) : interactive X.env = false := by simp [interactive, I.ok.kind]
def GV (te : TE) : TS := fun D σ H => te σ H fun _ H1 => D.nx σ H1
theorem Cm (he : PE X e te) (hs : swapsWith e none pos.line X.env = pure false := by rfl) : PS X (.Expr e pos) (GV te) := by
 intro pins s σ H D I h
 exact wpAny_Expr_any (dY (he pins s σ H _ I h) fun v s1 ⟨x, H1, I1, r1, q1⟩ => ⟨σ, H1, I1, q1⟩) I.quiet hs
def Ib (te : TE) : TS := fun D σ H => te σ H D.rt
theorem ES (he : PE X e te) : PS X (.Return (some e) pos) (Ib te) := by
 intro pins s σ H D I h
 exact wpAny_Return_some (dY (he pins s σ H _ I h) fun v s1 ⟨x, H1, I1, r1, q1⟩ => ⟨x, σ, H1, I1, r1, q1⟩)
def Ih (c : TT) (t u : TS) : TS := fun D σ H => c σ H fun b H1 => if b = true then t D σ H1 else u D σ H1
theorem Hc {c : Expr} {a b : List Stmt} {tc : TT} (hc : PT X c tc) (ha : kO X a t) (hb : kO X b u) : PS X (.If c a b pos) (Ih tc t u) := by
 intro pins s σ H D I h
 refine wpAny_If (dY (hc pins s σ H _ I h) fun d s1 ⟨H1, I1, q1⟩ => ?_)
 cases d with
 | true => exact ha pins s1 σ H1 D I1 q1
 | false => exact hb pins s1 σ H1 D I1 q1
def Eg : TS := fun _ _ _ => False
theorem Aw : PS X st Eg := fun _ _ _ _ _ _ h => h.elim
end
abbrev TG := V -> St -> Hp -> (St -> Hp -> Prop) -> Prop
abbrev Bl := List V -> St -> Hp -> (St -> Hp -> Prop) -> Prop
def PG (X : Cx) (target : Expr) (t : TG) : Prop :=
 ∀ (pins : List (Addr × Obj)) (s : Shared) (σ : St) (H : Hp) (v : V) (u : Value) (Q : St -> Hp -> Prop), aT X pins σ H s -> cz v u -> t v σ H Q ->
  wpAny (model X.prog X.w) X.A (assign target X.env u) (fun _ s' => ∃ σ' H', aT X pins σ' H' s' /\ Q σ' H') X.xe s
def uV (X : Cx) (ts : List Expr) (t : Bl) : Prop :=
 ∀ (pins : List (Addr × Obj)) (s : Shared) (σ : St) (H : Hp) (vs : List V) (us : List Value) (Q : St -> Hp -> Prop), aT X pins σ H s -> bb vs us -> t vs σ H Q ->
  wpAny (model X.prog X.w) X.A (assignInOrder ((assignEach ts X.env).map (·.2)) us) (fun _ s' => ∃ σ' H', aT X pins σ' H' s' /\ Q σ' H') X.xe s
abbrev D4 := V -> V -> V -> Hp -> (Hp -> Prop) -> Prop
def GH (X : Cx) (t : D4) : Prop :=
 ∀ (pins : List (Addr × Obj)) (s : Shared) (σ : St) (H : Hp) (o i v : V) (ov iv u : Value) (Q : Hp -> Prop), aT X pins σ H s -> cz o ov -> cz i iv -> cz v u -> t o i v H Q ->
  wpAny (model X.prog X.w) X.A (setItem ov iv u) (fun _ s' => ∃ H', aT X pins σ H' s' /\ Q H') X.xe s
section
variable {X : Cx} {pos : Pos}
def tE (i : Nat) : TG := fun v σ H Q => Q (σ.set i (some v)) H
theorem Cr {i : Nat} {x : Str} (hN : X.N.Nodup) (hi : X.N[i]? = some x) (hx : Dp X.env.scope x) (hf : X.fn x = true \/ X.env.scope.names.lookup x = some .local := by first | exact .inl rfl | exact .inr rfl | assumption) : PG X (.Name x pos) (tE i) := by
 intro pins s σ H v u Q I r h
 exact wpAny_assign_Name (tQ I hN hi hx r (fun s' I' => ⟨_, H, I', h⟩) hf)
def Iz : Bl := fun vs σ H Q => vs = [] /\ Q σ H
def Hr (t : TG) (u : Bl) : Bl := fun vs σ H Q => ∃ v r, vs = v :: r /\ t v σ H fun σ' H' => u r σ' H' Q
theorem Cq : uV X [] Iz := by
 intro pins s σ H vs us Q I r h
 obtain ⟨e, h⟩ := h
 subst e
 cases r
 exact assignInOrder_nil ⟨σ, H, I, h⟩
theorem Az {e : Expr} {es : List Expr} {t : TG} {u : Bl} (h1 : PG X e t) (h2 : uV X es u)
  (hs : (assignEach (e :: es) X.env).map (·.2) = assign e X.env :: (assignEach es X.env).map (·.2) := by rfl) : uV X (e :: es) (Hr t u) := by
 intro pins s σ H vs us Q I r h
 obtain ⟨v, vr, e1, h⟩ := h
 subst e1
 cases r with
 | cons r rr =>
  rw [hs]
  refine assignInOrder_cons (dY (h1 pins s σ H _ _ _ I r h) fun _ s1 ⟨σ1, H1, I1, q1⟩ => ?_)
  exact h2 pins s1 σ1 H1 _ _ Q I1 rr q1
def Iw (K : W.Frag) (n : Nat) (t : Bl) : TG := fun v σ H Q => ∃ a xs, v = .ref a /\ fW K H a xs /\ xs.length = n /\ t xs σ H Q
theorem EW {es : List Expr} {k : Nat} {t : Bl} {n : Nat} (hc : X.calm = true) (h : uV X es t)
  (hn : (assignEach es X.env).length = n := by rfl) (hst : (assignEach es X.env).findIdx? (·.1) = none := by rfl) : PG X (.Tuple es k pos) (Iw X.K n t) := by
 intro pins s σ H v u Q I r hw
 obtain ⟨a, xs, e1, hq, hl, hw⟩ := hw
 subst e1
 cases r
 obtain ⟨its, rv, ht, hz⟩ := I.tuple hq
 refine assign_Tuple_tuple (I.ok.hd hc) ht (by simp [hn, <- hl, rv.length]) hst fun h' hx => ?_
 have I1 : aT X pins σ H { s with heap := h' } := I.kept (t' := s.toks) fun b o e => hx b o (Jr (Jo e)) e
 exact h pins _ σ H xs _ Q I1 (by simpa using rv) hw
def Iy (to ti : TE) (t : D4) : TG := fun v σ H Q => to σ H fun o H1 => ti σ H1 fun i H2 => t o i v H2 fun H3 => Q σ H3
theorem EX {o i : Expr} {to ti : TE} {t : D4} (ho : PE X o to) (hi : PE X i ti) (hs : GH X t)
  (ha : ∀ v, assign (.Subscript o i pos) X.env v = (do
   let ov <- holding [v] (eval o X.env)
   let iv <- holding [v, ov] (eval i X.env)
   standAt pos
   holding [v, ov, iv] (setItem ov iv v)
   release [v, ov, iv] []) := by intro _; rfl) : PG X (.Subscript o i pos) (Iy to ti t) := by
 intro pins s σ H v u Q I r h
 rw [ha]
 refine JM (JN (dY (ho pins s σ H _ I h) fun ov s1 ⟨x, H1, I1, r1, q1⟩ => ?_))
 refine JM (JN (dY (hi pins s1 σ H1 _ I1 q1) fun iv s2 ⟨y, H2, I2, r2, q2⟩ => ?_))
 refine JM (JO (JM (JN (dY (hs pins s2 σ H2 x y v ov iv u _ I2 r1 r2 r q2) fun _ s3 ⟨H3, I3, q3⟩ => ?_))))
 exact wpAny_release ⟨σ, H3, I3, q3⟩
def yM (te : TE) (g : TG) : TS := fun D σ H => te σ H fun x H1 => g x σ H1 D.nx
theorem EU {tg e : Expr} {te : TE} {g : TG} (he : PE X e te) (hg : PG X tg g) (hs : swapsWithSole [tg] e pos.line X.env = pure false := by rfl) (hw : swappedStores [tg] e X.env = pure none := by rfl)
  (h1 : (assignEach [tg] X.env).map (·.2) = [assign tg X.env] := by rfl) : PS X (.Assign [tg] e pos) (yM te g) := by
 intro pins s σ H D I h
 refine wpAny_Assign_stores (dY (he pins s σ H _ I h) fun v s1 ⟨x, H1, I1, r1, q1⟩ => ?_) hs hw
 rw [h1]
 exact dY (hg pins s1 σ H1 x v _ I1 r1 q1) fun _ s2 q => q
theorem ER {i : Nat} {x : Str} {e : Expr} {te : TE} {pos' : Pos} (hN : X.N.Nodup) (hi : X.N[i]? = some x) (hx : Dp X.env.scope x) (he : PE X e te) (hs : swapsWith e (some (.Name x pos')) pos.line X.env = pure false := by rfl) (hf : X.fn x = true \/ X.env.scope.names.lookup x = some .local := by first | exact .inl rfl | exact .inr rfl | assumption) :
  PS X (.Assign [.Name x pos'] e pos) (yM te (tE i)) := by
 intro pins s σ H D I h
 refine wpAny_Assign_Name (dY (he pins s σ H _ I h) fun v s1 ⟨y, H1, I1, r1, q1⟩ => ?_) hs
 exact tQ I1 hN hi hx r1 (fun s2 I2 => ⟨_, H1, I2, q1⟩) hf
end
section
variable {X : Cx} {pos : Pos}
end
structure It where
 go : Nat -> Hp -> Prop
 yld : Nat -> Hp -> V -> Hp -> Prop
 stop : Nat -> Hp -> Prop
def lH (X : Cx) (pins : List (Addr × Obj)) (H : Hp) (b : Addr) : Prop :=
 H b = none /\ b ≠ X.env.locals /\ b ∉ X.fs /\ (b ∈ X.ex \/ X.s₀.heap.objs.size <= b) /\ (∀ x c, X.env.cells.lookup x = some c -> c ≠ b) /\ ∀ p ∈ X.pn ++ pins, p.1 ≠ b
theorem aT.fpOk {X : Cx} {pins : List (Addr × Obj)} {σ : St} {H H' : Hp} {s : Shared} {b : Addr} (I : aT X pins σ H s) (hb : s.heap.objs.size <= b) (hn : H' b = none) : lH X pins H' b := by
 refine ⟨hn, JP (Jp I.lt hb), I.nofs hb, .inr (Ju I.sz hb), fun x c e z => ?_, fun p hp z => ?_⟩
 ·obtain ⟨v, q⟩ := I.cell x c e
  exact absurd (Jp q.lt (by rw [z]; exact hb)) (Jq _)
 ·exact absurd (Jp (Jo (I.pin p hp).1) (by rw [z]; exact hb)) (Jq _)
structure xm (P : Program) (w : World) (K : W.Frag) (tg : Expr) (J : It) (fp : List Addr) (it : Addr) (tn : Nat -> Heap -> Prop) : Prop where
 mem : it ∈ fp
 obj : ∀ i h, tn i h -> ∀ b ∈ fp, ∃ o, h.get? b = some o /\ ∀ v, o.data ≠ .cell v
 keep : ∀ i h h', tn i h -> (∀ b ∈ fp, ∀ o, h.get? b = some o -> h'.get? b = some o) -> tn i h'
 item : ∀ (X : Cx), X.prog = P -> X.w = w -> X.K = K -> X.calm = true -> ∀ (i : Nat) (pins : List (Addr × Obj)) (s : Shared) (σ : St) (H : Hp) (E : Value -> Shared -> Prop), aT X pins σ H s -> (∀ b ∈ fp, lH X pins H b) -> tn i s.heap -> J.go i H ->
  wpAny (model P w) X.A (pyNext (.ref it)) (fun r s1 => ∃ u, r = some u /\
   wpAny (model P w) X.A (letOwnedTupleGo tg (.ref it) u) (fun _ s2 => ∃ x H', aT X pins σ H' s2 /\ cz x u /\ J.yld i H x H' /\ tn (i + 1) s2.heap /\ ∀ b ∈ fp, H' b = none) E s1) E s
 done : ∀ (X : Cx), X.prog = P -> X.w = w -> X.K = K -> X.calm = true -> ∀ (i : Nat) (pins : List (Addr × Obj)) (s : Shared) (σ : St) (H : Hp) (E : Value -> Shared -> Prop), aT X pins σ H s -> (∀ b ∈ fp, lH X pins H b) -> tn i s.heap -> J.stop i H ->
  wpAny (model P w) X.A (pyNext (.ref it)) (fun r s1 => r = none /\ aT X pins σ H s1) E s
 self : ∀ (A : Around) (i : Nat) (s : Shared) (Q : Value -> Shared -> Prop) (E : Value -> Shared -> Prop), tn i s.heap -> Q (.ref it) s -> wpAny (model P w) A (pyIter (.ref it)) Q E s
abbrev TI := St -> Hp -> (It -> Hp -> Prop) -> Prop
def HR (X : Cx) (pins : List (Addr × Obj)) (σ : St) (tg : Expr) (R : It -> Hp -> Prop) (itv : Value) (s2 : Shared) : Prop :=
 ∃ (it : Addr) (fp : List Addr) (tn : Nat -> Heap -> Prop) (J : It) (H' : Hp), itv = .ref it /\ aT X pins σ H' s2 /\ xm X.prog X.w X.K tg J fp it tn /\ tn 0 s2.heap /\ (∀ b ∈ fp, lH X pins H' b) /\ R J H'
def PI (X : Cx) (tg iter : Expr) (wi : TI) : Prop :=
 ∀ (pins : List (Addr × Obj)) (s : Shared) (σ : St) (H : Hp) (R : It -> Hp -> Prop), aT X pins σ H s -> wi σ H R ->
  wpAny (model X.prog X.w) X.A (eval iter X.env) (fun v s1 => wpAny (model X.prog X.w) X.A (pyIter v) (HR X pins σ tg R) X.xe s1) X.xe s
theorem zi {M : Model} {A : Around} {E : Value -> Shared -> Prop} {s : Shared} {tg : Expr} {it : Addr} {u : Value} {o : Obj} {n : String} {vs : Array Value} {Q : Unit -> Shared -> Prop} (ho : s.heap.get? it = some o) (hc : o.cls = .type n) (hd : o.data = .fields vs)
  (hn : ["enumerate", "zip", "dict_itemiterator", "dict_reverseitemiterator", "odict_iterator", "itertools.zip_longest", "itertools.pairwise"].contains n = false) (hQ : Q () s) : wpAny M A (letOwnedTupleGo tg (.ref it) u) Q E s := by
 unfold letOwnedTupleGo
 cases tg <;> first
  | exact JQ hQ
  | (cases u <;> first
    | exact JQ hQ
    | (refine JM (JR ho ?_)
       rw [hc, hd]
       show wpAny M A (if (["enumerate", "zip", "dict_itemiterator", "dict_reverseitemiterator", "odict_iterator", "itertools.zip_longest", "itertools.pairwise"].contains n && vs[0]? == some (rawInt _)) = true then _ else _) Q E s
       rw [Jm (by intro h; rw [hn, JS] at h; cases h)]
       exact JQ hQ))
def HI (K : W.Frag) (a : Addr) : It :=
 ⟨fun i H => ∃ xs x, fw K H a xs /\ xs[i]? = some x, fun i H x H' => H' = H /\ ∀ xs, fw K H a xs -> xs[i]? = some x, fun i H => ∃ xs, fw K H a xs /\ xs.length <= i⟩
def HU (K : W.Frag) (a : Addr) : It :=
 ⟨fun i H => ∃ xs x, fW K H a xs /\ xs[i]? = some x, fun i H x H' => H' = H /\ ∀ xs, fW K H a xs -> xs[i]? = some x, fun i H => ∃ xs, fW K H a xs /\ xs.length <= i⟩
def Ge (lo : Int) (n : Nat) : It := ⟨fun i _ => i < n, fun i H x H' => H' = H /\ x = .int (lo + i), fun i _ => n <= i⟩
theorem xp {P : Program} {w : World} {K : W.Frag} {tg : Expr} (a it : Addr) : xm P w K tg (HI K a) [it] it (fun i h => h.IsListIter it a i) where
 mem := by simp
 obj := fun i h st b hb => by
  have e : b = it := by simpa using hb
  subst e
  obtain ⟨o, e, c, d⟩ := st
  exact ⟨o, e, fun v z => by rw [d] at z; cases z⟩
 keep := fun i h h' st k => st.at fun o e => k it (by simp) o e
 item := by
  intro X hP hw hK hc i pins s σ H E I hf st hg
  subst hP hw hK
  obtain ⟨xs, x, hq, hx⟩ := hg
  obtain ⟨its, rv, p, hz⟩ := I.list hq
  obtain ⟨u, hu, ru⟩ := rv.get hx
  obtain ⟨f0, f1, f2, f3, f4, f5⟩ := hf it (by simp)
  refine wpAny_pyNext_list_item st p.isList (x := u) (by simpa using hu) fun h' st' sb => ?_
  have I1 : aT X pins σ H { s with heap := h' } := I.turned (t' := s.toks) (fun b o hb e => (sb.2 b hb).trans e) f0 f1 f3 f4 f5
  obtain ⟨o, e, c, d⟩ := id st'
  exact ⟨u, rfl, zi (s := { s with heap := h' }) e c d (by decide) ⟨x, H, I1, ru, ⟨rfl, fun ys hy => by rw [I.list_inj hy hq]; exact hx⟩, st', fun b hb => (hf b hb).1⟩⟩
 done := by
  intro X hP hw hK hc i pins s σ H E I hf st hg
  subst hP hw hK
  obtain ⟨xs, hq, hx⟩ := hg
  obtain ⟨its, rv, p, hz⟩ := I.list hq
  obtain ⟨f0, f1, f2, f3, f4, f5⟩ := hf it (by simp)
  have hl := rv.length
  exact wpAny_pyNext_list_end (I.ok.hd hc) st p.isList (by simp; omega) fun h' eb => ⟨rfl, I.turned (t' := s.toks) (fun b o hb e => eb b o hb e) f0 f1 f3 f4 f5⟩
 self := fun _ _ _ _ _ st h => wpAny_pyIter_listiter st h
theorem vm {P : Program} {w : World} {K : W.Frag} {tg : Expr} (a it : Addr) : xm P w K tg (HU K a) [it] it (fun i h => h.IsTupleIter it a i) where
 mem := by simp
 obj := fun i h st b hb => by
  have e : b = it := by simpa using hb
  subst e
  obtain ⟨o, e, c, d⟩ := st
  exact ⟨o, e, fun v z => by rw [d] at z; cases z⟩
 keep := fun i h h' st k => st.at fun o e => k it (by simp) o e
 item := by
  intro X hP hw hK hc i pins s σ H E I hf st hg
  subst hP hw hK
  obtain ⟨xs, x, hq, hx⟩ := hg
  obtain ⟨its, rv, p, hz⟩ := I.tuple hq
  obtain ⟨u, hu, ru⟩ := rv.get hx
  obtain ⟨f0, f1, f2, f3, f4, f5⟩ := hf it (by simp)
  refine wpAny_pyNext_tuple_item st (show s.heap.IsTuple a its.toArray from p) (x := u) (by simpa using hu) fun h' st' sb => ?_
  have I1 : aT X pins σ H { s with heap := h' } := I.turned (t' := s.toks) (fun b o hb e => (sb.2 b hb).trans e) f0 f1 f3 f4 f5
  obtain ⟨o, e, c, d⟩ := id st'
  exact ⟨u, rfl, zi (s := { s with heap := h' }) e c d (by decide) ⟨x, H, I1, ru, ⟨rfl, fun ys hy => by rw [I.tuple_inj hy hq]; exact hx⟩, st', fun b hb => (hf b hb).1⟩⟩
 done := by
  intro X hP hw hK hc i pins s σ H E I hf st hg
  subst hP hw hK
  obtain ⟨xs, hq, hx⟩ := hg
  obtain ⟨its, rv, p, hz⟩ := I.tuple hq
  obtain ⟨f0, f1, f2, f3, f4, f5⟩ := hf it (by simp)
  have hl := rv.length
  exact wpAny_pyNext_tuple_end (I.ok.hd hc) st (show s.heap.IsTuple a its.toArray from p) (by simp; omega) fun h' eb => ⟨rfl, I.turned (t' := s.toks) (fun b o hb e => eb b o hb e) f0 f1 f3 f4 f5⟩
 self := fun _ _ _ _ _ st h => wpAny_pyIter_tupleiter st h
theorem vp {P : Program} {w : World} {K : W.Frag} {tg : Expr} (it : Addr) (lo : Int) (n : Nat) : xm P w K tg (Ge lo n) [it] it (fun i h => IsRangeIter h it (lo + (i : Nat) * 1) ((n : Int) - (i : Nat)) 1) where
 mem := by simp
 obj := fun i h st b hb => by
  have e : b = it := by simpa using hb
  subst e
  exact ⟨_, st, fun v z => by
   have z' : Data.fields _ = Data.cell v := z
   cases z'⟩
 keep := fun i h h' st k => k it (by simp) _ st
 item := by
  intro X hP hw hK hc i pins s σ H E I hf st hg
  subst hP hw hK
  obtain ⟨f0, f1, f2, f3, f4, f5⟩ := hf it (by simp)
  have W := Walks.range (prog := X.prog) (w := X.w) (I.ok.hd hc) it lo 1 n
  refine W.item i s _ _ hg st fun v h' tk hv st' kk => ?_
  obtain ⟨t, rfl⟩ := hv
  have I1 : aT X pins σ H { s with heap := h', toks := tk } := I.turned (fun b o hb e => kk b o (by simpa using hb) e) f0 f1 f3 f4 f5
  refine ⟨_, rfl, zi (s := { s with heap := h', toks := tk }) (n := "range_iterator") st' rfl rfl (by decide) ⟨.int (lo + i), H, I1, ⟨t, ?_⟩, ⟨rfl, rfl⟩, st', fun b hb => (hf b hb).1⟩⟩
  rw [Int.mul_one]
 done := by
  intro X hP hw hK hc i pins s σ H E I hf st hg
  subst hP hw hK
  obtain ⟨f0, f1, f2, f3, f4, f5⟩ := hf it (by simp)
  exact wpAny_pyNext_range_end (I.ok.hd hc) st (by have : n <= i := hg; omega) fun h' eb => ⟨rfl, I.turned (t' := s.toks) (fun b o hb e => eb b o hb e) f0 f1 f3 f4 f5⟩
 self := fun _ _ _ _ _ st h => wpAny_pyIter_rangeiter st h
end L2
namespace L2
open PySem PySem.Spec PyProof.Rows
section
variable {X : Cx} {tg : Expr}
theorem tY {pins : List (Addr × Obj)} {σ : St} {H : Hp} {s : Shared} {R : It -> Hp -> Prop} {E : Value -> Shared -> Prop} {lo hi : Int} {t u v : Tok} {tk : Nat} (I : aT X pins σ H s) (h1 : -(2 ^ 62) <= lo) (h2 : lo < 2 ^ 62) (h3 : -(2 ^ 62) <= hi) (h4 : hi < 2 ^ 62)
  (q : R (Ge lo (hi - lo).toNat) H) : wpAny (model X.prog X.w) X.A (pyIter (.ref s.heap.objs.size)) (HR X pins σ tg R) E { s with heap := s.heap.push { cls := .type "range", data := .fields #[.int lo t, .int hi u, .int 1 v] }, toks := tk } := by
 refine wpAny_pyIter_range (IsRange.new ..) (small_one h1 h2 h3 h4) ?_
 have I1 : aT X pins σ H { s with heap := s.heap.push { cls := .type "range", data := .fields #[.int lo t, .int hi u, .int 1 v] }, toks := tk } := I.kept fun b o e => JT _ e
 refine ⟨(s.heap.push { cls := .type "range", data := .fields #[.int lo t, .int hi u, .int 1 v] }).objs.size, [(s.heap.push { cls := .type "range", data := .fields #[.int lo t, .int hi u, .int 1 v] }).objs.size], _, _, H, rfl,
  I1.kept (t' := tk) fun b o e => JT _ e, vp _ lo (hi - lo).toNat, ?_, fun b hb => ?_, q⟩
 ·have e1 : lo + ((0 : Nat) : Int) * 1 = lo := by simp
  have e2 : (((hi - lo).toNat : Nat) : Int) - ((0 : Nat) : Int) = Builtin.Range.rangeSize lo hi 1 := by rw [rangeSize_one]; split <;> omega
  show IsRangeIter _ _ (lo + ((0 : Nat) : Int) * 1) ((((hi - lo).toNat : Nat) : Int) - ((0 : Nat) : Int)) 1
  rw [e1, e2]
  exact JU _ rfl
 ·have e : b = (s.heap.push { cls := .type "range", data := .fields #[.int lo t, .int hi u, .int 1 v] }).objs.size := by simpa using hb
  subst e
  exact I1.fpOk (JV _) (I1.hok.fresh (JV _))
def Hq (ta : TA) : TI := fun σ H R => ta σ H fun vs H1 => ∃ j : Int, vs = [.int j] /\ -(2 ^ 62) <= j /\ j < 2 ^ 62 /\ R (Ge 0 j.toNat) H1
def Ho (ta : TA) : TI := fun σ H R => ta σ H fun vs H1 => ∃ i j : Int, vs = [.int i, .int j] /\ (-(2 ^ 62) <= i /\ i < 2 ^ 62 /\ -(2 ^ 62) <= j /\ j < 2 ^ 62) /\ R (Ge i (j - i).toNat) H1
theorem xN {a : Expr} {ta : TA} {p pos : Pos} (hg : Gl X "range") (hm : X.mg "range" = none) (ha : PA X [a] ta) (hs : starEach [a] X.env = [(false, eval a X.env)] := by rfl) : PI X tg (.Call (.Name "range" p) [a] [] pos) (Hq ta) := by
 intro pins s σ H R I h
 refine Call_ (j6 I hg hm boot_range (JW (dY (ha pos pins s σ H _ I h) fun us s1 ⟨vs, H1, I1, r1, q1⟩ => ?_) hs rfl))
 obtain ⟨j, e, q1, q2, q⟩ := q1
 subst e
 cases r1 with
 | cons r rr =>
  cases rr
  obtain ⟨t, rfl⟩ := r
  exact call_range_1 (tY I1 (by omega) (by omega) q1 q2 (by simpa using q))
theorem xM {a b : Expr} {ta : TA} {p pos : Pos} (hg : Gl X "range") (hm : X.mg "range" = none) (ha : PA X [a, b] ta) (hs : starEach [a, b] X.env = [(false, eval a X.env), (false, eval b X.env)] := by rfl) (hs2 : starEach [b] X.env = [(false, eval b X.env)] := by rfl) :
  PI X tg (.Call (.Name "range" p) [a, b] [] pos) (Ho ta) := by
 intro pins s σ H R I h
 refine Call_ (j6 I hg hm boot_range (JW (dY (ha pos pins s σ H _ I h) fun us s1 ⟨vs, H1, I1, r1, q1⟩ => ?_) (by rw [hs, hs2]) (by rw [hs2]; rfl)))
 obtain ⟨i, j, e, ⟨q1, q2, q3, q4⟩, q⟩ := q1
 subst e
 cases r1 with
 | cons r rr =>
  cases rr with
  | cons r' rr =>
   cases rr
   obtain ⟨t, rfl⟩ := r
   obtain ⟨t', rfl⟩ := r'
   exact call_range_2 (tY I1 q1 q2 q3 q4 q)
def Ii (wi : TI) (g : TG) (tb : TS) : TS := fun D σ H => wi σ H fun J H1 => ∃ W : Nat -> Nat -> St -> Hp -> Prop, (∃ m, W 0 m σ H1) /\ ∀ i m σ H, W i m σ H ->
 (J.stop i H /\ D.nx σ H) \/ (J.go i H /\ ∃ N : St -> Hp -> Prop, (∀ σ' H', N σ' H' -> ∃ m', m' < m /\ W (i + 1) m' σ' H') /\ ∀ x H', J.yld i H x H' -> g x σ H' fun σ2 H2 => tb { D with nx := N, ct := N, bk := D.nx } σ2 H2)
def oi (fp : List Addr) (h : Heap) : List (Addr × Obj) := fp.filterMap fun b => (h.get? b).map fun o => (b, o)
theorem jA {fp : List Addr} {h : Heap} {b : Addr} {o : Obj} (hb : b ∈ fp) (e : h.get? b = some o) : (b, o) ∈ oi fp h := JX.mpr ⟨b, hb, by rw [e]; rfl⟩
theorem xV {fp : List Addr} {h : Heap} {p : Addr × Obj} (hp : p ∈ oi fp h) : p.1 ∈ fp /\ h.get? p.1 = some p.2 := by
 obtain ⟨b, hb, e⟩ := JX.mp hp
 cases q : h.get? b with
 | none => rw [q] at e; cases e
 | some o =>
  rw [q] at e
  have e' : (b, o) = p := Jn e
  subst e'
  exact ⟨hb, q⟩
theorem aT.pinned {pins : List (Addr × Obj)} {σ : St} {H : Hp} {s : Shared} {fp : List Addr} (I : aT X pins σ H s) (hf : ∀ b ∈ fp, lH X pins H b) (ho : ∀ b ∈ fp, ∃ o, s.heap.get? b = some o /\ ∀ v, o.data ≠ .cell v) : aT X (pins ++ oi fp s.heap) σ H s :=
 I.pins_of fun p hp => (JB.mp hp).elim (fun z => I.pin p (JY _ z)) fun z => by
  obtain ⟨hb, e⟩ := xV z
  obtain ⟨f0, f1, f2, _⟩ := hf p.1 hb
  obtain ⟨o, e', d⟩ := ho p.1 hb
  rw [e] at e'; cases e'
  exact ⟨e, f0, f1, f2, d⟩
theorem aT.unpinned {pins pl : List (Addr × Obj)} {σ : St} {H : Hp} {s : Shared} (I : aT X (pins ++ pl) σ H s) : aT X pins σ H s := I.pins_of fun p hp => I.pin p (JY _ (JC _ hp))
theorem ET {iter : Expr} {body : List Stmt} {wi : TI} {g : TG} {tb : TS} {pos : Pos} (hp : PassesOwn (model X.prog X.w) X.A X.env X.xe) (hc : X.calm = true) (hi : PI X tg iter wi) (hg : PG X tg g) (hb : kO X body tb)
  (hs : ∀ x, foldedSetIterable iter X.env x = pure x := by intro _; rfl) : PS X (.For tg iter body [] pos) (Ii wi g tb) := by
 intro pins s σ H D I h
 refine wpAny_For (dY (hi pins s σ H _ I h) fun v s1 h1 => dY h1 fun itv s2 h2 => ?_) hs
 obtain ⟨it, fp, tn, J, H2, e, I2, T, st2, f2, W, ⟨m0, w0⟩, turn⟩ := h2
 subst e
 have stat : ∀ {H' : Hp}, (∀ b ∈ fp, H' b = none) -> ∀ b ∈ fp, lH X pins H' b := fun hn b hb => ⟨hn b hb, (f2 b hb).2⟩
 refine codeAny_forLoop_any (fun n s' => ∃ i σ' H', aT X pins σ' H' s' /\ tn i s'.heap /\ (∀ b ∈ fp, H' b = none) /\ W i n σ' H') ?_ m0 ⟨0, σ, H2, I2, st2, fun b hb => (f2 b hb).1, w0⟩
 rintro n s3 ⟨i, σ3, H3, I3, st3, fr3, w3⟩
 rcases turn i n σ3 H3 w3 with ⟨stop, qn⟩ | ⟨go, N, hN, step⟩
 ·refine JZ hp (dY (T.done X rfl rfl rfl hc i pins s3 σ3 H3 X.xe I3 (stat fr3) st3 stop) fun r s4 ⟨hr, I4⟩ => ?_)
  subst hr
  exact JL ⟨σ3, H3, I4, qn⟩
 ·refine JZ hp (dY (T.item X rfl rfl rfl hc i pins s3 σ3 H3 X.xe I3 (stat fr3) st3 go) fun r s4 ⟨u, hr, h4⟩ => ?_)
  subst hr
  refine JZ hp (dY h4 fun _ s5 ⟨x, H5, I5, r5, y5, st5, fr5⟩ => ?_)
  have I5' := I5.pinned (stat fr5) (T.obj _ _ st5)
  refine JZ hp (dY (hg _ s5 σ3 H5 x u _ I5' r5 (step x H5 y5)) fun _ s6 ⟨σ6, H6, I6, q6⟩ => ?_)
  refine JZ hp (dY (hb _ s6 σ6 H6 _ I6 q6) fun f s7 q7 => ?_)
  have again : ∀ {σ7 : St} {H7 : Hp}, aT X (pins ++ oi fp s5.heap) σ7 H7 s7 -> N σ7 H7 -> ∃ m, m < n /\ ∃ i σ' H', aT X pins σ' H' s7 /\ tn i s7.heap /\ (∀ b ∈ fp, H' b = none) /\ W i m σ' H' := fun {σ7 H7} I7 n7 => by
   obtain ⟨m', hm, w7⟩ := hN σ7 H7 n7
   refine ⟨m', hm, i + 1, σ7, H7, I7.unpinned, T.keep _ _ _ st5 fun b hb o e => (I7.pin (b, o) (JY _ (JY _ (jA hb e)))).1, fun b hb => ?_, w7⟩
   obtain ⟨o, e, d⟩ := T.obj _ _ st5 b hb
   exact (I7.pin (b, o) (JY _ (JY _ (jA hb e)))).2.1
  cases f with
  | next => obtain ⟨σ7, H7, I7, n7⟩ := q7; exact again I7 n7
  | cont => obtain ⟨σ7, H7, I7, n7⟩ := q7; exact again I7 n7
  | brk => obtain ⟨σ7, H7, I7, q7⟩ := q7; exact ⟨σ7, H7, I7.unpinned, q7⟩
  | ret v => obtain ⟨x7, σ7, H7, I7, r7, q7⟩ := q7; exact ⟨x7, σ7, H7, I7.unpinned, r7, q7⟩
end
end L2
namespace L2
open PySem PySem.Spec PyProof.Rows
abbrev R2 := V -> V -> Hp -> VK -> Prop
def jL (X : Cx) (f : Value -> Value -> Sem Value) (r : R2) : Prop :=
 ∀ (pins : List (Addr × Obj)) (s : Shared) (σ : St) (H : Hp) (x y : V) (v u : Value) (Q : VK), aT X pins σ H s -> cz x v -> cz y u -> r x y H Q ->
  wpAny (model X.prog X.w) X.A (f v u) (EP X pins σ Q) X.xe s
def HG (X : Cx) (f : Value -> Sem Value) (r : V -> Hp -> VK -> Prop) : Prop :=
 ∀ (pins : List (Addr × Obj)) (s : Shared) (σ : St) (H : Hp) (x : V) (v : Value) (Q : VK), aT X pins σ H s -> cz x v -> r x H Q ->
  wpAny (model X.prog X.w) X.A (f v) (EP X pins σ Q) X.xe s
def cE (X : Cx) (f : Value) (r : List V -> Hp -> VK -> Prop) : Prop :=
 ∀ (pins : List (Addr × Obj)) (s : Shared) (σ : St) (H : Hp) (xs : List V) (us : List Value) (Q : VK), aT X pins σ H s -> bb xs us -> r xs H Q ->
  wpAny (model X.prog X.w) X.A (call f us) (EP X pins σ Q) X.xe s
def IH (X : Cx) (r : V -> Hp -> (Bool -> Hp -> Prop) -> Prop) : Prop :=
 ∀ (pins : List (Addr × Obj)) (s : Shared) (σ : St) (H : Hp) (x : V) (v : Value) (Q : Bool -> Hp -> Prop), aT X pins σ H s -> cz x v -> r x H Q ->
  wpAny (model X.prog X.w) X.A (truthy v) (TP X pins σ Q) X.xe s
def HB (r : R2) (ta tb : TE) : TE := fun σ H Q => ta σ H fun x H1 => tb σ H1 fun y H2 => r x y H2 Q
def IY (r : V -> Hp -> VK -> Prop) (ta : TE) : TE := fun σ H Q => ta σ H fun x H1 => r x H1 Q
def rI (C : Int -> Int -> Prop) (g : Int -> Int -> V) : R2 := fun x y H Q => ∃ i j, x = .int i /\ y = .int j /\ C i j /\ Q (g i j) H
def Gg (g : Int -> Int -> V) : R2 := fun x y H Q => ∃ i j, x = .int i /\ y = .int j /\ Q (g i j) H
def rU (g : Int -> V) : V -> Hp -> VK -> Prop := fun x H Q => ∃ i, x = .int i /\ Q (g i) H
section
variable {X : Cx} {a b c : Expr} {ta tb tc : TE} {pos : Pos}
theorem D2 (ha : PE X a ta) (hb : PE X b tb) {pins : List (Addr × Obj)} {s : Shared} {σ : St} {H : Hp} {R : V -> V -> Hp -> Prop} (I : aT X pins σ H s)
  (h : ta σ H fun x H1 => tb σ H1 fun y H2 => R x y H2) {Q : Value -> Shared -> Prop} {f : Value -> Value -> Sem Value}
  (hf : ∀ v u s2 x y H2, aT X pins σ H2 s2 -> cz x v -> cz y u -> R x y H2 -> wpAny (model X.prog X.w) X.A (f v u) Q X.xe s2) :
  wpAny (model X.prog X.w) X.A (eval a X.env) (fun v s₁ => wpAny (model X.prog X.w) X.A (eval b X.env) (fun u s₂ => wpAny (model X.prog X.w) X.A (f v u) Q X.xe s₂) X.xe s₁) X.xe s := by
 refine dY (ha pins s σ H _ I h) fun v s1 ⟨x, H1, I1, r1, q1⟩ => ?_
 refine dY (hb pins s1 σ H1 _ I1 q1) fun u s2 ⟨y, H2, I2, r2, q2⟩ => ?_
 exact hf v u s2 x y H2 I2 r1 r2 q2
theorem He {op : Operator} {r : R2} (ho : jL X (binaryOp op) r) (ha : PE X a ta) (hb : PE X b tb) : PE X (.BinOp a op b pos) (HB r ta tb) := by
 intro pins s σ H Q I h
 exact wpAny_BinOp (D2 ha hb I h fun v u s2 x y H2 I2 rx ry q => ho pins s2 σ H2 x y v u Q I2 rx ry q)
theorem Hd {op : UnaryOp} {r : V -> Hp -> VK -> Prop} (ho : HG X (unaryOp op) r) (ha : PE X a ta) : PE X (.UnaryOp op a pos) (IY r ta) := by
 intro pins s σ H Q I h
 exact UnaryOp_ (dY (ha pins s σ H _ I h) fun v s1 ⟨x, H1, I1, r1, q1⟩ => ho pins s1 σ H1 x v Q I1 r1 q1)
theorem HD {f : Value -> Value -> Sem Value} {C : Int -> Int -> Prop} {g : Int -> Int -> Int}
  (rule : ∀ (i j : Int) (t u : Tok) (s : Shared) (Q : Value -> Shared -> Prop) (E : Value -> Shared -> Prop), C i j -> Q (.int (g i j) s.toks) { s with toks := s.toks + 1 } -> wpAny (model X.prog X.w) X.A (f (.int i t) (.int j u)) Q E s) :
  jL X f (rI C fun i j => .int (g i j)) := by
 intro pins s σ H x y v u Q I rx ry h
 obtain ⟨i, j, rfl, rfl, hc, q⟩ := h
 obtain ⟨t, rfl⟩ := rx
 obtain ⟨t', rfl⟩ := ry
 exact rule i j t t' s _ _ hc ⟨.int (g i j), H, I.tok _, ⟨_, rfl⟩, q⟩
theorem Gz {f : Value -> Value -> Sem Value} {g : Int -> Int -> Int}
  (rule : ∀ (i j : Int) (t u : Tok) (s : Shared) (Q : Value -> Shared -> Prop) (E : Value -> Shared -> Prop), Q (.int (g i j) s.toks) { s with toks := s.toks + 1 } -> wpAny (model X.prog X.w) X.A (f (.int i t) (.int j u)) Q E s) :
  jL X f (Gg fun i j => .int (g i j)) := by
 intro pins s σ H x y v u Q I rx ry h
 obtain ⟨i, j, rfl, rfl, q⟩ := h
 obtain ⟨t, rfl⟩ := rx
 obtain ⟨t', rfl⟩ := ry
 exact rule i j t t' s _ _ ⟨.int (g i j), H, I.tok _, ⟨_, rfl⟩, q⟩
def BA (i j : Int) : Prop := 0 < j /\ j < 1073741824
def D6 (i j : Int) : Prop := 0 <= j /\ j <= 1000000 /\ i.natAbs < 2 ^ 64
def sZ (i j : Int) : Prop := (-(2 ^ 64) < i /\ i < 2 ^ 64) \/ (-(2 ^ 64) < j /\ j < 2 ^ 64)
theorem sZ.ok {i j : Int} (h : sZ i j) : IntMulOk i j := by
 rcases h with ⟨h1, h2⟩ | ⟨h1, h2⟩
 ·exact .of_left (intBits_le_64 h1 h2)
 ·exact .of_right (intBits_le_64 h1 h2)
theorem Fk : jL X (binaryOp .Add) (Gg fun i j => .int (i + j)) := Gz fun _ _ _ _ _ _ _ q => add_int q
theorem E9 : jL X (binaryOp .Sub) (Gg fun i j => .int (i - j)) := Gz fun _ _ _ _ _ _ _ q => sub_int q
theorem Fe : jL X (binaryOp .Mult) (rI sZ fun i j => .int (i * j)) := HD fun _ _ _ _ _ _ _ hc q => mul_int q hc.ok
theorem CF : jL X (binaryOp .FloorDiv) (rI BA fun i j => .int (i / j)) := HD fun i j _ _ _ _ _ hc q => by
 have h1 : (0 : Int) < j := hc.1
 have h2 : j < 1073741824 := hc.2
 exact floordiv_int (by omega) (by rw [Int.fdiv_eq_ediv_of_nonneg i (by omega)]; exact q) (.inl (PyProof.noPylong_small (by omega)))
theorem Ff : jL X (binaryOp .Mod) (rI (fun _ j => 0 < j) fun i j => .int (i % j)) := HD fun i j _ _ _ _ _ hc q => by
 have h1 : (0 : Int) < j := hc
 exact mod_int' (by omega) (by rw [Int.fmod_eq_emod_of_nonneg i (by omega)]; exact q)
theorem Fc : jL X (binaryOp .Pow) (rI D6 fun i j => .int (i ^ j.toNat)) := HD fun _ _ _ _ _ _ _ hc q => pow_int_small hc.1 hc.2.1 hc.2.2 q
theorem IX {f : Value -> Sem Value} {g : Int -> Int}
  (rule : ∀ (i : Int) (t : Tok) (s : Shared) (Q : Value -> Shared -> Prop) (E : Value -> Shared -> Prop), Q (.int (g i) s.toks) { s with toks := s.toks + 1 } -> wpAny (model X.prog X.w) X.A (f (.int i t)) Q E s) :
  HG X f (rU fun i => .int (g i)) := by
 intro pins s σ H x v Q I rx h
 obtain ⟨i, rfl, q⟩ := h
 obtain ⟨t, rfl⟩ := rx
 exact rule i t s _ _ ⟨.int (g i), H, I.tok _, ⟨_, rfl⟩, q⟩
theorem Ec : HG X (unaryOp .USub) (rU fun i => .int (-i)) := IX fun _ _ _ _ _ q => neg_int q
end
def Il : V -> V -> Bool
 | .non, .non => true | .non, .int _ => true | .int _, .non => true | .non, .bl _ => true | .bl _, .non => true | .non, .str _ => true | .str _, .non => true
 | .int _, .int _ => true | .bl _, .bl _ => true | .str _, .str _ => true | .byt _, .byt _ => true
 | .int _, .str _ => true | .str _, .int _ => true | .bl _, .str _ => true | .str _, .bl _ => true
 | _, _ => false
def HP : R2 := fun x y H Q => Il x y = true /\ Q (.bl (!decide (x = y))) H
theorem Di {i j : Int} : decide (V.int i = V.int j) = (i == j) := by
 rw [J0]
 simp
theorem F5 {i j : Bool} : decide (V.bl i = V.bl j) = (i == j) := by
 rw [J0]
 simp
theorem Dh {i j : Str} : decide (V.str i = V.str j) = (i == j) := by
 rw [J0]
 simp
theorem Dj {i j : Array UInt8} : decide (V.byt i = V.byt j) = (i.toList == j.toList) := by
 rw [J0]
 cases i
 cases j
 simp
section
variable {X : Cx} {a b c : Expr} {ta tb tc : TE} {pos : Pos}
theorem dP {pins : List (Addr × Obj)} {σ : St} {H : Hp} {s : Shared} {Q : VK} {k k' : Bool} (I : aT X pins σ H s) (q : Q (.bl k) H) (e : k = k') : EP X pins σ Q (.bool k') s := by
 subst e
 exact ⟨.bl k, H, I, rfl, q⟩
theorem Hj : jL X (compareOp .NotEq) HP := by
 intro pins s σ H x y v u Q I rx ry h
 obtain ⟨hs, q⟩ := h
 cases x with
 | non =>
  cases rx
  cases y with
  | non => cases ry; exact PySem.EqNone.ne_none_none (dP I q (by simp))
  | bl j => cases ry; exact PySem.EqNone.ne_none_bool (dP I q (by simp))
  | int j => obtain ⟨t', rfl⟩ := ry; exact PySem.EqNone.ne_none_int (dP I q (by simp))
  | str j => obtain ⟨t', rfl⟩ := ry; exact PySem.EqNone.ne_none_str (dP I q (by simp))
  | _ => exact absurd (show false = true from hs) J1
 | bl i =>
  cases rx
  cases y with
  | non => cases ry; exact PySem.EqNone.ne_bool_none (dP I q (by simp))
  | bl j => cases ry; exact ne_bool (dP I q (JK not F5))
  | str j => obtain ⟨t', rfl⟩ := ry; exact PySem.EqMixed.ne_bool_str (dP I q (by simp))
  | _ => exact absurd (show false = true from hs) J1
 | int i =>
  obtain ⟨t, rfl⟩ := rx
  cases y with
  | non => cases ry; exact PySem.EqNone.ne_int_none (dP I q (by simp))
  | int j => obtain ⟨t', rfl⟩ := ry; exact ne_int (dP I q (JK not Di))
  | str j => obtain ⟨t', rfl⟩ := ry; exact PySem.EqMixed.ne_int_str (dP I q (by simp))
  | _ => exact absurd (show false = true from hs) J1
 | str i =>
  obtain ⟨t, rfl⟩ := rx
  cases y with
  | non => cases ry; exact PySem.EqNone.ne_str_none (dP I q (by simp))
  | bl j => cases ry; exact PySem.EqMixed.ne_str_bool (dP I q (by simp))
  | int j => obtain ⟨t', rfl⟩ := ry; exact PySem.EqMixed.ne_str_int (dP I q (by simp))
  | str j => obtain ⟨t', rfl⟩ := ry; exact ne_str (dP I q (JK not Dh))
  | _ => exact absurd (show false = true from hs) J1
 | byt i =>
  obtain ⟨t, rfl⟩ := rx
  cases y with
  | byt j => obtain ⟨t', rfl⟩ := ry; exact W.ne_bytes (dP I q (JK not Dj))
  | _ => exact absurd (show false = true from hs) J1
 | _ => cases y <;> exact absurd (show false = true from hs) J1
theorem Fg : jL X (compareOp .Is) (fun x y H Q => y = .non /\ Q (.bl (decide (x = .non))) H) := by
 intro pins s σ H x y v u Q I rx ry h
 obtain ⟨rfl, q⟩ := h
 cases ry
 refine is_none_gen (dP I q ?_)
 cases x <;> first
  | (cases rx; rfl)
  | (obtain ⟨t, rfl⟩ := rx; rfl)
theorem CC : jL X (compareOp .IsNot) (fun x y H Q => y = .non /\ Q (.bl (!decide (x = .non))) H) := by
 intro pins s σ H x y v u Q I rx ry h
 obtain ⟨rfl, q⟩ := h
 cases ry
 refine isnot_none_gen (dP I q ?_)
 cases x <;> first
  | (cases rx; rfl)
  | (obtain ⟨t, rfl⟩ := rx; rfl)
theorem jL.or {f : Value -> Value -> Sem Value} {r r' : R2} (h : jL X f r) (h' : jL X f r') : jL X f (fun x y H Q => r x y H Q \/ r' x y H Q) := by
 intro pins s σ H x y v u Q I rx ry q
 rcases q with q | q
 ·exact h pins s σ H x y v u Q I rx ry q
 ·exact h' pins s σ H x y v u Q I rx ry q
theorem Cw {op : CmpOp} {r : R2} (ho : jL X (compareOp op) r) (ha : PE X a ta) (hb : PE X b tb) (hm : behindInMarks op b = false) : PE X (.Compare a [op] [b] pos) (HB r ta tb) := by
 intro pins s σ H Q I h
 exact wpAny_Compare1 (D2 ha hb I h fun v u s2 x y H2 I2 rx ry q => ho pins s2 σ H2 x y v u Q I2 rx ry q) hm
def GQ (t : TE) : TT := fun σ H Q => t σ H fun x H' => ∃ k, x = .bl k /\ Q k H'
theorem Cg {op : CmpOp} {r : R2} (ho : jL X (compareOp op) r) (ha : PE X a ta) (hb : PE X b tb) (hm : behindInMarks op b = false) : PT X (.Compare a [op] [b] pos) (GQ (HB r ta tb)) := by
 intro pins s σ H Q I h
 refine wpAny_isTrue_Compare1 (dY (ha pins s σ H _ I h) fun v s1 ⟨x, H1, I1, r1, q1⟩ => dY (hb pins s1 σ H1 _ I1 q1) fun u s2 ⟨y, H2, I2, r2, q2⟩ =>
  dY (ho pins s2 σ H2 x y v u _ I2 r1 r2 q2) fun c s3 ⟨z, H3, I3, r3, k, e, q3⟩ => ?_) hm
 subst e
 cases r3
 exact JI ⟨H3, I3, q3⟩
def zr (r r' : R2) (ta tb tc : TE) : TE := fun σ H Q => ta σ H fun x H1 => tb σ H1 fun y H2 => r x y H2 fun z H3 => ∃ k, z = .bl k /\
 (if k = true then tc σ H3 fun w' H4 => r' y w' H4 Q else Q (.bl false) H3)
theorem AD {op op' : CmpOp} {r r' : R2} (ho : jL X (compareOp op) r) (ho' : jL X (compareOp op') r') (ha : PE X a ta) (hb : PE X b tb) (hc : PE X c tc)
  (hm : lastMarks [op, op'] [b, c] = false := by with_unfolding_all rfl) : PE X (.Compare a [op, op'] [b, c] pos) (zr r r' ta tb tc) := by
 intro pins s σ H Q I h
 refine Compare_chain (dY (ha pins s σ H _ I h) fun v s1 ⟨x, H1, I1, r1, q1⟩ => chain_link (dY (hb pins s1 σ H1 _ I1 q1) fun u s2 ⟨y, H2, I2, r2, q2⟩ =>
  dY (ho pins s2 σ H2 x y v u _ I2 r1 r2 q2) fun d s3 ⟨z, H3, I3, r3, k, e, q3⟩ => ?_)) hm
 subst e
 cases r3
 refine JI ?_
 cases k with
 | false => exact ite_ff ⟨.bl false, H3, I3, rfl, q3⟩
 | true => exact ite_tt (chain_last (dY (hc pins s3 σ H3 _ I3 q3) fun w' s4 ⟨z', H4, I4, r4, q4⟩ => ho' pins s4 σ H4 y z' u w' Q I4 r2 r4 q4))
def D3 (K : W.Frag) (x : V) (H : Hp) (k : Bool) : Prop :=
 match x with
 | .non => k = false
 | .bl b => k = b
 | .int i => k = (i != 0)
 | .str y => y.length <= sizeLine /\ k = ((y.length : Int) != 0)
 | .byt y => y.size <= sizeLine /\ k = ((y.size : Int) != 0)
 | .ref p => (∃ xs, fw K H p xs /\ k = !xs.isEmpty) \/ (∃ xs, fW K H p xs /\ k = !xs.isEmpty) \/ ∃ kvs, H p = some (.dK kvs) /\ k = !kvs.isEmpty
 | _ => False
theorem vJ {κ : Type} {kvs : List (κ × V)} {vs : List (κ × Value)} (r : KV kvs vs) : (!vs.isEmpty) = !kvs.isEmpty := by
 cases r <;> rfl
theorem oW {xs : List V} {its : List Value} (r : bb xs its) : (!its.toArray.isEmpty) = !xs.isEmpty := by
 cases r <;> simp
theorem mB : (sizeLine : Nat) < 2 ^ 63 := by rw [J2]; decide
theorem Ef : IH X (fun x H Q => ∃ k, D3 X.K x H k /\ Q k H) := by
 intro pins s σ H x v Q I rx h
 obtain ⟨k, e, q⟩ := h
 have hl := mB
 have hs : sizeLine = 16777216 := J2
 cases x with
 | non =>
  cases rx
  have e' : k = false := e
  subst e'
  exact truthy_none ⟨H, I, q⟩
 | bl b =>
  cases rx
  have e' : k = b := e
  subst e'
  exact JI ⟨H, I, q⟩
 | int i =>
  obtain ⟨t, rfl⟩ := rx
  have e' : k = (i != 0) := e
  subst e'
  exact PySem.P.truthy_int ⟨H, I, q⟩
 | str y =>
  obtain ⟨t, rfl⟩ := rx
  obtain ⟨hy, e'⟩ : y.length <= sizeLine /\ k = ((y.length : Int) != 0) := e
  subst e'
  exact PySem.P.truthy_str (by omega) ⟨H, I.tok _, q⟩
 | byt y =>
  obtain ⟨t, rfl⟩ := rx
  obtain ⟨hy, e'⟩ : y.size <= sizeLine /\ k = ((y.size : Int) != 0) := e
  subst e'
  exact W.truthy_bytes (by omega) ⟨H, I.tok _, q⟩
 | ref p =>
  cases rx
  have e' : (∃ xs, fw X.K H p xs /\ k = !xs.isEmpty) \/ (∃ xs, fW X.K H p xs /\ k = !xs.isEmpty) \/ ∃ kvs, H p = some (.dK kvs) /\ k = !kvs.isEmpty := e
  rcases e' with ⟨xs, hx, e'⟩ | ⟨xs, hx, e'⟩ | ⟨kvs, hx, e'⟩
  ·subst e'
   obtain ⟨its, r, pl, hz⟩ := I.list hx
   have hlen := r.length
   exact wpAny_truthy_list pl.isList (by simp only [J3]; omega) ⟨H, I.tok _, by rw [oW r]; exact q⟩
  ·subst e'
   obtain ⟨its, r, pl, hz⟩ := I.tuple hx
   have hlen := r.length
   exact truthy_tuple pl (by simp only [J3]; omega) ⟨H, I.tok _, by rw [oW r]; exact q⟩
  ·subst e'
   obtain ⟨hz, hS, vs, r, m⟩ : kvs.length <= sizeLine /\ (p == sysModules) = false /\ ∃ vs, KV kvs vs /\ s.heap.DictOf (rX X.prog X.w) p vs := I.hok p _ hx
   have hlen : kvs.length = vs.length := Paired.length r
   exact wpAny_truthy_dict hS m (by omega) ⟨H, I.tok _, by rw [vJ r]; exact q⟩
 | _ => exact (show False from e).elim
theorem Au (ha : PE X a ta) (he : ∀ whole, isTrue a X.env whole = (do let v <- whole; standAt a.pos; holding [v] (truthy v))) :
  PT X a (fun σ H Q => ta σ H fun x H' => ∃ k, D3 X.K x H' k /\ Q k H') := by
 intro pins s σ H Q I h
 exact isTrue_plain (dY (ha pins s σ H _ I h) fun v s1 ⟨x, H1, I1, r1, q1⟩ => Ef pins s1 σ H1 x v Q I1 r1 q1) (he _)
theorem vC : jL X (binaryOp .Add) (fun x y H Q => ∃ i j, x = .str i /\ y = .str j /\ i.length + j.length <= sizeLine /\ Q (.str (i ++ j)) H) := by
 intro pins s σ H x y v u Q I rx ry h
 obtain ⟨i, j, rfl, rfl, hz, q⟩ := h
 obtain ⟨t, rfl⟩ := rx
 obtain ⟨t', rfl⟩ := ry
 exact add_str (fun t' tk => ⟨.str (i ++ j), H, I.tok _, ⟨_, rfl⟩, q⟩) hz
theorem eC {x : V} {us : List Value} (r : bb [x] us) : ∃ u, us = [u] /\ cz x u := by
 cases r with
 | cons r1 r2 => cases r2; exact ⟨_, rfl, r1⟩
theorem yW {x y : V} {us : List Value} (r : bb [x, y] us) : ∃ u w', us = [u, w'] /\ cz x u /\ cz y w' := by
 cases r with
 | cons r1 r2 =>
  cases r2 with
  | cons r3 r4 => cases r4; exact ⟨_, _, rfl, r1, r3⟩
theorem yq (hc : X.calm = true) : cE X (.builtin "max") (fun xs H Q => ∃ i j, xs = [.int i, .int j] /\ Q (.int (if j > i then j else i)) H) := by
 intro pins s σ H xs us Q I r h
 obtain ⟨i, j, rfl, q⟩ := h
 obtain ⟨u, w', rfl, ⟨t, rfl⟩, ⟨t', rfl⟩⟩ := yW r
 refine max_two_ints (I.ok.hd hc) fun h' tk k => ⟨_, H, I.kept k, ?_, q⟩
 by_cases hj : j > i
 ·rw [Jl hj, Jl hj]; exact ⟨_, rfl⟩
 ·rw [Jm hj, Jm hj]; exact ⟨_, rfl⟩
theorem yo (hc : X.calm = true) : cE X (.builtin "min") (fun xs H Q => ∃ i j, xs = [.int i, .int j] /\ Q (.int (if j < i then j else i)) H) := by
 intro pins s σ H xs us Q I r h
 obtain ⟨i, j, rfl, q⟩ := h
 obtain ⟨u, w', rfl, ⟨t, rfl⟩, ⟨t', rfl⟩⟩ := yW r
 refine min_two_ints (I.ok.hd hc) fun h' tk k => ⟨_, H, I.kept k, ?_, q⟩
 by_cases hj : j < i
 ·rw [Jl hj, Jl hj]; exact ⟨_, rfl⟩
 ·rw [Jm hj, Jm hj]; exact ⟨_, rfl⟩
theorem yv : cE X (.type "int") (fun xs H Q => (∃ i, xs = [.int i] /\ Q (.int i) H) \/ ∃ k, xs = [.bl k] /\ Q (.int (if k then 1 else 0)) H) := by
 intro pins s σ H xs us Q I r h
 rcases h with ⟨i, rfl, q⟩ | ⟨k, rfl, q⟩
 ·obtain ⟨u, rfl, t, rfl⟩ := eC r
  exact call_int_int ⟨.int i, H, I, ⟨_, rfl⟩, q⟩
 ·obtain ⟨u, rfl, r1⟩ := eC r
  cases r1
  exact call_int_bool ⟨.int (if k then 1 else 0), H, I.tok _, ⟨_, rfl⟩, q⟩
def D5 (K : W.Frag) (x : V) (H : Hp) (n : Nat) : Prop :=
 match x with
 | .str y => y.length <= sizeLine /\ n = y.length
 | .byt y => y.size <= sizeLine /\ n = y.size
 | .ref p => (∃ xs, fw K H p xs /\ n = xs.length) \/ ∃ xs, fW K H p xs /\ n = xs.length
 | _ => False
theorem Ba : cE X (.builtin "len") (fun xs H Q => ∃ x n, xs = [x] /\ D5 X.K x H n /\ Q (.int n) H) := by
 intro pins s σ H xs us Q I r h
 obtain ⟨x, n, rfl, e, q⟩ := h
 obtain ⟨u, rfl, rx⟩ := eC r
 have hl := mB
 have hs : sizeLine = 16777216 := J2
 cases x with
 | str y =>
  obtain ⟨t, rfl⟩ := rx
  obtain ⟨hy, e'⟩ : y.length <= sizeLine /\ n = y.length := e
  subst e'
  exact len_str (by omega) ⟨.int _, H, I.tok _, ⟨_, rfl⟩, q⟩
 | byt y =>
  obtain ⟨t, rfl⟩ := rx
  obtain ⟨hy, e'⟩ : y.size <= sizeLine /\ n = y.size := e
  subst e'
  exact W.len_bytes (by omega) ⟨.int _, H, I.tok _, ⟨_, rfl⟩, q⟩
 | ref p =>
  cases rx
  have e' : (∃ xs, fw X.K H p xs /\ n = xs.length) \/ ∃ xs, fW X.K H p xs /\ n = xs.length := e
  rcases e' with ⟨xs, hx, e'⟩ | ⟨xs, hx, e'⟩
  ·subst e'
   obtain ⟨its, r', pl, hz⟩ := I.list hx
   have hlen := r'.length
   exact Calls.call_len_list pl.isList (by simp only [J3]; omega) ⟨.int xs.length, H, I.tok _, ⟨_, by simp only [J3]; rw [hlen]⟩, q⟩
  ·subst e'
   obtain ⟨its, r', pl, hz⟩ := I.tuple hx
   have hlen := r'.length
   exact len_tuple pl (by simp only [J3]; omega) ⟨.int xs.length, H, I.tok _, ⟨_, by simp only [J3]; rw [hlen]⟩, q⟩
 | _ => exact (show False from e).elim
end
end L2
namespace L2
open PySem PySem.Spec PyProof.Rows
structure Je (h : Heap) (x dx C : Addr) (mA : Str -> Option Value) : Prop where
 obj : h.get? x = some (W.instObj C dx)
 ns : h.Ns1 dx mA
 ne : dx ≠ x
section
variable {prog : Program} {w : World} {A : Around} {E : Value -> Shared -> Prop} {s : Shared} {K : W.Frag} {x dx C f : Addr} {mA : Str -> Option Value} {name : Str} {v : Value}
end
section
variable {P : Program} {w : World} {H H' : Hp} {h h' : Heap} {a C dx : Addr} {fs fs' : List (Str × V)}
end
structure Jd (K : W.Frag) (C : Addr) : Prop where
 pg : W.plainGet K C Str.empty = true
 hd : W.hasDictIn K C = true
 po : W.plainOver K C = true
 sa : W.findIn K (.ref C) "__setattr__" = some (some (.builtin "object.__setattr__"))
structure Jg (K : W.Frag) (C : Addr) (f : Str) (v : V) (u : Value) : Prop where
 at_ : W.findIn K (.ref C) f = some (some u)
 rel : cz v u
 get : W.specialIn K u "__get__" = some none
 cp : W.copiedNames.contains f = false
structure Jf (K : W.Frag) (C : Addr) (m : Str) (f : Addr) : Prop where
 at_ : W.findIn K (.ref C) m = some (some (.ref f))
 fn : W.isFn K (.ref f) = true
 kp : W.keepIn K (.ref f) = true
section
variable {X : Cx} {pins : List (Addr × Obj)} {σ : St} {H : Hp} {s : Shared} {a C dx : Addr} {fs : List (Str × V)} {f : Str} {v : V} {A : Around} {E : Value -> Shared -> Prop}
end
section
variable {X : Cx} {o e value : Expr} {f : Str} {pos pos' tpos : Pos} {ta tv : TE}
end
section
variable {X : Cx} {pins : List (Addr × Obj)} {σ : St} {H : Hp} {s : Shared} {A : Around} {E : Value -> Shared -> Prop} {Q : Value -> Shared -> Prop} {c : Value} {b : Bool}
inductive nW (K : W.Frag) (H : Hp) : V -> Value -> Prop where
 | non : nW K H .non (.type "NoneType")
 | bl (x : Bool) : nW K H (.bl x) (.type "bool")
 | int (i : Int) : nW K H (.int i) (.type "int")
 | str (x : Str) : nW K H (.str x) (.type "str")
 | flt (x : UInt64) : nW K H (.flt x) (.type "float")
 | lst {a : Addr} {xs : List V} (e : H a = some (.lst xs)) : nW K H (.ref a) (.type "list")
 | frz {a : Addr} {o : Obj} {xs : List V} (e : H a = some (.frz o (.lst xs))) : nW K H (.ref a) (.type "list")
 | tup {a : Addr} {xs : List V} (e : H a = some (.tup xs)) : nW K H (.ref a) (.type "tuple")
 | dK {a : Addr} {kvs : List (rA × V)} (e : H a = some (.dK kvs)) : nW K H (.ref a) (.type "dict")
 | dT {a : Addr} {kvs : List (List rA × V)} (e : H a = some (.dT kvs)) : nW K H (.ref a) (.type "dict")
 | ins {a C dx : Addr} {fs : List (Str × V)} (e : H a = some (.ins C dx fs)) (cl : Jd K C) (ha : W.findIn K (.ref C) "__class__" = some (some (.builtin "object.__class__")))
   (hn : W.specialIn K (.builtin "object.__class__") "__get__" = some (some (.builtin "getset_descriptor.__get__"))) (htk : W.takesIn K (.builtin "object.__class__") = some true)
   (hm : W.mroIn K C (.type "object") = some true) : nW K H (.ref a) (.ref C)
end
end L2
namespace L2
open PySem PySem.Spec PyProof.Rows
structure ic (k : Nat) (A : Around) : Prop where
 hd : A.handled = none
 dp : A.depth + 3 * k + 5 < recursionLimit
 un : A.units + 16 * k + 200 < cLine
 gd : A.guards = some []
theorem ic.mono {j k : Nat} {A : Around} (r : ic k A) (h : j <= k) : ic j A := ⟨r.hd, by have := r.dp; omega, by have := r.un; omega, r.gd⟩
theorem ic.deeper {k : Nat} {A : Around} (r : ic (k + 1) A) (env : Env) : ic k (A.deeper env) :=
 ⟨r.hd, by have := r.dp; show A.depth + 1 + 3 * k + 5 < _; omega, by have := r.un; show A.units + 3 + 16 * k + 200 < _; omega, r.gd⟩
theorem ic.depth {k : Nat} {A : Around} (r : ic k A) : A.depth < recursionLimit := by have := r.dp; omega
theorem ic.units {k : Nat} {A : Around} (r : ic k A) : A.units + 64 < cLine := by have := r.un; omega
def Ie : TA := fun _ H Q => Q [] H
def GX (ta : TE) (tr : TA) : TA := fun σ H Q => ta σ H fun x H1 => tr σ H1 fun xs H2 => Q (x :: xs) H2
section
variable {X : Cx} {e : Expr} {es : List Expr} {te : TE} {t : TA} {pos : Pos}
theorem va : PA X [] Ie := fun _ _ _ _ H Q I h => Calls.spliced_nil ⟨[], H, I, .nil, h⟩
theorem nI (ha : PE X e te) (hr : PA X es t) (hs : starEach (e :: es) X.env = (false, eval e X.env) :: starEach es X.env := by rfl) : PA X (e :: es) (GX te t) := by
 intro pos pins s σ H Q I h
 rw [hs]
 show wpAny _ _ (spliced ((false, eval e X.env) :: backTo pos (starEach es X.env))) _ _ s
 refine Calls.spliced_cons (dY (ha pins s σ H _ I h) fun u s1 ⟨x, H1, I1, r1, q1⟩ => ?_)
 exact dY (hr pos pins s1 σ H1 _ I1 q1) fun us s2 ⟨xs, H2, I2, r2, q2⟩ => ⟨x :: xs, H2, I2, .cons r1 r2, q2⟩
def HX (t : TA) : TE := fun σ H Q => t σ H fun xs H1 => xs.length <= sizeLine /\ ∀ p, H1 p = none -> Q (.ref p) (cM H1 p (.tup xs))
def Ig (t : TA) : TE := fun σ H Q => t σ H fun xs H1 => xs.length <= sizeLine /\ ∀ p, H1 p = none -> Q (.ref p) (cM H1 p (.lst xs))
theorem EZ {x1} (h : PA X es t) : PE X (.Tuple es x1 pos) (HX t) := by
 intro pins s σ H Q I hq
 refine wpAny_Tuple_spliced (dY (h pos pins s σ H _ I hq) fun us s1 ⟨xs, H1, I1, r, z, q⟩ => ⟨by rw [<- r.length]; exact z, ?_⟩)
 have hf : H1 s1.heap.objs.size = none := I1.hok.fresh (JV _)
 refine ⟨.ref s1.heap.objs.size, cM H1 s1.heap.objs.size (.tup xs), I1.laid (t' := s1.toks) (fun b u e => JT _ e) (JV _) ?_, rfl, q _ hf⟩
 exact ⟨z, us, r, ⟨_, JU _ rfl, rfl, _, rfl⟩⟩
theorem E5 (h : PA X es t) : PE X (.List es pos) (Ig t) := by
 intro pins s σ H Q I hq
 refine wpAny_List_spliced (dY (h pos pins s σ H _ I hq) fun us s1 ⟨xs, H1, I1, r, z, q⟩ => ⟨by rw [<- r.length]; exact z, ?_⟩)
 have hf : H1 s1.heap.objs.size = none := I1.hok.fresh (JV _)
 refine ⟨.ref s1.heap.objs.size, cM H1 s1.heap.objs.size (.lst xs), I1.laid (t' := s1.toks) (fun b u e => JT _ e) (JV _) ?_, rfl, q _ hf⟩
 exact ⟨z, us, 0, r, JU _ rfl⟩
end
abbrev Sp := List V -> Hp -> VK -> XK -> Prop
abbrev yI := List Env -> Hp -> Shared -> XK -> Value -> Shared -> Prop
structure By (P : Program) (w : World) (K : W.Frag) (mg : Str -> Option Value) (base : Heap) (A : Around) (outer : List Env) (s : Shared) (H : Hp) : Prop where
 frames : A.frames = some outer
 mod : Mod K mg base
 bs : ∀ b o, base.get? b = some o -> s.heap.get? b = some o /\ H b = none
 bsz : base.objs.size <= s.heap.objs.size
 funs : s.heap.FunFrames base outer
 frf : ∀ b ∈ yH outer, H b = none
 hok : nR P w H s.heap
 bare : AllBare s.gens
def CE (outer : List Env) (P : Program) (w : World) (H : Hp) (s : Shared) (Q : VK) (u : Value) (s' : Shared) : Prop :=
 ∃ v H', s'.os = s.os /\ AllBare s'.gens /\ Un (yH outer) [] H H' s.heap s'.heap /\ nR P w H' s'.heap /\ cz v u /\ Q v H'
def CR (CX : yI) (outer : List Env) (P : Program) (w : World) (H : Hp) (s : Shared) (Q : VK) (E : XK) (r : Result) (s' : Shared) : Prop :=
 match r with
 | .ok (.ret u) => CE outer P w H s Q u s'
 | .ok _ => False
 | .error e => CX outer H s E e s'
structure pU (P : Program) (w : World) (K : W.Frag) (mg : Str -> Option Value) (base : Heap) (CX : yI) (k : Nat) (f : Addr) (fd : FuncData) (ps : List Str) (sp : Sp) : Prop where
 len : ∀ vs H Q E, sp vs H Q E -> vs.length = ps.length
 run : ∀ (A : Around) (outer : List Env) (s : Shared) (H : Hp) (args : Args) (us : List Value) (vs : List V) (Q : VK) (E : XK), ic k A -> By P w K mg base A outer s H -> BindsTo s fd args (ps.zip us) -> bb vs us -> sp vs H Q E ->
  codeAny (model P w) A (.call (.ref f) args) (CR CX outer P w H s Q E) s
section
variable {X : Cx} {pins : List (Addr × Obj)} {σ : St} {H : Hp} {s s' : Shared}
theorem aT.env0 (I : aT X pins σ H s) : By X.prog X.w X.K X.mg X.base X.A X.stack s H :=
 ⟨I.ok.frames, I.ok.mod, I.bs, Ju I.ok.bsz I.sz, I.stack, I.stkFree, I.hok, I.bare⟩
theorem aT.after {Q : VK} {u : Value} (I : aT X pins σ H s) (h : CE X.stack X.prog X.w H s Q u s') : EP X pins σ Q u s' := by
 obtain ⟨v, H', os, bare, un, hok, r, q⟩ := h
 obtain ⟨hh, g, d, t, os'⟩ := s'
 obtain rfl : os' = s.os := os
 exact ⟨v, H', I.call (h' := hh) (g' := g) (d' := d) (t' := t) (ch := []) un hok bare (fun b z => absurd z (by simp)), r, q⟩
end
def GY (sp : Sp) (dvs : List V) (E : XK) (t : TA) : TE := fun σ H Q => t σ H fun vs H1 => sp (vs ++ dvs) H1 Q E
def j4 (K : W.Frag) (fd : FuncData) (ps : List Str) (ds : List Value) : Prop :=
 ∀ (s : Shared) (us : List Value), K.In s.heap -> (us ++ ds).length = ps.length -> BindsTo s fd ⟨us, []⟩ (ps.zip (us ++ ds))
theorem j4.all {K : W.Frag} {fd : FuncData} {ps : List Str} (h : ∀ us : List Value, us.length = ps.length -> bindArgs fd ⟨us, []⟩ = pure (ps.zip us)) : j4 K fd ps [] := fun s us _ hl => by
 rw [J4] at hl ⊢
 exact .of_eq (h us hl)
def vh (CX : yI) (X : Cx) (E : XK) : Prop := ∀ (pins : List (Addr × Obj)) (σ : St) (H : Hp) (s : Shared) (e : Value) (s' : Shared), aT X pins σ H s -> CX X.stack H s E e s' -> X.xe e s'
section
variable {X : Cx} {CX : yI} {k : Nat} {f C : Addr} {fd : FuncData} {ps : List Str} {sp : Sp} {dvs : List V} {ds : List Value} {E : XK} {x m : Str} {p pos apos : Pos} {e o : Expr} {es : List Expr} {ta : TE} {t : TA}
theorem EK {pins : List (Addr × Obj)} {σ : St} {H : Hp} {s : Shared} {Q : VK} {us : List Value} {vs : List V} (F : pU X.prog X.w X.K X.mg X.base CX k f fd ps sp) (hr : ic k X.A) (hb : j4 X.K fd ps ds) (hd : bb dvs ds) (hx : vh CX X E)
  (I : aT X pins σ H s) (r : bb vs us) (h : sp (vs ++ dvs) H Q E) : wpAny (model X.prog X.w) X.A (call (.ref f) us) (EP X pins σ Q) X.xe s := by
 have r2 : bb (vs ++ dvs) (us ++ ds) := r.append hd
 have hl : (us ++ ds).length = ps.length := by rw [<- r2.length]; exact F.len _ _ _ _ h
 refine wpAny_call (J5 (F.run X.A X.stack s H ⟨us, []⟩ (us ++ ds) (vs ++ dvs) Q E hr I.env0 (hb s us I.kIn hl) r2 h) fun r s' hq => ?_)
 cases r with
 | error e => exact hx pins σ H s e s' I hq
 | ok fl =>
  cases fl with
  | ret u => exact I.after hq
  | next => exact False.elim hq
  | brk => exact False.elim hq
  | cont => exact False.elim hq
theorem Cy (F : pU X.prog X.w X.K X.mg X.base CX k f fd ps sp) (hr : ic k X.A) (hg : Gl X x) (hm : X.mg x = some (.ref f)) (hk : W.keepIn X.K (.ref f) = true) (hb : j4 X.K fd ps ds) (hd : bb dvs ds) (hx : vh CX X E)
  (ha : PA X (e :: es) t) (hdb : (x == ("__debug__" : Str)) = false := by decide) (he : starEach (e :: es) X.env = (false, eval e X.env) :: starEach es X.env := by rfl) (hpl : (backTo pos (starEach es X.env)).any (·.1) = false := by rfl) :
  PE X (.Call (.Name x p) (e :: es) [] pos) (GY sp dvs E t) := by
 intro pins s σ H Q I h
 refine J6 (wM I hg hm ?_ hdb)
 refine W.callWith_K (h₀ := X.base) I.ok.mod.kin hk (dY (ha pos pins s σ H _ I h) fun us s1 ⟨vs, H1, I1, r, q⟩ => ⟨I1.kIn, ?_⟩) he hpl
 exact EK F hr hb hd hx I1 r q
structure Mk (K : W.Frag) (C f : Addr) : Prop where
 makes : W.makesIn K C = true
 init : W.findIn K (.ref C) "__init__" = some (some (.ref f))
 fn : W.isFn K (.ref f) = true
 kp : W.keepIn K (.ref C) = true
end
section
variable {X : Cx} {CX : yI} {k : Nat} {f C : Addr} {fd : FuncData} {ps ks : List Str} {sp : Sp} {E : XK} {x m : Str} {p pos apos kpos : Pos} {e o : Expr} {es : List Expr} {kws : List Keyword} {te ta : TE} {t tk : TA} {nm : Option Str}
structure IK (K : W.Frag) (fd : FuncData) (ps ks : List Str) (g : List Value -> List Value -> List Value) (gV : List V -> List V -> List V) : Prop where
 to : ∀ (s : Shared) (us ws : List Value), K.In s.heap -> (g us ws).length = ps.length -> BindsTo s fd ⟨us, ks.zip ws⟩ (ps.zip (g us ws))
 rel : ∀ {vs : List V} {us : List Value} {zs : List V} {ws : List Value}, bb vs us -> bb zs ws -> bb (gV vs zs) (g us ws)
variable {g : List Value -> List Value -> List Value} {gV : List V -> List V -> List V}
end
structure aY (N P : List Str) (sc : Scope) : Prop where
 kind : sc.kind = .function
 co : sc.isCoroutine = false
 gen : sc.isGenerator = false
 nd : N.Nodup
 pre : N.take P.length = P
 par : ∀ x ∈ P, sc.names.lookup x = some .local \/ sc.names.lookup x = some .cell
 nofree : ∀ y ∈ sc.names, y.2 ≠ .free
theorem qZ {kindOf : Str -> Option NameKind} {x : Str} : ∀ {binds : List (Str × Value)} {m : Str -> Option Value}, (∀ v, (x, v) ∉ binds) -> bindL kindOf binds m x = m x
 | [], _, _ => rfl
 | (n, v) :: r, m, h => by
  unfold bindL
  rw [qZ fun w hw => h w (Jy _ hw)]
  split
  ·have : x ≠ n := by rintro rfl; exact h v Jx
   simp [this]
  ·rfl
theorem rf {kindOf : Str -> Option NameKind} {x : Str} : ∀ {binds : List (Str × Value)} {m : Str -> Option Value}, (∀ v, (x, v) ∉ binds) -> bindC kindOf binds m x = m x
 | [], _, _ => rfl
 | (n, v) :: r, m, h => by
  unfold bindC
  rw [rf fun w hw => h w (Jy _ hw)]
  split
  ·rfl
  ·have : x ≠ n := by rintro rfl; exact h v Jx
   simp [this]
theorem q5 {kindOf : Str -> Option NameKind} {x : Str} {v : Value} : ∀ {P : List Str} {vs : List Value} {i : Nat} {m : Str -> Option Value}, P.Nodup -> P[i]? = some x -> vs[i]? = some v -> kindOf x = some .local ->
  bindL kindOf (P.zip vs) m x = some v
 | [], _, _, _, _, h, _, _ => by simp at h
 | _ :: _, [], _, _, _, _, h, _ => by simp at h
 | p :: P, w :: vs, 0, m, nd, h1, h2, hk => by
  simp at h1 h2; subst h1; subst h2
  show bindL kindOf ((p, w) :: P.zip vs) m p = _
  unfold bindL
  rw [qZ fun v hv => (J7.mp nd).1 (J8 hv).1, Jl hk]
  simp
 | p :: P, w :: vs, i + 1, m, nd, h1, h2, hk => by
  show bindL kindOf ((p, w) :: P.zip vs) m x = _
  unfold bindL
  exact q5 (i := i) (J7.mp nd).2 (by simpa using h1) (by simpa using h2) hk
theorem rh {kindOf : Str -> Option NameKind} {x : Str} {v : Value} : ∀ {P : List Str} {vs : List Value} {i : Nat} {m : Str -> Option Value}, P.Nodup -> P[i]? = some x -> vs[i]? = some v -> kindOf x ≠ some .local ->
  bindC kindOf (P.zip vs) m x = some v
 | [], _, _, _, _, h, _, _ => by simp at h
 | _ :: _, [], _, _, _, _, h, _ => by simp at h
 | p :: P, w :: vs, 0, m, nd, h1, h2, hk => by
  simp at h1 h2; subst h1; subst h2
  show bindC kindOf ((p, w) :: P.zip vs) m p = _
  unfold bindC
  rw [rf fun v hv => (J7.mp nd).1 (J8 hv).1, Jm hk]
  simp
 | p :: P, w :: vs, i + 1, m, nd, h1, h2, hk => by
  show bindC kindOf ((p, w) :: P.zip vs) m x = _
  unfold bindC
  exact rh (i := i) (J7.mp nd).2 (by simpa using h1) (by simpa using h2) hk
def start (N : List Str) (vs : List V) : St := vs.map some ++ List.replicate (N.length - vs.length) none
def rE (CX : yI) (P : Program) (w : World) (K : W.Frag) (mg : Str -> Option Value) (base : Heap) (N : List Str) (qual : Str) (scope : Scope) (f : Addr) (cd : Value) (A : Around) (outer : List Env) (s : Shared) (H : Hp) (E : XK) : Cx where
 prog := P
 w := w
 K := K
 mg := mg
 base := base
 A := A.deeper (envOfC qual scope s.heap.objs.size f cd)
 N := N
 s₀ := s
 H₀ := H
 env := envOfC qual scope s.heap.objs.size f cd
 outer := outer
 stack := envOfC qual scope s.heap.objs.size f cd :: outer
 ex := []
 calm := true
 fn := fun _ => true
 pn := []
 xe := fun e s' => wpAny (model P w) (A.deeper (envOfC qual scope s.heap.objs.size f cd)) (leaving (envOfC qual scope s.heap.objs.size f cd) e) (fun _ s'' => CX outer H s E e s'') (fun e' s'' => CX outer H s E e' s'') s'
theorem uy {sc : Scope} {n : Nat} {x : Str} (h : sc.names.lookup x = some .cell) : ∃ c, (cellsFrom n sc.names []).lookup x = some c := by
 have q := W.cellsFrom_some sc.names n [] (.inl h)
 exact J9.mp q
theorem x9 {CX : yI} {P : Program} {w : World} {K : W.Frag} {mg : Str -> Option Value} {base : Heap} {N ps : List Str} {qual : Str} {scope : Scope} {f : Addr} {cd : Value} {A : Around} {outer : List Env} {s s1 : Shared} {H : Hp} {E : XK} {us : List Value} {vs : List V}
  (S : aY N ps scope) (hd : A.handled = none) (e0 : By P w K mg base A outer s H) (hl : vs.length = ps.length) (r : bb vs us)
  (x : InCallC s s.heap.objs.size (bindL (envOfC qual scope s.heap.objs.size f cd).kindOf (ps.zip us) fun _ => none) (cellsFrom (s.heap.objs.size + 1) scope.names []) (bindC (envOfC qual scope s.heap.objs.size f cd).kindOf (ps.zip us) fun _ => none) s1) :
  aT (rE CX P w K mg base N qual scope f cd A outer s H E) [] (start N vs) H s1 := by
 have hpl : ps.length <= N.length := by have := JK List.length S.pre; rw [Ka] at this; omega
 obtain ⟨h1, tk, rfl, hk⟩ := x.done
 have noA : ∀ b : Addr, b ∉ (rE CX P w K mg base N qual scope f cd A outer s H E).ex := fun b z => absurd (show b ∈ ([] : List Addr) from z) (by simp)
 refine ⟨⟨e0.mod, S.kind, rfl, rfl, JV _, fun y z c h1 h2 => ?_, fun y hy => ?_, fun y c _ h => ?_, fun _ => hd, Around.frames_deeper e0.frames, .inr ⟨rfl, rfl⟩, fun b z => absurd z (noA b), e0.bs, e0.bsz, fun b _ _ => noA b, fun b z => absurd z (noA b), e0.funs, e0.frf⟩,
  rfl, e0.bare, Un.kept hk, ⟨_, x.toInCall.ns, fun i y v h1 h2 h3 => ?_⟩, fun y c h => ⟨_, x.cell y c h⟩, e0.hok.fresh (JV _), fun y c h => ?_, fun p hp => absurd (show p ∈ ([] : List (Addr × Obj)) from hp) (by simp), e0.hok.kept hk, ?_⟩
 ·exact name_of_addr x.apart (Kb h1) (Kb h2)
 ·have hy : scope.names.lookup y = some .cell \/ scope.names.lookup y = some .free := hy
  rcases hy with hy | hy
  ·exact uy hy
  ·exact absurd rfl (S.nofree _ (Kb hy))
 ·exact Jv (x.above y c (Kb h))
 ·have hi : i < vs.length := by
   unfold start at h2
   by_cases hi : i < vs.length
   ·exact hi
   ·rw [Kc (by simpa using hi)] at h2
    rw [List.getElem?_replicate] at h2
    split at h2 <;> cases h2
  have ha : vs[i]? = some v := by
   unfold start at h2
   rw [Kd (by simpa using hi), Ke] at h2
   cases e : vs[i]? with
   | none => rw [e] at h2; cases h2
   | some a => rw [e] at h2; cases h2; rfl
  obtain ⟨u, hu, rv⟩ := r.get ha
  have hp : ps[i]? = some y := by
   rw [<- S.pre, List.getElem?_take_of_lt (by omega)]; exact h1
  have ndP : ps.Nodup := by rw [<- S.pre]; exact S.nd.sublist (List.take_sublist _ _)
  refine ⟨u, rv, ?_⟩
  rcases S.par y (Kf hp) with k | k
  ·exact .inl ⟨k, q5 ndP hp hu k⟩
  ·obtain ⟨c, e⟩ := uy (n := s.heap.objs.size + 1) k
   refine .inr ⟨.inl k, c, e, ?_⟩
   have q := x.cell y c e
   rw [rh ndP hp hu (by show scope.names.lookup y ≠ _; rw [k]; decide)] at q
   exact q
 ·exact e0.hok.fresh (Jv (x.above y c (Kb h)))
 ·unfold start
  show _ = N.length
  rw [Kg, Kh, List.length_replicate]
  omega
theorem Ht {CX : yI} {P : Program} {w : World} {K : W.Frag} {mg : Str -> Option Value} {base : Heap} {k : Nat} {f : Addr} {name qual : Str} {params : Arguments} {body : List Stmt} {scope : Scope} {dV kV doc pm cdv ct oc : Value} {an od : Option Addr}
  {osl : Array (Option Value)} {N ps : List Str} {sp : Sp} (lk : K.lookup f = some ⟨oc, od, .func (W.fnOf name qual params body scope dV kV doc pm an cdv ct), osl⟩) (hcd : W.codeIn K cdv qual = true) (S : aY N ps scope)
  (len : ∀ vs H Q E, sp vs H Q E -> vs.length = ps.length)
  (hbody : ∀ (A : Around) (outer : List Env) (s : Shared) (H : Hp) (vs : List V) (Q : VK) (E : XK), ic k (A.deeper (envOfC qual scope s.heap.objs.size f cdv)) -> sp vs H Q E ->
   ∃ t, kO (rE CX P w K mg base N qual scope f cdv A outer s H E) body t /\ t { nx := fun _ H' => Q .non H', rt := Q } (start N vs) H) :
  pU P w K mg base CX (k + 1) f (W.fnOf name qual params body scope dV kV doc pm an cdv ct) ps sp := by
 refine ⟨len, fun A outer s H args us vs Q E hr e0 hb r hsp => ?_⟩
 have hl := len _ _ _ _ hsp
 have KX : K.In s.heap := e0.mod.kin.keeps fun b o e => (e0.bs b o e).1
 have lim : s.heap.NoLimit := e0.mod.nolimit.keeps fun b o e => (e0.bs b o e).1
 have hkind : ∀ y ∈ ps.zip us, scope.names.lookup y.1 = some .local \/ (scope.names.lookup y.1 = some .cell /\ ((cellsFrom (s.heap.objs.size + 1) scope.names []).lookup y.1).isSome = true) := fun ⟨n, v⟩ hy => by
  rcases S.par n (J8 hy).1 with q | q
  ·exact .inl q
  ·exact .inr ⟨q, W.cellsFrom_some _ _ _ (.inl q)⟩
 refine codeAny_call_function hr.depth (KX _ _ lk) rfl S.co S.gen rfl (W.codeRec_of KX hcd) (hb _ _ _ _ ?_)
 refine wpAny_newFunctionEnv_cells S.kind hkind fun env he s1 x => ?_
 subst he
 refine ⟨lim.keeps x.toInCall.keep, codeAny_func ?_⟩
 obtain ⟨t, ht, hq⟩ := hbody A outer s H vs Q E (hr.deeper _) hsp
 have I : aT (rE CX P w K mg base N qual scope f cdv A outer s H E) [] (start N vs) H s1 := x9 S hr.hd e0 hl r x
 refine JH (ht [] s1 (start N vs) H _ I hq) (fun fl s' hs => ?_) fun e s' hs => hs
 have fin : ∀ {σ' : St} {H' : Hp} {v : V} {u : Value}, aT (rE CX P w K mg base N qual scope f cdv A outer s H E) [] σ' H' s' -> cz v u -> Q v H' -> CE outer P w H s Q u s' :=
  fun {σ' H' v u} J rv q => ⟨v, H', J.os, J.bare, J.base, J.hok, rv, q⟩
 cases fl with
 | ret u =>
  obtain ⟨v, σ', H', J, rv, q⟩ := hs
  exact fin J rv q
 | next =>
  obtain ⟨σ', H', J, q⟩ := hs
  exact fin (v := V.non) (u := Value.none) J rfl q
 | brk =>
  obtain ⟨_, _, _, q⟩ := hs
  exact False.elim q
 | cont =>
  obtain ⟨_, _, _, q⟩ := hs
  exact False.elim q
end L2
namespace L2
open PySem PySem.Spec PyProof.Rows
section
variable {X : Cx} {x : Str} {p pos : Pos} {e : Expr} {es : List Expr} {t : TA} {id T : String} {r : List V -> Hp -> VK -> Prop}
def HN (r : List V -> Hp -> VK -> Prop) (t : TA) : TE := fun σ H Q => t σ H fun vs H1 => r vs H1 Q
theorem t6 (hc : cE X (.builtin id) r) (hg : Gl X x) (hm : X.mg x = none) (hv : bootBuiltins x = some (.builtin id)) (ha : PA X (e :: es) t) (hn : x ≠ "__name__" := by decide) (hdb : (x == ("__debug__" : Str)) = false := by decide)
  (he : starEach (e :: es) X.env = (false, eval e X.env) :: starEach es X.env := by rfl) (hpl : (backTo pos (starEach es X.env)).any (·.1) = false := by rfl) : PE X (.Call (.Name x p) (e :: es) [] pos) (HN r t) := by
 intro pins s σ H Q I h
 refine J6 (j6 I hg hm hv ?_ hn hdb)
 exact PyProof.Rows.callWith_builtin1 (dY (ha pos pins s σ H _ I h) fun us s1 ⟨vs, H1, I1, r1, q1⟩ => hc pins s1 σ H1 vs us Q I1 r1 q1) he hpl
theorem qE (hc : cE X (.type T) r) (hg : Gl X x) (hm : X.mg x = none) (hv : bootBuiltins x = some (.type T)) (ha : PA X (e :: es) t) (hn : x ≠ "__name__" := by decide) (hdb : (x == ("__debug__" : Str)) = false := by decide)
  (he : starEach (e :: es) X.env = (false, eval e X.env) :: starEach es X.env := by rfl) (hpl : (backTo pos (starEach es X.env)).any (·.1) = false := by rfl) : PE X (.Call (.Name x p) (e :: es) [] pos) (HN r t) := by
 intro pins s σ H Q I h
 refine J6 (j6 I hg hm hv ?_ hn hdb)
 exact JW (dY (ha pos pins s σ H _ I h) fun us s1 ⟨vs, H1, I1, r1, q1⟩ => hc pins s1 σ H1 vs us Q I1 r1 q1) he hpl
end
end L2
namespace HT
open PySem PyProof.Rows
section
open PySem.SeqAt
open PySem.AutoSeq1 (wpAny_loadPart')
open PySem.MeetsSeq PySem.MeetsSeq2 PySem.MeetsSeq3
end
section
variable {prog : Program} {w : World} {A : Around} {E : Value -> Shared -> Prop} {s : Shared}
theorem cat_tup {t b : Addr} {vs ws : List Value} {Q : Value -> Shared -> Prop} (ht : IsTup s.heap t vs.toArray) (hb : IsTup s.heap b ws.toArray) (hv : vs ≠ [])
  (h1 : ws = [] -> Q (.ref t) s) (h2 : ws ≠ [] -> Q (.ref s.heap.objs.size) { s with heap := s.heap.push { cls := .type "tuple", data := .seq (vs ++ ws).toArray } })
  (hsz : vs.length + ws.length <= sizeLine) : wpAny (model prog w) A (binaryOp .Add (.ref t) (.ref b)) Q E s := by
 obtain ⟨⟨cls, dd, data, sl⟩, ho, hc, n, hd⟩ := id ht
 obtain ⟨⟨cls2, dd2, data2, sl2⟩, ho2, hc2, n2, hd2⟩ := id hb
 simp only at hc hd hc2 hd2
 subst hc hd hc2 hd2
 have e : vs.toArray ++ ws.toArray = (vs ++ ws).toArray := by simp
 by_cases hw : ws = []
 ·exact concat_meets ⟨_, ho, rfl⟩ ⟨_, ho2, rfl⟩ Ki seq_tuple_add Kj Kk (Kl _ _)
   (tuple_addW1 t b vs.toArray ws.toArray n n2 dd dd2 sl sl2 (by simpa using hv) (by simp [hw])) ⟨ho, ho2, h1 hw⟩
 ·refine concat_meets ⟨_, ho, rfl⟩ ⟨_, ho2, rfl⟩ Ki seq_tuple_add Kj Kk (Kl _ _)
   (tuple_addW2 t b vs.toArray ws.toArray n n2 dd dd2 sl sl2 (by simpa using hv) (by simpa using hw) (by rw [J3, J3]; exact hsz)) ⟨ho, ho2, ?_⟩
  rw [e]
  exact h2 hw
def sIx (n d : Nat) : Option Int -> Nat
 | none => d
 | some v => if v < 0 then (v + (n : Int)).toNat else min v.toNat n
theorem sIx_none (n d : Nat) : sIx n d none = d := rfl
theorem sIx_nat (n d k : Nat) : sIx n d (some (k : Int)) = min k n := by
 show (if (k : Int) < 0 then ((k : Int) + (n : Int)).toNat else min (k : Int).toNat n) = min k n
 rw [Jm (by omega), Km]
theorem EJ (n d : Nat) (hd : d <= n) (o : Option Int) : sIx n d o <= n := by
 cases o with
 | none => exact hd
 | some v =>
  show (if v < 0 then (v + (n : Int)).toNat else min v.toNat n) <= n
  by_cases hv : v < 0
  ·rw [Jl hv]; omega
  ·rw [Jm hv]; exact Kn _ _
theorem xb (v : Int) (n d : Nat) : (if v < 0 then max (v + (n : Int)) 0 else min v (n : Int)) = ((sIx n d (some v) : Nat) : Int) := by
 show (if v < 0 then max (v + (n : Int)) 0 else min v (n : Int)) = (((if v < 0 then (v + (n : Int)).toNat else min v.toNat n) : Nat) : Int)
 by_cases hv : v < 0
 ·simp only [Jl hv]; omega
 ·simp only [Jm hv]; omega
theorem v3 (lo hi : Option Int) (n : Nat) : Builtin.Slice.sliceAdjust lo hi 1 (n : Int) = (((sIx n 0 lo : Nat) : Int), ((sIx n n hi : Nat) : Int)) := by
 have h1 : ¬ ((1 : Int) < 0) := by omega
 unfold Builtin.Slice.sliceAdjust
 simp only [h1, Ko]
 refine Prod.ext ?_ ?_
 ·cases lo with
  | none => rfl
  | some v => exact xb v n 0
 ·cases hi with
  | none => rfl
  | some v => exact xb v n n
theorem vA (i j : Nat) : Builtin.Slice.slicePlaces (i : Int) (j : Int) 1 = j - i := by
 unfold Builtin.Slice.slicePlaces
 have h1 : (1 : Int) > 0 := by omega
 simp only [h1, Kq, Int.ediv_one]
 split <;> omega
theorem oP {v : Value} {o : Option Int} {Q : Option Int -> Shared -> Prop} (p : IsPart v o) (h : Q o s) : wpAny (model prog w) A (Builtin.Slice.slicePartIndex v) Q E s := by
 cases p with
 | none => exact Kr h
 | int i t => exact slicePart_int h
theorem sliceApplied_gen {sl : Addr} {vl vu : Value} {lo hi : Option Int} {n : Nat} {Q : Int × Int × Nat -> Shared -> Prop} (hs : s.heap.IsSliceOf sl vl vu .none) (pl : IsPart vl lo) (pu : IsPart vu hi)
  (h : Q (((sIx n 0 lo : Nat) : Int), 1, sIx n n hi - sIx n 0 lo) s) : wpAny (model prog w) A (Builtin.Slice.sliceApplied (.ref sl) (pure (n : Int))) Q E s := by
 obtain ⟨os, hos, hcs, hds⟩ := id hs
 unfold Builtin.Slice.sliceApplied Builtin.Slice.sliceFields
 refine JM (JM (Ks hos hds (x := vl) rfl (JM (Ks hos hds (x := vu) rfl (JM (Ks hos hds (x := .none) rfl (JQ ?_)))))))
 refine JM (Kr ?_)
 show wpAny _ _ (if ((1 : Int) == 0) = true then _ else _) _ _ s
 rw [Jm (by decide)]
 refine JM (oP pl (JM (oP pu (JM (JQ ?_)))))
 show wpAny _ _ (match Builtin.Slice.sliceAdjust lo hi 1 (n : Int) with | (lo, hi) => pure (lo, (1 : Int), Builtin.Slice.slicePlaces lo hi 1)) _ _ s
 rw [v3 lo hi n]
 show wpAny _ _ (pure (((sIx n 0 lo : Nat) : Int), (1 : Int), Builtin.Slice.slicePlaces ((sIx n 0 lo : Nat) : Int) ((sIx n n hi : Nat) : Int) 1)) _ _ s
 rw [vA]
 exact JQ h
theorem Ay (xs : Array Value) (i k : Nat) : ((List.range k).filterMap fun (m : Nat) => xs[((i : Int) + (m : Int) * 1).toNat]?).toArray = ((xs.toList.drop i).take k).toArray := by
 have e : (fun (m : Nat) => xs[((i : Int) + (m : Int) * 1).toNat]?) = fun m => xs[i + m]? := by
  funext m
  have : ((i : Int) + (m : Int) * 1).toNat = i + m := by omega
  rw [this]
 rw [e]
 have := pick_run xs i k
 rw [List.filterMap_map] at this
 have e2 : ((fun x => xs[x]?) ∘ fun x => i + x) = fun m => xs[i + m]? := rfl
 rw [e2] at this
 rw [this]
theorem getItem_tuple_cut {t sl : Addr} {items : Array Value} {vl vu : Value} {lo hi : Option Int} {Q : Value -> Shared -> Prop} (ht : IsTup s.heap t items) (hs : s.heap.IsSliceOf sl vl vu .none) (pl : IsPart vl lo) (pu : IsPart vu hi)
  (hw : ¬ (sIx items.size 0 lo = 0 /\ sIx items.size items.size hi = items.size))
  (h : Q (.ref s.heap.objs.size) { s with heap := s.heap.push { cls := .type "tuple", data := .seq ((items.toList.drop (sIx items.size 0 lo)).take (sIx items.size items.size hi - sIx items.size 0 lo)).toArray } })
  (hsz : items.size <= sizeLine) : wpAny (model prog w) A (getItem (.ref t) (.ref sl)) Q E s := by
 have htake : sizeOk (.seq ((items.toList.drop (sIx items.size 0 lo)).take (sIx items.size items.size hi - sIx items.size 0 lo)).toArray) := by
  show ((items.toList.drop (sIx items.size 0 lo)).take (sIx items.size items.size hi - sIx items.size 0 lo)).toArray.size <= sizeLine
  rw [J3, Ka, Kt, JJ]
  omega
 have hj : sIx items.size items.size hi <= items.size := EJ _ _ (JV _) hi
 obtain ⟨os, hos, hcs, hds⟩ := id hs
 have hTs : s.TypeIs (.ref sl) "slice" := ⟨os, hos, hcs⟩
 unfold getItem
 try with_reducible refine JN ?_
 first | refine JM (JQ ?_) | skip
 refine JM (Ku ht.typeIs (by decide) ?_)
 refine JM (Kv (name := Str.ofString "__getitem__") ht.typeIs Kw
  (Kx Kw ht.typeIs Ky ?_ (KA _ _)))
 show wpAny _ _ (Builtin.Tuple.tupleItemsOf (.ref t) >>= _) _ _ s
 refine JM (tupleItemsOf_ ht ?_)
 refine JM (KB hTs ?_)
 rw [Jl (by decide)]
 refine JM (sliceApplied_gen hs pl pu ?_)
 have hno : ¬ ((((sIx items.size 0 lo : Nat) : Int) == 0 && (1 : Int) == 1 && (sIx items.size items.size hi - sIx items.size 0 lo) == items.size) = true) := by
  intro q
  rw [KC, KC] at q
  have q1 : ((sIx items.size 0 lo : Nat) : Int) = 0 := eq_of_beq q.1.1
  have q2 : sIx items.size items.size hi - sIx items.size 0 lo = items.size := eq_of_beq q.2
  exact hw ⟨by omega, by omega⟩
 show wpAny _ _ (if (((sIx items.size 0 lo : Nat) : Int) == 0 && (1 : Int) == 1 && (sIx items.size items.size hi - sIx items.size 0 lo) == items.size) = true then _ else _) _ _ s
 rw [Jm hno, Ay]
 first
  | exact JM (m := Builtin.Tuple.tupleExact _) (KD (JQ ⟨_, rfl, JQ h⟩) htake)
  | exact JM (m := Builtin.Tuple.tupleExact _) (KD (JM (JQ (JQ ⟨_, rfl, JQ h⟩))) htake)
  | exact JM (JM (m := Builtin.Tuple.tupleExact _) (KD (JQ (JQ ⟨_, rfl, JQ h⟩)) htake))
  | exact JM (JM (m := Builtin.Tuple.tupleExact _) (KD (JQ ⟨_, rfl, JQ h⟩) htake))
end
end HT
namespace L2
open PySem PySem.Spec PyProof.Rows
abbrev TO := St -> Hp -> (Option Int -> Hp -> Prop) -> Prop
def PO (X : Cx) (e : Option Expr) (t : TO) : Prop :=
 ∀ (pins : List (Addr × Obj)) (s : Shared) (σ : St) (H : Hp) (Q : Option Int -> Hp -> Prop), aT X pins σ H s -> t σ H Q ->
  wpAny (model X.prog X.w) X.A (evalPart e X.env) (fun u s' => ∃ o H', aT X pins σ H' s' /\ IsPart u o /\ Q o H') X.xe s
def BF : TO := fun _ H Q => Q none H
def GS (t : TE) : TO := fun σ H Q => t σ H fun x H1 => ∃ i, x = .int i /\ Q (some i) H1
theorem eX {ns : List Int} : ∀ {us : List Value}, bb (ns.map V.int) us -> IntsAre us ns := by
 induction ns with
 | nil => intro us r; rw [KE] at r; cases r; exact .nil
 | cons n ns ih =>
  intro us r
  rw [KF] at r
  cases r with
  | cons r1 r2 =>
   obtain ⟨t, e⟩ := r1
   subst e
   exact .cons n t (ih r2)
section
variable {X : Cx} {e : Expr} {te : TE} {lo hi : Option Expr} {tl th : TO} {pos p2 : Pos}
theorem Co : PO X none BF := by
 intro pins s σ H Q I h
 rw [evalPart_none]
 exact JQ ⟨none, H, I, .none, h⟩
theorem Cn (h : PE X e te) : PO X (some e) (GS te) := by
 intro pins s σ H Q I hw
 rw [evalPart_some]
 refine dY (h pins s σ H _ I hw) fun u s1 ⟨x, H1, I1, r1, q1⟩ => ?_
 obtain ⟨i, rfl, q⟩ := q1
 obtain ⟨t, rfl⟩ := r1
 exact ⟨some i, H1, I1, .int i t, q⟩
def Bn (X : Cx) (r : V -> Option Int -> Option Int -> Hp -> VK -> Prop) : Prop :=
 ∀ (pins : List (Addr × Obj)) (s : Shared) (σ : St) (H : Hp) (x : V) (v vl vu : Value) (lo hi : Option Int) (sl : Addr) (Q : VK), aT X pins σ H s -> cz x v -> s.heap.IsSliceOf sl vl vu .none -> IsPart vl lo -> IsPart vu hi -> r x lo hi H Q ->
  ∃ T id, typeLookup (.type T) "__getitem__" = pure (some (.builtin id)) /\ s.TypeIs v T /\ wpAny (model X.prog X.w) X.A (getItem v (.ref sl)) (EP X pins σ Q) X.xe s
theorem Bn.or {r r' : V -> Option Int -> Option Int -> Hp -> VK -> Prop} (h : Bn X r) (h' : Bn X r') : Bn X (fun x lo hi H Q => r x lo hi H Q \/ r' x lo hi H Q) := by
 intro pins s σ H x v vl vu lo hi sl Q I rx hs pl pu q
 rcases q with q | q
 ·exact h pins s σ H x v vl vu lo hi sl Q I rx hs pl pu q
 ·exact h' pins s σ H x v vl vu lo hi sl Q I rx hs pl pu q
def IZ (r : V -> Option Int -> Option Int -> Hp -> VK -> Prop) (te : TE) (tl th : TO) : TE := fun σ H Q => te σ H fun x H1 => tl σ H1 fun l H2 => th σ H2 fun u H3 => r x l u H3 Q
theorem AA {r : V -> Option Int -> Option Int -> Hp -> VK -> Prop} (hr : Bn X r) (he : PE X e te) (hl : PO X lo tl) (hu : PO X hi th) : PE X (.Subscript e (.Slice lo hi none p2) pos) (IZ r te tl th) := by
 intro pins s σ H Q I h
 refine Subscript_ (dY (he pins s σ H _ I h) fun v s1 ⟨x, H1, I1, r1, q1⟩ => ?_)
 refine wpAny_Slice (dY (hl pins s1 σ H1 _ I1 q1) fun vl s2 ⟨l, H2, I2, pl, q2⟩ => dY (hu pins s2 σ H2 _ I2 q2) fun vu s3 ⟨u, H3, I3, pu, q3⟩ => ?_)
 rw [evalPart_none]
 refine JQ ?_
 have I4 : aT X pins σ H3 { s3 with heap := s3.heap.push { cls := .type "slice", data := .fields #[vl, vu, .none] } } := I3.kept (t' := s3.toks) fun b ob q => JT _ q
 obtain ⟨T, id, hT, ht, hg⟩ := hr pins { s3 with heap := s3.heap.push { cls := .type "slice", data := .fields #[vl, vu, .none] } } σ H3 x v vl vu l u s3.heap.objs.size Q I4 r1 (Heap.IsSliceOf.new ..) pl pu q3
 show wpAny (model X.prog X.w) X.A (subscriptTail e (.Slice lo hi none p2) v (.ref s3.heap.objs.size)) (EP X pins σ Q) X.xe { s3 with heap := s3.heap.push { cls := .type "slice", data := .fields #[vl, vu, .none] } }
 exact tail_any (ops := [.ref s3.heap.objs.size, v]) ht hT hg (by with_unfolding_all rfl)
def sV (xs : List V) (lo hi : Option Int) : List V := (xs.drop (HT.sIx xs.length 0 lo)).take (HT.sIx xs.length xs.length hi - HT.sIx xs.length 0 lo)
theorem nh (xs : List V) (lo hi : Option Int) : (sV xs lo hi).length <= xs.length := by
 unfold sV
 rw [Ka, Kt]
 omega
def Gn (K : W.Frag) : V -> Option Int -> Option Int -> Hp -> VK -> Prop := fun x lo hi H Q => ∃ a xs, x = .ref a /\ fW K H a xs /\
 ¬ (HT.sIx xs.length 0 lo = 0 /\ HT.sIx xs.length xs.length hi = xs.length) /\ ∀ p, H p = none -> Q (.ref p) (cM H p (.tup (sV xs lo hi)))
theorem Eu : Bn X (Gn X.K) := by
 intro pins s σ H x v vl vu lo hi sl Q I rx hs pl pu h
 obtain ⟨a, xs, rfl, hx, hw, q⟩ := h
 cases rx
 obtain ⟨its, r, ht, hz⟩ := I.tuple hx
 have hlen : its.toArray.size = xs.length := by rw [J3]; exact r.length.symm
 refine ⟨"tuple", _, Kw.lookup, ht.typeIs, ?_⟩
 refine HT.getItem_tuple_cut ht hs pl pu (by rw [hlen]; exact hw) ?_ (by rw [hlen]; exact hz)
 rw [hlen]
 refine ⟨.ref s.heap.objs.size, _, I.laid (t' := s.toks) (o := .tup (sV xs lo hi)) (fun b ob q => JT _ q) (JV _) ?_, rfl, q _ (I.hok.fresh (JV _))⟩
 exact ⟨Ju (nh xs lo hi) hz, _, (r.drop (HT.sIx xs.length 0 lo)).take (HT.sIx xs.length xs.length hi - HT.sIx xs.length 0 lo), IsTup.new _ _⟩
def G9 (K : W.Frag) : R2 := fun x y H Q => ∃ a b xs ys, x = .ref a /\ y = .ref b /\ fW K H a xs /\ fW K H b ys /\ xs ≠ [] /\ xs.length + ys.length <= sizeLine /\
 (ys = [] -> Q (.ref a) H) /\ (ys ≠ [] -> ∀ p, H p = none -> Q (.ref p) (cM H p (.tup (xs ++ ys))))
theorem bb.nil_iff {xs : List V} {us : List Value} (r : bb xs us) : us = [] ↔ xs = [] := by
 cases r with
 | nil => simp
 | cons _ _ => simp
theorem CH : jL X (binaryOp .Add) (G9 X.K) := by
 intro pins s σ H x y v u Q I rx ry h
 obtain ⟨a, b, xs, ys, rfl, rfl, ha, hb, hx, hz, q1, q2⟩ := h
 cases rx
 cases ry
 obtain ⟨its, r1, p1, _⟩ := I.tuple ha
 obtain ⟨its2, r2, p2, _⟩ := I.tuple hb
 refine HT.cat_tup p1 p2 (fun z => hx (r1.nil_iff.mp z)) (fun z => ⟨.ref a, H, I, rfl, q1 (r2.nil_iff.mp z)⟩) (fun z => ?_) (by rw [<- r1.length, <- r2.length]; exact hz)
 refine ⟨.ref s.heap.objs.size, _, I.laid (t' := s.toks) (o := .tup (xs ++ ys)) (fun b ob q => JT _ q) (JV _) ?_, rfl, q2 (fun w => z (r2.nil_iff.mpr w)) _ (I.hok.fresh (JV _))⟩
 exact ⟨by rw [Kg]; exact hz, _, r1.append r2, IsTup.new _ _⟩
end
end L2
namespace L2
open PySem PySem.Spec PyProof.Rows
def uT (n : Nat) (i : Int) : Option Nat := if 0 <= i then (if i < n then some i.toNat else none) else if -(n : Int) <= i then some (i + n).toNat else none
def atI {α : Type} (xs : List α) (i : Int) : Option α := (uT xs.length i).bind fun j => xs[j]?
theorem rY {n : Nat} {i : Int} {j : Nat} (h : uT n i = some j) : seqIndex? i n = some j /\ j < n /\ -(n : Int) <= i /\ i < n := by
 unfold uT at h
 by_cases h0 : 0 <= i
 ·rw [Jl h0] at h
  by_cases h1 : i < n
  ·rw [Jl h1] at h
   have e : i.toNat = j := Jn h
   exact ⟨by rw [seqIndex_of h0 h1, e], by omega, by omega, h1⟩
  ·rw [Jm h1] at h; cases h
 ·rw [Jm h0] at h
  by_cases h1 : -(n : Int) <= i
  ·rw [Jl h1] at h
   have e : (i + n).toNat = j := Jn h
   exact ⟨by rw [seqIndex_neg (by omega) h1, e], by omega, h1, by omega⟩
  ·rw [Jm h1] at h; cases h
theorem sh {α : Type} {xs : List α} {i : Int} {v : α} (h : atI xs i = some v) : ∃ j, seqIndex? i xs.length = some j /\ xs[j]? = some v /\ j < xs.length /\ -(xs.length : Int) <= i /\ i < xs.length := by
 unfold atI at h
 cases e : uT xs.length i with
 | none => rw [e] at h; cases h
 | some j =>
  rw [e] at h
  obtain ⟨h1, h2, h3, h4⟩ := rY e
  exact ⟨j, h1, h, h2, h3, h4⟩
theorem sf {α : Type} {xs : List α} {j : Nat} {v : α} (h : xs[j]? = some v) : atI xs (j : Int) = some v := by
 have hj : j < xs.length := (JD.mp h).1
 have e : uT xs.length (j : Int) = some j := by
  unfold uT
  rw [Jl (by omega), Jl (by omega)]; simp
 unfold atI; rw [e]; exact h
def sj (b : Expr) : Prop := ∀ o i, subscripted b false o i = operate [o, i] (getItem o i)
def Bo (X : Cx) (r : R2) : Prop :=
 ∀ (value slice : Expr) (pins : List (Addr × Obj)) (s : Shared) (σ : St) (H : Hp) (x y : V) (v u : Value) (Q : VK), aT X pins σ H s -> cz x v -> cz y u -> r x y H Q ->
  subscripted slice false v u = operate [v, u] (getItem v u) -> wpAny (model X.prog X.w) X.A (subscriptTail value slice v u) (EP X pins σ Q) X.xe s
def IR (X : Cx) (id : String) (r : V -> List V -> Hp -> VK -> Prop) : Prop :=
 ∀ (pins : List (Addr × Obj)) (s : Shared) (σ : St) (H : Hp) (x : V) (xs : List V) (v : Value) (us : List Value) (Q : VK), aT X pins σ H s -> cz x v -> bb xs us -> r x xs H Q ->
  wpAny (model X.prog X.w) X.A (call (.builtin id) (v :: us)) (EP X pins σ Q) X.xe s
section
variable {X : Cx} {a b : Expr} {ta tb : TE} {pos : Pos}
theorem Bo.or {r r' : R2} (h : Bo X r) (h' : Bo X r') : Bo X (fun x y H Q => r x y H Q \/ r' x y H Q) := by
 intro value slice pins s σ H x y v u Q I rx ry q hs
 rcases q with q | q
 ·exact h value slice pins s σ H x y v u Q I rx ry q hs
 ·exact h' value slice pins s σ H x y v u Q I rx ry q hs
theorem Hf {r : R2} (hr : Bo X r) (ha : PE X a ta) (hb : PE X b tb) (hs : sj b) : PE X (.Subscript a b pos) (HB r ta tb) := by
 intro pins s σ H Q I h
 exact Subscript_ (D2 ha hb I h fun v u s2 x y H2 I2 rx ry q => hr a b pins s2 σ H2 x y v u Q I2 rx ry q (hs _ _))
def Gv (K : W.Frag) : R2 := fun x y H Q => ∃ p xs i v, x = .ref p /\ y = .int i /\ fw K H p xs /\ atI xs i = some v /\ Q v H
def Gs (K : W.Frag) : R2 := fun x y H Q => ∃ p xs i v, x = .ref p /\ y = .int i /\ fW K H p xs /\ atI xs i = some v /\ Q v H
def Gu : R2 := fun x y H Q => ∃ z i c, x = .str z /\ y = .int i /\ z.length <= sizeLine /\ atI z.cps.toList i = some c /\ Q (.str ⟨#[c]⟩) H
theorem C5 : Bo X (Gv X.K) := by
 intro value slice pins s σ H x y v u Q I rx ry h hs
 obtain ⟨p, xs, i, z, rfl, rfl, hq, he, q⟩ := h
 cases rx
 obtain ⟨t, rfl⟩ := ry
 obtain ⟨its, r, pl, hz⟩ := I.list hq
 obtain ⟨j, h1, h2, h3, h4, h5⟩ := sh he
 obtain ⟨w, ew, rw'⟩ := r.get h2
 have hl := r.length
 have hn := mB
 have fin : EP X pins σ Q w s := ⟨z, H, I, rw', q⟩
 by_cases h0 : 0 <= i
 ·have hj : i.toNat = j := by
   rw [seqIndex_of h0 h5] at h1
   exact Jn h1
  exact item_listR pl.isList h0 (by omega) (by rw [hj]; simpa using ew) fin hs
 ·have hj : (i + (its.toArray.size : Int)).toNat = j := by
   rw [seqIndex_neg (by omega) h4] at h1
   rw [J3, <- hl]
   exact Jn h1
  exact subscriptTail_builtinR (x := w) pl.isList.typeIs slot_list_getitem.lookup
   (wpAny_getItem_list_neg (Q := fun r s' => r = w /\ EP X pins σ Q r s') pl.isList (by omega) (by rw [J3] <;> omega) (by omega) (by rw [hj]; simpa using ew) ⟨rfl, fin⟩) hs
theorem FJ : Bo X (Gs X.K) := by
 intro value slice pins s σ H x y v u Q I rx ry h hs
 obtain ⟨p, xs, i, z, rfl, rfl, hq, he, q⟩ := h
 cases rx
 obtain ⟨t, rfl⟩ := ry
 obtain ⟨its, r, pl, hz⟩ := I.tuple hq
 obtain ⟨j, h1, h2, h3, h4, h5⟩ := sh he
 obtain ⟨w, ew, rw'⟩ := r.get h2
 have hl := r.length
 have hn := mB
 have fin : EP X pins σ Q w s := ⟨z, H, I, rw', q⟩
 exact subscriptTail_builtinR (x := w) pl.typeIs slot_tuple_getitem.lookup
  (getItem_tuple (j := j) (Q := fun r s' => r = w /\ EP X pins σ Q r s') pl (by omega) (by omega) (by rw [J3, <- hl]; exact h1) (by simpa using ew) ⟨rfl, fin⟩) hs
theorem FK : Bo X Gu := by
 intro value slice pins s σ H x y v u Q I rx ry h hs
 obtain ⟨z, i, c, rfl, rfl, hz, he, q⟩ := h
 obtain ⟨t, rfl⟩ := rx
 obtain ⟨t', rfl⟩ := ry
 obtain ⟨j, h1, h2, h3, h4, h5⟩ := sh he
 have hl : z.cps.toList.length = z.length := by simp [Str.length]
 rw [hl] at h1 h4 h5
 have hn := mB
 exact tail_any (typeIs_str s z t) slot_str_getitem.lookup (getItem_str (c := c) (by
  have e1 : decide (i < -(2 ^ 63 : Int)) = false := Ji (by omega)
  have e2 : decide (i ≥ 2 ^ 63) = false := Ji (by omega)
  rw [e1, e2, Bool.or_false]) (by rw [h1]; simpa using h2) ⟨.str ⟨#[c]⟩, H, I.tok _, ⟨_, rfl⟩, q⟩) hs
def IL (K : W.Frag) : R2 := fun x y H Q => Gv K x y H Q \/ Gs K x y H Q \/ Gu x y H Q
theorem FL : Bo X (IL X.K) := C5.or (FJ.or FK)
theorem vG (its : List Value) (n j : Nat) (u : Value) : Obj.mapSeq (·.setIfInBounds j u) { cls := .type "list", data := .seq its.toArray n } = { cls := .type "list", data := .seq (its.set j u).toArray n } := by
 simp [Obj.mapSeq]
theorem aT.lst {pins : List (Addr × Obj)} {σ : St} {H : Hp} {s : Shared} {p : Addr} {xs : List V} (I : aT X pins σ H s) (h : H p = some (.lst xs)) :
  ∃ (its : List Value) (n : Nat), bb xs its /\ s.heap.get? p = some { cls := .type "list", data := .seq its.toArray n } /\ xs.length <= sizeLine := by
 obtain ⟨z, its, n, r, e⟩ := I.hok p _ h
 exact ⟨its, n, r, e, z⟩
theorem aT.lstUpd {pins : List (Addr × Obj)} {σ : St} {H : Hp} {s : Shared} {p : Addr} {xs ys : List V} {its its' : List Value} {n n' : Nat} {f : Obj -> Obj} (I : aT X pins σ H s) (h : H p = some (.lst xs))
  (ho : s.heap.get? p = some { cls := .type "list", data := .seq its.toArray n }) (hf : f { cls := .type "list", data := .seq its.toArray n } = { cls := .type "list", data := .seq its'.toArray n' }) (r : bb ys its') (hz : ys.length <= sizeLine) (t : Nat) :
  aT X pins σ (cM H p (.lst ys)) { s with heap := s.heap.update p f, toks := t } := by
 have e : (s.heap.update p f).get? p = some { cls := .type "list", data := .seq its'.toArray n' } := by
  rw [KG f ho (by rw [hf] <;> rfl), hf]
 refine I.write (x := p) (e := p) (by rw [h]; trivial) (.inl rfl) (fun b u hb q => (KH _ _ (JA hb)).trans q) ⟨_, e⟩ ?_
 exact ⟨hz, its', n', r, e⟩
def Dv : V -> V -> V -> Hp -> (Hp -> Prop) -> Prop := fun o i v H Q => ∃ p xs k j, o = .ref p /\ i = .int k /\ H p = some (.lst xs) /\ uT xs.length k = some j /\ Q (cM H p (.lst (xs.set j v)))
theorem Ad : GH X Dv := by
 intro pins s σ H o i v ov iv u Q I ro ri rv h
 obtain ⟨p, xs, k, j, rfl, rfl, hp, hj, q⟩ := h
 cases ro
 obtain ⟨t, rfl⟩ := ri
 obtain ⟨its, n, r, ho, hz⟩ := I.lst hp
 obtain ⟨h1, h2, h3, h4⟩ := rY hj
 have hl := r.length
 have hn := mB
 have I' : aT X pins σ (cM H p (.lst (xs.set j v))) { s with heap := s.heap.update p (Obj.mapSeq (·.setIfInBounds j u)) } :=
  I.lstUpd hp ho (vG its n j u) (r.set rv j) (by rw [KJ]; exact hz) s.toks
 by_cases h0 : 0 <= k
 ·have hk : k.toNat = j := by
   rw [seqIndex_of h0 h4] at h1
   exact Jn h1
  exact W.ki_setAt ho h0 (by omega) (by rw [J3, <- hl]; exact h4) (by rw [hk]; exact ⟨_, I', q⟩)
 ·have hk : (k + (its.toArray.size : Int)).toNat = j := by
   rw [seqIndex_neg (by omega) h3] at h1
   rw [J3, <- hl]
   exact Jn h1
  exact W.ki_setBack ho (by omega) (by rw [J3, <- hl]; exact h3) (by omega) (by rw [hk]; exact ⟨_, I', q⟩)
theorem sr (lo hi : Option Int) (n : Nat) : (sliceBounds lo hi none n).1 = ((HT.sIx n 0 lo : Nat) : Int) /\ (sliceBounds lo hi none n).2.1 = ((HT.sIx n n hi : Nat) : Int) /\ (sliceBounds lo hi none n).2.2 = 1 := by
 refine ⟨?_, ?_, rfl⟩
 ·cases lo with
  | none => simp [sliceBounds, HT.sIx]
  | some i =>
   simp only [sliceBounds, HT.sIx, Option.getD_none, show (1 : Int) > 0 by decide, Kq]
   by_cases h : i < 0
   ·simp only [h, Kq] <;> omega
   ·simp only [h, Ko] <;> omega
 ·cases hi with
  | none => simp [sliceBounds, HT.sIx]
  | some i =>
   simp only [sliceBounds, HT.sIx, Option.getD_none, show (1 : Int) > 0 by decide, Kq]
   by_cases h : i < 0
   ·simp only [h, Kq] <;> omega
   ·simp only [h, Ko] <;> omega
theorem pX (its : List Value) (lo hi : Option Int) : slicePick its.toArray lo hi none = ((its.drop (HT.sIx its.length 0 lo)).take (HT.sIx its.length its.length hi - HT.sIx its.length 0 lo)).toArray := by
 obtain ⟨h1, h2, h3⟩ := sr lo hi its.toArray.size
 unfold slicePick
 rw [h1, h2, h3]
 simp only [sliceRange_one, pick_run, J3] <;> rfl
def Gp (K : W.Frag) : V -> Option Int -> Option Int -> Hp -> VK -> Prop := fun x lo hi H Q => ∃ a xs, x = .ref a /\ fw K H a xs /\ ∀ p, H p = none -> Q (.ref p) (cM H p (.lst (sV xs lo hi)))
theorem BY : Bn X (Gp X.K) := by
 intro pins s σ H x v vl vu lo hi sl Q I rx hs pl pu h
 obtain ⟨a, xs, rfl, hx, q⟩ := h
 cases rx
 obtain ⟨its, r, ht, hz⟩ := I.list hx
 have hlen := r.length
 refine ⟨"list", _, slot_list_getitem.lookup, ht.isList.typeIs, ?_⟩
 refine wpAny_getItem_list_slice ht.isList hs pl pu .none (by simp) ?_ (by rw [J3] <;> omega)
 rw [pX, <- hlen]
 refine ⟨.ref s.heap.objs.size, _, I.laid (t' := s.toks) (o := .lst (sV xs lo hi)) (fun b ob q => JT _ q) (JV _) ?_, rfl, q _ (I.hok.fresh (JV _))⟩
 exact ⟨Ju (nh xs lo hi) hz, _, 0, (r.drop (HT.sIx xs.length 0 lo)).take (HT.sIx xs.length xs.length hi - HT.sIx xs.length 0 lo), JU _ rfl⟩
theorem cE.or {f : Value} {r r' : List V -> Hp -> VK -> Prop} (h : cE X f r) (h' : cE X f r') : cE X f (fun xs H Q => r xs H Q \/ r' xs H Q) := by
 intro pins s σ H xs us Q I rs q
 rcases q with q | q
 ·exact h pins s σ H xs us Q I rs q
 ·exact h' pins s σ H xs us Q I rs q
theorem sJ : cE X (.type "list") (fun xs H Q => ∃ p ys, xs = [.ref p] /\ (fw X.K H p ys \/ fW X.K H p ys) /\ ∀ l, H l = none -> Q (.ref l) (cM H l (.lst ys))) := by
 intro pins s σ H xs us Q I r h
 obtain ⟨p, ys, rfl, hq, q⟩ := h
 obtain ⟨u, rfl, rx⟩ := eC r
 cases rx
 have fin : ∀ (its : List Value), bb ys its -> ys.length <= sizeLine -> ∀ (h' : Heap) (c' : Nat), (∀ b o', s.heap.get? b = some o' -> h'.get? b = some o') ->
   h'.get? s.heap.objs.size = some { cls := .type "list", dict := none, data := .seq its.toArray c', slots := #[] } -> EP X pins σ Q (.ref s.heap.objs.size) { s with heap := h' } := fun its r' hz h' c' kp e =>
  ⟨.ref s.heap.objs.size, _, I.laid (t' := s.toks) kp (JV _) (show fk X.prog X.w _ h' _ (.lst ys) from ⟨hz, its, c', r', e⟩), rfl, q _ (I.hok.fresh (JV _))⟩
 rcases hq with hq | hq
 ·obtain ⟨its, r', pl, hz⟩ := I.list hq
  have hlen := r'.length
  obtain ⟨o, ho, hc, n, hd⟩ := pl.isList
  exact call_list_seq p (.inl rfl) ho hc hd (fun h' c' kp e => fin its r' hz h' c' kp e) (by simp only [J3] <;> omega)
 ·obtain ⟨its, r', pl, hz⟩ := I.tuple hq
  have hlen := r'.length
  obtain ⟨o, ho, hc, n, hd⟩ := pl
  exact call_list_seq p (.inr rfl) ho hc hd (fun h' c' kp e => fin its r' hz h' c' kp e) (by simp only [J3] <;> omega)
theorem qh : cE X (.type "tuple") (fun xs H Q => ∃ p ys, xs = [.ref p] /\ ((fw X.K H p ys /\ ∀ l, H l = none -> Q (.ref l) (cM H l (.tup ys))) \/ (fW X.K H p ys /\ Q (.ref p) H))) := by
 intro pins s σ H xs us Q I r h
 obtain ⟨p, ys, rfl, h⟩ := h
 obtain ⟨u, rfl, rx⟩ := eC r
 cases rx
 rcases h with ⟨hq, q⟩ | ⟨hq, q⟩
 ·obtain ⟨its, r', pl, hz⟩ := I.list hq
  have hlen := r'.length
  refine call_tuple_list pl.isList (fun h' kp => ?_) (by simp only [J3] <;> omega)
  have I1 : aT X pins σ H { s with heap := h' } := I.kept (t' := s.toks) kp
  have I2 : aT X pins σ (cM H h'.objs.size (.tup ys)) { s with heap := h'.push { cls := .type "tuple", data := .seq its.toArray } } :=
   I1.laid (t' := s.toks) (fun b o e => JT _ e) (JV _) (show fk X.prog X.w _ _ _ (.tup ys) from ⟨hz, its, r', IsTup.new _ _⟩)
  exact ⟨.ref h'.objs.size, _, I2, rfl, q _ (I1.hok.fresh (JV _))⟩
 ·obtain ⟨its, r', pl, hz⟩ := I.tuple hq
  exact call_tuple_same pl ⟨.ref p, H, I, rfl, q⟩
def HM (K : W.Frag) (T : String) (x : V) (H : Hp) : Prop := match x with
 | .str _ => T = "str"
 | .int _ => T = "int"
 | .ref p => (T = "list" /\ ∃ xs, fw K H p xs) \/ (T = "tuple" /\ ∃ o, K.lookup p = some o /\ o.cls = .type "tuple" /\ o.dict = none) \/
   (T = "dict" /\ ((∃ kvs, H p = some (.dK kvs)) \/ ∃ kvs, H p = some (.dT kvs))) \/ (T = "set" /\ ∃ S n, H p = some (.set S n))
 | _ => False
theorem Ed {pins : List (Addr × Obj)} {σ : St} {H : Hp} {s : Shared} {T : String} {x : V} {v : Value} (I : aT X pins σ H s) (r : cz x v) (ty : HM X.K T x H) :
  s.TypeIs v T /\ ∀ a, v = .ref a -> ∃ ob, s.heap.get? a = some ob /\ ob.dict = none := by
 cases x with
 | str z =>
  obtain ⟨t, rfl⟩ := r
  cases (show T = "str" from ty)
  exact ⟨typeIs_str s z t, fun _ e => nomatch e⟩
 | int i =>
  obtain ⟨t, rfl⟩ := r
  cases (show T = "int" from ty)
  exact ⟨typeIs_int s i t, fun _ e => nomatch e⟩
 | ref p =>
  cases r
  rcases ty with ⟨rfl, xs, hq⟩ | ⟨rfl, o, hk, hc, hd⟩ | ⟨rfl, hk⟩ | ⟨rfl, S, n, hk⟩
  ·obtain ⟨its, _, pl, _⟩ := I.list hq
   refine ⟨pl.isList.typeIs, fun a e => ?_⟩
   cases e
   obtain ⟨o, n, e, c, hd, _⟩ := pl
   exact ⟨o, e, hd⟩
  ·refine ⟨⟨o, I.kIn p o hk, hc⟩, fun a e => ?_⟩
   cases e
   exact ⟨o, I.kIn _ o hk, hd⟩
  ·have z : ∃ o, s.heap.get? p = some o /\ o.ExactDict := by
    rcases hk with ⟨kvs, hk⟩ | ⟨kvs, hk⟩
    ·obtain ⟨_, _, _, _, o, _, _, e, ex, _⟩ := I.hok p _ hk
     exact ⟨o, e, ex⟩
    ·obtain ⟨_, _, _, _, o, _, _, e, ex, _⟩ := I.hok p _ hk
     exact ⟨o, e, ex⟩
   obtain ⟨o, e, ex⟩ := z
   refine ⟨⟨o, e, ex.1⟩, fun a e2 => ?_⟩
   cases e2
   exact ⟨o, e, ex.2.1⟩
  ·obtain ⟨o, _, _, _, e, ex, _⟩ := I.hok p _ hk
   refine ⟨⟨o, e, ex.1⟩, fun a e2 => ?_⟩
   cases e2
   exact ⟨o, e, ex.2.1⟩
 | _ => exact False.elim ty
def Jb (K : W.Frag) (T : String) (r : V -> List V -> Hp -> VK -> Prop) (to : TE) (t : TA) : TE := fun σ H Q => to σ H fun x H1 => HM K T x H1 /\ t σ H1 fun xs H2 => r x xs H2 Q
variable {o e : Expr} {es : List Expr} {to : TE} {t : TA} {name : Str} {apos cpos : Pos} {T id : String} {r : V -> List V -> Hp -> VK -> Prop}
theorem Hg (pa : PlainAttrs T) (slot : Slot T name id) (hty : typeOf (.builtin id) = pure (.type "method_descriptor")) (hm : IR X id r) (ho : PE X o to) (ha : PA X (e :: es) t)
  (hbase : attributeBase o name X.env (eval o X.env) = eval o X.env := by rfl)
  (hfew : ((backTo cpos (starEach (e :: es) X.env)).all (fun x => !x.1) && (backToKw cpos (keywordEach [] X.env)).all (fun x => x.1.isSome)
   && decide ((e :: es).length + ([] : List Keyword).length + (if ([] : List Keyword).isEmpty then 0 else 1) < 30)) = true := by rfl)
  (hline : (apos.endLine == cpos.line) = true := by rfl) (hs : starEach (e :: es) X.env = (false, eval e X.env) :: starEach es X.env := by rfl) (hplain : (backTo cpos (starEach es X.env)).any (·.1) = false := by rfl) :
  PE X (.Call (.Attribute o name apos) (e :: es) [] cpos) (Jb X.K T r to t) := by
 intro pins s σ H Q I h
 refine wpAny_Call_method_late hbase hfew hline rfl (dY (ho pins s σ H _ I h) fun v s1 ⟨x, H1, I1, r1, ty, q1⟩ => ?_)
 obtain ⟨h1, h2⟩ := Ed I1 r1 ty
 refine ⟨T, id, pa, slot, hty, h1, h2, ?_⟩
 have hA := ha cpos pins s1 σ H1 _ I1 q1
 rw [hs] at hA ⊢
 refine Calls.callWith_builtin (by show (false || (backTo cpos (starEach es X.env)).any (·.1)) = false; rw [hplain] <;> rfl) (Calls.evalArgs_plain ?_)
 exact dY hA fun us s2 ⟨vs, H2, I2, r2, q2⟩ => hm pins s2 σ H2 x vs v us Q I2 r1 r2 q2
end
end L2
namespace L2
open PySem PySem.Spec PyProof.Rows
def IS (X : Cx) (id : String) (r : V -> List V -> Hp -> VK -> Prop) : Prop :=
 ∀ (pins : List (Addr × Obj)) (s : Shared) (σ : St) (H : Hp) (x : V) (xs : List V) (v : Value) (us : List Value) (Q : VK), aT X pins σ H s -> cz x v -> bb xs us -> r x xs H Q ->
  wpAny (model X.prog X.w) X.A (call (.builtin id) (v :: us)) (EP X pins σ Q) X.xe s
theorem bb.one : ∀ {x : V} {us : List Value}, bb [x] us -> ∃ u, us = [u] /\ cz x u
 | _, _, .cons r .nil => ⟨_, rfl, r⟩
theorem bb.eraseIdx : ∀ {xs : List V} {us : List Value} (i : Nat), bb xs us -> bb (xs.eraseIdx i) (us.eraseIdx i)
 | _, _, _, .nil => .nil
 | _, _, 0, .cons _ t => t
 | _, _, i + 1, .cons r t => .cons r (bb.eraseIdx i t)
theorem bb.reverse {xs : List V} {us : List Value} (h : bb xs us) : bb xs.reverse us.reverse := by
 induction h with
 | nil => exact .nil
 | cons r t ih => rw [KL, KL]; exact bb.append ih (.cons r .nil)
theorem bb.rep {xs : List V} {us : List Value} (h : bb xs us) : ∀ k : Nat, bb (List.replicate k xs).flatten (List.replicate k us).flatten
 | 0 => .nil
 | k + 1 => by
  rw [KM, KM, KN, KN]
  exact bb.append h (bb.rep h k)
theorem qJ {α : Type} : ∀ (l : List α) (i : Nat), (l.eraseIdx i).length <= l.length
 | [], _ => JV _
 | _ :: _, 0 => KO _
 | _ :: r, i + 1 => Nat.succ_le_succ (qJ r i)
theorem qT (its : List Value) : ∀ (k : Nat) (acc : List Value),
  List.foldl (fun x1 x2 => x1 ++ x2) acc.toArray (List.replicate k its.toArray) = (acc ++ (List.replicate k its).flatten).toArray
 | 0, acc => by simp
 | k + 1, acc => by
  have e : acc.toArray ++ its.toArray = (acc ++ its).toArray := by simp
  have e2 : (acc ++ its) ++ (List.replicate k its).flatten = acc ++ (List.replicate (k + 1) its).flatten := by
   rw [KM, KN, KQ]
  rw [<- e2, <- qT its k (acc ++ its), <- e, KM, KR]
section
variable {X : Cx} {pins : List (Addr × Obj)} {σ : St} {H : Hp} {s : Shared} {l b : Addr} {xs ys zs : List V}
theorem aT.lset {its its' : List Value} {n : Nat} {f : Array Value -> Array Value} {t' : Nat} (I : aT X pins σ H s) (hH : H l = some (.lst xs))
  (e : s.heap.get? l = some { cls := .type "list", data := .seq its.toArray n }) (hf : f its.toArray = its'.toArray) (hv : bb ys its') (hz : ys.length <= sizeLine) :
  aT X pins σ (cM H l (.lst ys)) { s with heap := s.heap.update l (Obj.mapSeq f), toks := t' } := by
 have q := PySem.IsL.update e f
 rw [hf] at q
 refine I.write (x := l) (e := l) (by rw [hH]; exact trivial) (.inl rfl) (fun b' u hb hu => (KH s.heap (Obj.mapSeq f) (JA hb)).trans hu) ⟨_, q⟩ ?_
 exact ⟨hz, its', _, hv, q⟩
theorem aT.lnew {its : List Value} {t' : Nat} (I : aT X pins σ H s) (hv : bb ys its) (hz : ys.length <= sizeLine) :
  aT X pins σ (cM H s.heap.objs.size (.lst ys)) { s with heap := s.heap.push { cls := .type "list", data := .seq its.toArray }, toks := t' } :=
 I.laid (fun _ _ q => JT _ q) (JV _) ⟨hz, its, 0, hv, JU _ rfl⟩
theorem aT.fresh (I : aT X pins σ H s) : H s.heap.objs.size = none := I.hok.fresh (JV _)
theorem aT.lstM (I : aT X pins σ H s) (hH : H l = some (.lst xs)) : xs.length <= sizeLine /\ ∃ (its : List Value) (n : Nat), bb xs its /\ xs.length = its.length /\ s.heap.get? l = some { cls := .type "list", data := .seq its.toArray n } := by
 obtain ⟨z, its, n, r, e⟩ := I.hok l _ hH
 exact ⟨z, its, n, r, r.length, e⟩
theorem AK {n : Nat} (h : n <= sizeLine) : Builtin.List.listTooLong n = false := by
 unfold Builtin.List.listTooLong
 exact Ji (by omega)
end
section
variable {X : Cx}
def wA : V -> List V -> Hp -> VK -> Prop := fun x vs H Q => ∃ l xs y, x = .ref l /\ vs = [y] /\ H l = some (.lst xs) /\ xs.length < sizeLine /\ Q .non (cM H l (.lst (xs ++ [y])))
theorem qI : IS X "list.append" wA := by
 intro pins s σ H x vs v us Q I rx rv h
 obtain ⟨l, xs, y, rfl, rfl, hH, hz, q⟩ := h
 cases rx
 obtain ⟨u, rfl, ru⟩ := rv.one
 obtain ⟨z, its, n, r, hl, e⟩ := I.lstM hH
 refine call_meets F.slot_list_append ⟨_, e, rfl⟩ F.entry_list_append (F.args_list_append_2 _ _) (PySem.list_append l its.toArray n u (by rw [J3]; omega)) ⟨e, ?_⟩
 refine ⟨.non, _, I.lset (its' := its ++ [u]) hH e (by simp) (r.append (.cons ru .nil)) ?_, rfl, q⟩
 rw [Kg, KS]
 omega
def zB : V -> List V -> Hp -> VK -> Prop := fun x vs H Q => ∃ l xs i k y, x = .ref l /\ vs = [.int i] /\ H l = some (.lst xs) /\ -(2 ^ 63) <= i /\ i < 2 ^ 63 /\ seqIndex? i xs.length = some k /\ xs[k]? = some y /\ Q y (cM H l (.lst (xs.eraseIdx k)))
theorem AN : IS X "list.pop" zB := by
 intro pins s σ H x vs v us Q I rx rv h
 obtain ⟨l, xs, i, k, y, rfl, rfl, hH, h1, h2, hk, hy, q⟩ := h
 cases rx
 obtain ⟨u, rfl, ru⟩ := rv.one
 obtain ⟨t, rfl⟩ := ru
 obtain ⟨z, its, n, r, hl, e⟩ := I.lstM hH
 obtain ⟨w, hw, rw'⟩ := r.get hy
 refine call_meets F.slot_list_pop ⟨_, e, rfl⟩ F.entry_list_pop (F.args_list_pop_2 _ _)
  (MeetsSeq.list_pop_at l its.toArray n i t k w (fitsIndex_both h1 h2) (by rw [J3, <- hl]; exact hk) (by rw [<- KU]; exact hw) (by rw [J3]; omega)) ⟨e, ?_⟩
 refine ⟨y, _, I.lset (its' := its.eraseIdx k) hH e ?_ (r.eraseIdx k) ?_, rw', q⟩
 ·show its.toArray.eraseIdxIfInBounds k = (its.eraseIdx k).toArray
  rw [List.eraseIdxIfInBounds_toArray]
 ·have := qJ xs k
  omega
def Gx : R2 := fun x y H Q => ∃ l b xs zs, x = .ref l /\ y = .ref b /\ H l = some (.lst xs) /\ H b = some (.lst zs) /\ xs.length + zs.length <= sizeLine /\ ∀ p, H p = none -> Q (.ref p) (cM H p (.lst (xs ++ zs)))
theorem Fj : jL X (binaryOp .Add) Gx := by
 intro pins s σ H x y v u Q I rx ry h
 obtain ⟨l, b, xs, zs, rfl, rfl, hH, hB, hz, q⟩ := h
 cases rx
 cases ry
 obtain ⟨z, its, n, r, hl, e⟩ := I.lstM hH
 obtain ⟨z2, its2, n2, r2, hl2, e2⟩ := I.lstM hB
 refine PySem.P.add_list e e2 ?_ (by rw [J3, J3]; omega)
 have ea : its.toArray ++ its2.toArray = (its ++ its2).toArray := by simp
 rw [ea]
 exact ⟨.ref _, _, I.lnew (t' := s.toks) (r.append r2) (by rw [Kg]; omega), rfl, q _ I.fresh⟩
def Gr : R2 := fun x y H Q => ∃ l k xs, x = .ref l /\ y = .int k /\ H l = some (.lst xs) /\ -(2 ^ 63) <= k /\ k < 2 ^ 63 /\ xs.length * k.toNat <= sizeLine /\
 ∀ p, H p = none -> Q (.ref p) (cM H p (.lst (List.replicate k.toNat xs).flatten))
theorem C2 {α : Type} (xs : List α) (k : Nat) : (List.replicate k xs).flatten.length = k * xs.length := by
 induction k with
 | zero => simp
 | succ k ih => rw [KM, KN, Kg, ih, Nat.succ_mul, Nat.add_comm]
theorem Fb : jL X (binaryOp .Mult) Gr := by
 intro pins s σ H x y v u Q I rx ry h
 obtain ⟨l, k, xs, rfl, rfl, hH, h1, h2, hz, q⟩ := h
 cases rx
 obtain ⟨t, rfl⟩ := ry
 obtain ⟨z, its, n, r, hl, e⟩ := I.lstM hH
 have hlen : its.toArray.size * k.toNat <= sizeLine := by rw [J3, <- hl]; exact hz
 have hcap : ¬ its.toArray.size * k.toNat > (2 ^ 63 - 1) / 8 := by
  have : (sizeLine : Nat) <= (2 ^ 63 - 1) / 8 := by decide
  omega
 have hfit : ¬ (!Builtin.List.listFitsIndex k) = true := by
  rw [fitsIndex_both h1 h2]
  exact J1
 have hlong : ¬ Builtin.List.listTooLong (its.toArray.size * k.toNat) = true := by
  rw [AK hlen]
  exact J1
 have hnew : List.foldl (fun x1 x2 => x1 ++ x2) #[] (List.replicate (if its.toArray.isEmpty = true then 0 else k.toNat) its.toArray) = (List.replicate k.toNat its).flatten.toArray := by
  have f0 : ∀ m : Nat, List.foldl (fun x1 x2 => x1 ++ x2) #[] (List.replicate m its.toArray) = (List.replicate m its).flatten.toArray := fun m => by
   have := qT its m []
   rw [KW] at this
   exact this
  rw [f0]
  cases its with
  | nil => simp
  | cons a r' => rw [Jm (by simp)]
 refine wpAny_binaryOp_repeat_ref (T := "list") (U := "int") (by decide) ⟨_, e, rfl⟩ (fun s' => typeIs_int s' k t) noFill_list_mul F.fills_int_mul F.slot_int_rmul repeat_list F.slot_int_index.lookup
  (call_meets F.slot_int_rmul (typeIs_int s k t) F.entry_int_rmul (F.args_int_rmul_2 _ _) (int___rmul___int_list k t l its.toArray n)
   ⟨e, rfl, ⟨_, e, rfl⟩, call_meets F.slot_list_mul ⟨_, e, rfl⟩ F.entry_list_mul (F.args_list_mul_2 _ _) (AutoListH.list___mul___list_int_3 l its.toArray n k t hfit hcap hlong) ⟨e, ?_⟩⟩)
 rw [hnew]
 exact ⟨.ref _, _, I.lnew (t' := s.toks) (r.rep k.toNat) (by rw [C2, Nat.mul_comm]; exact hz), rfl, q _ I.fresh⟩
end
section
variable {prog : Program} {w : World} {A : Around} {E : Value -> Shared -> Prop} {s : Shared}
end
section
variable {X : Cx}
end
end L2
namespace Att
open PySem PySem.W PySem.Calls PyProof.Rows
theorem nH {P : Params} {h : Heap} : ∀ (ns : List Int) (vs : List Value), WellAll P h vs (ns.map WData.int) -> IntsAre vs ns := by
 intro ns
 induction ns with
 | nil =>
  intro vs w
  rw [KE] at w
  cases w
  exact .nil
 | cons n ns ih =>
  intro vs w
  rw [KF] at w
  cases w with
  | cons a b =>
   cases a
   exact .cons _ _ (ih _ b)
theorem xH {l : OpenLaw} {n : Nat} (hn : l.most = some n) {P : Params} {h : Heap} {args : List WData} {vals : List Value}
  (hpre : l.row.toRowW.claim.pre args = true) (hwl : WellAll P h vals args) :
  ∃ a vs ns, vals = [Value.ref a] /\ args = [WData.list (ns.map WData.int)] /\ h.get? a = some { cls := .type "list", data := .seq vs.toArray } /\ IntsAre vs ns /\ ns.length <= n := by
 have hsh : WShape.hasAll [] args [.list .int] = true := (pre_splitW hpre).1
 have hc : l.pre.holds [] { args := args } = true := (pre_splitW hpre).2
 obtain ⟨d, r, rfl, h1, h2⟩ := hasAllW_cons hsh
 obtain rfl := hasAllW_nil h2
 obtain ⟨xs, rfl, h3⟩ := hasW_list h1
 obtain ⟨ns, rfl⟩ := items_int h3
 have hlen : ns.length <= n := by
  unfold OpenLaw.pre at hc
  have h4 : (WTm.not (.lt (.lit (.int (n : Int))) (.len (.arg 0)))).holds [] { args := [.list (ns.map .int)] } = true := by
   have h4 := (holds_andW hc).1
   rw [hn] at h4
   exact h4
  have h5 := condW_of h4 (w_not (w_lt w_lit (w_len_list (w_arg rfl))))
  rw [Kh] at h5
  refine Nat.le_of_not_lt fun q => ?_
  have q' : (n : Int) < ((ns.length : Nat) : Int) := by omega
  first
   | (rw [KY q'] at h5; exact absurd h5 (by decide))
   | (simp at h5; omega)
 cases hwl with
 | cons w1 w2 =>
  cases w2
  cases w1 with
  | list ho hall => exact ⟨_, _, ns, rfl, rfl, ho, nH ns _ hall, hlen⟩
theorem xK (l : OpenLaw) (args : List WData) : l.row.toRowW.claim.post args (.bool true) args = true :=
 postW_of (r := l.row.toRowW) (X := (true == true))
  (show WShape.has [] (.bool true) .bool = true by first | rfl | decide | simp [WShape.has, WShape.arms, WShape.armsAll])
  (show (WTm.eq .res (.lit (.bool true))).value [] { args := args, res := some (.bool true), after := args } = some (.bool (true == true)) from w_eq_bool (w_res rfl) w_lit) rfl
theorem attach_call {l : OpenLaw} {n : Nat} {q : Program} {loose : List Str} {XP : (Str -> Option Value) -> Heap -> Prop} {YP : World -> Heap -> Prop} {d : DefRec}
  (hn : l.most = some n) (hdf : d.params.defaults = [])
  (call : ∀ (w : World) (s₀ s₁ : Shared) (mg mb : Str -> Option Value) (fa : Addr) (o : Obj) (pm cd doc : Value) (a : Addr) (vs : List Value) (ns : List Int),
   Ground q loose [] XP w s₀ mg mb s₁.heap -> YP w s₁.heap ->
   s₁.heap.get? fa = some o -> o.data = .func (docDef d.name d.params d.body d.scope pm cd doc) -> s₁.heap.CodeRec cd d.name -> mg d.name = some (.ref fa) ->
   s₁.heap.get? a = some { cls := .type "list", data := .seq vs.toArray } -> IntsAre vs ns -> ns.length <= n -> s₁.gens = #[] ->
   codeAny (model l.prog w) callerA (.call (.ref fa) ⟨[.ref a], []⟩) (fun r s' => r = .ok (.ret (.bool true)) /\ OldK s₁.heap s'.heap /\ s'.os = s₁.os /\ AllBare s'.gens) s₁) :
  WalkO q loose XP YP l.row.toRowW d [] (fun f vs => PySem.call f vs) := by
 intro w s₀ s₁ mg mb G Y fa o pm cd doc dV kV ho hd hcd hD hmg hg args vals as hpre hlay hrd hwl hlo
 obtain rfl : dV = .none := Dflts.none hD hdf
 obtain rfl : kV = .none := Dflts.noKw hD
 obtain ⟨a, vs, ns, rfl, rfl, hobj, hints, hlen⟩ := xH hn hpre hwl
 refine enter_call (J5 (call w s₀ s₁ mg mb fa o pm cd doc a vs ns G Y ho (fd_plain hd) hcd hmg hobj hints hlen hg) fun r s' hq => ?_)
 obtain ⟨rfl, h2, h3, h4⟩ := hq
 exact ⟨.inl ⟨.bool true, .bool true, [], rfl, fun _ => rfl, .bool true, xK l _, fun _ => ⟨List.Pairwise.nil, fun _ hm => (nomatch hm)⟩⟩, h2, h3, h4⟩
section
variable {prog : Program} {w : World} {A : Around} {E : Value -> Shared -> Prop} {s : Shared} {K : Frag}
end
end Att
namespace L2
open PySem PySem.Spec PyProof.Rows
theorem qv : ∀ {vs : List Value} {ns : List Int}, IntsAre vs ns -> bb (ns.map V.int) vs
 | _, _, .nil => .nil
 | _, _, .cons n t h => .cons ⟨t, rfl⟩ (qv h)
def Bw (H : Hp) : Prop := ∀ b, H b = none \/ ∃ o xs, H b = some (.frz o (.lst xs))
theorem AS {P : Program} {w : World} {K : W.Frag} {mg mb : Str -> Option Value} {CX : yI} {k : Nat} {fa a : Addr} {fd : FuncData} {x : Str} {sp : Sp} {s₁ : Shared} {vs : List Value} {ns : List Int}
  (KX : K.In s₁.heap) (hns : s₁.heap.Ns mainGlobals mg) (hb : s₁.heap.Ns builtinsNs mb) (hbb : ∀ x : Str, x ≠ "__name__" -> mb x = bootBuiltins x) (hlim : s₁.heap.NoLimit) (hg : s₁.gens = #[])
  (ha : s₁.heap.get? a = some { cls := .type "list", data := .seq vs.toArray }) (hi : IntsAre vs ns) (hl : ns.length <= sizeLine) (hr : ic k callerA)
  (F : ∀ base : Heap, K.In base -> base.Ns mainGlobals mg -> pU P w K mg base CX k fa fd [x] sp) (hbind : ∀ (s : Shared) (u : Value), BindsTo s fd ⟨[u], []⟩ [(x, u)])
  (hsp : ∀ H : Hp, Bw H -> fw K H a (ns.map V.int) -> sp [.ref a] H (fun v _ => v = .bl true) fun _ _ _ => False)
  (hCX : ∀ H e s', CX [] H s₁ (fun _ _ _ => False) e s' -> False) :
  codeAny (model P w) callerA (.call (.ref fa) ⟨[.ref a], []⟩) (fun r s' => r = .ok (.ret (.bool true)) /\ OldK s₁.heap s'.heap /\ s'.os = s₁.os /\ AllBare s'.gens) s₁ := by
 have rv := qv hi
 have lenV := hi.length
 have core : ∀ H : Hp, Bw H -> fw K H a (ns.map V.int) -> nR P w H s₁.heap -> (∀ b, H b ≠ none -> b = a) -> (H a ≠ none -> K.lookup a = none) ->
   codeAny (model P w) callerA (.call (.ref fa) ⟨[.ref a], []⟩) (fun r s' => r = .ok (.ret (.bool true)) /\ OldK s₁.heap s'.heap /\ s'.os = s₁.os /\ AllBare s'.gens) s₁ := by
  intro H hO hS hok hA hK
  have base_of : ∀ {b : Addr} {o : Obj}, s₁.heap.get? b = some o -> H b = none -> (rC s₁.heap H).get? b = some o := fun e n => AZ e n
  have noA : ∀ {b : Addr} {o : Obj} {es : Array DictEntry} {ep : Nat}, s₁.heap.get? b = some o -> o.data = .dict es ep -> H b = none := fun {b o es ep} e d => by
   cases q : H b with
   | none => rfl
   | some u =>
    have e' : b = a := hA b (by rw [q]; simp)
    subst e'
    rw [ha] at e; cases e
    have d' : Data.seq vs.toArray _ = Data.dict es ep := d
    cases d'
  have nsK : ∀ {b : Addr} {m : Str -> Option Value}, s₁.heap.Ns b m -> (rC s₁.heap H).Ns b m := fun {b m} ⟨o, es, ep, e, d, r⟩ => ⟨o, es, ep, base_of e (noA e d), d, r⟩
  have hKb : K.In (rC s₁.heap H) := fun b o e => base_of (KX b o e) (by
   cases q : H b with
   | none => rfl
   | some u =>
    have e' : b = a := hA b (by rw [q]; simp)
    subst e'
    rw [hK (by rw [q]; simp)] at e; cases e)
  have hM : Mod K mg (rC s₁.heap H) := ⟨hKb, nsK hns, ⟨mb, nsK hb, hbb⟩, let ⟨mc, h1, h2⟩ := hlim; ⟨mc, nsK h1, h2⟩⟩
  have e0 : By P w K mg (rC s₁.heap H) callerA [] s₁ H := ⟨rfl, hM, fun b o e => CP e, Nat.le_of_eq (yb _ _), trivial, fun b hb => absurd (show b ∈ ([] : List Addr) from hb) (by simp), hok, .of_eq hg⟩
  refine J5 ((F _ hKb (nsK hns)).run callerA [] s₁ H ⟨[.ref a], []⟩ [.ref a] [.ref a] _ _ hr e0 (hbind s₁ (.ref a)) (.cons rfl .nil) (hsp H hO hS)) fun r s' h => ?_
  cases r with
  | error e => exact (hCX H e s' h).elim
  | ok fl =>
   cases fl with
   | next => exact False.elim h
   | brk => exact False.elim h
   | cont => exact False.elim h
   | ret u =>
    obtain ⟨v, H', os, bare, un, hok', r', q⟩ := h
    have q' : v = .bl true := q
    subst q'
    obtain rfl : u = Value.bool true := r'
    refine ⟨rfl, OldK.of_keep fun b o e => ?_, os, bare⟩
    cases q : H b with
    | none => exact un.keep b o e q (by intro z; exact absurd (show b ∈ ([] : List Addr) from z) (by simp)) (by simp)
    | some u =>
     rcases hO b with z | ⟨ob, xs, z⟩
     ·rw [q] at z; cases z
     ·have z2 := un.frzs b ob _ z
      obtain ⟨e1, _⟩ := hok b _ z
      obtain ⟨e2, _⟩ := hok' b _ z2
      rw [e] at e1; cases e1
      exact e2
 cases hk : K.lookup a with
 | some o =>
  have e := KX a o hk
  rw [ha] at e
  cases e
  refine core (fun _ => none) (fun _ => .inl rfl) (.inr ⟨_, vs.toArray, _, hk, rfl, rfl, rfl, by rw [J3, lenV]; exact hl, by simpa using rv⟩) (fun b u z => by have z' : (none : Option HO) = some u := z; cases z') (fun b z => absurd rfl z) fun z => absurd rfl z
 | none =>
  refine core (fun b => if b = a then some (.frz { cls := .type "list", data := .seq vs.toArray } (.lst (ns.map V.int))) else none) (fun b => ?_) (.inl (.inr ⟨{ cls := .type "list", data := .seq vs.toArray }, Jl rfl⟩)) (fun b u z => ?_) (fun b z => ?_) fun _ => hk
  ·by_cases hb : b = a
   ·exact .inr ⟨_, _, Jl hb⟩
   ·exact .inl (Jm hb)
  ·by_cases hb : b = a
   ·have z' := (Jl hb).symm.trans z
    cases z'
    subst hb
    exact ⟨ha, by rw [Kh]; exact hl, vs, _, rv, ha⟩
   ·have z' := (Jm hb).symm.trans z
    cases z'
  ·by_cases hb : b = a
   ·exact hb
   ·exact absurd (Jm hb) z
end L2
namespace L2
open PySem PySem.Spec PyProof.Rows
theorem walk_of {l : W.OpenLaw} {n k : Nat} {q : Program} {loose : List Str} {XP : (Str -> Option Value) -> Heap -> Prop} {YP : World -> Heap -> Prop} {d : DefRec} {K : Params -> W.Frag} {CX : World -> yI} {sp : World -> Sp} {x : Str}
  (hn : l.most = some n) (hn2 : n <= sizeLine) (hdf : d.params.defaults = []) (hr : ic k callerA)
  (hY : ∀ (w : World) (h : Heap), YP w h -> (K w.params).In h)
  (F : ∀ (w : World) (mg : Str -> Option Value) (fa : Addr) (h : Heap), (K w.params).In h -> h.Ns mainGlobals mg -> mg d.name = some (.ref fa) ->
   ∃ fd : FuncData, (∀ (s : Shared) (u : Value), BindsTo s fd ⟨[u], []⟩ [(x, u)]) /\
    ∀ base : Heap, (K w.params).In base -> base.Ns mainGlobals mg -> pU l.prog w (K w.params) mg base (CX w) k fa fd [x] (sp w))
  (hsp : ∀ (w : World) (H : Hp) (a : Addr) (ns : List Int), ns.length <= n -> Bw H -> fw (K w.params) H a (ns.map V.int) -> sp w [.ref a] H (fun v _ => v = .bl true) fun _ _ _ => False)
  (hCX : ∀ (w : World) (H : Hp) (s : Shared) (e : Value) (s' : Shared), CX w [] H s (fun _ _ _ => False) e s' -> False) :
  W.WalkO q loose XP YP l.row.toRowW d [] (fun f vs => PySem.call f vs) := by
 refine Att.attach_call hn hdf fun w s₀ s₁ mg mb fa o pm cd doc a vs ns G Y ho hd hcd hmg hobj hints hlen hg => ?_
 have KX := hY w _ Y
 obtain ⟨fd, hb, hF⟩ := F w mg fa _ KX G.T.g hmg
 exact AS KX G.T.g G.T.b G.T.builtins G.T.nolimit hg hobj hints (Ju hlen hn2) hr hF hb (fun H hO hS => hsp w H a ns hlen hO hS) fun H e s' => hCX w H s₁ e s'
end L2
namespace L2
open PySem PySem.Spec PyProof.Rows
def d6 (s : Stmt) : Arguments := match s with
 | .FunctionDef _ a _ _ _ _ _ _ _ _ => a
 | _ => { posonlyargs := [], args := [], vararg := none, kwonlyargs := [], kw_defaults := [], kwarg := none, defaults := [] }
def cG (s : Stmt) : List Stmt := match s with
 | .FunctionDef _ _ b _ _ _ _ _ _ _ => b
 | _ => []
def ar (s : Stmt) : Scope := match s with
 | .FunctionDef _ _ _ _ _ _ sc _ _ _ => sc
 | _ => { kind := .function, names := [], isGenerator := false, isCoroutine := false }
abbrev yJ : yI := fun _ _ _ _ _ _ => False
abbrev E0 : XK := fun _ _ _ => False
theorem Hi {X : Cx} : vh yJ X E0 := fun _ _ _ _ _ _ _ h => h.elim
structure iJ (K : W.Frag) (x qual : Str) (st : Stmt) (f : Addr) (fd : FuncData) : Prop where
 ex : ∃ (oc : Value) (od : Option Addr) (kV doc pm : Value) (an : Option Addr) (cdv ct : Value) (osl : Array (Option Value)),
  fd = W.fnOf x qual (d6 st) (cG st) (ar st) .none kV doc pm an cdv ct /\ K.lookup f = some ⟨oc, od, .func fd, osl⟩ /\ W.codeIn K cdv qual = true
 kp : W.keepIn K (.ref f) = true
section
variable {P : Program} {w : World} {K : W.Frag} {mg : Str -> Option Value} {base : Heap}
theorem iJ.ok {x qual : Str} {st : Stmt} {f : Addr} {fd : FuncData} {N ps : List Str} {k : Nat} {sp : Sp} (F : iJ K x qual st f fd) (S : aY N ps (ar st)) (len : ∀ vs H Q E, sp vs H Q E -> vs.length = ps.length)
  (hbody : ∀ (cdv : Value) (A : Around) (outer : List Env) (s : Shared) (H : Hp) (vs : List V) (Q : VK) (E : XK), ic k (A.deeper (envOfC qual (ar st) s.heap.objs.size f cdv)) -> sp vs H Q E ->
   ∃ t, kO (rE yJ P w K mg base N qual (ar st) f cdv A outer s H E).nox (cG st) t /\ t { nx := fun _ H' => Q .non H', rt := Q } (start N vs) H) : pU P w K mg base yJ (k + 1) f fd ps sp := by
 obtain ⟨oc, od, kV, doc, pm, an, cdv, ct, osl, rfl, lk, hcd⟩ := F.ex
 refine Ht lk hcd S len fun A outer s H vs Q E hr hsp => ?_
 obtain ⟨t, h, q⟩ := hbody cdv A outer s H vs Q E hr hsp
 exact ⟨t, h.nox, q⟩
theorem iJ.binds {x qual : Str} {st : Stmt} {f : Addr} {fd : FuncData} {ps : List Str} (F : iJ K x qual st f fd)
  (h : ∀ (kV doc pm : Value) (an : Option Addr) (cdv ct : Value) (us : List Value), us.length = ps.length -> bindArgs (W.fnOf x qual (d6 st) (cG st) (ar st) .none kV doc pm an cdv ct) ⟨us, []⟩ = pure (ps.zip us)) : j4 K fd ps [] := by
 obtain ⟨oc, od, kV, doc, pm, an, cdv, ct, osl, rfl, lk, hcd⟩ := F.ex
 exact .all (h kV doc pm an cdv ct)
theorem FS {x qual : Str} {st : Stmt} {f : Addr} {oc : Value} {od an : Option Addr} {osl : Array (Option Value)} {kV doc pm cdv ct : Value} (l : K.lookup f = some ⟨oc, od, .func (W.fnOf x qual (d6 st) (cG st) (ar st) .none kV doc pm an cdv ct), osl⟩)
  (c : W.codeIn K cdv qual = true) (k : W.keepIn K (.ref f) = true) : iJ K x qual st f (W.fnOf x qual (d6 st) (cG st) (ar st) .none kV doc pm an cdv ct) := ⟨⟨oc, od, kV, doc, pm, an, cdv, ct, osl, rfl, l, c⟩, k⟩
end
section
variable {X : Cx}
end
theorem GD {A B : Prop} (h : B) : if false = true then A else B := by
 rw [Jm J1]
 exact h
theorem GC {A B : Prop} (h : A) : if true = true then A else B := by
 rw [Jl rfl]
 exact h
end L2
namespace Lw
open PySem PySem.Spec PyProof.Rows L2
def top (i : Nat) : Stmt := PySem.Challenge.pw_rootwebs_k49_rings.main.body.getD i (.Pass ⟨0, 0, 0, 0⟩)
abbrev iN : Stmt := top 4
abbrev d7 : Stmt := top 5
abbrev iO : Stmt := top 6
abbrev fD : Stmt := top 7
abbrev fL : Stmt := top 9
abbrev jz : Stmt := top 10
abbrev cV : Stmt := top 11
abbrev jy : Stmt := top 12
abbrev fC : Stmt := top 15
abbrev dc : Stmt := top 16
abbrev dF : Stmt := top 17
abbrev gq : Stmt := top 19
abbrev gn : Stmt := top 18
abbrev eS : Stmt := top 21
abbrev g6 : Stmt := top 22
abbrev fN : Stmt := top 23
abbrev g8 : Stmt := top 24
abbrev gr : Stmt := top 25
abbrev dz : Stmt := top 26
abbrev cW : Stmt := top 27
abbrev gF : Stmt := top 28
abbrev eG : Stmt := top 29
abbrev aZ : Stmt := top 30
abbrev fM : Stmt := top 31
abbrev cu : Stmt := top 32
abbrev eH : Stmt := top 33
abbrev fE : Stmt := top 34
abbrev g9 : Stmt := top 35
abbrev j5 : Stmt := top 36
noncomputable def en (P : Params) (n : Str) (t : Tok) (v : Value) : DictEntry := ⟨PyData.keyHash P n, .str n t, v⟩
noncomputable def fo (n : Str) (st : Stmt) (m : Str) (t : Tok) (c : Addr) : Obj := ⟨.type "function", none, .func (W.fnOf n n (d6 st) (cG st) (ar st) .none .none .none (.str m t) none (.ref c) .none), #[]⟩
noncomputable def co (n : Str) (t : Tok) (l k i : Int) (a : Addr) (p : Bool) (u : Nat) : Obj := ⟨.type "code", none, .fields #[.str n t, .str n (t + 1), .str "/claim/cut.py" (t + 2), .int l 0, .int k 0, .int 0 0, .int 0 0, .int 3 0, .ref a, .bool true, .int i 0, .ref (a + 1), .none, bif p then .ref (a + 2) else .none, bif p then .ref (a + 3) else .none, .ref (bif p then a + 4 else a + 2), .int u 0, .int l 0, .str "/claim/cut.py" (u + 1)], #[]⟩
noncomputable def Kz (P : Params) : W.Frag := [(3, ⟨.type "dict", none, .dict #[en P "__name__" 165 (.str "law_rootwebs_k49_rings" 328), en P "__doc__" 166 .none, en P "__package__" 167 .none, en P "__loader__" 168 (.builtin "__main__.__loader__#opaque"), en P "__spec__" 169 .none, en P "__annotations__" 170 (.ref 6), en P "__builtins__" 171 (.ref 4), en P "__file__" 173 (.str "/claim/cut.py" 172), en P "__cached__" 174 .none, en P "RootError" 206 (.ref 24), en P "NoPlace" 222 (.ref 37), en P "is_whole" 231 (.ref 46), en P "is_whole_from" 240 (.ref 53), en P "is_place" 248 (.ref 60), en P "is_places" 254 (.ref 65), en P "check_place" 264 (.ref 72), en P "is_tied" 273 (.ref 79), en P "next_places" 279 (.ref 84), en P "star_of" 287 (.ref 91), en P "LEAST_RING" 291 (.int 3 290), en P "ring_good" 297 (.ref 96), en P "rings_of" 303 (.ref 101), en P "shortest_rings" 312 (.ref 108), en P "least_ring" 320 (.ref 115), en P "first_ring" 327 (.ref 122), en P "_law_cell_at" 337 (.ref 129), en P "_law_next" 344 (.ref 136), en P "_law_pen_of" 352 (.ref 143), en P "_law_draw" 361 (.ref 150), en P "_law_whole" 368 (.ref 157), en P "_law_named" 374 (.ref 162), en P "_law_names_by" 380 (.ref 167), en P "_law_far" 386 (.ref 172), en P "_law_steps" 392 (.ref 177), en P "_law_sparse_by" 398 (.ref 182), en P "_law_web_by" 410 (.ref 189), en P "_law_rings_of" 416 (.ref 194), en P "_law_least" 422 (.ref 199), en P "_law_good" 428 (.ref 204), en P "_law_bent" 440 (.ref 211), en P "law" 446 (.ref 216)] 41, #[]⟩),
 (45, co "is_whole" 225 7 1 181 40 true 229),
 (46, fo "is_whole" iN "rootwebs.kinds" 223 45),
 (52, co "is_whole_from" 232 9 3 181 47 true 238),
 (53, fo "is_whole_from" d7 "rootwebs.kinds" 223 52),
 (59, co "is_place" 241 11 2 181 54 true 246),
 (60, fo "is_place" iO "rootwebs.kinds" 223 59),
 (64, co "is_places" 249 13 2 181 61 false 252),
 (65, fo "is_places" fD "rootwebs.kinds" 223 64),
 (71, co "check_place" 257 16 2 181 66 true 262),
 (72, fo "check_place" fL "rootwebs.webs" 255 71),
 (78, co "is_tied" 265 19 3 181 73 true 271),
 (79, fo "is_tied" jz "rootwebs.webs" 255 78),
 (83, co "next_places" 274 21 2 181 80 false 277),
 (84, fo "next_places" cV "rootwebs.webs" 255 83),
 (90, co "star_of" 280 23 2 181 85 true 285),
 (91, fo "star_of" jy "rootwebs.webs" 255 90),
 (95, co "ring_good" 292 28 2 181 92 false 295),
 (96, fo "ring_good" fC "rootwebs.rings" 288 95),
 (100, co "rings_of" 298 32 2 181 97 false 301),
 (101, fo "rings_of" dc "rootwebs.rings" 288 100),
 (107, co "shortest_rings" 304 39 1 181 102 true 310),
 (108, fo "shortest_rings" dF "rootwebs.rings" 288 107),
 (114, co "least_ring" 313 45 1 181 109 true 318),
 (115, fo "least_ring" gn "rootwebs.rings" 288 114),
 (121, co "first_ring" 321 48 1 181 116 true 325),
 (122, fo "first_ring" gq "rootwebs.rings" 288 121),
 (128, co "_law_cell_at" 330 51 2 181 123 true 335),
 (129, fo "_law_cell_at" eS "law_rootwebs_k49_rings" 328 128),
 (135, co "_law_next" 338 55 1 181 130 true 342),
 (136, fo "_law_next" g6 "law_rootwebs_k49_rings" 328 135),
 (142, co "_law_pen_of" 345 58 1 181 137 true 350),
 (143, fo "_law_pen_of" fN "law_rootwebs_k49_rings" 328 142),
 (149, co "_law_draw" 353 61 2 181 144 true 359),
 (150, fo "_law_draw" g8 "law_rootwebs_k49_rings" 328 149),
 (156, co "_law_whole" 362 68 1 181 151 true 366),
 (157, fo "_law_whole" gr "law_rootwebs_k49_rings" 328 156),
 (161, co "_law_named" 369 70 2 181 158 false 372),
 (162, fo "_law_named" dz "law_rootwebs_k49_rings" 328 161),
 (166, co "_law_names_by" 375 73 2 181 163 false 378),
 (167, fo "_law_names_by" cW "law_rootwebs_k49_rings" 328 166),
 (171, co "_law_far" 381 76 1 181 168 false 384),
 (172, fo "_law_far" gF "law_rootwebs_k49_rings" 328 171),
 (176, co "_law_steps" 387 87 2 181 173 false 390),
 (177, fo "_law_steps" eG "law_rootwebs_k49_rings" 328 176),
 (181, co "_law_sparse_by" 393 93 1 181 178 false 396),
 (182, fo "_law_sparse_by" aZ "law_rootwebs_k49_rings" 328 181),
 (188, co "_law_web_by" 399 112 1 181 183 true 408),
 (189, fo "_law_web_by" fM "law_rootwebs_k49_rings" 328 188),
 (193, co "_law_rings_of" 411 125 2 181 190 false 414),
 (194, fo "_law_rings_of" cu "law_rootwebs_k49_rings" 328 193),
 (198, co "_law_least" 417 135 1 181 195 false 420),
 (199, fo "_law_least" eH "law_rootwebs_k49_rings" 328 198),
 (203, co "_law_good" 423 138 2 181 200 false 426),
 (204, fo "_law_good" fE "law_rootwebs_k49_rings" 328 203),
 (210, co "_law_bent" 429 142 3 181 205 true 438),
 (211, fo "_law_bent" g9 "law_rootwebs_k49_rings" 328 210),
 (215, co "law" 441 148 1 181 212 false 444),
 (216, fo "law" j5 "law_rootwebs_k49_rings" 328 215)]
noncomputable def Qz : Program := W.view PySem.Challenge.pw_rootwebs_k49_rings [1,2,4,5,6,7,9,10,11,12,14,15,16,17,18,19,21,22,23,24,25,26,27,28,29,30,31,32,33,34,35,36]
noncomputable abbrev Hz : W.Hook := W.kHook Kz [3, 45, 46, 52, 53, 59, 60, 64, 65, 71, 72, 78, 79, 83, 84, 90, 91, 95, 96, 100, 101, 107, 108, 114, 115, 121, 122, 128, 129, 135, 136, 142, 143, 149, 150, 156, 157, 161, 162, 166, 167, 171, 172, 176, 177, 181, 182, 188, 189, 193, 194, 198, 199, 203, 204, 210, 211, 215, 216] fun _ => by kernel_rfl
theorem D7 : PySem.Challenge.rw_rootwebs_k49_rings.wellSaid = true := by kernel_rfl
noncomputable abbrev Xz (s : Shared) : Bool := W.xlAt Qz [] s && W.recOk (W.RowW.records (W.OpenRow.toRowW (W.OpenLaw.row PySem.Challenge.rw_rootwebs_k49_rings))) s
theorem D8 : W.LeftO PySem.Challenge.rw_rootwebs_k49_rings.row.prog Qz [] Xz (W.Hook.obs Hz) (W.Hook.val Hz) 2684 := fun w => by kernel_rfl
end Lw
namespace L2
open PySem PySem.Spec PyProof.Rows
theorem eT {x : Str} : ∀ {names : List (Str × NameKind)} {k : NameKind}, names.lookup x = some k -> (x, k) ∈ names
 | [], _, h => by simp at h
 | (n, j) :: r, k, h => by
  rw [KZ] at h
  cases hx : x == n with
  | true =>
   rw [hx] at h
   have e : x = n := eq_of_beq hx
   cases h
   rw [e]; exact Jx
  | false => rw [hx] at h; exact Jy _ (eT h)
theorem km {env : Env} {x : Str} : ∀ {names : List (Str × NameKind)},
  (names.map fun (n, k) => if (k == NameKind.free && env.scope.kind == .function && env.kindOf n == some .cell) then (n, NameKind.cell) else (n, k)).lookup x =
   (names.lookup x).map fun k => if (k == NameKind.free && env.scope.kind == .function && env.kindOf x == some .cell) then NameKind.cell else k
 | [] => rfl
 | (n, k) :: r => by
  have ih := km (env := env) (x := x) (names := r)
  rw [KF]
  show List.lookup x ((if (k == NameKind.free && env.scope.kind == .function && env.kindOf n == some .cell) = true then (n, NameKind.cell) else (n, k)) :: _) = _
  cases hx : x == n with
  | true =>
   have e : x = n := eq_of_beq hx
   subst e
   by_cases hc : (k == NameKind.free && env.scope.kind == .function && env.kindOf x == some .cell) = true
   ·rw [Jl hc, KZ, hx, KZ, hx]; show some NameKind.cell = some (if _ then _ else _); rw [Jl hc]
   ·rw [Jm hc, KZ, hx, KZ, hx]; show some k = some (if _ then _ else _); rw [Jm hc]
  | false =>
   by_cases hc : (k == NameKind.free && env.scope.kind == .function && env.kindOf n == some .cell) = true
   ·rw [Jl hc, KZ, hx, KZ, hx]; exact ih
   ·rw [Jm hc, KZ, hx, KZ, hx]; exact ih
theorem lq {env : Env} {f : Str × NameKind -> List (Str × Addr) -> Sem (ForInStep (List (Str × Addr)))}
  (h1 : ∀ n c acc, env.cells.lookup n = some c -> f (n, .free) acc = pure (.yield ((n, c) :: acc))) (h2 : ∀ n k acc, k ≠ .free -> f (n, k) acc = pure (.yield acc)) :
  ∀ (names : List (Str × NameKind)) (acc : List (Str × Addr)), (∀ y ∈ names, y.2 = .free -> ∃ c, env.cells.lookup y.1 = some c) -> (∀ x c, acc.lookup x = some c -> env.cells.lookup x = some c) ->
   ∃ cl, forIn names acc f = (pure cl : Sem (List (Str × Addr))) /\ (∀ x c, cl.lookup x = some c -> env.cells.lookup x = some c) /\ (∀ x, (acc.lookup x).isSome = true -> (cl.lookup x).isSome = true) /\ (∀ y ∈ names, y.2 = .free -> (cl.lookup y.1).isSome = true)
 | [], acc, _, ha => ⟨acc, rfl, ha, fun _ h => h, fun y hy => by simp at hy⟩
 | (n, k) :: r, acc, hn, ha => by
  by_cases hk : k = .free
  ·subst hk
   obtain ⟨c, hc⟩ := hn (n, .free) Jx rfl
   obtain ⟨cl, e1, e2, e3, e4⟩ := lq h1 h2 r ((n, c) :: acc) (fun y hy => hn y (Jy _ hy)) (fun x d h => by
    rw [KZ] at h
    cases hx : x == n with
    | true => rw [hx] at h; cases h; rw [eq_of_beq hx]; exact hc
    | false => rw [hx] at h; exact ha x d h)
   refine ⟨cl, ?_, e2, fun x h => e3 x ?_, fun y hy hf => ?_⟩
   ·rw [List.forIn_cons, h1 n c acc hc]; exact e1
   ·rw [KZ]; cases hx : x == n <;> simp [h]
   ·rcases Jz.mp hy with z | z
    ·subst z; exact e3 n (by simp [KZ])
    ·exact e4 y z hf
  ·obtain ⟨cl, e1, e2, e3, e4⟩ := lq h1 h2 r acc (fun y hy => hn y (Jy _ hy)) ha
   refine ⟨cl, ?_, e2, e3, fun y hy hf => ?_⟩
   ·rw [List.forIn_cons, h2 n k acc hk]; exact e1
   ·rcases Jz.mp hy with z | z
    ·subst z; exact absurd hf hk
    ·exact e4 y z hf
theorem uP {env : Env} {n : Str} {c : Addr} (h : env.cells.lookup n = some c) : cellOf env n = pure c := by
 unfold cellOf; rw [h]
def wb (env : Env) (x : Str × NameKind) (r : List (Str × Addr)) : Sem (ForInStep (List (Str × Addr))) :=
 match x with | (name, kind) => if kind == .free then do let c <- cellOf env name; pure (.yield ((name, c) :: r)) else pure (.yield r)
theorem vQ {scope : Scope} {env : Env} (hn : ∀ y ∈ scope.names, y.2 = .free -> ∃ c, env.cells.lookup y.1 = some c) :
  ∃ cl, closureFor scope env = pure cl /\ (∀ x c, cl.lookup x = some c -> env.cells.lookup x = some c) /\ (∀ y ∈ scope.names, y.2 = .free -> (cl.lookup y.1).isSome = true) := by
 obtain ⟨cl, e1, e2, _, e4⟩ := lq (env := env) (f := wb env)
  (fun n c acc h => by unfold wb; simp only [K0, Kq]; rw [uP h]; rfl)
  (fun n k acc h => by
   unfold wb
   have : (k == NameKind.free) = false := by simpa using h
   simp only [this, K1, Ko]) scope.names [] hn (fun x c h => by simp at h)
 refine ⟨cl, ?_, e2, e4⟩
 show (forIn scope.names [] (wb env) >>= fun s => pure s) = pure cl
 rw [e1]; rfl
def i3 (X : Cx) (Nc : List Str) (scope : Scope) (cl : List (Str × Addr)) (C : Addr) (s : Shared) (H : Hp) (fp : List Addr) : Cx where
 prog := X.prog
 w := X.w
 K := X.K
 mg := X.mg
 base := X.base
 A := X.A
 N := Nc
 s₀ := s
 H₀ := H
 env := compEnvC scope (cellsFrom (C + 1) scope.names cl) C X.env
 outer := X.stack
 stack := X.stack
 ex := fp
 fn := fun x => scope.names.lookup x == some .cell
 calm := X.calm
 pn := []
 xe := fun _ _ => False
def oe (cap : List (Option Nat)) (σ : St) : St := cap.map fun o => o.bind fun j => (σ[j]?).join
def f9 (N : List Str) (env : Env) (scope : Scope) : List Str -> List (Option Nat) -> Bool
 | [], [] => true
 | _ :: Nc, none :: cap => f9 N env scope Nc cap
 | x :: Nc, some j :: cap => (N[j]? == some x) && (scope.names.lookup x == some .free) && f9 N env scope Nc cap
 | _, _ => false
theorem mQ {N : List Str} {env : Env} {scope : Scope} : ∀ {Nc : List Str} {cap : List (Option Nat)}, f9 N env scope Nc cap = true -> cap.length = Nc.length
 | [], [], _ => rfl
 | [], _ :: _, h => by simp [f9] at h
 | _ :: _, [], h => by simp [f9] at h
 | _ :: Nc, none :: cap, h => by rw [K2, K2, mQ (Nc := Nc) (cap := cap) h]
 | x :: Nc, some j :: cap, h => by
  have h' : f9 N env scope Nc cap = true := by unfold f9 at h; simp only [KC] at h; exact h.2
  rw [K2, K2, mQ h']
theorem oK {N : List Str} {env : Env} {scope : Scope} : ∀ {Nc : List Str} {cap : List (Option Nat)} {i j : Nat} {x : Str}, f9 N env scope Nc cap = true -> cap[i]? = some (some j) -> Nc[i]? = some x -> N[j]? = some x /\ scope.names.lookup x = some .free
 | [], _, _, _, _, _, _, e => by simp at e
 | _ :: _, [], _, _, _, h, _, _ => by simp [f9] at h
 | y :: Nc, none :: cap, 0, j, x, h, e, _ => by simp at e
 | y :: Nc, some k :: cap, 0, j, x, h, e, e2 => by
  simp at e e2; subst e; subst e2
  unfold f9 at h; simp only [KC] at h
  exact ⟨eq_of_beq h.1.1, eq_of_beq h.1.2⟩
 | y :: Nc, none :: cap, i + 1, j, x, h, e, e2 => oK (Nc := Nc) (cap := cap) (i := i) h (by simpa using e) (by simpa using e2)
 | y :: Nc, some k :: cap, i + 1, j, x, h, e, e2 => by
  have h' : f9 N env scope Nc cap = true := by unfold f9 at h; simp only [KC] at h; exact h.2
  exact oK (Nc := Nc) (cap := cap) (i := i) h' (by simpa using e) (by simpa using e2)
structure cf (N : List Str) (env : Env) (scope : Scope) (Nc : List Str) (cap : List (Option Nat)) : Prop where
 kind : scope.kind = .function
 nd : ∀ y ∈ scope.names, scope.names.lookup y.1 = some y.2
 free : ∀ y ∈ scope.names, y.2 = .free -> env.kindOf y.1 = some .cell \/ env.kindOf y.1 = some .free
 cap : f9 N env scope Nc cap = true
theorem kD {n0 : Nat} {x : Str} {c : Addr} : ∀ {names : List (Str × NameKind)} {cl : List (Str × Addr)} {n : Nat}, n0 <= n -> ((x, NameKind.cell) ∈ names \/ ∃ c', cl.lookup x = some c' /\ n0 <= c') -> (cellsFrom n names cl).lookup x = some c -> n0 <= c
 | [], cl, n, _, h, e => by
  rcases h with z | ⟨c', z1, z2⟩
  ·simp at z
  ·have e' : cl.lookup x = some c := e
   rw [z1] at e'; cases e'; exact z2
 | (y, k) :: r, cl, n, hn, h, e => by
  unfold cellsFrom at e
  split at e
  ·rename_i hk
   refine kD (n := n + 1) (by omega) ?_ e
   cases hx : x == y with
   | true => exact .inr ⟨n, by rw [KZ, hx], hn⟩
   | false =>
    rcases h with z | ⟨c', z1, z2⟩
    ·rcases Jz.mp z with q | q
     ·have : x = y := JK Prod.fst q
      rw [this] at hx; simp at hx
     ·exact .inl q
    ·exact .inr ⟨c', by rw [KZ, hx]; exact z1, z2⟩
  ·rename_i hk
   refine kD hn ?_ e
   rcases h with z | z
   ·rcases Jz.mp z with q | q
    ·have : k = .cell := (JK Prod.snd q).symm
     exact absurd (by rw [this]; rfl) hk
    ·exact .inl q
   ·exact .inr z
theorem jd {x : Str} : ∀ {names : List (Str × NameKind)} {cl : List (Str × Addr)} {n : Nat}, (x, NameKind.cell) ∉ names -> (cellsFrom n names cl).lookup x = cl.lookup x
 | [], cl, n, _ => rfl
 | (y, k) :: r, cl, n, hn => by
  unfold cellsFrom
  have hr : (x, NameKind.cell) ∉ r := fun z => hn (Jy _ z)
  split
  ·rename_i hk
   rw [jd hr, KZ]
   cases hx : x == y with
   | true => exact absurd (by rw [eq_of_beq hx, (eq_of_beq hk : k = .cell)]; exact Jx) hn
   | false => rfl
  ·exact jd hr
theorem mP {n0 : Nat} : ∀ {names : List (Str × NameKind)} {cl : List (Str × Addr)} {n : Nat}, n0 <= n -> (∀ x y c, cl.lookup x = some c -> cl.lookup y = some c -> n0 <= c -> x = y) -> (∀ x c, cl.lookup x = some c -> c < n) ->
  ∀ x y c, (cellsFrom n names cl).lookup x = some c -> (cellsFrom n names cl).lookup y = some c -> n0 <= c -> x = y
 | [], cl, n, _, h, _ => h
 | (z, k) :: r, cl, n, hn, h, hb => by
  unfold cellsFrom
  split
  ·refine mP (n := n + 1) (by omega) (fun x y c e1 e2 hc => ?_) (fun x c e => ?_)
   ·rw [KZ] at e1 e2
    cases hx : x == z with
    | true =>
     cases hy : y == z with
     | true => rw [eq_of_beq hx, eq_of_beq hy]
     | false =>
      rw [hx] at e1; rw [hy] at e2
      cases e1
      exact absurd (hb y _ e2) (Jq _)
    | false =>
     cases hy : y == z with
     | true =>
      rw [hx] at e1; rw [hy] at e2
      cases e2
      exact absurd (hb x _ e1) (Jq _)
     | false => rw [hx] at e1; rw [hy] at e2; exact h x y c e1 e2 hc
   ·rw [KZ] at e
    cases hx : x == z with
    | true => rw [hx] at e; cases e; exact K3 _
    | false => rw [hx] at e; exact K4 (hb x c e)
  ·exact mP hn h hb
theorem kg {x : Str} {c : Addr} : ∀ {names : List (Str × NameKind)} {cl : List (Str × Addr)} {h : Heap}, (cellsFrom h.objs.size names cl).lookup x = some c -> cl.lookup x = some c \/ (pushCells h names).IsCell c none
 | [], cl, h, e => .inl e
 | (y, k) :: r, cl, h, e => by
  unfold cellsFrom at e
  unfold pushCells
  split at e
  ·rename_i hk
   rw [Jl hk]
   have e' : (cellsFrom (h.push { cls := .type "cell", data := .cell none }).objs.size r ((y, h.objs.size) :: cl)).lookup x = some c := by rw [K5]; exact e
   rcases kg e' with q | q
   ·rw [KZ] at q
    cases hx : x == y with
    | true =>
     rw [hx] at q; cases q
     exact .inr ⟨_, K6 _ _ _ _ (JU _ rfl), rfl⟩
    | false => rw [hx] at q; exact .inl q
   ·exact .inr q
  ·rename_i hk
   rw [Jm hk]
   exact kg e
theorem ya {X : Cx} {pins : List (Addr × Obj)} {σ : St} {H : Hp} {s : Shared} {h' : Heap} {t' : Nat} {fp : List Addr} {Nc : List Str} {scope : Scope} {cl : List (Str × Addr)} {cap : List (Option Nat)}
  (I : aT X pins σ H s) (hf : ∀ b ∈ fp, lH X pins H b) (hfs : ∀ b ∈ fp, b < s.heap.objs.size) (S : cf X.N X.env scope Nc cap)
  (hcl : ∀ x c, cl.lookup x = some c -> X.env.cells.lookup x = some c) (hall : ∀ y ∈ scope.names, y.2 = .free -> (cl.lookup y.1).isSome = true)
  (hn : h'.Ns s.heap.objs.size (fun _ => none)) (hk : ∀ b o, s.heap.get? b = some o -> h'.get? b = some o) (hce : ∀ x c, (cellsFrom (s.heap.objs.size + 1) scope.names cl).lookup x = some c -> cl.lookup x = some c \/ h'.IsCell c none) :
  aT (i3 X Nc scope cl s.heap.objs.size s H fp) [] (oe cap σ) H { s with heap := h', toks := t' } := by
 have hrl : ∀ x, (i3 X Nc scope cl s.heap.objs.size s H fp).env.kindOf x = (scope.names.lookup x).map fun k => if (k == NameKind.free && X.env.scope.kind == .function && X.env.kindOf x == some .cell) then NameKind.cell else k := fun x => km
 have hcf : ∀ x, ((i3 X Nc scope cl s.heap.objs.size s H fp).env.kindOf x = some .cell \/ (i3 X Nc scope cl s.heap.objs.size s H fp).env.kindOf x = some .free) -> scope.names.lookup x = some .free \/ scope.names.lookup x = some .cell := fun x hx => by
  rw [hrl] at hx
  cases e : scope.names.lookup x with
  | none => rw [e] at hx; rcases hx with z | z <;> cases z
  | some k =>
   rw [e] at hx
   by_cases hkf : k = .free
   ·rw [hkf]; exact .inl rfl
   ·have : (k == NameKind.free) = false := by simpa using hkf
    simp only [this, JS, Option.map_some] at hx
    rcases hx with z | z
    ·have z' : k = .cell := by simpa using z
     rw [z']; exact .inr rfl
    ·have z' : k = .free := by simpa using z
     exact absurd z' hkf
 have hclx : ∀ x, scope.names.lookup x = some .free -> ∃ c, cl.lookup x = some c := fun x e => J9.mp (hall (x, .free) (eT e) rfl)
 have hcb : ∀ x c, cl.lookup x = some c -> c < s.heap.objs.size := fun x c e => by
  obtain ⟨v, q⟩ := I.cell x c (hcl x c e)
  exact q.lt
 have hcell : ∀ x c, (cellsFrom (s.heap.objs.size + 1) scope.names cl).lookup x = some c -> (cl.lookup x = some c /\ c < s.heap.objs.size) \/ (s.heap.objs.size + 1 <= c /\ h'.IsCell c none) := fun x c e => by
  by_cases hm : (x, NameKind.cell) ∈ scope.names
  ·have h1 := kD (JV _) (.inl hm) e
   rcases hce x c e with z | z
   ·have := hcb x c z
    exact absurd (Jp (K4 this) h1) (Jq _)
   ·exact .inr ⟨h1, z⟩
  ·rw [jd hm] at e
   exact .inl ⟨e, hcb x c e⟩
 have hinj : ∀ x y c, (cellsFrom (s.heap.objs.size + 1) scope.names cl).lookup x = some c -> (cellsFrom (s.heap.objs.size + 1) scope.names cl).lookup y = some c -> x = y := fun x y c e1 e2 => by
  rcases hcell x c e1 with ⟨a1, a2⟩ | ⟨a1, a2⟩
  ·rcases hcell y c e2 with ⟨b1, b2⟩ | ⟨b1, b2⟩
   ·exact I.ok.inj x y c (hcl x c a1) (hcl y c b1)
   ·exact absurd (Jp (K4 a2) b1) (Jq _)
  ·exact mP (JV _) (fun x y c q _ hc => absurd (Jp (K4 (hcb x c q)) hc) (Jq _)) (fun x c q => K4 (hcb x c q)) x y c e1 e2 a1
 refine ⟨⟨I.ok.mod, S.kind, I.ok.glob, I.ok.blt, JV _, fun x y c e1 e2 => hinj x y c e1 e2, fun x hx => ?_, fun x c e e2 => ?_, I.ok.hd, I.ok.frames, .inl rfl,
  fun b hb => ⟨Jr (hfs b hb), fun x c e => ?_⟩, I.bs, Ju I.ok.bsz I.sz, fun b o e hb => ?_, fun b hb z => ?_, I.stack, I.stkFree⟩,
  rfl, I.bare, Un.kept hk, ⟨_, hn, fun i x v e1 e2 e3 => ?_⟩, fun x c e => ?_, I.hok.fresh (JV _), fun x c e => ?_, fun p hp => absurd (show p ∈ ([] : List (Addr × Obj)) from hp) (by simp), I.hok.kept hk, ?_⟩
 ·rcases hcf x hx with q | q
  ·by_cases hm : (x, NameKind.cell) ∈ scope.names
   ·rcases J9.mp (W.cellsFrom_some scope.names (s.heap.objs.size + 1) cl (.inl (S.nd (x, .cell) hm))) with ⟨c, e⟩
    exact ⟨c, e⟩
   ·obtain ⟨c, e⟩ := hclx x q
    exact ⟨c, (jd hm).trans e⟩
  ·obtain ⟨c, e⟩ := J9.mp (W.cellsFrom_some scope.names (s.heap.objs.size + 1) cl (.inl q))
   exact ⟨c, e⟩
 ·have hm : (x, NameKind.cell) ∈ scope.names := eT (eq_of_beq (show (scope.names.lookup x == some .cell) = true from e))
  exact Nat.le_of_succ_le (kD (JV _) (.inl hm) e2)
 ·rcases hcell x c e with ⟨a1, a2⟩ | ⟨a1, a2⟩
  ·exact (hf b hb).2.2.2.2.1 x c (hcl x c a1)
  ·exact fun z => absurd (Jp (K4 (hfs b hb)) (by rw [<- z]; exact a1)) (Jq _)
 ·rcases (hf b hb).2.2.2.1 with z | z
  ·exact I.ok.noex b o e z
  ·exact absurd (Jp (Jp (Jo e) I.ok.bsz) z) (Jq _)
 ·rcases Jz.mp (I.stkSub b z) with q | q
  ·exact (hf b hb).2.1 q
  ·exact (hf b hb).2.2.1 q
 ·have e2' : ∃ j, cap[i]? = some (some j) /\ σ[j]? = some (some v) := by
   unfold oe at e2
   rw [Ke] at e2
   cases hc : cap[i]? with
   | none => rw [hc] at e2; cases e2
   | some o =>
    rw [hc] at e2
    cases o with
    | none => cases e2
    | some j =>
     refine ⟨j, rfl, ?_⟩
     simp only [Option.map_some, Option.bind_some] at e2
     cases hj : σ[j]? with
     | none => rw [hj] at e2; cases e2
     | some q =>
      rw [hj] at e2
      simp only [Option.join_some] at e2
      rw [Jn e2]
  obtain ⟨j, hj, hv⟩ := e2'
  obtain ⟨hN, hx⟩ := oK S.cap hj e1
  have hkx := S.free (x, .free) (eT hx) rfl
  obtain ⟨m, hm, hl⟩ := I.loc
  obtain ⟨u, r, l⟩ := hl j x v hN hv (hkx.elim (fun z => .inr (.inl z)) (fun z => .inr (.inr z)))
  refine ⟨u, r, .inr ⟨?_, ?_⟩⟩
  ·rw [hrl, hx]
   show some (if _ then _ else _) = _ \/ some (if _ then _ else _) = _
   by_cases hc : (NameKind.free == NameKind.free && X.env.scope.kind == .function && X.env.kindOf x == some .cell) = true
   ·rw [Jl hc]; exact .inl rfl
   ·rw [Jm hc]; exact .inr rfl
  ·obtain ⟨c, ec⟩ := hclx x hx
   have hm : (x, NameKind.cell) ∉ scope.names := fun z => by
    have := S.nd (x, .cell) z
    rw [hx] at this; cases this
   refine ⟨c, (jd hm).trans ec, ?_⟩
   rcases l with ⟨k, _⟩ | ⟨k, c', ec', z⟩
   ·rcases hkx with q | q <;> (rw [k] at q; cases q)
   ·have q := hcl x c ec
    rw [ec'] at q; cases q
    obtain ⟨o, ho, hd⟩ := z
    exact ⟨o, hk _ o ho, hd⟩
 ·rcases hcell x c e with ⟨a1, a2⟩ | ⟨a1, a2⟩
  ·obtain ⟨v, o, ho, hd⟩ := I.cell x c (hcl x c a1)
   exact ⟨v, o, hk _ o ho, hd⟩
  ·exact ⟨none, a2⟩
 ·rcases hcell x c e with ⟨a1, a2⟩ | ⟨a1, a2⟩
  ·exact I.freeC x c (hcl x c a1)
  ·exact I.hok.fresh (Nat.le_of_succ_le a1)
 ·show (cap.map _).length = Nc.length
  rw [Kh, mQ S.cap]
abbrev sQ : Value -> Shared -> Prop := fun _ _ => False
def rS (ifs : List Expr) (env : Env) : Sem Bool := forIn ifs true fun c r => if r = true then do let ok <- isTrue c env (eval c env); pure (ForInStep.yield ok) else pure (ForInStep.yield r)
def pP (X : Cx) (ifs : List Expr) (t : TT) : Prop :=
 ∀ (pins : List (Addr × Obj)) (s : Shared) (σ : St) (H : Hp) (Q : Bool -> Hp -> Prop), aT X pins σ H s -> t σ H Q -> wpAny (model X.prog X.w) X.A (rS ifs X.env) (TP X pins σ Q) X.xe s
def GP : TT := fun _ H Q => Q true H
theorem Cf {X : Cx} : pP X [] GP := fun _ _ _ H _ I h => JQ ⟨H, I, h⟩
theorem Ce {X : Cx} {c : Expr} {t : TT} (h : PT X c t) : pP X [c] t := fun pins s σ H Q I q => wpAny_tests_one (h pins s σ H Q I q)
def F2 (e : Expr) (acc : Value) (env : Env) : Sem Unit := match e with
 | .ListComp elt _ _ _ => do let _ <- call (.builtin "list.append") [acc, <- eval elt env]
 | .SetComp elt _ _ _ => do let v <- eval elt env; standAt elt.pos; let _ <- call (.builtin "set.add") [acc, v]
 | _ => unsupported "internal:not-a-comprehension"
def lh : Expr -> Bool
 | .ListComp .. => true
 | .SetComp .. => true
 | _ => false
def lO (M : Model) (A : Around) (e : Expr) (k : Nat) (acc : Value) (env : Env) (C : Shared -> Prop) (E : Value -> Shared -> Prop) (s : Shared) : Prop := match (clausesOf e)[k]? with
 | some g => wpAny M A (eval g.iter env) (fun x s1 => wpAny M A (foldedSetIterable g.iter env x) (fun x s2 => wpAny M A (pyIter x) (fun it s3 =>
   codeAny M A (.compStart e k it acc env) (fun r s4 => (∃ f, r = .ok f) /\ C s4) s3) E s2) E s1) E s
 | none => wpAny M A (F2 e acc env) (fun _ s1 => C s1) E s
theorem uB {M : Model} {A : Around} {e : Expr} {k : Nat} {acc : Value} {env : Env} {C C' : Shared -> Prop} {E : Value -> Shared -> Prop} {s : Shared} (hC : ∀ s, C s -> C' s) (h : lO M A e k acc env C sQ s) : lO M A e k acc env C' E s := by
 unfold lO at h ⊢
 split at h
 ·exact JH h (fun _ _ h => JH h (fun _ _ h => JH h (fun _ _ h => J5 h fun _ _ h => ⟨h.1, hC _ h.2⟩) fun _ _ z => z.elim) fun _ _ z => z.elim) fun _ _ z => z.elim
 ·exact JH h (fun _ _ h => hC _ h) fun _ _ z => z.elim
theorem BC {M : Model} {A : Around} {E : Value -> Shared -> Prop} {s : Shared} {e : Expr} {d : Nat} {g : Comprehension} {it acc : Value} {env : Env} {Q : Fin -> Shared -> Prop} (he : lh e = true) (hz : ∀ g ∈ clausesOf e, g.is_async = 0) (hg : (clausesOf e)[d]? = some g)
  (h : wpAny M A (pyNext it) (fun r s₁ => match r with
   | none => Q (.done .next) s₁
   | some v => wpAny M A (letOwnedTupleGo g.target it v) (fun _ s₁' => wpAny M A (assign g.target env v) (fun _ s₂ => wpAny M A (rS g.ifs env) (fun ok s₃ =>
     if ok = true then lO M A e (d + 1) acc env (fun s₄ => wpAny M A (again (.compLoop e d it acc env)) Q E s₄) E s₃ else wpAny M A (again (.compLoop e d it acc env)) Q E s₃) E s₂) E s₁') E s₁) E s) :
  wpAny M A (compTurn e d it acc env) Q E s := by
 have h0 := hz g (Kf hg)
 have h1 : ∀ g', (clausesOf e)[d + 1]? = some g' -> g'.is_async = 0 := fun g' h => hz g' (Kf h)
 unfold compTurn
 cases e <;> first
  | exact absurd (show false = true from he) J1
  | (rename_i elt gens sc pos
     have hg' : gens[d]? = some g := hg
     have h1' : ∀ g', gens[d + 1]? = some g' -> g'.is_async = 0 := h1
     dsimp only
     rw [hg']
     dsimp only
     rw [h0]
     refine JM (JO ?_)
     show wpAny M A (pyNext it >>= _) Q E s
     refine JM (JH h (fun r s₁ h₁ => ?_) fun _ _ z => z)
     cases r with
     | none => exact JQ h₁
     | some v =>
      refine JM (JH h₁ (fun _ s₁' h₁' => ?_) fun _ _ z => z)
      refine JM (JH h₁' (fun _ s₂ h₂ => ?_) fun _ _ z => z)
      refine JM (JH h₂ (fun ok s₃ h₃ => ?_) fun _ _ z => z)
      cases ok with
      | false => exact h₃
      | true =>
       simp only [Kq] at h₃ ⊢
       unfold lO at h₃
       dsimp only [clausesOf] at h₃
       cases e2 : gens[d + 1]? with
       | none =>
        rw [e2] at h₃
        exact JM h₃
       | some g' =>
        rw [e2] at h₃
        have e3 := h1' g' e2
        simp only [e3]
        refine JM (JH h₃ (fun x s₄ h₄ => ?_) fun _ _ z => z)
        refine JM (JO ?_)
        show wpAny M A (foldedSetIterable g'.iter env x >>= _) Q E s₄
        refine JM (JH h₄ (fun x s₅ h₅ => ?_) fun _ _ z => z)
        refine JM (JN ?_)
        show wpAny M A (pyIter x) _ E s₅
        refine JH h₅ (fun it' s₆ h₆ => ?_) fun _ _ z => z
        refine JM (wpAny_runOwn (J5 h₆ fun r s₇ h₇ => ?_))
        obtain ⟨⟨f, rfl⟩, hc⟩ := h₇
        exact hc)
section
variable {prog : Program} {w : World} {A : Around} {R : Result -> Shared -> Prop} {s : Shared}
theorem qx {e : Expr} {k : Nat} {g : Comprehension} {it acc : Value} {env : Env} (he : lh e = true) (hz : ∀ g ∈ clausesOf e, g.is_async = 0) (hg : (clausesOf e)[k]? = some g)
  (h0 : codeAny (model prog w) A (.compLoop e k it acc env) R s) (h : wpAny (model prog w) A (pyIter it) (fun it' s' => codeAny (model prog w) A (.compLoop e k it' acc env) R s') sQ s) :
  codeAny (model prog w) A (.compStart e k it acc env) R s := by
 have ha := hz g (Kf hg)
 cases e <;> first
  | exact absurd (show false = true from he) J1
  | (refine K7 ?_
     show wpAny _ _ ((compStart _ k it acc env).onRaise (fun x => do noteFrame x env; standAt theWindowsPlace)) _ _ s
     refine wpAny_notedAt ?_
     unfold compStart
     rw [hg]
     have e1 : ((some g).elim false fun x => x.is_async != 0) = false := by show (g.is_async != 0) = false; rw [ha]; rfl
     rw [e1]
     simp only [K1, Ko]
     refine JM (K8 (wpAny_ite ?_))
     split
     ·exact JQ (And.intro rfl h0)
     ·refine JM (K9 ?_)
      refine JM (JO ?_)
      exact JM (JH h (fun it' s' h' => JQ (And.intro rfl h')) fun _ _ z => z.elim))
theorem xY {e : Expr} {d : Nat} {g : Comprehension} {it acc : Value} {env : Env} (he : lh e = true) (hz : ∀ g ∈ clausesOf e, g.is_async = 0) (hg : (clausesOf e)[d]? = some g) (I : Nat -> Shared -> Prop)
  (turn : ∀ n s, I n s -> wpAny (model prog w) A (pyNext it) (fun r s₁ => match r with
   | none => R (.ok .next) s₁
   | some v => wpAny (model prog w) A (letOwnedTupleGo g.target it v) (fun _ s₁' => wpAny (model prog w) A (assign g.target env v) (fun _ s₂ =>
     wpAny (model prog w) A (rS g.ifs env) (fun ok s₃ =>
      if ok = true then lO (model prog w) A e (d + 1) acc env (fun s₅ => ∃ m, m < n /\ I m s₅) sQ s₃
      else ∃ m, m < n /\ I m s₃) sQ s₂) sQ s₁') sQ s₁) sQ s)
  (n : Nat) (h : I n s) : codeAny (model prog w) A (.compLoop e d it acc env) R s := by
 refine codeAny_loop (by cases e <;> first | exact absurd (show false = true from he) J1 | rfl) I (fun n s hI => ?_) n h
 cases e <;> first
  | exact absurd (show false = true from he) J1
  | (show wpAny _ A ((compTurn _ d it acc env).onRaise (fun x => do noteFrame x env; theTreesLotGoes x)) _ _ s
     refine wpAny_noted (BC he hz hg (JH (turn n s hI) (fun r s₁ h₁ => ?_) fun _ _ z => z.elim))
     cases r with
     | none => exact h₁
     | some v =>
      refine JH h₁ (fun _ s₂ h₂ => JH h₂ (fun _ s₃ h₃ => JH h₃ (fun ok s₄ h₄ => ?_) fun _ _ z => z.elim) fun _ _ z => z.elim) fun _ _ z => z.elim
      cases ok with
      | false => exact JQ ⟨rfl, h₄⟩
      | true =>
       simp only [Kq] at h₄ ⊢
       exact uB (fun s₅ h₅ => JQ ⟨rfl, h₅⟩) h₄)
end
abbrev Bm := St -> Hp -> (St -> Hp -> Prop) -> Prop
def uW (X : Cx) (e : Expr) (k : Nat) (acc : Addr) (t : Bm) : Prop :=
 ∀ (pins : List (Addr × Obj)) (s : Shared) (σ : St) (H : Hp) (N : St -> Hp -> Prop), aT X pins σ H s -> t σ H N -> lO (model X.prog X.w) X.A e k (.ref acc) X.env (fun s' => ∃ σ' H', aT X pins σ' H' s' /\ N σ' H') sQ s
def HC (J : It) (g : TG) (tt : TT) (tb : Bm) (N : St -> Hp -> Prop) (σ : St) (H : Hp) : Prop := ∃ W : Nat -> Nat -> St -> Hp -> Prop, (∃ m, W 0 m σ H) /\ ∀ i m σ1 H, W i m σ1 H ->
 (J.stop i H /\ N σ1 H) \/ (J.go i H /\ ∃ N' : St -> Hp -> Prop, (∀ σ' H', N' σ' H' -> ∃ m', m' < m /\ W (i + 1) m' σ' H') /\ ∀ x H', J.yld i H x H' -> g x σ1 H' fun σ2 H2 => tt σ2 H2 fun b H3 => if b = true then tb σ2 H3 N' else N' σ2 H3)
section
variable {X : Cx} {e : Expr} {d : Nat} {cl : Comprehension} {g : TG} {tt : TT} {tb : Bm} {acc : Addr}
theorem nj {J : It} {fp : List Addr} {it : Addr} {tn : Nat -> Heap -> Prop} {pins : List (Addr × Obj)} {N : St -> Hp -> Prop} {σ : St} {H : Hp} {s : Shared} (he : lh e = true) (hz : ∀ g ∈ clausesOf e, g.is_async = 0) (hg : (clausesOf e)[d]? = some cl) (hxe : X.xe = sQ) (hc : X.calm = true)
  (T : xm X.prog X.w X.K cl.target J fp it tn) (hgc : PG X cl.target g) (htc : pP X cl.ifs tt) (hb : uW X e (d + 1) acc tb) (I : aT X pins σ H s) (st : tn 0 s.heap) (fr : ∀ b ∈ fp, lH X pins H b) (h : HC J g tt tb N σ H) :
  codeAny (model X.prog X.w) X.A (.compLoop e d (.ref it) (.ref acc) X.env) (fun r s' => r = .ok .next /\ ∃ σ' H', aT X pins σ' H' s' /\ N σ' H') s := by
 obtain ⟨W, ⟨m0, w0⟩, turn⟩ := h
 have stat : ∀ {H' : Hp}, (∀ b ∈ fp, H' b = none) -> ∀ b ∈ fp, lH X pins H' b := fun hn b hb => ⟨hn b hb, (fr b hb).2⟩
 refine xY he hz hg (fun n s' => ∃ i σ' H', aT X pins σ' H' s' /\ tn i s'.heap /\ (∀ b ∈ fp, H' b = none) /\ W i n σ' H') ?_ m0 ⟨0, _, _, I, st, fun b hb => (fr b hb).1, w0⟩
 rintro n s5 ⟨i, σ5, H5, I5, st5, fr5, w5⟩
 rcases turn i n σ5 H5 w5 with ⟨stop, qn⟩ | ⟨go, N', hN, step⟩
 ·refine dY (T.done X rfl rfl rfl hc i pins s5 σ5 H5 sQ I5 (stat fr5) st5 stop) fun r s6 ⟨hr, I6⟩ => ?_
  subst hr
  exact ⟨rfl, _, _, I6, qn⟩
 ·refine dY (T.item X rfl rfl rfl hc i pins s5 σ5 H5 sQ I5 (stat fr5) st5 go) fun r s6 ⟨u, hr, h6⟩ => ?_
  subst hr
  refine dY h6 fun _ s7 ⟨x, H7, I7, r7, y7, st7, fr7⟩ => ?_
  have I7' := I7.pinned (stat fr7) (T.obj _ _ st7)
  have z1 := hgc _ s7 σ5 H7 x u _ I7' r7 (step x H7 y7)
  rw [hxe] at z1
  refine dY z1 fun _ s8 ⟨σ8, H8, I8, q8⟩ => ?_
  have z2 := htc _ s8 σ8 H8 _ I8 q8
  rw [hxe] at z2
  refine dY z2 fun b s9 ⟨H9, I9, q9⟩ => ?_
  have again : ∀ {σa : St} {Ha : Hp} {sa : Shared}, aT X (pins ++ oi fp s7.heap) σa Ha sa -> N' σa Ha -> ∃ m, m < n /\ ∃ i σ' H', aT X pins σ' H' sa /\ tn i sa.heap /\ (∀ b ∈ fp, H' b = none) /\ W i m σ' H' := fun {σa Ha sa} Ia na => by
   obtain ⟨m', hm, wa⟩ := hN σa Ha na
   refine ⟨m', hm, i + 1, σa, Ha, Ia.unpinned, T.keep _ _ _ st7 fun b hb o e => (Ia.pin (b, o) (JY _ (JY _ (jA hb e)))).1, fun b hb => ?_, wa⟩
   obtain ⟨o, e, d⟩ := T.obj _ _ st7 b hb
   exact (Ia.pin (b, o) (JY _ (JY _ (jA hb e)))).2.1
  cases b with
  | false =>
   rw [Jm J1] at q9 ⊢
   exact again I9 q9
  | true =>
   rw [Jl rfl] at q9 ⊢
   exact uB (fun s' ⟨σ', H', I', n'⟩ => again I' n') (hb _ s9 σ8 H9 _ I9 q9)
def zq (wi : TI) (g : TG) (tt : TT) (tb : Bm) : Bm := fun σ H N => wi σ H fun J H1 => HC J g tt tb N σ H1
theorem xP {wi : TI} (he : lh e = true) (hz : ∀ g ∈ clausesOf e, g.is_async = 0) (hg : (clausesOf e)[d]? = some cl) (hxe : X.xe = sQ) (hc : X.calm = true) (hi : PI X cl.target cl.iter wi) (hgc : PG X cl.target g) (htc : pP X cl.ifs tt) (hb : uW X e (d + 1) acc tb)
  (hs : ∀ x, foldedSetIterable cl.iter X.env x = pure x) : uW X e d acc (zq wi g tt tb) := by
 intro pins s σ H N I h
 unfold lO
 rw [hg]
 have z := hi pins s σ H _ I h
 rw [hxe] at z
 refine dY z fun v s1 h1 => La (hs v) (dY h1 fun itv s2 h2 => ?_)
 obtain ⟨it, fp, tn, J, H2, e', I2, T, st2, f2, rd⟩ := h2
 subst e'
 have loop := nj he hz hg hxe hc T hgc htc hb I2 st2 f2 rd
 exact qx he hz hg (J5 loop fun r s' ⟨h1, h2⟩ => ⟨⟨_, h1⟩, h2⟩) (T.self _ 0 _ _ _ st2 (J5 loop fun r s' ⟨h1, h2⟩ => ⟨⟨_, h1⟩, h2⟩))
def yZ (te : TE) (acc : Addr) : Bm := fun σ H N => te σ H fun y H4 => ∃ ys, H4 acc = some (.lst ys) /\ ys.length < sizeLine /\ N σ (cM H4 acc (.lst (ys ++ [y])))
theorem oE {te : TE} {elt : Expr} {gens : List Comprehension} {scope : Scope} {pos : Pos} (hg : gens[d]? = none) (hxe : X.xe = sQ) (hel : PE X elt te) : uW X (.ListComp elt gens scope pos) d acc (yZ te acc) := by
 intro pins s σ H N I h
 unfold lO
 show (match gens[d]? with | some g => _ | none => _ : Prop)
 rw [hg]
 show wpAny _ _ (do let _ <- call (.builtin "list.append") [.ref acc, <- eval elt X.env]) _ _ _
 have z := hel pins s σ H _ I h
 rw [hxe] at z
 refine JM (dY z fun v10 s10 ⟨y, H10, I10, r10, ys, hy, hz, nn⟩ => ?_)
 have z4 := qI (X := X) pins s10 σ H10 (.ref acc) [y] (.ref acc) [v10] (fun _ H' => N σ H') I10 rfl (.cons r10 .nil) ⟨_, ys, y, rfl, rfl, hy, hz, nn⟩
 rw [hxe] at z4
 exact JM (dY z4 fun v11 s11 ⟨y', H11, I11, r11, n11⟩ => JQ ⟨_, _, I11, n11⟩)
end
theorem A4 {M : Model} {A : Around} {E : Value -> Shared -> Prop} {s : Shared} {scope : Scope} {cl : List (Str × Addr)} {env : Env} {Q : Env -> Shared -> Prop}
  (hQ : ∀ h', h'.Ns s.heap.objs.size (fun _ => none) -> (∀ b o, s.heap.get? b = some o -> h'.get? b = some o) -> (∀ x c, (cellsFrom (s.heap.objs.size + 1) scope.names cl).lookup x = some c -> cl.lookup x = some c \/ h'.IsCell c none) ->
   ∀ cenv : Env, ({ cenv with scope := relabel scope env } : Env) = compEnvC scope (cellsFrom (s.heap.objs.size + 1) scope.names cl) s.heap.objs.size env -> cenv.locals = s.heap.objs.size -> Q cenv { s with heap := h' }) :
  wpAny M A (newFunctionEnv scope env.globals cl [] env.qual none .none (some env)) Q E s := by
 simp only [newFunctionEnv, Option.isSome_some, Kq]
 refine JM (wpAny_alloc ?_)
 refine JM (wpAny_layCells _ (fun name kind cells => by cases hkc : kind == NameKind.cell <;> simp [hkc]) _ _ _ _ ?_)
 have hsz : (s.heap.push { cls := .type "dict", data := .dict #[] }).objs.size = s.heap.objs.size + 1 := K5 ..
 refine JM (JQ (JQ ?_))
 show Q _ { s with heap := pushCells (s.heap.push { cls := .type "dict", data := .dict #[] }) scope.names }
 refine hQ _ ((Heap.Ns.new s.heap (.type "dict")).keeps (K6 _ _)) (fun b o e => K6 _ _ b o (JT _ e)) (fun x c e => ?_) _ ?_ rfl
 ·rw [<- hsz] at e
  exact kg e
 ·show _ = _
  unfold compEnvC
  rw [<- hsz]
def oh (o0 : Addr -> HO) (wi : TI) (cap : List (Option Nat)) (g : TG) (tt : TT) (tb : Addr -> Bm) : TE := fun σ H Q => wi σ H fun J H1 => ∀ acc, H1 acc = none -> HC J g tt (tb acc) (fun _ H' => Q (.ref acc) H') (oe cap σ) (cM H1 acc (o0 acc))
def y0 (wi : TI) (cap : List (Option Nat)) (g : TG) (tt : TT) (te : TE) : TE := oh (fun _ => .lst []) wi cap g tt (yZ te)
def IT (X : Cx) (newAcc : Sem Value) (o0 : Addr -> HO) : Prop := ∀ (pins : List (Addr × Obj)) (s : Shared) (σ : St) (H : Hp) (Q : Value -> Shared -> Prop), aT X pins σ H s ->
 (∀ s', aT X pins σ (cM H s.heap.objs.size (o0 s.heap.objs.size)) s' -> (∀ b o, s.heap.get? b = some o -> s'.heap.get? b = some o) -> s.heap.objs.size < s'.heap.objs.size -> Q (.ref s.heap.objs.size) s') -> wpAny (model X.prog X.w) X.A newAcc Q X.xe s
theorem uc {X : Cx} : IT X (newList []) (fun _ => .lst []) := fun pins s σ H Q I h =>
 KD (h _ (I.lnew (t' := s.toks) (ys := []) (its := []) .nil (Lb _)) (fun b o e => JT _ e) (by rw [K5]; exact K3 _))
section
variable {X : Cx} {e : Expr} {cl0 : Comprehension} {rest : List Comprehension} {scope : Scope} {Nc : List Str} {cap : List (Option Nat)} {wi : TI} {g : TG} {tt : TT} {tb : Addr -> Bm} {pos' : Pos} {o0 : Addr -> HO} {newAcc : Sem Value}
theorem qY {use : Option (Value -> Sem Unit)} {pins : List (Addr × Obj)} {s : Shared} {σ : St} {H : Hp} {Q : VK} {QQ : Value -> Shared -> Prop}
  (he : lh e = true) (hz : ∀ g ∈ clausesOf e, g.is_async = 0) (hcl0 : clausesOf e = cl0 :: rest) (hmk : IT X newAcc o0)
  (hc : X.calm = true) (S : cf X.N X.env scope Nc cap) (hi : PI X cl0.target cl0.iter wi)
  (hg : ∀ cl C s H fp, PG (i3 X Nc scope cl C s H fp) cl0.target g) (ht : ∀ cl C s H fp, pP (i3 X Nc scope cl C s H fp) cl0.ifs tt) (hb : ∀ cl C s H fp acc, uW (i3 X Nc scope cl C s H fp) e 1 acc (tb acc))
  (I : aT X pins σ H s) (h : oh o0 wi cap g tt tb σ H Q)
  (hfin : ∀ C acc s' H', aT X pins σ H' s' -> lH X pins H' C -> (∃ m, s'.heap.Ns C m) -> Q (.ref acc) H' -> compPost (model X.prog X.w) X.A X.xe use QQ (.ref acc) C (.ok .next) s')
  (hs : ∀ x, foldedSetIterable cl0.iter X.env x = pure x) :
  wpAny (model X.prog X.w) X.A (comprehension e scope X.env pos' newAcc false (eval cl0.iter X.env) use) QQ X.xe s := by
 obtain ⟨cl, hclos, hcl, hall⟩ := vQ (scope := scope) (env := X.env) (fun y hy hf => I.ok.has y.1 (S.free y hy hf))
 have hg0 : (clausesOf e)[0]? = some cl0 := by rw [hcl0]; rfl
 refine wpAny_comprehension_free hcl0 hs hclos S.kind (fun x hx e => by rw [S.nd x hx, e]) ?_
 refine dY (hi pins s σ H _ I h) fun v s1 h1 => dY h1 fun itv s2 h2 => ?_
 obtain ⟨it, fp, tn, J, H2, e', I2, T, st2, f2, rd⟩ := h2
 subst e'
 have rd := rd _ I2.fresh
 refine hmk pins s2 σ H2 _ I2 fun s3 I3 hk3 hsz3 => ?_
 have st3 : tn 0 s3.heap := T.keep _ _ _ st2 fun b _ o e => hk3 b o e
 have fpn : ∀ b ∈ fp, b ≠ s2.heap.objs.size := fun b hb => by
  obtain ⟨o, eo, _⟩ := T.obj _ _ st2 b hb
  exact Jr (Jo eo)
 have f3 : ∀ b ∈ fp, lH X pins (cM H2 s2.heap.objs.size (o0 s2.heap.objs.size)) b := fun b hb => ⟨by rw [bX (fpn b hb)]; exact (f2 b hb).1, (f2 b hb).2⟩
 have hfs : ∀ b ∈ fp, b < s3.heap.objs.size := fun b hb => by
  obtain ⟨o, eo, _⟩ := T.obj _ _ st3 b hb
  exact Jo eo
 refine A4 fun h1 hns1 hk1 hce cenv ecenv elc => ?_
 rw [ecenv]
 have IB : aT (i3 X Nc scope cl s3.heap.objs.size s3 (cM H2 s2.heap.objs.size (o0 s2.heap.objs.size)) fp) [] (oe cap σ) (cM H2 s2.heap.objs.size (o0 s2.heap.objs.size)) { s3 with heap := h1, toks := s3.toks } :=
  ya I3 f3 hfs S hcl hall hns1 hk1 hce
 have stB : tn 0 h1 := T.keep _ _ _ st3 fun b _ o e => hk1 b o e
 rw [elc]
 have frB : ∀ b ∈ fp, lH (i3 X Nc scope cl s3.heap.objs.size s3 (cM H2 s2.heap.objs.size (o0 s2.heap.objs.size)) fp) [] (cM H2 s2.heap.objs.size (o0 s2.heap.objs.size)) b := fun b hb =>
  ⟨(f3 b hb).1, (IB.ok.exf b hb).1, IB.ok.exfs b hb, .inl hb, (IB.ok.exf b hb).2, fun p hp => absurd (show p ∈ ([] : List (Addr × Obj)) from hp) (by simp)⟩
 have loop := nj (X := i3 X Nc scope cl s3.heap.objs.size s3 (cM H2 s2.heap.objs.size (o0 s2.heap.objs.size)) fp) he hz hg0 rfl hc T (hg _ _ _ _ _) (ht _ _ _ _ _) (hb _ _ _ _ _ _) IB stB frB rd
 have fin : ∀ r s', (r = .ok .next /\ ∃ σ' H', aT (i3 X Nc scope cl s3.heap.objs.size s3 (cM H2 s2.heap.objs.size (o0 s2.heap.objs.size)) fp) [] σ' H' s' /\ Q (.ref s2.heap.objs.size) H') -> compPost (model X.prog X.w) X.A X.xe use QQ (.ref s2.heap.objs.size) s3.heap.objs.size r s' := by
  rintro r s' ⟨rfl, σ', H', J', q⟩
  have I5 : aT X pins σ H' s' := I3.call' (ch := fp) J'.os J'.base J'.hok J'.bare fun b hbf => ⟨(f3 b hbf).2.2.2.1, (f3 b hbf).2.1, (f3 b hbf).2.2.2.2.1, (f3 b hbf).2.2.2.2.2⟩
  obtain ⟨mm, hnn, _⟩ := J'.loc
  exact hfin _ _ s' H' I5 (I3.fpOk (JV _) J'.free) ⟨mm, hnn⟩ q
 exact qx he hz hg0 (J5 loop fin) (T.self _ 0 _ _ _ stB (J5 loop fin))
variable {elt : Expr} {pos : Pos}
theorem AC (hc : X.calm = true) (hz : ∀ g ∈ cl0 :: rest, g.is_async = 0) (S : cf X.N X.env scope Nc cap) (hi : PI X cl0.target cl0.iter wi)
  (hg : ∀ cl C s H fp, PG (i3 X Nc scope cl C s H fp) cl0.target g) (ht : ∀ cl C s H fp, pP (i3 X Nc scope cl C s H fp) cl0.ifs tt) (hb : ∀ cl C s H fp acc, uW (i3 X Nc scope cl C s H fp) (.ListComp elt (cl0 :: rest) scope pos) 1 acc (tb acc))
  (hs : ∀ x, foldedSetIterable cl0.iter X.env x = pure x) : PE X (.ListComp elt (cl0 :: rest) scope pos) (oh (fun _ => .lst []) wi cap g tt tb) := by
 intro pins s σ H Q I h
 have h0 := hz cl0 Jx
 obtain ⟨tg0, it0, if0, as0⟩ := cl0
 have h0' : as0 = 0 := h0
 subst h0'
 rw [arm_eval_ListComp]
 refine qY (e := .ListComp elt (_ :: rest) scope pos) (Q := Q) rfl hz rfl uc hc S hi hg ht hb I h (fun C acc s' H' I' hf hn q => ?_) hs
 obtain ⟨m, hn⟩ := hn
 refine ⟨m, hn, fun h' sb => ⟨.ref acc, H', ?_, rfl, q⟩⟩
 exact I'.turned (t' := s'.toks) (it := C) (fun b o hb e => (sb.2 b hb).trans e) hf.1 hf.2.1 hf.2.2.2.1 hf.2.2.2.2.1 hf.2.2.2.2.2
theorem t5 {i : Nat} {x : Str} {pos1 : Pos} {pos2 : Pos} (hc : X.calm = true) (hz : ∀ g ∈ cl0 :: rest, g.is_async = 0) (hN : X.N.Nodup) (hix : X.N[i]? = some x) (hx : X.env.scope.names.lookup x = some .local) (S : cf X.N X.env scope Nc cap) (hi : PI X cl0.target cl0.iter wi)
  (hg : ∀ cl C s H fp, PG (i3 X Nc scope cl C s H fp) cl0.target g) (ht : ∀ cl C s H fp, pP (i3 X Nc scope cl C s H fp) cl0.ifs tt) (hb : ∀ cl C s H fp acc, uW (i3 X Nc scope cl C s H fp) (.ListComp elt (cl0 :: rest) scope pos) 1 acc (tb acc))
  (hsw : swapsWith (.ListComp elt (cl0 :: rest) scope pos) (some (.Name x pos1)) pos2.line X.env = pure true) (hs : ∀ x, foldedSetIterable cl0.iter X.env x = pure x) :
  PS X (.Assign [.Name x pos1] (.ListComp elt (cl0 :: rest) scope pos) pos2) (yM (oh (fun _ => .lst []) wi cap g tt tb) (tE i)) := by
 intro pins s σ H D I h
 have h0 := hz cl0 Jx
 obtain ⟨tg0, it0, if0, as0⟩ := cl0
 have h0' : as0 = 0 := h0
 subst h0'
 rw [exec_Assign_Name_used _ _ _ _ hsw]
 refine JM (JO (JM ?_))
 show wpAny _ X.A (do let _ <- comprehension (.ListComp elt (⟨tg0, it0, if0, 0⟩ :: rest) scope pos) scope X.env _ (newList []) false (eval it0 X.env) (some (assign (.Name x pos1) X.env))) _ _ s
 refine JM (JH (qY (e := .ListComp elt (_ :: rest) scope pos) (use := some (assign (.Name x pos1) X.env)) (Q := fun v H1 => D.nx (σ.set i (some v)) H1) (QQ := fun _ s' => SP X pins D .next s') rfl hz rfl uc hc S hi hg ht hb I h (fun C acc s' H' I' hf hn q => ?_) hs)
  (fun _ s' hq => JQ (JQ hq)) fun _ _ e => e)
 obtain ⟨m, hn⟩ := hn
 show wpAny _ X.A (assign (.Name x pos1) X.env (.ref acc)) _ _ _
 refine wpAny_assign_Name (qw I' hN hix (.inl hx) (show cz (.ref acc) (.ref acc) from rfl) (fun s'' I'' hsb => ?_) (.inr hx))
 obtain ⟨a, sb, ha⟩ := hsb
 have hCa : C ≠ a := by
  rcases ha with z | z
  ·rw [z]; exact hf.2.1
  ·exact fun e => hf.2.2.2.2.1 x a z e.symm
 refine ⟨m, hn.sameBut sb hCa, fun h' sb' => ⟨_, H', ?_, q⟩⟩
 exact I''.turned (t' := s''.toks) (it := C) (fun b o hb e => (sb'.2 b hb).trans e) hf.1 hf.2.1 hf.2.2.2.1 hf.2.2.2.2.1 hf.2.2.2.2.2
variable {tg iter : Expr} {ifs : List Expr} {te : TE}
theorem qH : ∀ g ∈ ([⟨tg, iter, ifs, 0⟩] : List Comprehension), g.is_async = 0 := fun g hg => by rw [Lc.mp hg]
theorem Cv (hc : X.calm = true) (S : cf X.N X.env scope Nc cap) (hi : PI X tg iter wi)
  (hg : ∀ cl C s H fp, PG (i3 X Nc scope cl C s H fp) tg g) (ht : ∀ cl C s H fp, pP (i3 X Nc scope cl C s H fp) ifs tt) (he : ∀ cl C s H fp, PE (i3 X Nc scope cl C s H fp) elt te)
  (hs : ∀ x, foldedSetIterable iter X.env x = pure x := by intro _; rfl) : PE X (.ListComp elt [⟨tg, iter, ifs, 0⟩] scope pos) (y0 wi cap g tt te) :=
 AC (cl0 := ⟨tg, iter, ifs, 0⟩) hc qH S hi hg ht (fun cl C s H fp acc => oE rfl rfl (he cl C s H fp)) hs
theorem Ck {i : Nat} {x : Str} {pos1 : Pos} {pos2 : Pos} (hc : X.calm = true) (hN : X.N.Nodup) (hix : X.N[i]? = some x) (hx : X.env.scope.names.lookup x = some .local) (S : cf X.N X.env scope Nc cap) (hi : PI X tg iter wi)
  (hg : ∀ cl C s H fp, PG (i3 X Nc scope cl C s H fp) tg g) (ht : ∀ cl C s H fp, pP (i3 X Nc scope cl C s H fp) ifs tt) (he : ∀ cl C s H fp, PE (i3 X Nc scope cl C s H fp) elt te)
  (hsw : swapsWith (.ListComp elt [⟨tg, iter, ifs, 0⟩] scope pos) (some (.Name x pos1)) pos2.line X.env = pure true) (hs : ∀ x, foldedSetIterable iter X.env x = pure x := by intro _; rfl) :
  PS X (.Assign [.Name x pos1] (.ListComp elt [⟨tg, iter, ifs, 0⟩] scope pos) pos2) (yM (y0 wi cap g tt te) (tE i)) :=
 t5 (cl0 := ⟨tg, iter, ifs, 0⟩) hc qH hN hix hx S hi hg ht (fun cl C s H fp acc => oE rfl rfl (he cl C s H fp)) hsw hs
end
end L2
namespace RS
open PySem PySem.W PyProof.Rows
open AutoSeq1 (wpAny_loadPart')
section
variable {prog : Program} {w : World} {A : Around} {E : Value -> Shared -> Prop} {s : Shared}
theorem sI {it t : Addr} {i : Nat} {items} {x : Value} {Q : Value -> Shared -> Prop} (hit : s.heap.IsTupleIter it t i) (ht : s.heap.IsTuple t items) (hx : items[i]? = some x)
  (hQ : ∀ h', h'.IsTupleIter it t (i + 1) -> Heap.SameBut it s.heap h' -> Q x { s with heap := h' }) : wpAny (model prog w) A (Builtin.SmallTypes.nextOf (.ref it)) Q E s := by
 obtain ⟨o, ho, hc, hd⟩ := id hit
 obtain ⟨ol, hol, _, nl, hdl⟩ := ht
 unfold Builtin.SmallTypes.nextOf
 refine JM (Kv (name := Str.ofString "__next__") hit.typeIs Ld (Kx Ld hit.typeIs Le ?_ (Lf _)))
 show wpAny _ _ (field (.ref it) 0 >>= _) _ _ s
 refine JM (Ks ho hd (x := .ref t) rfl ?_)
 show wpAny _ _ (if (Value.ref t == Value.none) = true then _ else _) _ _ s
 rw [Jm (show ¬ ((Value.ref t == Value.none) = true) from J1)]
 show wpAny _ _ (field (.ref it) 1 >>= _) _ _ s
 refine JM (Ks ho hd (x := .int i 0) rfl ?_)
 show wpAny _ _ (seqItems? (.ref t) >>= _) _ _ s
 refine JM (Lg hol hdl ?_)
 simp only [Km, hx]
 refine JM (wpAny_setField ho hd (by simp) (JQ ⟨x, rfl, JQ (hQ _ ?_ (Lh ..))⟩))
 exact ⟨_, KG _ ho (Obj.isFreed_of_fields (Obj.data_mapFields hd _)), (Obj.cls_mapFields ..).trans hc, by rw [Obj.data_mapFields hd]; simp [rawInt]⟩
theorem mX {it t : Addr} {i : Nat} {items} {Q : Value -> Shared -> Prop} (hh : A.handled = none) (hit : s.heap.IsTupleIter it t i) (ht : s.heap.IsTuple t items) (hx : items[i]? = none)
  (hE : ∀ h' e, Heap.ExtBut it s.heap h' -> (∃ o, h'.get? e = some o /\ o.cls = .type "StopIteration") -> E (.ref e) { s with heap := h' }) : wpAny (model prog w) A (Builtin.SmallTypes.nextOf (.ref it)) Q E s := by
 obtain ⟨o, ho, hc, hd⟩ := id hit
 obtain ⟨ol, hol, _, nl, hdl⟩ := ht
 unfold Builtin.SmallTypes.nextOf
 refine JM (Kv (name := Str.ofString "__next__") hit.typeIs Ld (Kx Ld hit.typeIs Le ?_ (Lf _)))
 show wpAny _ _ (field (.ref it) 0 >>= _) _ _ s
 refine JM (Ks ho hd (x := .ref t) rfl ?_)
 show wpAny _ _ (if (Value.ref t == Value.none) = true then _ else _) _ _ s
 rw [Jm (show ¬ ((Value.ref t == Value.none) = true) from J1)]
 show wpAny _ _ (field (.ref it) 1 >>= _) _ _ s
 refine JM (Ks ho hd (x := .int i 0) rfl ?_)
 show wpAny _ _ (seqItems? (.ref t) >>= _) _ _ s
 refine JM (Lg hol hdl ?_)
 simp only [Km, hx]
 refine JM (K9 (JM (wpAny_setField ho hd (by simp) ?_)))
 show wpAny _ _ (newExc (.type "StopIteration") [] >>= _) _ _ _
 refine JM ?_
 simp only [newExc, newTuple]
 refine JM (KD ?_ (by size_fits))
 refine JM (m := firstArgMember _ _) (La (a := Value.none) (by first | rfl | (simp only [firstArgMember]; rfl)) ?_)
 refine KD ?_ (by size_fits)
 simp only [raiseNew]
 refine JM (wpAny_handled ?_)
 first | rw [show A.in1.handled = none from hh] | rw [hh]
 refine JM (JQ (wpAny_throw ?_))
 exact hE _ _ (((Lh ..).extBut.push _).push _) ⟨_, JU _ rfl, rfl⟩
end
theorem F3 {prog : Program} {w : World} {A : Around} (hh : A.handled = none) (it l : Addr) (hne : l ≠ it) (items : Array Value) :
  Draws prog w A it [it, l] items.size (fun i v => items[i]? = some v) (fun i h => h.IsTupleIter it l i /\ h.IsTuple l items) where
 live := fun _ _ st => let ⟨o, ho, _⟩ := st.1; ⟨o, ho⟩
 frame := fun _ _ _ st hk => ⟨by
  obtain ⟨o, ho, r⟩ := st.1
  exact ⟨o, hk it (by simp) o ho, r⟩, by
  obtain ⟨o, ho, r⟩ := st.2
  exact ⟨o, hk l (by simp) o ho, r⟩⟩
 item := fun i s Q E hi st hQ => by
  refine sI st.1 st.2 (x := items[i]) (by simp [hi]) fun h' hit' hs' => ?_
  refine hQ _ h' s.toks (by simp [hi]) ⟨hit', ?_⟩ hs'
  obtain ⟨o, ho, r⟩ := st.2
  exact ⟨o, (hs'.2 l hne).trans ho, r⟩
 done := fun s Q E st hE => mX hh st.1 st.2 (by simp) hE
theorem uK (l : Addr) (items : Array Value) (n : Nat) (dct : Option Addr) (sl : Array (Option Value)) :
  Meets (Builtin.«enumerate.__new__» ⟨[.type "enumerate", .ref l], []⟩) (fun _ R s => s.heap.get? l = some { cls := .type "tuple", dict := dct, data := .seq items n, slots := sl } /\
   R (.ok (.ret (.ref (s.heap.push { cls := .type "tuple_iterator", data := .fields #[.ref l, .int 0 0] }).objs.size)))
    { s with heap := (s.heap.push { cls := .type "tuple_iterator", data := .fields #[.ref l, .int 0 0] }).push { cls := .type "enumerate", data := .fields #[.none, .bool false, .ref s.heap.objs.size, rawInt 0, .none, .none] } }) :=
 .of_wp fun prog w A R s h => by
  obtain ⟨hp, g, d, tk, os⟩ := s; obtain ⟨hl, h⟩ := h
  have hsub := sub_enumerate
  have hL : Heap.IsTuple (Shared.heap ⟨hp, g, d, tk, os⟩) l items := ⟨_, hl, rfl, n, rfl⟩
  wp_walk using wpAny_loadPart' hl
  refine wpAny_stack_any fun st => JQ ?_
  split
  ·rename_i c _ _ _ _ _
   cases (c == Value.type "enumerate")
   ·wp_walk using wpAny_loadPart' hl, Li hL
    exact ⟨_, rfl, h⟩
   ·wp_walk using wpAny_loadPart' hl, Li hL
    exact ⟨_, rfl, h⟩
  ·wp_walk using wpAny_loadPart' hl, Li hL
   exact ⟨_, rfl, h⟩
section
variable {prog : Program} {w : World} {A : Around} {E : Value -> Shared -> Prop} {s : Shared}
theorem vZ {l : Addr} {items : Array Value} {Q : Value -> Shared -> Prop} (hL : s.heap.IsTuple l items)
  (h : ∀ h', IsEnum h' (s.heap.objs.size + 1) s.heap.objs.size 0 .none -> h'.IsTupleIter s.heap.objs.size l 0 -> h'.objs.size = s.heap.objs.size + 2 ->
   (∀ b o, s.heap.get? b = some o -> h'.get? b = some o) -> Q (.ref (s.heap.objs.size + 1)) { s with heap := h' }) :
  wpAny (model prog w) A (call (.type "enumerate") [.ref l]) Q E s := by
 obtain ⟨⟨c, dct, dt, sl⟩, hl, hc, n, hd⟩ := hL
 replace hc : c = .type "tuple" := hc
 replace hd : dt = .seq items n := hd
 subst hc hd
 refine callType_new F.called_enumerate (by decide) (F.typeCall_enumerate_1 _) (F.newCall_enumerate_1 _) (fun obj => F.args_object_init_2 obj _) F.entry_enumerate_new (uK l items n dct sl) ⟨hl, ?_⟩
 have hz : (s.heap.push { cls := .type "tuple_iterator", data := .fields #[.ref l, .int 0 0] }).objs.size = s.heap.objs.size + 1 := K5 ..
 show _ /\ _
 rw [hz]
 have he : IsEnum ((s.heap.push { cls := .type "tuple_iterator", data := .fields #[.ref l, .int 0 0] }).push
   { cls := .type "enumerate", data := .fields #[.none, .bool false, .ref s.heap.objs.size, rawInt 0, .none, .none] }) (s.heap.objs.size + 1) s.heap.objs.size 0 .none := by
  have := JU (s.heap.push { cls := .type "tuple_iterator", data := .fields #[.ref l, .int 0 0] })
   (o := { cls := .type "enumerate", data := .fields #[.none, .bool false, .ref s.heap.objs.size, rawInt 0, .none, .none] }) rfl
  rw [hz] at this; exact this
 exact ⟨⟨_, he, rfl⟩, h _ he ⟨_, JT _ (JU _ rfl), rfl, rfl⟩ (by rw [K5, hz]) fun b o x => JT _ (JT _ x)⟩
end
end RS
namespace L2
open PySem PySem.Spec PyProof.Rows RS
def Sq (b : Bool) (K : W.Frag) (H : Hp) (a : Addr) (xs : List V) : Prop := if b = true then fw K H a xs else fW K H a xs
def HV (b : Bool) (K : W.Frag) (a : Addr) : It :=
 ⟨fun i H => ∃ xs x, Sq b K H a xs /\ xs[i]? = some x,
  fun i H x H' => ∃ q y, x = .ref q /\ H q = none /\ H' = cM H q (.tup [.int i, y]) /\ ∀ xs, Sq b K H a xs -> xs[i]? = some y,
  fun i H => ∃ xs, Sq b K H a xs /\ xs.length = i⟩
def rG (b : Bool) (h : Heap) (it a : Addr) (i : Nat) : Prop := if b = true then h.IsListIter it a i else h.IsTupleIter it a i
theorem rG.obj {b : Bool} {h : Heap} {it a : Addr} {i : Nat} (x : rG b h it a i) : ∃ o, h.get? it = some o /\ ∀ v, o.data ≠ .cell v := by
 cases b with
 | true => obtain ⟨o, e, c, d⟩ := (show h.IsListIter it a i from x); exact ⟨o, e, fun v z => by rw [d] at z; cases z⟩
 | false => obtain ⟨o, e, c, d⟩ := (show h.IsTupleIter it a i from x); exact ⟨o, e, fun v z => by rw [d] at z; cases z⟩
theorem rG.keep {b : Bool} {h h' : Heap} {it a : Addr} {i : Nat} (x : rG b h it a i) (k : ∀ o, h.get? it = some o -> h'.get? it = some o) : rG b h' it a i := by
 cases b with
 | true => obtain ⟨o, e, r⟩ := (show h.IsListIter it a i from x); exact (show h'.IsListIter it a i from ⟨o, k o e, r⟩)
 | false => obtain ⟨o, e, r⟩ := (show h.IsTupleIter it a i from x); exact (show h'.IsTupleIter it a i from ⟨o, k o e, r⟩)
theorem uw {X : Cx} {pins : List (Addr × Obj)} {σ : St} {H : Hp} {s : Shared} {b : Bool} {a it : Addr} {xs : List V} (I : aT X pins σ H s) (hc : X.calm = true) (hq : Sq b X.K H a xs) (hne : a ≠ it) :
  ∃ (its : Array Value) (St : Nat -> Heap -> Prop), bb xs its.toList /\ Draws X.prog X.w X.A.in1 it [it, a] its.size (fun i v => its[i]? = some v) St /\ (∀ i, rG b s.heap it a i -> St i s.heap) /\ ∀ i h, St i h -> rG b h it a i := by
 have hh : X.A.in1.handled = none := by simpa using I.ok.hd hc
 cases b with
 | true =>
  obtain ⟨its, rv, p, hz⟩ := I.list (show fw X.K H a xs from hq)
  exact ⟨its.toArray, _, by simpa using rv, Draws.list hh it a hne its.toArray, fun i h => ⟨h, p.isList⟩, fun i h st => st.1⟩
 | false =>
  obtain ⟨its, rv, p, hz⟩ := I.tuple (show fW X.K H a xs from hq)
  exact ⟨its.toArray, _, by simpa using rv, F3 hh it a hne its.toArray, fun i h => ⟨h, p⟩, fun i h st => st.1⟩
theorem Er {X : Cx} {pins : List (Addr × Obj)} {σ : St} {H : Hp} {s : Shared} {b : Bool} {a : Addr} {xs ys : List V} (I : aT X pins σ H s) (h1 : Sq b X.K H a xs) (h2 : Sq b X.K H a ys) : xs = ys := by
 cases b with
 | true => exact I.list_inj h1 h2
 | false => exact I.tuple_inj h1 h2
theorem aT.turns {X : Cx} {pins : List (Addr × Obj)} {σ : St} {H : Hp} {s : Shared} {h' : Heap} {t' : Nat} {ch : List Addr} (I : aT X pins σ H s) (k : ∀ b o, b ∉ ch -> s.heap.get? b = some o -> h'.get? b = some o) (hf : ∀ b ∈ ch, lH X pins H b) : aT X pins σ H { s with heap := h', toks := t' } := by
 have nit : ∀ b u, H b = some u -> b ∉ ch := fun b u e z => by rw [(hf b z).1] at e; cases e
 refine I.step (g' := s.gens) (d' := s.drawn) (ch := ch) (fun b hb => ?_) (fun b o _ _ hc e _ => k b o hc e) (fun b o _ _ hc e _ => ⟨o.slots, k b o hc e⟩) (fun _ _ _ _ n => n)
  (fun b o hc e => ⟨o, k b o hc e⟩) (fun _ _ e => e) (fun _ _ _ e => e) (fun b ps e => ⟨#[], by rw [e]; simp⟩) (fun m hm => ?_) (fun b u e => ?_) I.bare
 ·obtain ⟨f0, f1, f2, f3, f4, f5⟩ := hf b hb
  exact ⟨f3, f1, f4, f5⟩
 ·obtain ⟨o, es, ep, ho, r⟩ := hm
  exact ⟨o, es, ep, k _ o (fun z => (hf _ z).2.1 rfl) ho, r⟩
 ·refine (I.hok b u e).stay (fun c v hc q => k c v ?_ q) (fun _ q => q) fun _ _ q => q
  rcases hc with z | z
  ·rw [z]; exact nit b u e
  ·exact nit c _ z
theorem xq {P : Program} {w : World} {K : W.Frag} {elts : List Expr} {k1 : Nat} {pos : Pos} {b : Bool} (a it e : Addr) (hei : e ≠ it) (hai : a ≠ it) (hae : a ≠ e) :
  xm P w K (.Tuple elts k1 pos) (HV b K a) [e, it] e (fun i h => (∃ old, IsEnum h e it (i : Nat) old) /\ rG b h it a i) where
 mem := by simp
 obj := fun i h st x hx => by
  obtain ⟨⟨old, he⟩, hi⟩ := st
  rcases Jz.mp hx with rfl | hx
  ·exact ⟨_, he, fun v z => by cases z⟩
  ·rw [Lc.mp hx]; exact hi.obj
 keep := fun i h h' st k => by
  obtain ⟨⟨old, he⟩, hi⟩ := st
  exact ⟨⟨old, k e (by simp) _ he⟩, hi.keep fun o eo => k it (by simp) o eo⟩
 item := by
  intro X hP hw hK hc i pins s σ H E I hf st hg
  subst hP hw hK
  obtain ⟨⟨old, he⟩, hi⟩ := st
  obtain ⟨xs, x, hq, hx⟩ := hg
  obtain ⟨its, St, rv, D, d1, d2⟩ := uw I hc hq hai
  obtain ⟨u, hu, ru⟩ := rv.get hx
  have hlt : i < its.size := by
   have := (JD.mp hu).1
   simpa using this
  have hef : e ∉ [it, a] := by
   simp only [Jz, Lj, Lk, not_or]; exact ⟨hei, JA hae⟩
  obtain ⟨f0, f1, f2, f3, f4, f5⟩ := hf e (by simp)
  obtain ⟨g0, g1, g2, g3, g4, g5⟩ := hf it (by simp)
  have helt : e < s.heap.objs.size := Jo he
  have hilt : it < s.heap.objs.size := by obtain ⟨o, eo, _⟩ := hi.obj; exact Jo eo
  refine wpAny_pyNext_enum_itemD D he (d1 i hi) hlt hei hef fun y h' tk hy ho hst' ht hsz hk => ?_
  have ey : y = u := by
   rw [<- KU, hu] at hy
   exact (Jn hy).symm
  subst ey
  refine ⟨_, rfl, ?_⟩
  refine wpAny_letOwnedTupleGo_enum (s := { s with heap := h', toks := tk + 1 }) ho fun h2 he2 hs2 => ?_
  replace hs2 : Heap.SameBut e h' h2 := hs2
  have hold : ∀ b o, b ≠ e -> b ≠ it -> s.heap.get? b = some o -> h2.get? b = some o := fun b o h1 h3 q => (hs2.2 b h1).trans (hk b o h1 h3 q)
  have ht2 : h2.get? s.heap.objs.size = some { cls := .type "tuple", data := .seq #[.int i tk, y] } := (hs2.2 _ (JP helt)).trans ht
  have hqn : H s.heap.objs.size = none := I.hok.fresh (JV _)
  have I1 : aT X pins σ (cM H s.heap.objs.size (.tup [.int i, x])) { s with heap := s.heap.push { cls := .type "tuple", data := .seq #[.int i tk, y] }, toks := tk } := by
   refine I.laid (t' := tk) (fun b o eo => JT _ eo) (JV _) ?_
   exact ⟨by show 2 <= sizeLine; decide, [.int i tk, y], .cons ⟨tk, rfl⟩ (.cons ru .nil), _, JU _ rfl, rfl, 0, rfl⟩
  have hne : ∀ b ∈ [e, it], b ≠ s.heap.objs.size := fun b hb => by
   rcases Jz.mp hb with rfl | hb
   ·exact Jr helt
   ·rw [Lc.mp hb]; exact Jr hilt
  have hf' : ∀ b ∈ [e, it], lH X pins (cM H s.heap.objs.size (.tup [.int i, x])) b := fun b hb => by
   obtain ⟨k0, k1⟩ := hf b hb
   exact ⟨by rw [bX (hne b hb)]; exact k0, k1⟩
  have I2 : aT X pins σ (cM H s.heap.objs.size (.tup [.int i, x])) { s with heap := h2, toks := tk + 1 } := by
   refine aT.turns (s := { s with heap := s.heap.push { cls := .type "tuple", data := .seq #[.int i tk, y] }, toks := tk }) I1 (ch := [e, it]) (t' := tk + 1) (fun b o hb eo => ?_) hf'
   simp only [Jz, Lj, Lk, not_or] at hb
   by_cases hbq : b = s.heap.objs.size
   ·subst hbq
    have := (JU s.heap (o := { cls := .type "tuple", data := .seq #[.int i tk, y] }) rfl).symm.trans eo
    rw [ht2]; exact this
   ·have : s.heap.get? b = some o := by
     rw [Ll _ _ _ hbq] at eo; exact eo
    exact hold b o hb.1 hb.2 this
  refine ⟨.ref s.heap.objs.size, _, I2, rfl, ⟨_, x, rfl, hqn, rfl, fun ys hy => by rw [Er I hy hq]; exact hx⟩, ⟨⟨y, by simpa using he2⟩, ?_⟩, fun b hb => (hf' b hb).1⟩
  refine (d2 (i + 1) h' hst').keep fun o eo => ?_
  exact (hs2.2 it (JA hei)).trans eo
 done := by
  intro X hP hw hK hc i pins s σ H E I hf st hg
  subst hP hw hK
  obtain ⟨⟨old, he⟩, hi⟩ := st
  obtain ⟨xs, hq, hx⟩ := hg
  obtain ⟨its, St, rv, D, d1, d2⟩ := uw I hc hq hai
  have hil : its.size = i := by
   have h1 := rv.length
   have h2 : its.toList.length = its.size := JJ
   omega
  subst hil
  refine wpAny_pyNext_enum_endD D he (d1 _ hi) fun h' hx => ⟨rfl, ?_⟩
  refine I.turns (ch := [e, it]) (t' := s.toks) (fun b o hb eo => hx b o (fun z => hb (by rw [z]; simp)) eo) hf
 self := fun _ _ _ _ _ st h => by
  obtain ⟨⟨old, he⟩, hi⟩ := st
  exact wpAny_pyIter_enum he h
section
variable {X : Cx} {tg : Expr}
def FQ (K : W.Frag) (ta : TA) : TI := fun σ H R => ta σ H fun vs H1 => ∃ a b, vs = [.ref a] /\ (∃ xs, Sq b K H1 a xs) /\ R (HV b K a) H1
theorem Cp {a : Expr} {ta : TA} {p pos tpos : Pos} {elts : List Expr} {k1 : Nat} (hg : Gl X "enumerate") (hm : X.mg "enumerate" = none) (ha : PA X [a] ta) (hs : starEach [a] X.env = [(false, eval a X.env)] := by rfl) : PI X (.Tuple elts k1 tpos) (.Call (.Name "enumerate" p) [a] [] pos) (FQ X.K ta) := by
 intro pins s σ H R I h
 refine Call_ (j6 I hg hm (by rfl) (JW (dY (ha pos pins s σ H _ I h) fun us s1 ⟨vs, H1, I1, r1, q1⟩ => ?_) hs rfl))
 obtain ⟨l, b, e, ⟨xs, hq⟩, q⟩ := q1
 subst e
 obtain ⟨u, rfl, ru⟩ := eC r1
 cases ru
 have fin : ∀ h', IsEnum h' (s1.heap.objs.size + 1) s1.heap.objs.size 0 .none -> rG b h' s1.heap.objs.size l 0 -> l < s1.heap.objs.size -> h'.objs.size = s1.heap.objs.size + 2 -> (∀ b o, s1.heap.get? b = some o -> h'.get? b = some o) ->
   wpAny (model X.prog X.w) X.A (pyIter (.ref (s1.heap.objs.size + 1))) (HR X pins σ (.Tuple elts k1 tpos) R) X.xe { s1 with heap := h' } := by
  intro h' he hi hl hsz hk
  have I2 : aT X pins σ H1 { s1 with heap := h' } := I1.kept (t' := s1.toks) hk
  refine wpAny_pyIter_enum he ?_
  refine ⟨_, [s1.heap.objs.size + 1, s1.heap.objs.size], _, _, H1, rfl, I2, xq (b := b) l s1.heap.objs.size (s1.heap.objs.size + 1) (Nat.succ_ne_self _) (Jr hl) (Jr (K4 hl)), ⟨⟨.none, he⟩, hi⟩, fun b hb => ?_, q⟩
  rcases Jz.mp hb with rfl | hb
  ·exact I1.fpOk (KO _) (I1.hok.fresh (KO _))
  ·rw [Lc.mp hb]; exact I1.fpOk (JV _) (I1.hok.fresh (JV _))
 cases b with
 | true =>
  obtain ⟨its, rv, pl, hz⟩ := I1.list (show fw X.K H1 l xs from hq)
  have hl : l < s1.heap.objs.size := by obtain ⟨o, eo, _⟩ := pl.isList; exact Jo eo
  exact call_enumerate_list pl.isList fun h' he hi hsz hk => fin h' he hi hl hsz hk
 | false =>
  obtain ⟨its, rv, pl, hz⟩ := I1.tuple (show fW X.K H1 l xs from hq)
  have hl : l < s1.heap.objs.size := by obtain ⟨o, eo, _⟩ := pl; exact Jo eo
  exact vZ pl fun h' he hi hsz hk => fin h' he hi hl hsz hk
end
end L2
namespace RS
open PySem
def xi (mask : Nat) : Nat -> Nat -> Nat -> List Nat
 | 0, _, _ => []
 | n + 1, i, pe => (List.range (SetTable.runEnd mask i + 1 - i)).map (i + ·) ++ xi mask n (SetTable.leap mask i pe).1 (SetTable.leap mask i pe).2
def cB (mask : Nat) (h : Int) : List Nat := xi mask (SetTable.turns mask) (SetTable.bits h % (mask + 1)) (SetTable.bits h)
def ie (t : SetTable) : Nat -> SetTable.Probe -> List Nat
 | 0, _ => []
 | n + 1, p => p.j :: ie t n (t.advance p)
def lP (mask i pe : Nat) (d : Option Nat) : SetTable.Probe := { j := i, more := SetTable.runEnd mask i - i, i, perturb := pe, dummy := d }
theorem tP (t : SetTable) : ∀ (m n : Nat) (p : SetTable.Probe), p.more = m ->
  ie t (m + 1 + n) p = (List.range (m + 1)).map (p.j + ·) ++ ie t n (lP t.mask (SetTable.leap t.mask p.i p.perturb).1 (SetTable.leap t.mask p.i p.perturb).2 p.dummy)
 | 0, n, p, h => by
  have e : 0 + 1 + n = n + 1 := by omega
  rw [e]
  show p.j :: ie t n (t.advance p) = _
  have ea : t.advance p = lP t.mask (SetTable.leap t.mask p.i p.perturb).1 (SetTable.leap t.mask p.i p.perturb).2 p.dummy := by
   unfold SetTable.advance
   rw [Jm (by omega)]
   rfl
  rw [ea]
  simp
 | m + 1, n, p, h => by
  have e : m + 1 + 1 + n = (m + 1 + n) + 1 := by omega
  rw [e]
  show p.j :: ie t (m + 1 + n) (t.advance p) = _
  have ea : t.advance p = { p with j := p.j + 1, more := p.more - 1 } := by
   unfold SetTable.advance
   rw [Jl (by omega)]
  rw [ea, tP t m n { p with j := p.j + 1, more := p.more - 1 } (by show p.more - 1 = m; omega)]
  rw [Lm (n := m + 1), KF, Ln]
  show p.j :: ((List.range (m + 1)).map (p.j + 1 + ·) ++ _) = (p.j + 0) :: (List.map _ _) ++ _
  rw [Nat.add_zero]
  show p.j :: (_ ++ _) = p.j :: (_ ++ _)
  congr 2
  apply Lo
  intro a _
  show p.j + 1 + a = p.j + (a + 1)
  omega
theorem zw (mask i : Nat) : i <= SetTable.runEnd mask i /\ SetTable.runEnd mask i <= i + 9 := by
 unfold SetTable.runEnd; split <;> omega
theorem ox (t : SetTable) : ∀ (n i pe : Nat) (d : Option Nat), ie t (xi t.mask n i pe).length (lP t.mask i pe d) = xi t.mask n i pe
 | 0, _, _, _ => rfl
 | n + 1, i, pe, d => by
  have hr := zw t.mask i
  show ie t ((List.range (SetTable.runEnd t.mask i + 1 - i)).map (i + ·) ++ _).length _ = _
  rw [Kg, Kh, Lp]
  have e : SetTable.runEnd t.mask i + 1 - i = (SetTable.runEnd t.mask i - i) + 1 := by omega
  rw [e, tP t (SetTable.runEnd t.mask i - i) _ (lP t.mask i pe d) rfl]
  show _ ++ ie t (xi t.mask n (SetTable.leap t.mask i pe).1 (SetTable.leap t.mask i pe).2).length (lP t.mask (SetTable.leap t.mask i pe).1 (SetTable.leap t.mask i pe).2 d) = _
  rw [ox t n]
  show _ = (List.range (SetTable.runEnd t.mask i + 1 - i)).map (i + ·) ++ _
  rw [e]; rfl
theorem rT (mask : Nat) : ∀ (n i pe : Nat), (xi mask n i pe).length <= 10 * n
 | 0, _, _ => Lb _
 | n + 1, i, pe => by
  have hr := zw mask i
  have ih := rT mask n (SetTable.leap mask i pe).1 (SetTable.leap mask i pe).2
  show ((List.range (SetTable.runEnd mask i + 1 - i)).map (i + ·) ++ _).length <= _
  rw [Kg, Kh, Lp]
  omega
theorem r6 (t : SetTable) (hashAt : Nat -> Int) (h : Int) : ∀ (pre : List Nat) (j : Nat) (post : List Nat) (fuel : Nat) (p : SetTable.Probe), ie t (pre.length + 1 + post.length) p = pre ++ j :: post -> pre.length < fuel -> p.dummy = none ->
  (∀ k ∈ pre, ∃ i, t.slot k = .live i /\ hashAt i ≠ h) ->
  (t.slot j = .empty -> SetTable.probe.go t hashAt h fuel p = some (.empty j none)) /\ (∀ i, t.slot j = .live i -> hashAt i = h -> ∃ nx, SetTable.probe.go t hashAt h fuel p = some (.candidate j i nx))
 | [], j, post, 0, p, _, hf, _, _ => by simp at hf
 | [], j, post, fuel + 1, p, hw, _, hd, _ => by
  have ew : ie t (([] : List Nat).length + 1 + post.length) p = p.j :: ie t post.length (t.advance p) := by
   rw [Lq, show 0 + 1 + post.length = post.length + 1 from by omega]; rfl
  rw [ew, KW] at hw
  have ej : p.j = j := (Lr hw).1
  refine ⟨fun he => ?_, fun i hl hh => ?_⟩
  ·show (match t.slot p.j with | .empty => _ | .dummy => _ | .live i => _) = _
   rw [ej, he, hd]
  ·refine ⟨t.advance p, ?_⟩
   show (match t.slot p.j with | .empty => _ | .dummy => _ | .live i => _) = _
   rw [ej, hl]
   show (if (hashAt i == h) = true then _ else _) = _
   rw [Jl (by simpa using hh)]
 | x :: pre, j, post, 0, p, _, hf, _, _ => by simp at hf
 | x :: pre, j, post, fuel + 1, p, hw, hf, hd, hp => by
  have ew : ie t ((x :: pre).length + 1 + post.length) p = p.j :: ie t (pre.length + 1 + post.length) (t.advance p) := by
   rw [K2, show pre.length + 1 + 1 + post.length = (pre.length + 1 + post.length) + 1 from by omega]; rfl
  rw [ew, Ls] at hw
  have ej : p.j = x := (Lr hw).1
  have er := (Lr hw).2
  obtain ⟨i, hl, hne⟩ := hp x Jx
  have hda : (t.advance p).dummy = none := by
   unfold SetTable.advance
   split
   ·exact hd
   ·exact hd
  have ih := r6 t hashAt h pre j post fuel (t.advance p) er (by rw [K2] at hf; omega) hda (fun k hk => hp k (Jy _ hk))
  have eg : SetTable.probe.go t hashAt h (fuel + 1) p = SetTable.probe.go t hashAt h fuel (t.advance p) := by
   show (match t.slot p.j with | .empty => _ | .dummy => _ | .live i => _) = _
   rw [ej, hl]
   show (if (hashAt i == h) = true then _ else _) = _
   rw [Jm (by simpa using hne)]
  rw [eg]
  exact ih
def Bh (xs : List Nat) : Prop := xs.Pairwise (· < ·)
theorem oM (xs : Array Nat) (j : Nat) : ∀ (fuel lo hi : Nat), lo <= hi -> hi <= xs.size -> hi - lo <= fuel -> (∀ i k, i < k -> k < xs.size -> xs.getD i j < xs.getD k j) -> (∀ i, i < lo -> xs.getD i j < j) -> (∀ i, hi <= i -> i < xs.size -> j <= xs.getD i j) ->
  let b := SetTable.below.go xs j fuel lo hi
  b <= xs.size /\ (∀ i, i < b -> xs.getD i j < j) /\ (∀ i, b <= i -> i < xs.size -> j <= xs.getD i j)
 | 0, lo, hi, h1, h2, h3, hr, ha, hb => by
  have e : lo = hi := by omega
  subst e
  exact ⟨h2, ha, hb⟩
 | fuel + 1, lo, hi, h1, h2, h3, hr, ha, hb => by
  by_cases hlt : lo < hi
  ·simp only [SetTable.below.go, hlt, Kq]
   by_cases hc : xs.getD ((lo + hi) / 2) j < j
   ·rw [Jl hc]
    refine oM xs j fuel _ hi (by omega) h2 (by omega) hr (fun i hi' => ?_) hb
    by_cases e : i = (lo + hi) / 2
    ·rw [e]; exact hc
    ·have := hr i ((lo + hi) / 2) (by omega) (by omega)
     omega
   ·rw [Jm hc]
    refine oM xs j fuel lo _ (by omega) (by omega) (by omega) hr ha (fun i hi' hs => ?_)
    by_cases e : i = (lo + hi) / 2
    ·rw [e]; omega
    ·have := hr ((lo + hi) / 2) i (by omega) hs
     omega
  ·have e : lo = hi := by omega
   subst e
   simp only [SetTable.below.go, hlt, Ko]
   exact ⟨h2, ha, hb⟩
theorem rV {xs : Array Nat} (h : Bh xs.toList) (j : Nat) : ∀ i k, i < k -> k < xs.size -> xs.getD i j < xs.getD k j := fun i k hik hk => by
 have hi : i < xs.size := by omega
 have := List.pairwise_iff_getElem.mp h i k (by simpa using hi) (by simpa using hk) hik
 simpa [Array.getD, hi, hk] using this
theorem lu {xs : Array Nat} (h : Bh xs.toList) (j : Nat) : SetTable.below xs j <= xs.size /\ (∀ i, i < SetTable.below xs j -> xs.getD i j < j) /\ (∀ i, SetTable.below xs j <= i -> i < xs.size -> j <= xs.getD i j) :=
 oM xs j xs.size 0 xs.size (Lb _) (JV _) (by omega) (rV h j) (fun i hi => by omega) (fun i h1 h2 => by omega)
theorem yA {xs : Array Nat} (h : Bh xs.toList) {i j : Nat} (e : xs[i]? = some j) : SetTable.below xs j = i := by
 obtain ⟨h1, h2, h3⟩ := lu h j
 have hi : i < xs.size := by
  rcases Lu.mp e with ⟨q, _⟩; exact q
 have ei : xs.getD i j = j := by
  rcases Lu.mp e with ⟨q, z⟩
  simp [Array.getD, hi, z]
 by_cases hlt : SetTable.below xs j < i
 ·have a := h3 (SetTable.below xs j) (JV _) (by omega)
  have b := rV h j (SetTable.below xs j) i hlt hi
  omega
 ·by_cases hgt : i < SetTable.below xs j
  ·have := h2 i hgt; omega
  ·omega
theorem jP {α : Type} (xs : Array α) (p : Nat) (x : α) : (SetTable.insertAt xs p x).toList = xs.toList.take p ++ x :: xs.toList.drop p := by
 unfold SetTable.insertAt
 simp [Lx]
theorem jB {α : Type} (p : α -> Prop) : ∀ (l : List α), (∃ x ∈ l, p x) -> ∃ pre x post, l = pre ++ x :: post /\ p x /\ ∀ y ∈ pre, ¬ p y
 | [], h => by obtain ⟨x, hx, _⟩ := h; simp at hx
 | a :: l, h => by
  by_cases ha : p a
  ·exact ⟨[], a, l, rfl, ha, fun y hy => by simp at hy⟩
  ·obtain ⟨x, hx, px⟩ := h
   rcases Jz.mp hx with z | z
   ·rw [z] at px; exact absurd px ha
   ·obtain ⟨pre, y, post, e, py, hp⟩ := jB p l ⟨x, z, px⟩
    refine ⟨a :: pre, y, post, by rw [e]; rfl, py, fun w hw => ?_⟩
    rcases Jz.mp hw with q | q
    ·rw [q]; exact ha
    ·exact hp w q
structure qk (t : SetTable) (es : Array (Int × Value)) (Z : List (Nat × Int × Value)) : Prop where
 place : t.place.toList = Z.map (·.1)
 ents : es.toList = Z.map (·.2)
 ris : Bh (Z.map (·.1))
 top : ∀ z ∈ Z, z.1 <= t.mask
 dum : t.dummies = #[]
 reach : ∀ z ∈ Z, ∃ pre post, cB t.mask z.2.1 = pre ++ z.1 :: post /\ ∀ k ∈ pre, k ∈ Z.map (·.1)
theorem qk.size {t : SetTable} {es : Array (Int × Value)} {Z : List (Nat × Int × Value)} (T : qk t es Z) : t.place.size = Z.length /\ es.size = Z.length := by
 have a := JK List.length T.place
 have b := JK List.length T.ents
 simp at a b
 exact ⟨a, b⟩
theorem qk.fill {t : SetTable} {es : Array (Int × Value)} {Z : List (Nat × Int × Value)} (T : qk t es Z) : t.fill = Z.length := by
 unfold SetTable.fill; rw [T.size.1, T.dum]; rfl
theorem qP (j : Nat) : SetTable.has #[] j = false := by
 unfold SetTable.has; simp
theorem qk.slot_empty {t : SetTable} {es : Array (Int × Value)} {Z : List (Nat × Int × Value)} (T : qk t es Z) {j : Nat} (h : j ∉ Z.map (·.1)) : t.slot j = .empty := by
 unfold SetTable.slot
 have hn : ¬ (t.place[SetTable.below t.place j]? == some j) = true := by
  intro e
  have e' : t.place[SetTable.below t.place j]? = some j := by simpa using e
  apply h
  rw [<- T.place]
  rw [<- KU] at e'
  exact Kf e'
 simp only [hn, T.dum, qP]
 rfl
theorem qk.slot_live {t : SetTable} {es : Array (Int × Value)} {Z : List (Nat × Int × Value)} (T : qk t es Z) {i : Nat} {z : Nat × Int × Value} (h : Z[i]? = some z) : t.slot z.1 = .live i := by
 have e : t.place[i]? = some z.1 := by
  rw [<- KU, T.place, Ke, h]; rfl
 have r : Bh t.place.toList := by rw [T.place]; exact T.ris
 have eb := yA r e
 unfold SetTable.slot
 have hc : (t.place[SetTable.below t.place z.1]? == some z.1) = true := by rw [eb, e]; simp
 simp only [hc, Kq]
 rw [eb]
theorem qk.hashAt {t : SetTable} {es : Array (Int × Value)} {Z : List (Nat × Int × Value)} (T : qk t es Z) {i : Nat} {z : Nat × Int × Value} (h : Z[i]? = some z) : es[i]? = some z.2 := by
 rw [<- KU, T.ents, Ke, h]; rfl
theorem i8 {α : Type} : ∀ {l1 l2 : List α}, l1.Nodup -> (∀ x ∈ l1, x ∈ l2) -> l1.length <= l2.length
 | [], _, _, _ => Lb _
 | a :: r, l2, hn, hs => by
  obtain ⟨s, t, e⟩ := List.append_of_mem (hs a Jx)
  have hn' := J7.mp hn
  have ih := i8 (l1 := r) (l2 := s ++ t) hn'.2 (fun x hx => by
   have hx2 := hs x (Jy _ hx)
   rw [e] at hx2
   rcases JB.mp hx2 with q | q
   ·exact JC _ q
   ·rcases Jz.mp q with q | q
    ·rw [q] at hx; exact absurd hx hn'.1
    ·exact JY _ q)
  rw [e, Kg, K2, K2]
  rw [Kg] at ih
  omega
theorem wq (mask : Nat) : ∀ (n i pe : Nat), i <= mask -> ∀ j ∈ xi mask n i pe, j <= mask
 | 0, _, _, _, j, h => by simp [xi] at h
 | n + 1, i, pe, hi, j, h => by
  rcases JB.mp h with q | q
  ·obtain ⟨k, hk, e⟩ := Ly.mp q
   have hk' := Jt.mp hk
   have : SetTable.runEnd mask i <= mask := by unfold SetTable.runEnd; split <;> omega
   have e' : i + k = j := e
   omega
  ·refine wq mask n _ _ ?_ j q
   show (i * 5 + 1 + pe / 32) % (mask + 1) <= mask
   exact Nat.le_of_lt_succ (Nat.mod_lt _ (Nat.succ_pos mask))
theorem ja {mask : Nat} {h : Int} {j : Nat} (e : j ∈ cB mask h) : j <= mask := by
 refine wq mask _ _ _ ?_ j e
 exact Nat.le_of_lt_succ (Nat.mod_lt _ (Nat.succ_pos mask))
theorem qR {m : Nat} {l : List Nat} (h : l.length <= m) : ∃ j, j <= m /\ j ∉ l := by
 refine Lz fun hn => ?_
 have hall : ∀ j ∈ List.range (m + 1), j ∈ l := fun j hj => by
  refine Lz fun hj' => hn ⟨j, ?_, hj'⟩
  have := Jt.mp hj; omega
 have := i8 (LA (n := m + 1)) hall
 rw [Lp] at this
 omega
theorem qk.search {t : SetTable} {es : Array (Int × Value)} {Z : List (Nat × Int × Value)} (T : qk t es Z) {h : Int} (cov : ∀ j, j <= t.mask -> j ∈ cB t.mask h) (hz : Z.length <= t.mask) (hA : Nat -> Int) (hAe : ∀ i z, Z[i]? = some z -> hA i = z.2.1) :
  (∃ i z nx, Z[i]? = some z /\ z.2.1 = h /\ t.probe hA h (t.probeStart h) = some (.candidate z.1 i nx)) \/
  ((∀ z ∈ Z, z.2.1 ≠ h) /\ ∃ j pre post, t.probe hA h (t.probeStart h) = some (.empty j none) /\ j <= t.mask /\ j ∉ Z.map (·.1) /\ cB t.mask h = pre ++ j :: post /\ ∀ k ∈ pre, k ∈ Z.map (·.1)) := by
 obtain ⟨j0, hj0, hn0⟩ := qR (m := t.mask) (l := Z.map (·.1)) (by rw [Kh]; exact hz)
 obtain ⟨pre, j, post, e, hs, hp⟩ := jB (fun j => j ∉ Z.map (·.1) \/ ∃ z ∈ Z, z.1 = j /\ z.2.1 = h) (cB t.mask h) ⟨j0, cov j0 hj0, .inl hn0⟩
 have hw : ie t (pre.length + 1 + post.length) (t.probeStart h) = pre ++ j :: post := by
  have q := ox t (SetTable.turns t.mask) (SetTable.bits h % (t.mask + 1)) (SetTable.bits h) none
  have el : (xi t.mask (SetTable.turns t.mask) (SetTable.bits h % (t.mask + 1)) (SetTable.bits h)).length = pre.length + 1 + post.length := by
   show (cB t.mask h).length = _
   rw [e, Kg, K2]; omega
  rw [el] at q
  exact q.trans e
 have hlen : pre.length < 10 * SetTable.turns t.mask := by
  have q := rT t.mask (SetTable.turns t.mask) (SetTable.bits h % (t.mask + 1)) (SetTable.bits h)
  have el : (xi t.mask (SetTable.turns t.mask) (SetTable.bits h % (t.mask + 1)) (SetTable.bits h)).length = pre.length + 1 + post.length := by
   show (cB t.mask h).length = _
   rw [e, Kg, K2]; omega
  omega
 have occ : ∀ k ∈ pre, k ∈ Z.map (·.1) := fun k hk => by
  refine Lz fun q => hp k hk (.inl q)
 have hpre : ∀ k ∈ pre, ∃ i, t.slot k = .live i /\ hA i ≠ h := fun k hk => by
  obtain ⟨z, hzm, ez⟩ := Ly.mp (occ k hk)
  obtain ⟨i, hi⟩ := LB hzm
  refine ⟨i, ez ▸ T.slot_live hi, fun q => hp k hk (.inr ⟨z, hzm, ez, ?_⟩)⟩
  rw [<- hAe i z hi]; exact q
 obtain ⟨g1, g2⟩ := r6 t hA h pre j post (10 * SetTable.turns t.mask) (t.probeStart h) hw hlen rfl hpre
 by_cases hany : ∃ z ∈ Z, z.2.1 = h
 ·obtain ⟨z, hzm, ez⟩ := hany
  obtain ⟨pz, qz, ezz, hoz⟩ := T.reach z hzm
  rw [ez] at ezz
  have hjo : j ∈ Z.map (·.1) := by
   have e2 : pre ++ j :: post = pz ++ z.1 :: qz := by rw [<- e, <- ezz]
   rcases List.append_eq_append_iff.mp e2 with ⟨a, h1, h2⟩ | ⟨c, h1, h2⟩
   ·cases a with
    | nil =>
     simp only [KW] at h2
     rw [(Lr h2).1]; exact LC hzm
    | cons x a =>
     rw [Ls] at h2
     have : j ∈ pz := by rw [h1, (Lr h2).1]; simp
     exact hoz j this
   ·cases c with
    | nil =>
     simp only [KW] at h2
     rw [<- (Lr h2).1]; exact LC hzm
    | cons x c =>
     rw [Ls] at h2
     have : z.1 ∈ pre := by rw [h1, (Lr h2).1]; simp
     exact absurd (.inr ⟨z, hzm, rfl, ez⟩) (hp z.1 this)
  rcases hs with q | ⟨z', hz', e1, e2⟩
  ·exact absurd hjo q
  ·obtain ⟨i, hi⟩ := LB hz'
   obtain ⟨nx, en⟩ := g2 i (e1 ▸ T.slot_live hi) (by rw [hAe i z' hi]; exact e2)
   exact .inl ⟨i, z', nx, hi, e2, by rw [e1]; exact en⟩
 ·have hno : ∀ z ∈ Z, z.2.1 ≠ h := fun z hz' e' => hany ⟨z, hz', e'⟩
  rcases hs with q | ⟨z', hz', e1, e2⟩
  ·have hjm : j <= t.mask := ja (h := h) (by rw [e]; simp)
   exact .inr ⟨hno, j, pre, post, g1 (T.slot_empty q), hjm, q, e, occ⟩
  ·exact absurd e2 (hno z' hz')
theorem vy {l : List Nat} {j p : Nat} (h : Bh l) (h1 : ∀ x ∈ l.take p, x < j) (h2 : ∀ x ∈ l.drop p, j < x) : Bh (l.take p ++ j :: l.drop p) := by
 unfold Bh at *
 have h' : (l.take p ++ l.drop p).Pairwise (· < ·) := by rw [LD]; exact h
 rw [List.pairwise_append] at h' ⊢
 refine ⟨h'.1, LF.mpr ⟨fun x hx => h2 x hx, h'.2.1⟩, fun a ha b hb => ?_⟩
 rcases Jz.mp hb with q | q
 ·rw [q]; exact h1 a ha
 ·exact h'.2.2 a ha b q
theorem qk.put {t : SetTable} {es : Array (Int × Value)} {Z : List (Nat × Int × Value)} (T : qk t es Z) {j : Nat} {h : Int} {x : Value} {pre post : List Nat} (hj : j <= t.mask) (hn : j ∉ Z.map (·.1)) (e : cB t.mask h = pre ++ j :: post) (hp : ∀ k ∈ pre, k ∈ Z.map (·.1)) :
  ∃ Z', qk (t.put j).1 (SetTable.insertAt es (t.put j).2 (h, x)) Z' /\ Z'.Perm ((j, h, x) :: Z) /\ (t.put j).1 = { t with place := SetTable.insertAt t.place (SetTable.below t.place j) j } := by
 have e1 : (t.put j).1 = { t with place := SetTable.insertAt t.place (SetTable.below t.place j) j } := by
  unfold SetTable.put
  simp only [T.dum, qP]
  rw [Jm J1]
 have e2 : (t.put j).2 = SetTable.below t.place j := rfl
 have r : Bh t.place.toList := by rw [T.place]; exact T.ris
 obtain ⟨b1, b2, b3⟩ := lu r j
 generalize hb : SetTable.below t.place j = p at *
 refine ⟨Z.take p ++ (j, h, x) :: Z.drop p, ⟨?_, ?_, ?_, fun z hz => ?_, by rw [e1]; exact T.dum, fun z hz => ?_⟩, ?_, e1⟩
 ·rw [e1]
  show (SetTable.insertAt t.place p j).toList = _
  rw [jP, T.place, LG, KF, LH, LI]
 ·rw [e2, jP, T.ents, LG, KF, LH, LI]
 ·rw [LG, KF, LH, LI]
  have hlen : t.place.size = (Z.map (·.1)).length := by rw [<- T.place]; simp
  refine vy T.ris (fun y hy => ?_) (fun y hy => ?_)
  ·obtain ⟨i, hi⟩ := LB hy
   rw [List.getElem?_take] at hi
   split at hi
   ·rename_i hlt
    have q := b2 i hlt
    rw [<- T.place, KU] at hi
    simp only [LJ, hi, LK] at q
    exact q
   ·cases hi
  ·obtain ⟨i, hi⟩ := LB hy
   rw [List.getElem?_drop] at hi
   have hmem : y ∈ Z.map (·.1) := Kf hi
   rw [<- T.place, KU] at hi
   have hlt : p + i < t.place.size := (Lu.mp hi).1
   have q := b3 (p + i) (by omega) hlt
   simp only [LJ, hi, LK] at q
   have : y ≠ j := fun ey => hn (ey ▸ hmem)
   omega
 ·rw [e1]
  show z.1 <= t.mask
  rcases JB.mp hz with q | q
  ·exact T.top z (LL q)
  ·rcases Jz.mp q with q | q
   ·rw [q]; exact hj
   ·exact T.top z (LM q)
 ·rw [e1]
  show ∃ pre post, cB t.mask z.2.1 = pre ++ z.1 :: post /\ _
  have sub : ∀ k ∈ Z.map (·.1), k ∈ (Z.take p ++ (j, h, x) :: Z.drop p).map (·.1) := fun k hk => by
   rw [<- LD p Z, LG] at hk
   rw [LG, KF]
   rcases JB.mp hk with q | q
   ·exact JC _ q
   ·exact JY _ (Jy _ q)
  have old : ∀ z ∈ Z, ∃ pre post, cB t.mask z.2.1 = pre ++ z.1 :: post /\ ∀ k ∈ pre, k ∈ (Z.take p ++ (j, h, x) :: Z.drop p).map (·.1) := fun z hz => by
   obtain ⟨a, b, c, d⟩ := T.reach z hz
   exact ⟨a, b, c, fun k hk => sub k (d k hk)⟩
  rcases JB.mp hz with q | q
  ·exact old z (LL q)
  ·rcases Jz.mp q with q | q
   ·rw [q]; exact ⟨pre, post, e, fun k hk => sub k (hp k hk)⟩
   ·exact old z (LM q)
 ·have q : (Z.take p ++ (j, h, x) :: Z.drop p).Perm ((j, h, x) :: (Z.take p ++ Z.drop p)) := List.perm_middle
  rw [LD] at q
  exact q
theorem qS (mask : Nat) (owner : Array (Option Nat)) : ∀ (n i pe : Nat),
  SetTable.layClean.free mask owner n i pe = (xi mask n i pe).find? fun j => (owner.getD j (some 0)).isNone
 | 0, _, _ => rfl
 | n + 1, i, pe => by
  show (match (List.range (SetTable.runEnd mask i + 1 - i)).find? fun k => (owner.getD (i + k) (some 0)).isNone with | some k => _ | none => _) = _
  show _ = ((List.range (SetTable.runEnd mask i + 1 - i)).map (i + ·) ++ xi mask n (SetTable.leap mask i pe).1 (SetTable.leap mask i pe).2).find? _
  rw [List.find?_append, List.find?_map, <- qS mask owner n]
  have ec : ((fun j => (owner.getD j (some 0)).isNone) ∘ fun x => i + x) = fun k => (owner.getD (i + k) (some 0)).isNone := rfl
  rw [ec]
  cases (List.range (SetTable.runEnd mask i + 1 - i)).find? fun k => (owner.getD (i + k) (some 0)).isNone with
  | some k => rfl
  | none => rfl
structure DU (mask : Nat) (hs : List Int) (owner : Array (Option Nat)) : Prop where
 size : owner.size = mask + 1
 all : ∀ (i : Nat) (h : Int), hs[i]? = some h -> ∃ j : Nat, j <= mask /\ owner[j]? = some (some i) /\ ∃ pre post, cB mask h = pre ++ j :: post /\ ∀ k ∈ pre, ∃ i' : Nat, owner[k]? = some (some i')
 lt : ∀ (j i : Nat), owner[j]? = some (some i) -> i < hs.length
 inj : ∀ (j j' i : Nat), owner[j]? = some (some i) -> owner[j']? = some (some i) -> j = j'
theorem CB (mask : Nat) : DU mask [] (Array.replicate (mask + 1) none) := by
 have hno : ∀ (j i : Nat), (Array.replicate (mask + 1) (none : Option Nat))[j]? ≠ some (some i) := fun j i e => by
  rw [Array.getElem?_replicate] at e
  split at e <;> cases e
 exact ⟨by simp, fun i h e => by simp at e, fun j i e => absurd e (hno j i), fun j j' i e => absurd e (hno j i)⟩
theorem AF {mask : Nat} {hs : List Int} {owner : Array (Option Nat)} (O : DU mask hs owner) (hl : hs.length <= mask) : ∃ j, j <= mask /\ owner[j]? = some none := by
 refine Lz fun hn => ?_
 have hall : ∀ j, j <= mask -> ∃ i, owner[j]? = some (some i) := fun j hj => by
  have hs' : j < owner.size := by rw [O.size]; omega
  cases e : owner[j]? with
  | none => rw [LN] at e; omega
  | some o =>
   cases o with
   | none => exact absurd ⟨j, hj, e⟩ hn
   | some i => exact ⟨i, rfl⟩
 have key : ∀ n, n <= mask + 1 -> ∃ l : List Nat, l.length = n /\ l.Nodup /\ (∀ i ∈ l, i < hs.length) /\ ∀ i ∈ l, ∃ j, j < n /\ owner[j]? = some (some i) := by
  intro n
  induction n with
  | zero => exact fun _ => ⟨[], rfl, LO, fun _ h => by simp at h, fun _ h => by simp at h⟩
  | succ n ih =>
   intro hn'
   obtain ⟨l, h1, h2, h3, h4⟩ := ih (by omega)
   obtain ⟨i, hi⟩ := hall n (by omega)
   refine ⟨i :: l, by rw [K2, h1], J7.mpr ⟨fun hm => ?_, h2⟩, fun x hx => ?_, fun x hx => ?_⟩
   ·obtain ⟨j, hj, ej⟩ := h4 i hm
    have := O.inj j n i ej hi
    omega
   ·rcases Jz.mp hx with q | q
    ·rw [q]; exact O.lt n i hi
    ·exact h3 x q
   ·rcases Jz.mp hx with q | q
    ·rw [q]; exact ⟨n, by omega, hi⟩
    ·obtain ⟨j, hj, ej⟩ := h4 x q
     exact ⟨j, by omega, ej⟩
 obtain ⟨l, h1, h2, h3, _⟩ := key (mask + 1) (JV _)
 have := i8 h2 (l2 := List.range hs.length) (fun x hx => Jt.mpr (h3 x hx))
 rw [Lp, h1] at this
 omega
theorem AE {mask : Nat} {hs : List Int} {owner : Array (Option Nat)} {h : Int} (O : DU mask hs owner) (hl : hs.length <= mask) (cov : ∀ j, j <= mask -> j ∈ cB mask h) :
  ∃ j, SetTable.layClean.free mask owner (SetTable.turns mask) (SetTable.bits h % (mask + 1)) (SetTable.bits h) = some j /\ DU mask (hs ++ [h]) (owner.setIfInBounds j (some hs.length)) := by
 obtain ⟨j0, hj0, e0⟩ := AF O hl
 have none_iff : ∀ j, ((owner.getD j (some 0)).isNone = true) ↔ owner[j]? = some none := fun j => by
  rw [LJ]
  cases owner[j]? with
  | none => simp
  | some o => cases o <;> simp
 obtain ⟨pre, j, post, e, hs', hp⟩ := jB (fun j => owner[j]? = some none) (cB mask h) ⟨j0, cov j0 hj0, e0⟩
 have hjm : j <= mask := ja (h := h) (by rw [e]; simp)
 have hjs : j < owner.size := by rw [O.size]; omega
 have hocc : ∀ k ∈ pre, ∃ i', owner[k]? = some (some i') := fun k hk => by
  have hkm : k <= mask := ja (h := h) (by rw [e]; simp [hk])
  cases q : owner[k]? with
  | none =>
   rw [LN, O.size] at q
   omega
  | some o =>
   cases o with
   | none => exact absurd q (hp k hk)
   | some i => exact ⟨i, rfl⟩
 have hset : ∀ k, (owner.setIfInBounds j (some hs.length))[k]? = if j = k then some (some hs.length) else owner[k]? := fun k => by
  rw [Array.getElem?_setIfInBounds]
  by_cases q : j = k
  ·rw [Jl q, Jl q, Jl hjs]
  ·rw [Jm q, Jm q]
 have keep : ∀ k i', owner[k]? = some (some i') -> (owner.setIfInBounds j (some hs.length))[k]? = some (some i') := fun k i' q => by
  rw [hset, Jm]
  ·exact q
  ·intro ej; rw [<- ej, hs'] at q; cases q
 refine ⟨j, ?_, by simp [O.size], fun i h' ei => ?_, fun k i ei => ?_, fun k k' i e1 e2 => ?_⟩
 ·rw [qS]
  show (cB mask h).find? _ = some j
  rw [e, List.find?_append]
  have e1 : pre.find? (fun j => (owner.getD j (some 0)).isNone) = none := by
   rw [List.find?_eq_none]
   intro k hk q
   exact hp k hk ((none_iff k).mp q)
  simp only [e1, Option.none_or, List.find?_cons, (none_iff j).mpr hs']
 ·by_cases hi : i < hs.length
  ·rw [Kd hi] at ei
   obtain ⟨j', a1, a2, pr, po, a3, a4⟩ := O.all i h' ei
   exact ⟨j', a1, keep j' i a2, pr, po, a3, fun k hk => (a4 k hk).elim fun i' q => ⟨i', keep k i' q⟩⟩
  ·have hi' : i = hs.length := by
    have := (JD.mp ei).1
    simp at this; omega
   subst hi'
   rw [Kc (JV _), LP] at ei
   have eh : h = h' := by simpa using ei
   subst eh
   exact ⟨j, hjm, by rw [hset, Jl rfl], pre, post, e, fun k hk => (hocc k hk).elim fun i' q => ⟨i', keep k i' q⟩⟩
 ·rw [hset] at ei
  rw [Kg, KS]
  split at ei
  ·cases ei; omega
  ·have := O.lt k i ei; omega
 ·rw [hset] at e1 e2
  split at e1
  ·rename_i q1
   cases e1
   split at e2
   ·rename_i q2; rw [<- q1, q2]
   ·have := O.lt k' _ e2; omega
  ·split at e2
   ·cases e2
    have := O.lt k _ e1; omega
   ·exact O.inj k k' i e1 e2
theorem t7 {mask : Nat} : ∀ (hs0 hs1 : List Int) (owner : Array (Option Nat)), DU mask hs0 owner -> hs0.length + hs1.length <= mask + 1 -> (∀ h ∈ hs1, ∀ j, j <= mask -> j ∈ cB mask h) ->
  ∃ owner', hs1.foldl (fun (acc : Option (Array (Option Nat) × Nat)) h => do
   let (owner, k) <- acc
   let j <- SetTable.layClean.free mask owner (SetTable.turns mask) (SetTable.bits h % (mask + 1)) (SetTable.bits h)
   pure (owner.setIfInBounds j (some k), k + 1)) (some (owner, hs0.length)) = some (owner', (hs0 ++ hs1).length) /\ DU mask (hs0 ++ hs1) owner'
 | hs0, [], owner, O, _, _ => ⟨owner, by simp, by simpa using O⟩
 | hs0, h :: hs1, owner, O, hl, cov => by
  rw [K2] at hl
  obtain ⟨j, ej, O'⟩ := AE (h := h) O (by omega) (cov h Jx)
  obtain ⟨ow, e1, e2⟩ := t7 (hs0 ++ [h]) hs1 _ O' (by rw [Kg, KS]; omega) (fun x hx => cov x (Jy _ hx))
  rw [KQ, List.singleton_append] at e1 e2
  refine ⟨ow, ?_, e2⟩
  rw [KR]
  show List.foldl _ ((SetTable.layClean.free mask owner (SetTable.turns mask) (SetTable.bits h % (mask + 1)) (SetTable.bits h)).bind fun j => some (owner.setIfInBounds j (some hs0.length), hs0.length + 1)) hs1 = _
  rw [ej]
  show List.foldl _ (some (owner.setIfInBounds j (some hs0.length), hs0.length + 1)) hs1 = _
  rw [Kg, KS] at e1
  exact e1
theorem tZ {α : Type} : ∀ l : List α, (List.range l.length).filterMap (fun i => l[i]?) = l
 | [] => rfl
 | a :: l => by
  rw [K2, Lm, Jw]
  show a :: List.filterMap _ _ = _
  rw [List.filterMap_map]
  show a :: List.filterMap (fun i => l[i]?) _ = _
  rw [tZ l]
theorem C3 {mask : Nat} {hs : List Int} (hl : hs.length <= mask + 1) (cov : ∀ h ∈ hs, ∀ j, j <= mask -> j ∈ cB mask h) : ∃ owner, SetTable.layClean mask hs.toArray = some owner /\ DU mask hs owner := by
 obtain ⟨ow, e1, e2⟩ := t7 [] hs _ (CB mask) (by rw [Lq, LQ]; exact hl) cov
 refine ⟨ow, ?_, by simpa using e2⟩
 unfold SetTable.layClean
 rw [List.foldl_toArray']
 ·show Option.map (·.1) (hs.foldl _ (some (Array.replicate (mask + 1) none, ([] : List Int).length))) = _
  rw [e1]; rfl
 ·simp
theorem oR {t : SetTable} {es : Array (Int × Value)} {wanted mask : Nat} (hm : SetTable.sizeAbove wanted - 1 = mask) (hl : es.size <= mask) (cov : ∀ e ∈ es.toList, ∀ j, j <= mask -> j ∈ cB mask e.1) :
  ∃ t' order Z', t.relaid (es.map (·.1)) wanted = some (t', order) /\ qk t' (order.filterMap (es[·]?)) Z' /\ (Z'.map (·.2)).Perm es.toList /\ t'.mask = mask /\ t'.led = t.led /\ t'.plain = t.plain /\ order.toList.Perm (List.range es.size) := by
 have ea : es.map (·.1) = (es.toList.map (·.1)).toArray := by rw [<- Array.toList_map]
 obtain ⟨ow, e1, O⟩ := C3 (mask := mask) (hs := es.toList.map (·.1)) (by simp; omega) (fun h hh => by
  obtain ⟨e, he, q⟩ := Ly.mp hh
  rw [<- q]; exact cov e he)
 let live : List (Nat × Nat) := (List.range (mask + 1)).filterMap fun j => (ow.getD j none).map (j, ·)
 have hlive : ∀ j i, (j, i) ∈ live ↔ (j <= mask /\ ow[j]? = some (some i)) := fun j i => by
  simp only [live, JX, Jt]
  constructor
  ·rintro ⟨k, hk, q⟩
   rw [LJ] at q
   cases e : ow[k]? with
   | none => rw [e] at q; cases q
   | some o =>
    rw [e] at q
    cases o with
    | none => cases q
    | some i' =>
     simp only [LK, Option.map_some, Option.some.injEq, Prod.mk.injEq] at q
     obtain ⟨q1, q2⟩ := q
     subst q1; subst q2
     exact ⟨by omega, e⟩
  ·rintro ⟨hj, e⟩
   refine ⟨j, by omega, ?_⟩
   rw [LJ, e]; rfl
 have hfst : (live.map (·.1)).Pairwise (· < ·) := by
  have gen : ∀ (l : List Nat), l.Pairwise (· < ·) -> ((l.filterMap fun j => (ow.getD j none).map (j, ·)).map (·.1)).Pairwise (· < ·) /\ ∀ x ∈ ((l.filterMap fun j => (ow.getD j none).map (j, ·)).map (·.1)), x ∈ l := by
   intro l
   induction l with
   | nil => intro _; exact ⟨List.Pairwise.nil, fun x hx => by simp at hx⟩
   | cons a l ih =>
    intro hp
    obtain ⟨h1, h2⟩ := LF.mp hp
    obtain ⟨i1, i2⟩ := ih h2
    rw [Jw]
    cases q : (ow.getD a none).map (a, ·) with
    | none => exact ⟨i1, fun x hx => Jy _ (i2 x hx)⟩
    | some p =>
     have ep : p.1 = a := by
      cases hq : ow.getD a none with
      | none => rw [hq] at q; cases q
      | some i => rw [hq] at q; cases q; rfl
     show (p.1 :: List.map _ _).Pairwise _ /\ ∀ x ∈ p.1 :: List.map _ _, x ∈ a :: l
     rw [ep]
     exact ⟨LF.mpr ⟨fun x hx => h1 x (i2 x hx), i1⟩, fun x hx => by
      rcases Jz.mp hx with z | z
      ·rw [z]; exact Jx
      ·exact Jy _ (i2 x z)⟩
  exact (gen _ LR).1
 have hnd : live.Nodup := by
  have := hfst.imp (fun h => Jr h)
  exact List.Pairwise.of_map (·.1) (fun a b h e => h (by rw [e])) this
 have hsz : ∀ j i, (j, i) ∈ live -> i < es.size := fun j i h => by
  have := O.lt j i ((hlive j i).mp h).2
  simpa using this
 have hsnd : (live.map (·.2)).Perm (List.range es.size) := by
  refine (LS ?_ LA).mpr fun i => ?_
  ·refine List.Pairwise.map _ (fun a b h => ?_) (List.Pairwise.and_mem.mp hnd)
   obtain ⟨ha, hb, hne⟩ := h
   intro e
   have q1 := ((hlive a.1 a.2).mp ha).2
   have q2 := ((hlive b.1 b.2).mp hb).2
   rw [<- e] at q2
   exact hne (Prod.ext (O.inj _ _ _ q1 q2) e)
  ·rw [Jt, Ly]
   constructor
   ·rintro ⟨p, hp, e⟩; rw [<- e]; exact hsz p.1 p.2 hp
   ·intro hi
    obtain ⟨j, hj, q, _⟩ := O.all i (es[i].1) (by rw [Ke, KU, LU hi]; rfl)
    exact ⟨(j, i), (hlive j i).mpr ⟨hj, q⟩, rfl⟩
 let Z' : List (Nat × Int × Value) := live.filterMap fun p => (es[p.2]?).map fun e => (p.1, e)
 have hZ1 : Z'.map (·.1) = live.map (·.1) := by
  have gen : ∀ l : List (Nat × Nat), (∀ p ∈ l, p.2 < es.size) -> (l.filterMap fun p => (es[p.2]?).map fun e => (p.1, e)).map (·.1) = l.map (·.1) := by
   intro l
   induction l with
   | nil => intro _; rfl
   | cons p l ih =>
    intro h
    rw [Jw, LU (h p Jx)]
    show p.1 :: List.map _ _ = p.1 :: List.map _ _
    rw [ih fun q hq => h q (Jy _ hq)]
  exact gen live fun p hp => hsz p.1 p.2 hp
 have hZ2 : Z'.map (·.2) = (live.map (·.2)).filterMap (es[·]?) := by
  have gen : ∀ l : List (Nat × Nat), (l.filterMap fun p => (es[p.2]?).map fun e => (p.1, e)).map (·.2) = (l.map (·.2)).filterMap (es[·]?) := by
   intro l
   induction l with
   | nil => rfl
   | cons p l ih =>
    rw [Jw, KF, Jw]
    cases es[p.2]? with
    | none => exact ih
    | some e => show e :: List.map _ _ = e :: _; rw [ih]
  exact gen live
 have hes : (List.range es.size).filterMap (es[·]?) = es.toList := by
  have q := tZ es.toList
  rw [JJ] at q
  simpa only [KU] using q
 refine ⟨{ mask, place := (live.map (·.1)).toArray, dummies := #[], finger := t.finger, led := t.led, moves := t.movedTo mask, plain := t.plain }, (live.map (·.2)).toArray, Z', ?_, ⟨?_, ?_, ?_, fun z hz => ?_, rfl, fun z hz => ?_⟩, ?_, rfl, rfl, rfl, hsnd⟩
 ·unfold SetTable.relaid SetTable.laid
  rw [hm, ea, e1]
  rfl
 ·show (live.map (·.1)) = _; rw [hZ1]
 ·rw [hZ2]; simp
 ·rw [hZ1]; exact hfst
 ·have : z.1 ∈ live.map (·.1) := by rw [<- hZ1]; exact LC hz
  obtain ⟨p, hp, q⟩ := Ly.mp this
  rw [<- q]; exact ((hlive p.1 p.2).mp hp).1
 ·obtain ⟨p, hp, q⟩ := JX.mp hz
  rw [LU (hsz p.1 p.2 hp)] at q
  have ez : z = (p.1, es[p.2]'(hsz p.1 p.2 hp)) := (Jn q).symm
  obtain ⟨hj, ho⟩ := (hlive p.1 p.2).mp hp
  obtain ⟨j, a1, a2, pre, post, a3, a4⟩ := O.all p.2 (es[p.2]'(hsz p.1 p.2 hp)).1 (by rw [Ke, KU, LU (hsz p.1 p.2 hp)]; rfl)
  have ejp : j = p.1 := O.inj _ _ _ a2 ho
  refine ⟨pre, post, by rw [ez]; rw [ejp] at a3; exact a3, fun k hk => ?_⟩
  obtain ⟨i', hi'⟩ := a4 k hk
  rw [hZ1]
  have hkm : k <= mask := ja (h := (es[p.2]'(hsz p.1 p.2 hp)).1) (by rw [a3]; simp [hk])
  exact Ly.mpr ⟨(k, i'), (hlive k i').mpr ⟨hkm, hi'⟩, rfl⟩
 ·rw [hZ2, <- hes]
  exact hsnd.filterMap _
def prs : List (List Int) := ((List.range 36).filter fun n => n / 6 < n % 6).map fun n => [((n / 6 : Nat) : Int), ((n % 6 : Nat) : Int)]
def hsh (ks : List Int) : Int := reduceHash (Builtin.Tuple.tupleHashOf (ks.map hashInt))
theorem FR {prog : Program} {w : World} (ks : List Int) : tupleKeyHash (intKind prog w) ks = hsh ks := rfl
def D1 (mask : Nat) : Bool := prs.all fun ks => (List.range (mask + 1)).all fun j => (cB mask (hsh ks)).contains j
theorem ID : D1 7 = true := by decide +kernel
theorem DK : D1 31 = true := by decide +kernel
theorem Hn : (prs.map hsh).Nodup := by decide +kernel
theorem wC : prs.length = 15 := by decide +kernel
theorem ve {mask : Nat} (h : D1 mask = true) {ks : List Int} (hk : ks ∈ prs) : ∀ j, j <= mask -> j ∈ cB mask (hsh ks) := fun j hj => by
 have a := LV.mp h ks hk
 have b := LV.mp a j (Jt.mpr (by omega))
 simpa using b
theorem FO {l : List (List Int)} (h : (l.map hsh).Nodup) {a b : List Int} (ha : a ∈ l) (hb : b ∈ l) (e : hsh a = hsh b) : a = b := by
 induction l with
 | nil => simp at ha
 | cons c l ih =>
  rw [KF] at h
  obtain ⟨h1, h2⟩ := J7.mp h
  rcases Jz.mp ha with qa | qa <;> rcases Jz.mp hb with qb | qb
  ·rw [qa, qb]
  ·exact absurd (by rw [<- qa, e]; exact LC qb) h1
  ·exact absurd (by rw [<- qb, <- e]; exact LC qa) h1
  ·exact ih h2 qa qb
theorem C8 {a b : List Int} (ha : a ∈ prs) (hb : b ∈ prs) (e : hsh a = hsh b) : a = b := FO Hn ha hb e
theorem wB {a b : Int} (h1 : 0 <= a) (h2 : a < b) (h3 : b < 6) : [a, b] ∈ prs := by
 have key : ∀ x : Nat, x < 6 -> ∀ y : Nat, y < 6 -> x < y -> [(x : Int), (y : Int)] ∈ prs := by decide +kernel
 have := key a.toNat (by omega) b.toNat (by omega) (by omega)
 rw [LW h1, LW (by omega)] at this
 exact this
end RS
namespace RS
open PySem PyProof.Rows
abbrev KP := List Int × Addr
structure dO (w : World) (h : Heap) (a : Addr) (qs : List (Int × Value)) (o : Obj) (es : Array (Int × Value)) (ep : Nat) (t : SetTable) (Z : List (Nat × Int × Value)) : Prop where
 ho : h.get? a = some o
 ex : o.ExactSet
 hd : o.data = .set es ep t
 tab : qk t es Z
 plain : t.plain = true
 led : t.led = !w.params.followText "set-order"
 big : (t.mask = 7 /\ Z.length <= 4) \/ (t.mask = 31 /\ Z.length <= 18)
 perm : (Z.map (·.2)).Perm qs
def u4 (p : KP) : Int × Value := (hsh p.1, Value.ref p.2)
def eD (w : World) (h : Heap) (a : Addr) (ps : List KP) : Prop := ∃ o es ep t Z, dO w h a (ps.map u4) o es ep t Z /\ (∀ p ∈ ps, p.1 ∈ prs) /\ (ps.map (·.1)).Nodup
theorem dO.len {w : World} {h : Heap} {a : Addr} {ps : List (Int × Value)} {o es ep t Z} (S : dO w h a ps o es ep t Z) : Z.length = ps.length := by
 have := S.perm.length_eq
 simpa using this
theorem kq {ps : List KP} (hk : ∀ p ∈ ps, p.1 ∈ prs) (hn : (ps.map (·.1)).Nodup) : ps.length <= 15 := by
 have := i8 hn (l2 := prs) (fun x hx => by obtain ⟨p, hp, e⟩ := Ly.mp hx; rw [<- e]; exact hk p hp)
 rw [Kh, wC] at this
 exact this
theorem dO.fits {w : World} {h : Heap} {a : Addr} {ps : List (Int × Value)} {o es ep t Z} (S : dO w h a ps o es ep t Z) : t.fits es.size = true := by
 unfold SetTable.fits
 rw [S.tab.fill, S.tab.size.1, S.tab.size.2]
 rcases S.big with ⟨h1, h2⟩ | ⟨h1, h2⟩ <;> simp [h1] <;> omega
theorem dO.cov {w : World} {h : Heap} {a : Addr} {ps : List (Int × Value)} {o es ep t Z} (S : dO w h a ps o es ep t Z) {k : List Int} (hk : k ∈ prs) : ∀ j, j <= t.mask -> j ∈ cB t.mask (hsh k) := by
 rcases S.big with ⟨h1, h2⟩ | ⟨h1, h2⟩ <;> rw [h1]
 ·exact ve ID hk
 ·exact ve DK hk
theorem eD.keeps {w : World} {h h' : Heap} {a : Addr} {ps : List KP} (S : eD w h a ps) (k : ∀ o, h.get? a = some o -> h'.get? a = some o) : eD w h' a ps := by
 obtain ⟨o, es, ep, t, Z, S, hk, hn⟩ := S
 exact ⟨o, es, ep, t, Z, ⟨k o S.ho, S.ex, S.hd, S.tab, S.plain, S.led, S.big, S.perm⟩, hk, hn⟩
section
variable {prog : Program} {w : World} {A : Around} {E : Value -> Shared -> Prop} {s : Shared}
abbrev Tk (prog : Program) (w : World) (h : Heap) (k : List Int) (r : Addr) : Prop := IsTupleKey (intKind prog w) h k r
theorem items_int {k : List Int} {vs : List Value} (h : ItemsAre (intKind prog w) k vs) : ∀ v ∈ vs, ∃ i t, v = .int i t := by
 induction h with
 | nil => intro v hv; simp at hv
 | @cons k v' ks vs h1 _ ih =>
  intro v hv
  rcases Jz.mp hv with q | q
  ·obtain ⟨t, e⟩ := Jh (k := k) (v := v') h1
   exact ⟨k, t, by rw [q, e]⟩
  ·exact ih v q
theorem t9 {k : List Int} {r : Addr} {Q : Bool -> Shared -> Prop} (hk : Tk prog w s.heap k r) (h : Q false s) : wpAny (model prog w) A (ofAClassStatement 8 (.ref r)) Q E s := by
 have hT := hk.typeIs
 obtain ⟨o, items, n, ho, hc, hd, hi⟩ := hk
 unfold ofAClassStatement
 refine JM (KB hT ?_)
 dsimp only
 simp only [K0, Kq]
 refine JM (JQ ?_)
 simp only [LX, K1, Ko]
 refine JM (Lg ho hd ?_)
 dsimp only
 refine JM ?_
 show wpAny _ _ (forIn items _ _) _ _ s
 rw [<- Array.forIn_toList]
 refine LY _ (fun rest r s' => r.1 = none /\ s' = s /\ ∀ v ∈ rest, ∃ i t, v = .int i t) _ ?_ ?_ _ _ ⟨rfl, rfl, items_int hi⟩
 ·rintro v rest r s' ⟨hr, rfl, hall⟩
  obtain ⟨i, t, e⟩ := hall v Jx
  subst e
  unfold ofAClassStatement
  refine JM (JQ ?_)
  simp only [K1, Ko]
  exact JQ ⟨rfl, rfl, fun u hu' => hall u (Jy _ hu')⟩
 ·rintro ⟨r1, r2⟩ s' ⟨hr, rfl, _⟩
  simp only at hr
  subst hr
  exact JQ h
theorem qg {k : List Int} {r : Addr} {Q : Bool -> Shared -> Prop} (hk : Tk prog w s.heap k r) (h : Q true s) : wpAny (model prog w) A (hashByValue 8 (.ref r)) Q E s := by
 have hT := hk.typeIs
 obtain ⟨o, items, n, ho, hc, hd, hi⟩ := hk
 unfold hashByValue
 refine JM (wpAny_specialOf hT F.slot_tuple_hash.lookup ?_)
 dsimp only
 refine JM (Lg ho hd ?_)
 refine JM ?_
 show wpAny _ _ (forIn items _ _) _ _ s
 rw [<- Array.forIn_toList]
 refine LY _ (fun rest r s' => r.1 = none /\ s' = s /\ ∀ v ∈ rest, ∃ i t, v = .int i t) _ ?_ ?_ _ _ ⟨rfl, rfl, items_int hi⟩
 ·rintro v rest r s' ⟨hr, rfl, hall⟩
  obtain ⟨i, t, e⟩ := hall v Jx
  subst e
  unfold hashByValue
  refine JM (JQ ?_)
  simp only [LX, K1, Ko]
  exact JQ ⟨rfl, rfl, fun u hu' => hall u (Jy _ hu')⟩
 ·rintro ⟨r1, r2⟩ s' ⟨hr, rfl, _⟩
  simp only at hr
  subst hr
  exact JQ h
theorem AJ {k : List Int} {r : Addr} {ys : List Value} {Q : Bool -> Shared -> Prop} (hk : Tk prog w s.heap k r) (hy : ∀ y ∈ ys, ∃ k' r', y = .ref r' /\ Tk prog w s.heap k' r') (h : Q false s) : wpAny (model prog w) A (searchCouldBeSeen (.ref r) ys) Q E s := by
 unfold searchCouldBeSeen
 refine JM ?_
 refine LY _ (fun rest r' s' => r'.1 = none /\ s' = s /\ ∀ y ∈ rest, ∃ k' r', y = .ref r' /\ Tk prog w s.heap k' r') _ ?_ ?_ _ _ ⟨rfl, rfl, hy⟩
 ·rintro v rest q s' ⟨hr, rfl, hall⟩
  obtain ⟨k', r', e, hk'⟩ := hall v Jx
  subst e
  have hrest := fun u hu' => hall u (Jy _ hu')
  dsimp only
  by_cases hv : (r == r' || carriedByValue (Value.ref r) && carriedByValue (Value.ref r')) = true
  ·rw [Jl hv]
   exact JQ ⟨rfl, rfl, hrest⟩
  ·rw [Jm hv]
   refine JM (wpAny_eqIsQuiet_tuple hk ?_)
   simp only [LX, K1, Ko]
   refine JM (wpAny_eqIsQuiet_tuple hk' ?_)
   simp only [LX, K1, Ko]
   refine JM (t9 hk ?_)
   simp only [K1, Ko]
   refine JM (t9 hk' ?_)
   simp only [K1, Ko]
   exact JQ ⟨rfl, rfl, hrest⟩
 ·rintro ⟨r1, r2⟩ s' ⟨hr, rfl, _⟩
  simp only at hr
  subst hr
  exact JQ h
end
end RS
namespace RS
open PySem PyProof.Rows
section
variable {prog : Program} {w : World} {A : Around} {E : Value -> Shared -> Prop} {s : Shared}
theorem zI {h : Heap} {a : Addr} {ps : List KP} {o es ep t Z} (S : dO w h a (ps.map u4) o es ep t Z) {z : Nat × Int × Value} (hz : z ∈ Z) : ∃ p ∈ ps, z.2 = (hsh p.1, Value.ref p.2) := by
 have : z.2 ∈ Z.map (·.2) := LC hz
 obtain ⟨p, hp, e⟩ := Ly.mp (S.perm.mem_iff.mp this)
 exact ⟨p, hp, e.symm⟩
theorem F1 {h : Heap} {a : Addr} {ps : List KP} {o es ep t Z} (S : dO w h a (ps.map u4) o es ep t Z) {p : KP} (hp : p ∈ ps) : ∃ z ∈ Z, z.2 = (hsh p.1, Value.ref p.2) := by
 have : u4 p ∈ ps.map u4 := LC hp
 obtain ⟨z, hz, e⟩ := Ly.mp (S.perm.mem_iff.mpr this)
 exact ⟨z, hz, e⟩
theorem xo {a r : Addr} {k : List Int} {ps : List KP} {o es ep t Z} {Q : SetFound -> Shared -> Prop} (S : dO w s.heap a (ps.map u4) o es ep t Z) (hks : ∀ p ∈ ps, p.1 ∈ prs) (hk : k ∈ prs) (hr : Tk prog w s.heap k r) (hps : ∀ p ∈ ps, Tk prog w s.heap p.1 p.2) (hu : A.units < cLine)
  (h1 : k ∈ ps.map (·.1) -> Q (.there none) s)
  (h2 : k ∉ ps.map (·.1) -> ∀ j pre post, j <= t.mask -> j ∉ Z.map (·.1) -> cB t.mask (hsh k) = pre ++ j :: post -> (∀ x ∈ pre, x ∈ Z.map (·.1)) -> Q (.free j false) s) :
  wpAny (model prog w) A (setSearch a (.ref r) (hsh k) true) Q E s := by
 have hodd : t.gaveWay = false := by
  unfold SetTable.gaveWay
  rcases S.big with ⟨q, _⟩ | ⟨q, _⟩ <;> rw [q] <;> decide
 have hz : Z.length <= t.mask := by rcases S.big with ⟨q, q2⟩ | ⟨q, q2⟩ <;> omega
 unfold setSearch setSearchFrom
 refine JM (LZ S.ho S.hd S.fits ?_)
 dsimp only
 rw [hodd]
 simp only [K1, Ko]
 generalize hpr : SetTable.probe t _ (hsh k) (Option.getD none (t.probeStart (hsh k))) = pr
 have key : ∀ (hA : Nat -> Int) pr, (∀ i z, Z[i]? = some z -> hA i = z.2.1) -> t.probe hA (hsh k) (t.probeStart (hsh k)) = pr ->
   (∃ i z nx, Z[i]? = some z /\ z.2.1 = hsh k /\ pr = some (.candidate z.1 i nx)) \/
   ((∀ z ∈ Z, z.2.1 ≠ hsh k) /\ ∃ j pre post, pr = some (.empty j none) /\ j <= t.mask /\ j ∉ Z.map (·.1) /\ cB t.mask (hsh k) = pre ++ j :: post /\ ∀ x ∈ pre, x ∈ Z.map (·.1)) := fun hA pr hAe e => by
  subst e
  exact S.tab.search (S.cov hk) hz hA hAe
 rcases key _ pr (fun i z hi => by show (Option.map (·.1) es[i]?).getD 0 = _; rw [S.tab.hashAt hi]; rfl) hpr with ⟨i, z, nx, hi, ez, e⟩ | ⟨hno, j, pre, post, e, hj, hn, e2, hp⟩
 ·subst e
  dsimp only
  have hzm : z ∈ Z := Kf hi
  obtain ⟨p, hp, ep'⟩ := zI S hzm
  have ek : p.1 = k := C8 (hks p hp) hk (by rw [<- ez, ep'])
  have hin : k ∈ ps.map (·.1) := by rw [<- ek]; exact LC hp
  have rest : wpAny (model prog w) A (do
    let some (_, y) := es[i]? | unsupported "internal:set-entry"
    let equal <- holding [y] (eqBool y (.ref r))
    let (es', _, t') <- setState a
    if true && equal then return SetFound.there none
    let some same := t'.sameMemory t.moves t.mask | unsupported "set.changed-during-lookup:is-the-new-block-at-the-old-address"
    let still <- match (if same then t'.slot z.1 else .empty) with
     | .live i' => match es'[i']? with
      | some (_, y') => do pure (if <- isSame y' y then some i' else none)
      | none => pure none
     | _ => pure none
    match still with
    | none => rule "set.search.anew"; setSearchFrom a (.ref r) (hsh k) true 99999 none
    | some i' => if equal then return .there (some i') else setSearchFrom a (.ref r) (hsh k) true 99999 (some nx)) Q E s := by
   rw [S.tab.hashAt hi, ep']
   dsimp only
   refine JM (JN (wpAny_eqBool_tuple hu (hps p hp) hr ?_))
   refine JM (LZ S.ho S.hd S.fits ?_)
   dsimp only
   rw [ek, KY rfl]
   simp only [L0, Kq]
   exact JQ (h1 hin)
  by_cases hl : (!t.led) = true
  ·rw [Jl hl]
   refine JM (AJ hr (fun y hy => ?_) ?_)
   ·obtain ⟨e', he', q⟩ := Ly.mp hy
    have he2 : e' ∈ es.toList := by
     have := Array.mem_filter.mp (L1.mp he')
     exact L1.mpr this.1
    rw [S.tab.ents] at he2
    obtain ⟨z', hz', q2⟩ := Ly.mp he2
    obtain ⟨p', hp', q3⟩ := zI S hz'
    exact ⟨p'.1, p'.2, by rw [<- q, <- q2, q3], hps p' hp'⟩
   ·simp only [K1, Ko]
    exact rest
  ·rw [Jm hl]
   exact rest
 ·subst e
  dsimp only
  refine JQ (h2 (fun hin => ?_) j pre post hj hn e2 hp)
  obtain ⟨p, hpm, ek⟩ := Ly.mp hin
  obtain ⟨z, hzm, ez⟩ := F1 S hpm
  exact hno z hzm (by rw [ez, <- ek])
end
end RS
namespace RS
open PySem PyProof.Rows
def lG (ps : List KP) (k : List Int) (r : Addr) : List KP := if k ∈ ps.map (·.1) then ps else ps ++ [(k, r)]
section
variable {prog : Program} {w : World} {A : Around} {E : Value -> Shared -> Prop} {s : Shared}
theorem D9 {a r : Addr} {k : List Int} {ps : List KP} {Q : Bool -> Shared -> Prop} (S : eD w s.heap a ps) (hk : k ∈ prs) (hr : Tk prog w s.heap k r) (hps : ∀ p ∈ ps, Tk prog w s.heap p.1 p.2) (hu : A.units < cLine)
  (h : ∀ b h', Heap.SameBut a s.heap h' -> eD w h' a (lG ps k r) -> Q b { s with heap := h' }) : wpAny (model prog w) A (setAddHashed a (.ref r) (hsh k)) Q E s := by
 obtain ⟨o, es, ep, t, Z, S, hk0, hn0⟩ := S
 unfold setAddHashed setAddHashedIn
 refine JN (JM (LZ S.ho S.hd S.fits ?_))
 dsimp only
 have hsc : byScan (Value.ref r) es = false := rfl
 rw [hsc]
 simp only [K1, Ko]
 refine JM (xo S hk0 hk hr hps hu (fun hin => ?_) fun hin j pre post hj hn e hp => ?_)
 ·dsimp only
  refine JQ ?_
  have q := h false s.heap (Heap.SameBut.refl a s.heap) (by unfold lG; rw [Jl hin]; exact ⟨o, es, ep, t, Z, S, hk0, hn0⟩)
  cases s; exact q
 ·dsimp only
  refine JM (LZ S.ho S.hd S.fits ?_)
  dsimp only
  obtain ⟨Z', T', hperm, et⟩ := S.tab.put (x := Value.ref r) hj hn e hp
  have e2 : (t.put j).2 = SetTable.below t.place j := rfl
  have hpl : (t.put j).1.plain = true := by rw [et]; exact S.plain
  have hled : (t.put j).1.led = t.led := by rw [et]
  have hmask : (t.put j).1.mask = t.mask := by rw [et]
  have hperm' : (Z'.map (·.2)).Perm ((ps ++ [(k, r)]).map u4) := by
   have q1 := hperm.map (·.2)
   refine q1.trans ?_
   rw [KF, LG]
   refine List.Perm.trans (List.Perm.cons _ S.perm) ?_
   exact (List.perm_append_singleton _ _).symm
  have hkeys : ∀ p ∈ ps ++ [(k, r)], p.1 ∈ prs := fun p hp' => by
   rcases JB.mp hp' with q | q
   ·exact hk0 p q
   ·rw [Lc] at q; rw [q]; exact hk
  have hnd : ((ps ++ [(k, r)]).map (·.1)).Nodup := by
   rw [LG]
   refine L4.mpr ⟨hn0, by simp, fun x hx y hy => ?_⟩
   simp at hy
   rw [hy]; rintro rfl; exact hin hx
  have hlen15 := kq hkeys hnd
  have hZ' : Z'.length = ps.length + 1 := by rw [hperm.length_eq, K2, S.len, Kh]
  have hesz : (SetTable.insertAt es (t.put j).2 (hsh k, Value.ref r)).size = Z'.length := T'.size.2
  have hadd : lG ps k r = ps ++ [(k, r)] := by unfold lG; rw [Jm hin]
  rw [hadd] at h
  rw [Kg, KS] at hlen15
  generalize ht1 : (t.put j).1 = t1 at *
  generalize hes1 : SetTable.insertAt es (t.put j).2 (hsh k, Value.ref r) = es1 at *
  have hline : es1.size <= sizeLine := by rw [hesz, hZ']; exact Ju hlen15 (by decide)
  rw [hpl]
  simp only [Kq]
  refine JM (qg hr ?_)
  simp only [Kq]
  refine JM (L6 S.ho S.hd ?_ hline)
  have hg : (s.heap.update a (Obj.putSet es1 t1)).get? a = some { o with data := .set es1 (ep + 1) t1 } := by
   have := KG (Obj.putSet es1 t1) S.ho (by rw [L8 es1 t1 S.hd]; rfl)
   rw [L8 es1 t1 S.hd] at this; exact this
  have hsb1 := Lh s.heap a (Obj.putSet es1 t1)
  have hfill : t1.fill = ps.length + 1 := by rw [T'.fill, hZ']
  by_cases hfull : t1.tooFull = true
  ·simp only [hfull, L9, L0, Kq]
   have hm7 : t.mask = 7 /\ ps.length = 4 := by
    unfold SetTable.tooFull at hfull
    rw [hfill, hmask] at hfull
    have hf : (ps.length + 1) * 5 ≥ t.mask * 3 := by simpa using hfull
    have hl := S.len
    rw [Kh] at hl
    rcases S.big with ⟨q, q2⟩ | ⟨q, q2⟩
    ·rw [q] at hf; exact ⟨q, by omega⟩
    ·rw [q] at hf; omega
   have hes0 : es.size = 4 := by rw [S.tab.size.2, S.len, Kh, hm7.2]
   have hsz1 : es1.size = 5 := by rw [hesz, hZ', hm7.2]
   have hgr : SetTable.grown (es.size + 1) = 20 := by rw [hes0]; rfl
   rw [hgr]
   unfold setRelay
   have hfits1 : t1.fits es1.size = true := by
    unfold SetTable.fits
    rw [T'.fill, T'.size.1, hesz, hmask, hm7.1, hZ', hm7.2]; rfl
   refine JM (JM (LZ hg rfl hfits1 ?_))
   dsimp only
   rw [Jm (by decide)]
   obtain ⟨t2, order, Z2, er, T2, hp2, hm2, hl2, hpl2, _⟩ := oR (t := t1) (es := es1) (wanted := 20) (mask := 31) (by rfl) (by rw [hsz1]; decide) (fun e' he' => by
    rw [T'.ents] at he'
    obtain ⟨p, hp', q⟩ := Ly.mp (hperm'.mem_iff.mp he')
    rw [<- q]
    exact ve DK (hkeys p hp'))
   rw [er]
   have hZ2 : Z2.length = 5 := by
    have := hp2.length_eq
    simp at this
    omega
   have hes2 : (order.filterMap (es1[·]?)).size = 5 := by rw [T2.size.2, hZ2]
   have hne : ((order.filterMap (es1[·]?)).size != es1.size) = false := by rw [hes2, hsz1]; rfl
   refine JM ?_
   show wpAny _ A (if ((order.filterMap (es1[·]?)).size != es1.size) = true then _ else _) _ _ _
   rw [hne]
   simp only [K1, Ko]
   refine JQ ?_
   refine L6 hg rfl ?_ (by rw [hes2]; decide)
   have hg2 : ((s.heap.update a (Obj.putSet es1 t1)).update a (Obj.putSet (order.filterMap (es1[·]?)) t2)).get? a = some { o with data := .set (order.filterMap (es1[·]?)) (ep + 1 + 1) t2 } := by
    have := KG (Obj.putSet (order.filterMap (es1[·]?)) t2) hg (by rw [L8 _ t2 rfl]; rfl)
    rw [L8 _ t2 rfl] at this; exact this
   refine JQ ?_
   refine h true _ (hsb1.trans (Lh _ a _)) ⟨_, _, _, t2, Z2, ⟨hg2, S.ex, rfl, T2, by rw [hpl2]; exact hpl, by rw [hl2, hled]; exact S.led, .inr ⟨hm2, by omega⟩, ?_⟩, hkeys, hnd⟩
   refine hp2.trans ?_
   rw [T'.ents]; exact hperm'
  ·have hf : t1.tooFull = false := by simpa using hfull
   simp only [hf, Ma, K1, Ko]
   refine JQ ?_
   refine h true _ hsb1 ⟨_, _, _, t1, Z', ⟨hg, S.ex, rfl, T', hpl, by rw [hled]; exact S.led, ?_, hperm'⟩, hkeys, hnd⟩
   unfold SetTable.tooFull at hf
   rw [hfill, hmask] at hf
   have hf' : ¬ ((ps.length + 1) * 5 ≥ t.mask * 3) := by simpa using hf
   rw [hmask, hZ']
   rcases S.big with ⟨q, q2⟩ | ⟨q, q2⟩
   ·rw [q] at hf' ⊢; exact .inl ⟨rfl, by omega⟩
   ·rw [q] at hf' ⊢; exact .inr ⟨rfl, by omega⟩
end
def eW (qs : List KP) : List KP := qs.foldl (fun ps p => lG ps p.1 p.2) []
theorem uQ (qs : List KP) (p : KP) : eW (qs ++ [p]) = lG (eW qs) p.1 p.2 := by unfold eW; rw [Mb]; rfl
theorem Bd {ps : List KP} {k : List Int} {r : Addr} {p : KP} (h : p ∈ lG ps k r) : p ∈ ps \/ p = (k, r) := by
 unfold lG at h
 split at h
 ·exact .inl h
 ·rcases JB.mp h with q | q
  ·exact .inl q
  ·exact .inr (Lc.mp q)
theorem nk : ∀ {qs ps : List KP} {p : KP}, p ∈ qs.foldl (fun ps p => lG ps p.1 p.2) ps -> p ∈ ps \/ p ∈ qs
 | [], _, _, h => .inl h
 | q :: qs, ps, p, h => by
  rw [KR] at h
  rcases nk h with z | z
  ·rcases Bd z with z | z
   ·exact .inl z
   ·exact .inr (by rw [z]; exact Jx)
  ·exact .inr (Jy _ z)
theorem lx {qs : List KP} {p : KP} (h : p ∈ eW qs) : p ∈ qs := (nk h).elim (fun z => by simp at z) id
theorem v5 {ps : List KP} {k : List Int} {r : Addr} (h : (ps.map (·.1)).Nodup) : ((lG ps k r).map (·.1)).Nodup := by
 unfold lG
 split
 ·exact h
 ·rename_i hn
  rw [LG]
  refine L4.mpr ⟨h, by simp, fun x hx y hy => ?_⟩
  simp at hy
  rw [hy]; rintro rfl; exact hn hx
theorem kZ : ∀ {qs ps : List KP}, (ps.map (·.1)).Nodup -> ((qs.foldl (fun ps p => lG ps p.1 p.2) ps).map (·.1)).Nodup
 | [], _, h => h
 | q :: qs, ps, h => by rw [KR]; exact kZ (v5 h)
theorem sL {qs : List KP} : ((eW qs).map (·.1)).Nodup := kZ (ps := []) LO
def lN (w : World) : Bool := !w.params.followText "set-order"
theorem ng {w : World} {h : Heap} {a : Addr} (e : h.get? a = some { cls := .type "set", dict := none, data := .set #[] 0 (.fresh 0 0 (lN w)) }) : eD w h a [] :=
 ⟨_, _, _, _, [], ⟨e, ⟨rfl, rfl, rfl⟩, rfl, ⟨rfl, rfl, List.Pairwise.nil, fun z hz => by simp at hz, rfl, fun z hz => by simp at hz⟩, rfl, rfl, .inl ⟨rfl, by decide⟩, List.Perm.nil⟩, fun p hp => by simp at hp, LO⟩
section
variable {prog : Program} {w : World} {A : Around} {R : Result -> Shared -> Prop} {I : Addr} {fp wr : List Addr} {G : Array GenState -> Array GenState -> Prop} {P : Nat -> Value -> Prop} {St : Nat -> Shared -> Prop}
structure yV (prog : Program) (w : World) (u : Nat) (S : Addr) (vs : List Value) (J : Nat -> Heap -> Prop) : Prop where
 keep : ∀ i h h', (∀ b o, b <= S -> h.get? b = some o -> h'.get? b = some o) -> J i h -> J i h'
 add : ∀ (A : Around) (i : Nat) (v : Value) (s : Shared) (E : Value -> Shared -> Prop) (Q : Bool -> Shared -> Prop), A.units <= u -> vs[i]? = some v -> J i s.heap ->
  (∀ b h' tk, s.toks <= tk -> Heap.SameBut S s.heap h' -> J (i + 1) h' -> Q b { s with heap := h', toks := tk }) -> wpAny (model prog w) A (setAdd S v) Q E s
theorem ue {u : Nat} {vs : List Value} {J : Nat -> Heap -> Prop} (W : WalksS prog w A.in1 I fp wr G vs.length P St) (S : Addr) (hSf : S ∉ fp) (hwr : ∀ b ∈ wr, S < b) (hP : ∀ (i : Nat) v, P i v -> vs[i]? = some v) (hJ : yV prog w u S vs J) (hu : A.units + 1 <= u) :
  ∀ (k i : Nat) (s : Shared), vs.length - i = k -> i <= vs.length -> St i s -> J i s.heap ->
   (∀ s', Moved (S :: wr) G s s' -> J vs.length s'.heap -> R (.ok (.ret .none)) s') ->
   codeAny (model prog w) A (.builtin "set.update.loop" ⟨[.ref S, .ref I], []⟩) R s := by
 have hSw : S ∉ wr := fun h => hSf (W.sub _ h)
 have hsub : ∀ b ∈ wr, b ∈ S :: wr := fun b hb => Jy _ hb
 have hle : ∀ b, b <= S -> b ∉ wr := fun b hb z => Jq _ (Jp (hwr b z) hb)
 intro k
 induction k with
 | zero =>
  intro i s ek hi hst hS hR
  have hin : i = vs.length := by omega
  subst hin
  refine Mc F.entry_set_update_loop ?_
  rw [Md Me _]
  show wpAny _ A.in1 (pyNext (.ref I) >>= _) _ _ s
  refine JM (W.done s _ _ hst fun s' hm => ?_)
  show wpAny _ A.in1 (ret Value.none) _ _ s'
  exact JQ (hR s' (hm.mono hsub) (hJ.keep _ _ _ (fun b o hb e => hm.heap b o (hle b hb) e) hS))
 | succ k ih =>
  intro i s ek hi hst hS hR
  have hlt : i < vs.length := by omega
  refine Mc F.entry_set_update_loop ?_
  rw [Md Me _]
  show wpAny _ A.in1 (pyNext (.ref I) >>= _) _ _ s
  refine JM (W.item i s _ _ hlt hst fun v s' hPv hst' hm => ?_)
  have hv := hP i v hPv
  have hS' := hJ.keep i _ s'.heap (fun b o hb e => hm.heap b o (hle b hb) e) hS
  show wpAny _ A.in1 (holding [v] (setAdd S v) >>= _) _ _ s'
  refine JM (JN ?_)
  refine hJ.add A.in1 i v s' _ _ (by show A.units + 1 <= u; exact hu) hv hS' fun b h' tk ht hsb hS2 => ?_
  have hkeep : ∀ b o, b ≠ S -> s'.heap.get? b = some o -> h'.get? b = some o := fun b o hb e => (hsb.2 b hb).trans e
  refine JQ ⟨Mf Me _, ih (i + 1) _ (by omega) hlt (W.frame _ s' _ _ hst' ht fun b hb o e => hkeep b o (fun z => hSf (by rw [<- z]; exact hb)) e) hS2 fun s'' hm'' hS'' => ?_⟩
  refine hR s'' (Moved.trans W.gtrans ((hm.mono hsub).then_heap ht fun b o hb e => ?_) hm'') hS''
  exact hkeep b o (fun z => hb (by rw [z]; exact Jx)) e
end
section
variable {prog : Program} {w : World} {A : Around} {E : Value -> Shared -> Prop} {s : Shared}
theorem l6 (a : Value) {Q1 : Value -> Shared -> Prop}
  (h : Q1 (.ref s.heap.objs.size) { s with heap := s.heap.push { cls := .type "set", dict := none, data := .set #[] 0 (.fresh 0 0 (lN w)) } }) :
  codeAny (model prog w) A (.call (.builtin "set.__new__") ⟨[.type "set", a], []⟩) (wants Q1 E) s := by
 refine K7 ?_
 show wpAny _ A.in1 (do checkBuiltinCall "set.__new__" ⟨[.type "set", a], []⟩; again (.builtin "set.__new__" ⟨[.type "set", a], []⟩)) _ _ s
 refine JM (La (F.newCall_set_1 a) (JQ ⟨Mf F.plain_set_new _, Mc F.entry_set_new ?_⟩))
 rw [Md F.plain_set_new _]
 unfold Builtin.«set.__new__» Builtin.Frozenset.newClass
 have hsub := sub_set_self
 obtain ⟨hp, g, d, tk, os⟩ := s
 dsimp only
 wp_walk
 refine K8 (JQ ?_)
 dsimp only
 simp only [newObj]
 refine JM (wpAny_alloc (JQ ?_))
 exact JQ h
namespace F
theorem sub_list_set : isSubtype (.type "list") (.type "set") = pure false := by rw [Mg]; kernel_rfl
theorem sub_list_frozenset : isSubtype (.type "list") (.type "frozenset") = pure false := by rw [Mg]; kernel_rfl
end F
theorem lX {l : Addr} {items : Array Value} {J : Nat -> Heap -> Prop} {Q : Value -> Shared -> Prop}
  (hh : A.handled = none) (hl : s.heap.IsList l items) (hJ : yV prog w (A.units + 20) s.heap.objs.size items.toList J)
  (h0 : ∀ h', (∀ b o, s.heap.get? b = some o -> h'.get? b = some o) -> h'.get? s.heap.objs.size = some { cls := .type "set", dict := none, data := .set #[] 0 (.fresh 0 0 (lN w)) } -> J 0 h')
  (h : ∀ (h' : Heap) (tk : Nat), J items.size h' -> (∀ b o, b < s.heap.objs.size -> s.heap.get? b = some o -> h'.get? b = some o) -> Q (.ref s.heap.objs.size) { s with heap := h', toks := tk }) :
  wpAny (model prog w) A (call (.type "set") [.ref l]) Q E s := by
 obtain ⟨c, tl, hmro⟩ := Mh.mro
 have hmade := Mh.made
 have hsub := Mh.sub
 refine wpAny_call (K7 ?_)
 show wpAny _ _ (callAny (.type "set") _) _ _ _
 refine JQ ⟨Mi _ (by decide +kernel), Mc PySem.F.entry_type_call ?_⟩
 rw [Around.under_plain (weight_type_call_type "set" [.ref l] []) rfl]
 have h1 := Mh.notType
 have h2 := Mh.canCreate
 have hct := PySem.F.typeCall_set_1 (.ref l)
 repeat (any_goals (first | assumption | wp_step))
 refine J5 (l6 (.ref l) (E := E) (Q1 := fun obj s1 => obj = .ref s.heap.objs.size /\ s1 = { s with heap := s.heap.push { cls := .type "set", dict := none, data := .set #[] 0 (.fresh 0 0 (lN w)) } }) ⟨rfl, rfl⟩) fun r s1 hr => ?_
 cases r with
 | error e => exact hr
 | ok fl =>
  cases fl with
  | ret obj =>
   obtain ⟨rfl, rfl⟩ := hr
   generalize hled : lN w = led
   have hS : (s.heap.push { cls := .type "set", dict := none, data := .set #[] 0 (.fresh 0 0 led) }).get? s.heap.objs.size = some { cls := .type "set", dict := none, data := .set #[] 0 (.fresh 0 0 led) } := JU _ rfl
   have hTy : Shared.TypeIs { s with heap := s.heap.push { cls := .type "set", dict := none, data := .set #[] 0 (.fresh 0 0 led) } } (.ref s.heap.objs.size) "set" := ⟨_, hS, rfl⟩
   have hli := Mh.init.lookup
   have hbi := Mh.init.bind (.ref s.heap.objs.size)
   repeat (any_goals (first | assumption | wp_step))
   refine J5 (Mj (R := wants (fun r s2 => r = .none /\ ∃ h' tk, s2 = { s with heap := h', toks := tk } /\ J items.size h' /\
     (∀ b o, b < s.heap.objs.size -> s.heap.get? b = some o -> h'.get? b = some o)) E) Mh.init.plain PySem.F.entry_set_init (check_set_init_1 hTy ?_)) fun r2 s2 hr2 => ?_
   ·obtain ⟨ol, hol, hcl, nl, hdl⟩ := hl
    obtain ⟨ocls, odict, odata, oslots⟩ := ol
    simp only at hcl hdl
    subst hcl; subst hdl
    have hol' : (s.heap.push { cls := .type "set", dict := none, data := .set #[] 0 (.fresh 0 0 led) }).get? l = some { cls := .type "list", dict := odict, data := .seq items nl, slots := oslots } := JT _ hol
    have hsls := F.sub_list_set
    have hslf := F.sub_list_frozenset
    have hne : (Value.type "list" == Value.type "dict") = false := by decide
    have hl1 : (s.heap.push { cls := .type "set", dict := none, data := .set #[] 0 (.fresh 0 0 led) }).IsList l items := ⟨_, hol', rfl, nl, rfl⟩
    unfold Builtin.«set.__init__» noKeywords Builtin.Frozenset.updateFrom
    generalize hPI : pyIter = PI
    wp_walk
    subst hPI
    refine Ml hl1 ?_
    refine JM (Mm ?_)
    have hlS : l < s.heap.objs.size := Jo hol
    have hh3 : A.in1.in1.in1.handled = none := by simp [hh]
    have hneI : l ≠ (s.heap.push { cls := .type "set", dict := none, data := .set #[] 0 (.fresh 0 0 led) }).objs.size := by
     rw [K5]; exact Jr (K4 hlS)
    have hSf : s.heap.objs.size ∉ [(s.heap.push { cls := .type "set", dict := none, data := .set #[] 0 (.fresh 0 0 led) }).objs.size, l] := by
     rw [K5]; simp only [Jz, Lc, Lj, Lk, not_or]
     exact ⟨Jr (K3 _), JP hlS⟩
    have W := (Mn (prog := prog) (w := w) hh3 (s.heap.push { cls := .type "set", dict := none, data := .set #[] 0 (.fresh 0 0 led) }).objs.size l hneI items).toS
    rw [show items.size = items.toList.length by rw [JJ]] at W
    refine ue W s.heap.objs.size hSf (fun b hb => ?_) (fun i v hv => by rw [KU]; exact hv) hJ (by simp only [Around.in1]; omega) (items.toList.length - 0) 0 _ (by omega) (Lb _)
     ⟨⟨_, JU _ rfl, rfl, rfl⟩, ?hL⟩ ?hS0 ?hR
    case hL =>
     obtain ⟨o, ho, rest⟩ := hl1
     exact ⟨o, JT _ ho, rest⟩
    case hS0 =>
     refine h0 _ (fun b o e => JT _ (JT _ e)) ?_
     rw [hled]
     exact JT _ hS
    case hR =>
     intro s' hm hS'
     obtain ⟨h', g', d', tk', os'⟩ := s'
     have eg : g' = s.gens := hm.gens
     have ed : d' = s.drawn := hm.drawn
     have eo : os' = s.os := hm.os
     subst eg; subst ed; subst eo
     show wpAny _ _ _ _ _ _
     refine JQ ?_
     show wpAny _ _ (ret Value.none) _ _ _
     refine JQ ⟨rfl, h', tk', rfl, by rw [JJ] at hS'; exact hS', fun b o hb e => ?_⟩
     have hb1 : b ≠ s.heap.objs.size := Jr hb
     have hb2 : b ≠ (s.heap.push { cls := .type "set", dict := none, data := .set #[] 0 (.fresh 0 0 led) }).objs.size := by
      rw [K5]; exact Jr (K4 hb)
     exact hm.heap b o (by simp only [Jz, Lc, Lj, Lk, not_or]; exact ⟨hb1, hb2⟩) (JT _ (JT _ e))
    ·rw [K5] at hb
     rw [Lc.mp hb]
     exact K3 _
   ·cases r2 with
    | error e => exact hr2
    | ok fl2 =>
     cases fl2 with
     | ret r =>
      obtain ⟨rfl, h', tk, rfl, hS', hk'⟩ := hr2
      repeat (any_goals (first | assumption | wp_step))
      exact h _ _ hS' hk'
     | _ => exact hr2.elim
  | _ => exact hr.elim
namespace F
theorem sub_tuple_set : isSubtype (.type "tuple") (.type "set") = pure false := by rw [Mg]; kernel_rfl
theorem sub_tuple_frozenset : isSubtype (.type "tuple") (.type "frozenset") = pure false := by rw [Mg]; kernel_rfl
end F
theorem kT {l : Addr} {items : Array Value} {J : Nat -> Heap -> Prop} {Q : Value -> Shared -> Prop}
  (hh : A.handled = none) (hl : s.heap.IsTuple l items) (hJ : yV prog w (A.units + 20) s.heap.objs.size items.toList J)
  (h0 : ∀ h', (∀ b o, s.heap.get? b = some o -> h'.get? b = some o) -> h'.get? s.heap.objs.size = some { cls := .type "set", dict := none, data := .set #[] 0 (.fresh 0 0 (lN w)) } -> J 0 h')
  (h : ∀ (h' : Heap) (tk : Nat), J items.size h' -> (∀ b o, b < s.heap.objs.size -> s.heap.get? b = some o -> h'.get? b = some o) -> Q (.ref s.heap.objs.size) { s with heap := h', toks := tk }) :
  wpAny (model prog w) A (call (.type "set") [.ref l]) Q E s := by
 obtain ⟨c, tl, hmro⟩ := Mh.mro
 have hmade := Mh.made
 have hsub := Mh.sub
 refine wpAny_call (K7 ?_)
 show wpAny _ _ (callAny (.type "set") _) _ _ _
 refine JQ ⟨Mi _ (by decide +kernel), Mc PySem.F.entry_type_call ?_⟩
 rw [Around.under_plain (weight_type_call_type "set" [.ref l] []) rfl]
 have h1 := Mh.notType
 have h2 := Mh.canCreate
 have hct := PySem.F.typeCall_set_1 (.ref l)
 repeat (any_goals (first | assumption | wp_step))
 refine J5 (l6 (.ref l) (E := E) (Q1 := fun obj s1 => obj = .ref s.heap.objs.size /\ s1 = { s with heap := s.heap.push { cls := .type "set", dict := none, data := .set #[] 0 (.fresh 0 0 (lN w)) } }) ⟨rfl, rfl⟩) fun r s1 hr => ?_
 cases r with
 | error e => exact hr
 | ok fl =>
  cases fl with
  | ret obj =>
   obtain ⟨rfl, rfl⟩ := hr
   generalize hled : lN w = led
   have hS : (s.heap.push { cls := .type "set", dict := none, data := .set #[] 0 (.fresh 0 0 led) }).get? s.heap.objs.size = some { cls := .type "set", dict := none, data := .set #[] 0 (.fresh 0 0 led) } := JU _ rfl
   have hTy : Shared.TypeIs { s with heap := s.heap.push { cls := .type "set", dict := none, data := .set #[] 0 (.fresh 0 0 led) } } (.ref s.heap.objs.size) "set" := ⟨_, hS, rfl⟩
   have hli := Mh.init.lookup
   have hbi := Mh.init.bind (.ref s.heap.objs.size)
   repeat (any_goals (first | assumption | wp_step))
   refine J5 (Mj (R := wants (fun r s2 => r = .none /\ ∃ h' tk, s2 = { s with heap := h', toks := tk } /\ J items.size h' /\
     (∀ b o, b < s.heap.objs.size -> s.heap.get? b = some o -> h'.get? b = some o)) E) Mh.init.plain PySem.F.entry_set_init (check_set_init_1 hTy ?_)) fun r2 s2 hr2 => ?_
   ·obtain ⟨ol, hol, hcl, nl, hdl⟩ := hl
    obtain ⟨ocls, odict, odata, oslots⟩ := ol
    simp only at hcl hdl
    subst hcl; subst hdl
    have hol' : (s.heap.push { cls := .type "set", dict := none, data := .set #[] 0 (.fresh 0 0 led) }).get? l = some { cls := .type "tuple", dict := odict, data := .seq items nl, slots := oslots } := JT _ hol
    have hsls := F.sub_tuple_set
    have hslf := F.sub_tuple_frozenset
    have hne : (Value.type "tuple" == Value.type "dict") = false := by decide
    have hl1 : (s.heap.push { cls := .type "set", dict := none, data := .set #[] 0 (.fresh 0 0 led) }).IsTuple l items := ⟨_, hol', rfl, nl, rfl⟩
    unfold Builtin.«set.__init__» noKeywords Builtin.Frozenset.updateFrom
    generalize hPI : pyIter = PI
    wp_walk
    subst hPI
    refine Li hl1 ?_
    refine JM (Mm ?_)
    have hlS : l < s.heap.objs.size := Jo hol
    have hh3 : A.in1.in1.in1.handled = none := by simp [hh]
    have hneI : l ≠ (s.heap.push { cls := .type "set", dict := none, data := .set #[] 0 (.fresh 0 0 led) }).objs.size := by
     rw [K5]; exact Jr (K4 hlS)
    have hSf : s.heap.objs.size ∉ [(s.heap.push { cls := .type "set", dict := none, data := .set #[] 0 (.fresh 0 0 led) }).objs.size, l] := by
     rw [K5]; simp only [Jz, Lc, Lj, Lk, not_or]
     exact ⟨Jr (K3 _), JP hlS⟩
    have W := (Walks.tuple (prog := prog) (w := w) hh3 (s.heap.push { cls := .type "set", dict := none, data := .set #[] 0 (.fresh 0 0 led) }).objs.size l hneI items).toS
    rw [show items.size = items.toList.length by rw [JJ]] at W
    refine ue W s.heap.objs.size hSf (fun b hb => ?_) (fun i v hv => by rw [KU]; exact hv) hJ (by simp only [Around.in1]; omega) (items.toList.length - 0) 0 _ (by omega) (Lb _)
     ⟨⟨_, JU _ rfl, rfl, rfl⟩, ?hL⟩ ?hS0 ?hR
    case hL =>
     obtain ⟨o, ho, rest⟩ := hl1
     exact ⟨o, JT _ ho, rest⟩
    case hS0 =>
     refine h0 _ (fun b o e => JT _ (JT _ e)) ?_
     rw [hled]
     exact JT _ hS
    case hR =>
     intro s' hm hS'
     obtain ⟨h', g', d', tk', os'⟩ := s'
     have eg : g' = s.gens := hm.gens
     have ed : d' = s.drawn := hm.drawn
     have eo : os' = s.os := hm.os
     subst eg; subst ed; subst eo
     show wpAny _ _ _ _ _ _
     refine JQ ?_
     show wpAny _ _ (ret Value.none) _ _ _
     refine JQ ⟨rfl, h', tk', rfl, by rw [JJ] at hS'; exact hS', fun b o hb e => ?_⟩
     have hb1 : b ≠ s.heap.objs.size := Jr hb
     have hb2 : b ≠ (s.heap.push { cls := .type "set", dict := none, data := .set #[] 0 (.fresh 0 0 led) }).objs.size := by
      rw [K5]; exact Jr (K4 hb)
     exact hm.heap b o (by simp only [Jz, Lc, Lj, Lk, not_or]; exact ⟨hb1, hb2⟩) (JT _ (JT _ e))
    ·rw [K5] at hb
     rw [Lc.mp hb]
     exact K3 _
   ·cases r2 with
    | error e => exact hr2
    | ok fl2 =>
     cases fl2 with
     | ret r =>
      obtain ⟨rfl, h', tk, rfl, hS', hk'⟩ := hr2
      repeat (any_goals (first | assumption | wp_step))
      exact h _ _ hS' hk'
     | _ => exact hr2.elim
  | _ => exact hr.elim
theorem pd {qs : List KP} {S : Addr} {u : Nat} (hk : ∀ p ∈ qs, p.1 ∈ prs) (hS : ∀ p ∈ qs, p.2 < S) (hu : u < cLine) : yV prog w u S (qs.map fun p => Value.ref p.2) (fun i h => eD w h S (eW (qs.take i)) /\ ∀ p ∈ qs, Tk prog w h p.1 p.2) := by
 have keepT : ∀ {h1 h2 : Heap} {q : KP}, q ∈ qs -> (∀ b o, b < S -> h1.get? b = some o -> h2.get? b = some o) -> Tk prog w h1 q.1 q.2 -> Tk prog w h2 q.1 q.2 := fun {h1 h2 q} hq kk t => by
  obtain ⟨o, items, n, ho, r⟩ := t
  exact ⟨o, items, n, kk _ o (hS q hq) ho, r⟩
 refine ⟨fun i h h' hk' ⟨j1, j2⟩ => ⟨j1.keeps fun o e => hk' S o (JV _) e, fun p hp => keepT hp (fun b o hb e => hk' b o (Jv hb) e) (j2 p hp)⟩, fun A i v s E Q hA hv ⟨j1, j2⟩ hQ => ?_⟩
 rw [Ke] at hv
 cases e : qs[i]? with
 | none => rw [e] at hv; cases hv
 | some p =>
  rw [e] at hv
  cases hv
  have hpm : p ∈ qs := Kf e
  unfold setAdd
  refine JN ?_
  refine JM (wpAny_pyHash_tuple (by omega) (j2 p hpm) ?_)
  rw [FR]
  refine D9 (s := { s with toks := s.toks + (p.1.length + 1) }) j1 (hk p hpm) (j2 p hpm) (fun q hq => j2 q (LL (lx hq))) (by omega) fun b h' hsb hS2 => ?_
  have etk : qs.take (i + 1) = qs.take i ++ [p] := by rw [Mo, e]; rfl
  refine hQ b h' _ (Mp _ _) hsb ⟨by rw [etk, uQ]; exact hS2, fun q hq => keepT hq (fun b o hb e => (hsb.2 b (Jr hb)).trans e) (j2 q hq)⟩
theorem zE {qs : List KP} (hT : ∀ p ∈ qs, Tk prog w s.heap p.1 p.2) : ∀ p ∈ qs, p.2 < s.heap.objs.size := fun p hp => by
 obtain ⟨o, _, _, ho, _⟩ := hT p hp
 exact Jo ho
theorem uD {l : Addr} {items : Array Value} {qs : List KP} {Q : Value -> Shared -> Prop}
  (hh : A.handled = none) (hl : s.heap.IsList l items) (hi : items.toList = qs.map fun p => Value.ref p.2) (hk : ∀ p ∈ qs, p.1 ∈ prs) (hT : ∀ p ∈ qs, Tk prog w s.heap p.1 p.2) (hu : A.units + 20 < cLine)
  (h : ∀ (h' : Heap) (tk : Nat), eD w h' s.heap.objs.size (eW qs) -> (∀ b o, b < s.heap.objs.size -> s.heap.get? b = some o -> h'.get? b = some o) -> Q (.ref s.heap.objs.size) { s with heap := h', toks := tk }) :
  wpAny (model prog w) A (call (.type "set") [.ref l]) Q E s := by
 have hlen : items.size = qs.length := by rw [<- JJ, hi, Kh]
 refine lX hh hl (hi ▸ pd hk (zE hT) hu) (fun h' k e => ⟨ng e, fun p hp => ?_⟩) fun h' tk ⟨j1, _⟩ => h h' tk ?_
 ·obtain ⟨o, its, n, ho, rest⟩ := hT p hp
  exact ⟨o, its, n, k _ _ ho, rest⟩
 ·rw [hlen, Mq] at j1
  exact j1
theorem su {l : Addr} {items : Array Value} {qs : List KP} {Q : Value -> Shared -> Prop}
  (hh : A.handled = none) (hl : s.heap.IsTuple l items) (hi : items.toList = qs.map fun p => Value.ref p.2) (hk : ∀ p ∈ qs, p.1 ∈ prs) (hT : ∀ p ∈ qs, Tk prog w s.heap p.1 p.2) (hu : A.units + 20 < cLine)
  (h : ∀ (h' : Heap) (tk : Nat), eD w h' s.heap.objs.size (eW qs) -> (∀ b o, b < s.heap.objs.size -> s.heap.get? b = some o -> h'.get? b = some o) -> Q (.ref s.heap.objs.size) { s with heap := h', toks := tk }) :
  wpAny (model prog w) A (call (.type "set") [.ref l]) Q E s := by
 have hlen : items.size = qs.length := by rw [<- JJ, hi, Kh]
 refine kT hh hl (hi ▸ pd hk (zE hT) hu) (fun h' k e => ⟨ng e, fun p hp => ?_⟩) fun h' tk ⟨j1, _⟩ => h h' tk ?_
 ·obtain ⟨o, its, n, ho, rest⟩ := hT p hp
  exact ⟨o, its, n, k _ _ ho, rest⟩
 ·rw [hlen, Mq] at j1
  exact j1
end
end RS
namespace RS
open PySem PySem.W PyProof.Rows
structure eE (n : Nat) (p : Array Nat) : Prop where
 size : p.size = n
 perm : p.toList.Perm (List.range n)
def at' (key : Nat -> Int) (p : Array Nat) (k : Nat) : Int := key (p.getD k 0)
def Bi (key : Nat -> Int) (p : Array Nat) (m : Nat) : Prop := ∀ i j, i < j -> j < m -> at' key p i < at' key p j
def Bz (key : Nat -> Int) (p : Array Nat) (m : Nat) : Prop := ∀ i j, i < j -> j < m -> at' key p j < at' key p i
section
variable {n : Nat} {key : Nat -> Int} {cmp : Nat -> Nat -> (Bool -> Shared -> Prop) -> Shared -> Prop} {s : Shared} {p : Array Nat}
theorem eE.lt (g : eE n p) {k : Nat} (hk : k < n) : p.getD k 0 < n := by
 have hs : k < p.size := by rw [g.size]; exact hk
 have : p[k] ∈ p.toList := by rw [L1]; exact Array.getElem_mem hs
 have := g.perm.mem_iff.mp this
 rw [Jt] at this
 simpa [Array.getD, hs] using this
theorem eE.inj (g : eE n p) {k k' : Nat} (hk : k < n) (hk' : k' < n) (e : p.getD k 0 = p.getD k' 0) : k = k' := by
 have hs : k < p.toList.length := by rw [JJ, g.size]; exact hk
 have hs' : k' < p.toList.length := by rw [JJ, g.size]; exact hk'
 have nd : p.toList.Nodup := g.perm.nodup_iff.mpr LA
 refine (JE (h₀ := hs) (h₁ := hs') nd).mp ?_
 have h1 : k < p.size := by rw [g.size]; exact hk
 have h2 : k' < p.size := by rw [g.size]; exact hk'
 simpa [Array.getD, h1, h2] using e
variable (hkey : ∀ i j, i < n -> j < n -> key i = key j -> i = j) (hc : ∀ i j, i < n -> j < n -> ∀ C : Bool -> Shared -> Prop, C (decide (key i < key j)) s -> cmp i j C s)
include hkey in
theorem zm (g : eE n p) {k k' : Nat} (hk : k < n) (hk' : k' < n) (h : k ≠ k') : at' key p k ≠ at' key p k' := fun e => h (g.inj hk hk' (hkey _ _ (g.lt hk) (g.lt hk') e))
include hkey hc
theorem vg (g : eE n p) : ∀ (f m : Nat) (Q : Nat -> Shared -> Prop), 1 <= m -> m + f <= n -> Bi key p m -> (∀ m', m <= m' -> m' <= m + f -> Bi key p m' -> (m' = m + f \/ at' key p m' < at' key p (m' - 1)) -> Q m' s) -> (kas_asc p f m).kasWp cmp Q s
 | 0, m, Q, h1, h2, ha, hQ => hQ m (JV _) (JV _) ha (.inl rfl)
 | f + 1, m, Q, h1, h2, ha, hQ => by
  show cmp (p.getD m 0) (p.getD (m - 1) 0) _ s
  refine hc _ _ (g.lt (by omega)) (g.lt (by omega)) _ ?_
  by_cases hlt : key (p.getD m 0) < key (p.getD (m - 1) 0)
  ·rw [KY hlt]; (show (if true = true then _ else _ : KasT _).kasWp cmp _ s); rw [Jl rfl]
   exact hQ m (JV _) (by omega) ha (.inr hlt)
  ·rw [Ji hlt]; (show (if false = true then _ else _ : KasT _).kasWp cmp _ s); rw [Jm J1]
   have hne := zm hkey g (k := m) (k' := m - 1) (by omega) (by omega) (by omega)
   have hgt : at' key p (m - 1) < at' key p m := by unfold at' at *; omega
   refine vg g f (m + 1) Q (by omega) (by omega) (fun i j hij hj => ?_) (fun m' a b c d => hQ m' (by omega) (by omega) c (d.elim (fun e => .inl (by omega)) .inr))
   by_cases ej : j = m
   ·subst ej
    by_cases ei : i = j - 1
    ·rw [ei]; exact hgt
    ·have := ha i (j - 1) (by omega) (by omega); omega
   ·exact ha i j hij (by omega)
theorem xa (g : eE n p) : ∀ (f m : Nat) (Q : Array Nat × Nat × Nat -> Shared -> Prop), 1 <= m -> m + f <= n -> Bz key p m -> (∀ m', m <= m' -> m' <= m + f -> Bz key p m' -> Q (p, m', 0) s) -> (kas_desc f p m 0).kasWp cmp Q s
 | 0, m, Q, h1, h2, ha, hQ => hQ m (JV _) (JV _) ha
 | f + 1, m, Q, h1, h2, ha, hQ => by
  show cmp (p.getD m 0) (p.getD (m - 1) 0) _ s
  refine hc _ _ (g.lt (by omega)) (g.lt (by omega)) _ ?_
  by_cases hlt : key (p.getD m 0) < key (p.getD (m - 1) 0)
  ·rw [KY hlt]; (show (if true = true then _ else _ : KasT _).kasWp cmp _ s); rw [Jl rfl, Jm (by omega)]
   refine xa g f (m + 1) Q (by omega) (by omega) (fun i j hij hj => ?_) (fun m' a b c => hQ m' (by omega) (by omega) c)
   by_cases ej : j = m
   ·subst ej
    by_cases ei : i = j - 1
    ·rw [ei]; exact hlt
    ·have := ha i (j - 1) (by omega) (by omega)
     have : at' key p j < at' key p (j - 1) := hlt
     omega
   ·exact ha i j hij (by omega)
  ·rw [Ji hlt]; (show (if false = true then _ else _ : KasT _).kasWp cmp _ s); rw [Jm J1]
   show cmp (p.getD (m - 1) 0) (p.getD m 0) _ s
   refine hc _ _ (g.lt (by omega)) (g.lt (by omega)) _ ?_
   have hne := zm hkey g (k := m) (k' := m - 1) (by omega) (by omega) (by omega)
   have hgt : key (p.getD (m - 1) 0) < key (p.getD m 0) := by unfold at' at hne; omega
   rw [KY hgt]; (show (if true = true then _ else _ : KasT _).kasWp cmp _ s); rw [Jl rfl]
   exact hQ m (JV _) (by omega) ha
omit hkey hc in
theorem ou {p p' : Array Nat} {k k' : Nat} (h : p[k]? = p'[k']?) : at' key p k = at' key p' k' := by
 unfold at'
 rw [LJ, LJ, h]
omit hkey hc in
theorem qQ {p' : Array Nat} (g : eE n p) (h : p'.Perm p) (hs : p'.size = p.size) : eE n p' := ⟨hs.trans g.size, (Array.perm_iff_toList_perm.mp h).trans g.perm⟩
omit hkey hc in
theorem Cb (g : eE n p) {m : Nat} (hm : m <= n) (hd : Bz key p m) : eE n (kas_rev p 0 m) /\ Bi key (kas_rev p 0 m) m := by
 have hs : m <= p.size := by rw [g.size]; exact hm
 refine ⟨qQ g (mirror_perm _ _ _ _) (mirror_size _ _ _ _), fun i j hij hj => ?_⟩
 have ei : at' key (kas_rev p 0 m) i = at' key p (0 + m - 1 - i) := ou (by unfold kas_rev; rw [getElem?_mirror_all hs, Jl ⟨Lb _, by omega⟩])
 have ej : at' key (kas_rev p 0 m) j = at' key p (0 + m - 1 - j) := ou (by unfold kas_rev; rw [getElem?_mirror_all hs, Jl ⟨Lb _, by omega⟩])
 rw [ei, ej]
 exact hd _ _ (by omega) (by omega)
theorem zQ (g : eE n p) {m : Nat} (h1 : 1 <= m) (hm : m <= n) (hd : Bz key p m) (Q : Nat × Array Nat -> Shared -> Prop) (hQ : ∀ m' p', eE n p' -> 1 <= m' -> m' <= n -> Bi key p' m' -> Q (m', p') s) : (kas_tail3 m n p).kasWp cmp Q s := by
 obtain ⟨g', ha⟩ := Cb (key := key) g hm hd
 unfold kas_tail3
 rw [Mr]
 exact vg hkey hc g' (n - m) m _ h1 (by omega) ha fun m' a b c d => hQ m' _ g' (by omega) (by omega) c
theorem A8 (g : eE n p) (h2 : 2 <= n) (Q : Nat × Array Nat -> Shared -> Prop) (hQ : ∀ m' p', eE n p' -> 1 <= m' -> m' <= n -> Bi key p' m' -> Q (m', p') s) : (kas_count n p).kasWp cmp Q s := by
 unfold kas_count
 rw [Mr]
 refine vg hkey hc g (n - 1) 1 _ (JV _) (by omega) (fun i j hij hj => by omega) fun m a b c d => ?_
 by_cases e : m = n
 ·rw [Jl (by simpa using e)]
  exact hQ m p g a (by omega) c
 ·rw [Jm (by simpa using e)]
  by_cases h1 : m > 1
  ·rw [Jl h1]
   show cmp (p.getD 0 0) (p.getD (m - 1) 0) _ s
   refine hc _ _ (g.lt (by omega)) (g.lt (by omega)) _ ?_
   have : at' key p 0 < at' key p (m - 1) := c 0 (m - 1) (by omega) (by omega)
   rw [KY (show key (p.getD 0 0) < key (p.getD (m - 1) 0) from this)]; (show (if true = true then _ else _ : KasT _).kasWp cmp _ s); rw [Jl rfl]
   exact hQ m p g a (by omega) c
  ·rw [Jm h1]
   have em : m = 1 := by omega
   subst em
   unfold kas_descPart
   rw [Mr]
   have hlt : at' key p 1 < at' key p 0 := d.elim (fun e' => by omega) id
   refine xa hkey hc g (n - (1 + 1)) (1 + 1) _ (by omega) (by omega) (fun i j hij hj => ?_) fun m' a' b' c' => ?_
   ·have ei : i = 0 := by omega
    have ej : j = 1 := by omega
    rw [ei, ej]; exact hlt
   ·show (if (0 : Nat) > 0 then _ else _ : KasT (Nat × Array Nat)).kasWp cmp Q s
    rw [Jm (by omega)]
    exact zQ hkey hc g (by omega) (by omega) c' Q hQ
theorem oD (g : eE n p) {k : Nat} (hk : k < n) (ha : Bi key p k) : ∀ (f l r : Nat) (Q : Nat -> Shared -> Prop), l <= r -> r <= k -> r - l <= f -> (∀ i, i < l -> at' key p i < at' key p k) -> (∀ i, r <= i -> i < k -> at' key p k < at' key p i) ->
  (∀ l', l' <= k -> (∀ i, i < l' -> at' key p i < at' key p k) -> (∀ i, l' <= i -> i < k -> at' key p k < at' key p i) -> Q l' s) -> (kas_place p k f l r).kasWp cmp Q s
 | 0, l, r, Q, h1, h2, h3, ha1, hb1, hQ => by
  have e : l = r := by omega
  subst e
  exact hQ l h2 ha1 hb1
 | f + 1, l, r, Q, h1, h2, h3, ha1, hb1, hQ => by
  unfold kas_place
  by_cases e : l ≥ r
  ·rw [Jl e]
   have e' : l = r := by omega
   subst e'
   exact hQ l h2 ha1 hb1
  ·rw [Jm e]
   show cmp (p.getD k 0) (p.getD ((l + r) / 2) 0) _ s
   refine hc _ _ (g.lt hk) (g.lt (by omega)) _ ?_
   by_cases hlt : key (p.getD k 0) < key (p.getD ((l + r) / 2) 0)
   ·rw [KY hlt]; (show (if true = true then _ else _ : KasT _).kasWp cmp _ s); rw [Jl rfl]
    refine oD g hk ha f l ((l + r) / 2) Q (by omega) (by omega) (by omega) ha1 (fun i hi hik => ?_) hQ
    by_cases ei : i = (l + r) / 2
    ·rw [ei]; exact hlt
    ·have := ha ((l + r) / 2) i (by omega) hik
     have : at' key p k < at' key p ((l + r) / 2) := hlt
     omega
   ·rw [Ji hlt]; (show (if false = true then _ else _ : KasT _).kasWp cmp _ s); rw [Jm J1]
    have hne := zm hkey g (k := k) (k' := (l + r) / 2) hk (by omega) (by omega)
    have hgt : at' key p ((l + r) / 2) < at' key p k := by unfold at' at *; omega
    refine oD g hk ha f ((l + r) / 2 + 1) r Q (by omega) h2 (by omega) (fun i hi => ?_) hb1 hQ
    by_cases ei : i = (l + r) / 2
    ·rw [ei]; exact hgt
    ·have := ha i ((l + r) / 2) (by omega) (by omega)
     omega
theorem zL : ∀ (f : Nat) (p : Array Nat) (k : Nat) (Q : Array Nat -> Shared -> Prop), eE n p -> k + f = n -> Bi key p k -> (∀ p', eE n p' -> Bi key p' n -> Q p' s) -> (kas_bin f p k).kasWp cmp Q s
 | 0, p, k, Q, g, hk, ha, hQ => by
  have e : k = n := by omega
  rw [e] at ha
  exact hQ p g ha
 | f + 1, p, k, Q, g, hk, ha, hQ => by
  unfold kas_bin
  rw [Mr]
  refine oD hkey hc g (by omega) ha k 0 k _ (Lb _) (JV _) (by omega) (fun i hi => by omega) (fun i h1 h2 => by omega) fun l hl ha1 hb1 => ?_
  have hs : k < p.size := by rw [g.size]; omega
  refine zL f _ (k + 1) Q (qQ g (bubble_perm _ _ _) (bubble_size _ _ _)) (by omega) (fun i j hij hj => ?_) hQ
  have hb : ∀ x, at' key (bubble p k (k - l)) x = if x = l then at' key p k else if l < x /\ x <= k then at' key p (x - 1) else at' key p x := fun x => by
   have e := getElem?_bubble hs (k - l) (by omega) x
   have el : k - (k - l) = l := by omega
   rw [el] at e
   by_cases e1 : x = l
   ·rw [Jl e1] at e ⊢; exact ou e
   ·rw [Jm e1] at e ⊢
    by_cases e2 : l < x /\ x <= k
    ·rw [Jl e2] at e ⊢; exact ou e
    ·rw [Jm e2] at e ⊢; exact ou e
  rw [hb i, hb j]
  by_cases i1 : i = l
  ·rw [Jl i1, Jm (by omega), Jl ⟨by omega, by omega⟩]
   exact hb1 (j - 1) (by omega) (by omega)
  ·rw [Jm i1]
   by_cases i2 : l < i /\ i <= k
   ·rw [Jl i2, Jm (by omega), Jl ⟨by omega, by omega⟩]
    exact ha (i - 1) (j - 1) (by omega) (by omega)
   ·rw [Jm i2]
    have hi : i < l := by omega
    by_cases j1 : j = l
    ·rw [Jl j1]; exact ha1 i hi
    ·rw [Jm j1]
     by_cases j2 : l < j /\ j <= k
     ·rw [Jl j2]
      by_cases ej : i = j - 1
      ·omega
      ·exact ha i (j - 1) (by omega) (by omega)
     ·rw [Jm j2]; exact ha i j hij (by omega)
theorem BU (h2 : 2 <= n) (Q : Array Nat -> Shared -> Prop) (hQ : ∀ p', eE n p' -> Bi key p' n -> Q p' s) : (kas_sort n).kasWp cmp Q s := by
 unfold kas_sort
 rw [Mr]
 have g0 : eE n (List.toArray (List.range n)) := ⟨by simp, by simp⟩
 refine A8 hkey hc g0 h2 _ fun m p' g h1 hm ha => ?_
 show (if m < n then _ else _ : KasT (Array Nat)).kasWp cmp Q s
 by_cases e : m < n
 ·rw [Jl e]
  have em : max m 1 = m := by omega
  rw [em]
  exact zL hkey hc (n - m) p' m Q g (by omega) ha hQ
 ·rw [Jm e]
  have em : m = n := by omega
  rw [em] at ha
  exact hQ p' g ha
end
def qj (k : List Int) : Int := k.getD 0 0 * 6 + k.getD 1 0
theorem ia {k : List Int} (h : k ∈ prs) : ∃ a b : Int, k = [a, b] /\ 0 <= a /\ a < b /\ b < 6 := by
 have key : ∀ k ∈ prs, 0 <= k.getD 0 0 /\ k.getD 0 0 < k.getD 1 0 /\ k.getD 1 0 < 6 /\ k = [k.getD 0 0, k.getD 1 0] := by decide +kernel
 obtain ⟨h1, h2, h3, h4⟩ := key k h
 exact ⟨_, _, h4, h1, h2, h3⟩
theorem Dg {k k' : List Int} (h : k ∈ prs) (h' : k' ∈ prs) (e : qj k = qj k') : k = k' := by
 obtain ⟨a, b, rfl, h1, h2, h3⟩ := ia h
 obtain ⟨c, d, rfl, h4, h5, h6⟩ := ia h'
 have e' : a * 6 + b = c * 6 + d := e
 have : a = c := by omega
 have : b = d := by omega
 subst_vars; rfl
section
variable {prog : Program} {w : World} {A : Around} {E : Value -> Shared -> Prop} {s : Shared}
theorem u7 {h : Heap} {a b : Int} {r : Addr} (t : Tk prog w h [a, b] r) : ∃ o n t1 t2, h.get? r = some o /\ o.cls = .type "tuple" /\ o.data = .seq #[.int a t1, .int b t2] n := by
 obtain ⟨o, items, n, ho, hc, hd, hi⟩ := t
 cases hi' : items.toList with
 | nil => rw [hi'] at hi; cases hi
 | cons v1 r1 =>
  rw [hi'] at hi
  cases hi with
  | cons h1 t1 =>
   cases t1 with
   | cons h2 t2 =>
    cases t2
    obtain ⟨x1, e1⟩ := Jh (k := a) h1
    obtain ⟨x2, e2⟩ := Jh (k := b) h2
    have e : items = #[.int a x1, .int b x2] := by
     apply Array.toList_inj.mp; rw [hi', e1, e2]
    exact ⟨o, n, x1, x2, ho, hc, by rw [hd, e]⟩
theorem CA {x y : Addr} {k k' : List Int} {Q : Bool -> Shared -> Prop} (hx : Tk prog w s.heap k x) (hy : Tk prog w s.heap k' y) (hk : k ∈ prs) (hk' : k' ∈ prs) (h : Q (decide (qj k < qj k')) s) :
  wpAny (model prog w) A (keyLt' (tuples' true) (.ref x) (.ref y)) Q E s := by
 obtain ⟨a, b, rfl, h1, h2, h3⟩ := ia hk
 obtain ⟨c, d, rfl, h4, h5, h6⟩ := ia hk'
 obtain ⟨o, n, t1, t2, ho, _, hd⟩ := u7 hx
 obtain ⟨o', n', t1', t2', ho', _, hd'⟩ := u7 hy
 have h' : Q (decide (a * 6 + b < c * 6 + d)) s := h
 refine kat_lt ho hd ho' hd' ?_
 show KatLex prog w A true (decide (2 < 2)) Q [(.int a t1, .int c t1'), (.int b t2, .int d t2')] 0 s
 refine kat_cons (Jk ?_)
 by_cases e1 : a = c
 ·rw [show (a == c) = true by simpa using e1]
  refine kat_yes (kat_cons (Jk ?_))
  by_cases e2 : b = d
  ·rw [show (b == d) = true by simpa using e2]
   refine kat_yes (kat_nil ?_)
   have : decide (a * 6 + b < c * 6 + d) = decide (2 < 2) := by rw [Ms]; omega
   rw [<- this]; exact h'
  ·rw [show (b == d) = false by simpa using e2]
   refine kat_no ?_
   show wpAny _ A (oneLt' false _ _) Q _ s
   refine kat_one _ _ (lt_int ?_)
   have : decide (a * 6 + b < c * 6 + d) = decide (b < d) := by rw [Ms]; omega
   show Q _ s
   rw [<- this]; exact h'
 ·rw [show (a == c) = false by simpa using e1]
  refine kat_no ?_
  show wpAny _ A (keyLt' oneType' _ _) Q _ s
  refine kat_lt_int ?_
  have : decide (a * 6 + b < c * 6 + d) = decide (a < c) := by rw [Ms]; omega
  rw [<- this]; exact h'
end
def ip (ps : List KP) : Prop := ps.Pairwise fun p q => qj p.1 < qj q.1
def aU (ps : List KP) : List Value := ps.map fun p => Value.ref p.2
section
variable {prog : Program} {w : World} {A : Around} {E : Value -> Shared -> Prop} {s : Shared}
theorem wg {h : Heap} : ∀ {ps : List KP}, (∀ p ∈ ps, p.1 ∈ prs) -> (∀ p ∈ ps, Tk prog w h p.1 p.2) -> ∃ fs, KatTups h (aU ps) fs /\ fs.length = ps.length /\ ∀ v ∈ fs, ∃ i t, v = Value.int i t
 | [], _, _ => ⟨[], KatTups.nil, rfl, fun v hv => by simp at hv⟩
 | p :: ps, hk, ht => by
  obtain ⟨fs, h1, h2, h3⟩ := wg (ps := ps) (fun q hq => hk q (Jy _ hq)) (fun q hq => ht q (Jy _ hq))
  obtain ⟨a, b, e, _⟩ := ia (hk p Jx)
  have t := ht p Jx
  rw [e] at t
  obtain ⟨o, n, t1, t2, ho, hc, hd⟩ := u7 t
  refine ⟨.int a t1 :: fs, KatTups.cons ho hc hd rfl h1, by rw [K2, K2, h2], fun v hv => ?_⟩
  rcases Jz.mp hv with q | q
  ·exact ⟨a, t1, q⟩
  ·exact h3 v q
theorem E8 {ps : List KP} (hk : ∀ p ∈ ps, p.1 ∈ prs) (hn : (ps.map (·.1)).Nodup) {p : Array Nat} (g : eE ps.length p) (ha : Bi (fun i => qj (ps.getD i ([], 0)).1) p ps.length) :
  ∃ out : List KP, (p.toList.map fun i => (aU ps).getD i Value.none) = aU out /\ out.Perm ps /\ ip out := by
 refine ⟨p.toList.map fun i => ps.getD i ([], 0), ?_, ?_, ?_⟩
 ·unfold aU
  rw [Ln]
  refine Lo fun i hi => ?_
  have hi' : i < ps.length := Jt.mp (g.perm.mem_iff.mp hi)
  simp [Mt, hi']
 ·refine (g.perm.map _).trans ?_
  have : (List.range ps.length).map (fun i => ps.getD i ([], 0)) = ps := by
   apply Mu
   intro i
   rw [Ke]
   by_cases hi : i < ps.length
   ·rw [Mv hi]; simp [hi]
   ·rw [Mw (by simpa using hi), Mw (by omega)]; rfl
  rw [this]
 ·unfold ip
  rw [Mx]
  refine List.pairwise_iff_getElem.mpr fun i j hi hj hij => ?_
  have hi' : i < p.size := by simpa using hi
  have hj' : j < p.size := by simpa using hj
  have := ha i j hij (by rw [<- g.size]; exact hj')
  unfold at' at this
  simpa [Array.getD, hi', hj'] using this
theorem vv {a : Addr} {ps : List KP} {n : Nat} {P : PySem.Fin -> Shared -> Prop} (ho : s.heap.get? a = some (seqObj "list" (aU ps).toArray n)) (hk : ∀ p ∈ ps, p.1 ∈ prs) (hn : (ps.map (·.1)).Nodup) (hT : ∀ p ∈ ps, Tk prog w s.heap p.1 p.2)
  (h : ∀ out : List KP, out.Perm ps -> ip out -> P (.done (.ret .none)) { s with heap := sortedHeap s.heap a (aU ps) (aU out).toArray }) :
  wpAny (model prog w) A (Builtin.«list.sort» ⟨[.ref a], []⟩) P E s := by
 have hlen := kq hk hn
 have hvl : (aU ps).length = ps.length := by unfold aU; rw [Kh]
 rw [list_sort_plain]
 have hal : a < s.heap.objs.size := Jo ho
 refine JM (listItems_at ho rfl ?_)
 refine JM (My ho rfl ?_ (by rw [J3, hvl]; exact Ju hlen (by decide)) (Lb _))
 obtain ⟨e1, ho1⟩ : ∃ e1, (s.heap.update a (Obj.mapSeq fun _ => #[])).get? a = some (seqObj "list" #[] e1) := ⟨_, Mz ho (fun _ => #[])⟩
 refine JM (seqEpoch_at ho1 rfl ?_)
 refine JM (wpAny_newTuple ?_)
 refine JM (MF ?_)
 refine JN ?_
 have ho6 : (((s.heap.update a (Obj.mapSeq fun _ => #[])).push (seqObj "tuple" (aU ps).toArray 0)).push (seqObj "list" #[] 0)).get? a = some (seqObj "list" #[] e1) := by
  rw [Ll _ _ _ (by rw [MH, MJ]; exact Jr (K4 hal)), Ll _ _ _ (by rw [MJ]; exact Jr hal)]
  exact ho1
 show wpAny (model prog w) A _ P E { s with heap := ((s.heap.update a (Obj.mapSeq fun _ => #[])).push (seqObj "tuple" (aU ps).toArray 0)).push (seqObj "list" #[] 0) }
 dsimp only
 have hna : ∀ p ∈ ps, p.2 ≠ a := fun p hp e => by
  obtain ⟨o, items, m, ho', hc', _⟩ := hT p hp
  rw [e, ho] at ho'
  have := Jn ho'
  subst this
  exact absurd (show Value.type "list" = Value.type "tuple" from hc') (by decide)
 generalize hS : ({ s with heap := ((s.heap.update a (Obj.mapSeq fun _ => #[])).push (seqObj "tuple" (aU ps).toArray 0)).push (seqObj "list" #[] 0) } : Shared) = s1
 have eh1 : s1.heap = ((s.heap.update a (Obj.mapSeq fun _ => #[])).push (seqObj "tuple" (aU ps).toArray 0)).push (seqObj "list" #[] 0) := by rw [<- hS]
 have hT1 : ∀ p ∈ ps, Tk prog w s1.heap p.1 p.2 := fun p hp => by
  obtain ⟨o, items, m, ho', rest⟩ := hT p hp
  refine ⟨o, items, m, ?_, rest⟩
  rw [eh1]
  refine JT _ (JT _ ?_)
  rw [MK _ _ _ _ (hna p hp)]
  exact ho'
 rw [<- eh1] at ho6
 have hfin : ∀ out : List KP, out.Perm ps -> ip out -> P (.done (.ret .none)) { s1 with heap := s1.heap.update a (Obj.mapSeq fun _ => (aU out).toArray) } := fun out h1 h2 => by
  have q := h out h1 h2
  rw [<- hS]
  exact q
 have hszv : (aU ps).toArray.size = ps.length := by rw [J3, hvl]
 by_cases h2 : (aU ps).toArray.size < 2
 ·rw [Jl h2, Jl h2]
  refine JM (JQ ?_)
  rw [StateT.run_pure]
  refine JM (JQ ?_)
  dsimp only
  refine JM (seqEpoch_at ho6 rfl ?_)
  have eo : (arrOf (SortSt.mk' general' ((aU ps).toArray.zip (aU ps).toArray) #[] 7 none)).map (·.2) = (aU ps).toArray := by
   show (((aU ps).toArray.zip (aU ps).toArray)).map (·.2) = _
   apply Array.toList_inj.mp
   rw [Array.toList_map, Array.toList_zip]
   exact List.map_snd_zip (JV _)
  rw [eo]
  refine JM (My ho6 rfl ?_ (Lb _) (by show (aU ps).toArray.size <= _; rw [hszv]; exact Ju hlen (by decide)))
  simp only [ML, K1, Ko]
  refine JQ (hfin ps (List.Perm.refl _) ?_)
  rw [hszv] at h2
  match ps, h2 with
  | [], _ => exact List.Pairwise.nil
  | [_], _ => exact List.pairwise_singleton _ _
  | _ :: _ :: _, h => rw [K2, K2] at h; omega
 ·rw [Jm h2, Jm h2]
  rw [hszv] at h2
  obtain ⟨fs, k1, k2, k3⟩ := wg hk hT1
  refine JM (kat_kind (T := Value.type "int") k1 (by omega) (fun v hv => ?_) (by rfl) ?_)
  ·obtain ⟨i, t, e⟩ := k3 v hv
   rw [e]; exact .now
  ·have et : (Value.type "int" != Value.type "tuple") = true := by decide
   rw [et]
   refine JM (JH (kat_run (ks := aU ps) (vs := aU ps) (Q := fun st' s' => s' = s1 /\ failedOf st' = none /\ ∃ out : List KP, out.Perm ps /\ ip out /\ (arrOf st').map (·.2) = (aU out).toArray)
    (G := fun p s' => s' = s1 /\ ∃ out : List KP, (p.toList.map fun i => (aU ps).getD i Value.none) = aU out /\ out.Perm ps /\ ip out) rfl (by rw [hvl]; omega) (by rw [hvl]; omega) ?_ ?_) ?_ fun _ _ e => e)
   ·rintro p st' s' hp har hf ⟨e, out, o1, o2, o3⟩
    exact ⟨e, hf, out, o2, o3, by rw [kat_snds rfl har, o1]⟩
   ·rw [hvl]
    refine BU (key := fun i => qj (ps.getD i ([], 0)).1) (fun i j hi hj e => ?_) (fun i j hi hj C hC => ?_) (by omega) _ (fun p g ha => ⟨rfl, E8 hk hn g ha⟩)
    ·have hi' : ps.getD i ([], 0) = ps[i] := by simp [Mt, hi]
     have hj' : ps.getD j ([], 0) = ps[j] := by simp [Mt, hj]
     simp only [hi', hj'] at e
     have e2 := Dg (hk _ (MM hi)) (hk _ (MM hj)) e
     have hil : i < (ps.map (·.1)).length := by rw [Kh]; exact hi
     have hjl : j < (ps.map (·.1)).length := by rw [Kh]; exact hj
     exact (JE (h₀ := hil) (h₁ := hjl) hn).mp (by simpa using e2)
    ·unfold kas_ask
     have gi : (aU ps).getD i Value.none = .ref ps[i].2 := by unfold aU; simp [Mt, hi]
     have gj : (aU ps).getD j Value.none = .ref ps[j].2 := by unfold aU; simp [Mt, hj]
     have hi' : ps.getD i ([], 0) = ps[i] := by simp [Mt, hi]
     have hj' : ps.getD j ([], 0) = ps[j] := by simp [Mt, hj]
     rw [gi, gj]
     simp only [hi', hj'] at hC
     exact CA (hT1 _ (MM hi)) (hT1 _ (MM hj)) (hk _ (MM hi)) (hk _ (MM hj)) hC
   ·rintro ⟨⟨⟩, st'⟩ s' ⟨rfl, hf, out, o1, o2, o3⟩
    dsimp only
    refine JM (seqEpoch_at ho6 rfl ?_)
    rw [o3]
    refine JM (My ho6 rfl ?_ (Lb _) (by show (aU out).toArray.size <= _; rw [J3]; unfold aU; rw [Kh, o1.length_eq]; exact Ju hlen (by decide)))
    rw [hf]
    simp only [ML, K1, Ko]
    exact JQ (hfin out o1 o2)
end
end RS
namespace RS
open PySem PySem.W PyProof.Rows
namespace Fx
theorem slot_setiter_next : Slot "set_iterator" "__next__" "set_iterator.__next__" :=
 .of (owner := "set_iterator") (n := "__next__") (by rw [typeLookup_type, builtinLookup_eq_fast]; kernel_rfl) (by decide +kernel) (by decide +kernel) (by decide +kernel)
  (by first | exact .inl (by decide +kernel) | exact .inr (by decide +kernel)) (by rw [Mg]; kernel_rfl)
theorem entry_setiter_next : entryFor table "set_iterator.__next__" = some Builtin.«set_iterator.__next__» := entryFor_of_fast (by kernel_rfl)
theorem args_setiter_next (a : Value) : argsOk "set_iterator.__next__" ⟨[a], []⟩ := by unfold argsOk; kernel_rfl
theorem entry_set_iter : entryFor table "set.__iter__" = some Builtin.«frozenset.__iter__» :=
 entryFor_alias (id' := "frozenset.__iter__") (by kernel_rfl) rfl (by decide +kernel) (by kernel_rfl)
end Fx
def dy (h : Heap) (I S : Addr) (i n ep slot : Nat) : Prop := h.get? I = some { cls := .type "set_iterator", dict := none, data := .fields #[.int (slot : Int) 0, .int (i : Int) 0, .ref S, .int (n : Int) 0, .int (ep : Int) 0], slots := #[] }
def dC (w : World) (S : Addr) (ep : Nat) (es : Array (Int × Value)) : List (Int × Value) := if w.params.followText "set-order" then (pickOrder (w.params.setOrder S ep) es).toList else es.toList
def dh (w : World) (Z : List (Nat × Int × Value)) (i : Nat) : Nat := if w.params.followText "set-order" then 0 else if i = 0 then 0 else (Z.getD (i - 1) (0, 0, .none)).1 + 1
theorem qD {α : Type} (next : Nat -> Nat) : ∀ (fuel k : Nat) (left : List α) (out : Array α), left.length = fuel -> (pickOrder.go next fuel k left out).toList.Perm (out.toList ++ left)
 | 0, k, left, out, h => by
  have : left = [] := List.length_eq_zero_iff.mp h
  subst this
  show out.toList.Perm (out.toList ++ [])
  rw [J4]
 | fuel + 1, k, left, out, h => by
  have hlt : next k % left.length < left.length := Nat.mod_lt _ (by omega)
  show (match left[next k % left.length]? with | some x => _ | none => _ : Array α).toList.Perm _
  rw [MN hlt]
  show (pickOrder.go next fuel (k + 1) (left.eraseIdx (next k % left.length)) (out.push left[next k % left.length])).toList.Perm _
  refine (qD next fuel (k + 1) _ _ (by rw [List.length_eraseIdx_of_lt hlt]; omega)).trans ?_
  rw [Array.toList_push, KQ]
  refine List.Perm.append_left _ ?_
  rw [List.singleton_append, List.eraseIdx_eq_take_drop_succ]
  have q : (left.take (next k % left.length) ++ left[next k % left.length] :: left.drop (next k % left.length + 1)) = left := by
   rw [List.getElem_cons_drop]; exact LD _ _
  have q2 := (List.perm_middle (a := left[next k % left.length]) (l₁ := left.take (next k % left.length)) (l₂ := left.drop (next k % left.length + 1))).symm
  rw [q] at q2
  exact q2
theorem j8 {w : World} {S : Addr} {ep : Nat} {es : Array (Int × Value)} : (dC w S ep es).Perm es.toList := by
 unfold dC
 split
 ·have := qD (w.params.setOrder S ep) es.size 0 es.toList #[] (by simp)
  simpa [pickOrder] using this
 ·exact List.Perm.refl _
theorem Bc {t : SetTable} {es : Array (Int × Value)} {Z : List (Nat × Int × Value)} (T : qk t es Z) {w : World} (hb : w.params.followText "set-order" = false) {i : Nat} (hi : i <= Z.length) : SetTable.below t.place (dh w Z i) = i := by
 have r : Bh t.place.toList := by rw [T.place]; exact T.ris
 obtain ⟨b1, b2, b3⟩ := lu r (dh w Z i)
 have hsz := T.size.1
 have gz : ∀ k, k < Z.length -> t.place.getD k (dh w Z i) = (Z.getD k (0, 0, .none)).1 := fun k hk => by
  have e : t.place[k]? = some (Z[k]).1 := by rw [<- KU, T.place, Ke, MN hk]; rfl
  rw [LJ, e, Mt, MN hk]; rfl
 have hris : ∀ a b, a < b -> b < Z.length -> (Z.getD a (0, 0, .none)).1 < (Z.getD b (0, 0, .none)).1 := fun a b hab hbz => by
  rw [<- gz a (by omega), <- gz b hbz]
  exact rV r _ a b hab (by omega)
 have hs : dh w Z i = if i = 0 then 0 else (Z.getD (i - 1) (0, 0, .none)).1 + 1 := by
  unfold dh; rw [hb, Jm J1]
 by_cases h0 : i = 0
 ·rw [Jl h0] at hs
  rw [hs] at b2 ⊢
  by_cases hz : SetTable.below t.place 0 = 0
  ·rw [hz, h0]
  ·have := b2 0 (by omega); omega
 ·rw [Jm h0] at hs
  have hlo : ¬ SetTable.below t.place (dh w Z i) <= i - 1 := fun hle => by
   have := b3 (i - 1) hle (by omega)
   rw [gz _ (by omega)] at this
   omega
  have hhi : ¬ i < SetTable.below t.place (dh w Z i) := fun hlt => by
   have := b2 i hlt
   have hiz : i < Z.length := by omega
   rw [gz i hiz] at this
   have := hris (i - 1) i (by omega) hiz
   omega
  omega
section
variable {prog : Program} {w : World} {A : Around} {E : Value -> Shared -> Prop} {s : Shared}
theorem tV {a : Addr} {ps : List (Int × Value)} {o es ep t Z} {i : Nat} {Q : Option (Value × Nat) -> Shared -> Prop} (S : dO w s.heap a ps o es ep t Z) (hi : i <= Z.length)
  (h : Q (((dC w a ep es)[i]?).map fun e => (e.2, dh w Z (i + 1))) s) : wpAny (model prog w) A (setNext a (dh w Z i) i ep) Q E s := by
 unfold setNext
 refine JM (LZ S.ho S.hd S.fits ?_)
 dsimp only
 unfold setsByText
 refine JM (JM (K8 (JQ ?_)))
 cases hb : w.params.followText "set-order" with
 | true =>
  have e1 : dC w a ep es = (pickOrder (w.params.setOrder a ep) es).toList := by unfold dC; rw [hb, Jl rfl]
  have e2 : ∀ j, dh w Z j = 0 := fun j => by unfold dh; rw [hb, Jl rfl]
  rw [e1, e2] at h
  show wpAny _ _ (if (w.params.followText "set-order") = true then _ else _) _ _ _
  rw [hb, Jl rfl]
  rw [Jm (by simp)]
  refine JM ?_
  unfold setWalk
  refine JM (LZ S.ho S.hd S.fits ?_)
  dsimp only
  unfold setsByText
  refine JM (JM (K8 (JQ ?_)))
  show wpAny _ _ (if (w.params.followText "set-order") = true then _ else _) _ _ _
  rw [hb, Jl rfl]
  refine JM (K8 (JQ (JQ ?_)))
  rw [e2, <- KU]
  exact h
 | false =>
  have e1 : dC w a ep es = es.toList := by unfold dC; rw [hb, Jm J1]
  have hled : t.led = true := by rw [S.led, hb]; rfl
  show wpAny _ _ (if (w.params.followText "set-order") = true then _ else _) _ _ _
  rw [hb, Jm J1]
  have hdr : (!t.plain && decide (es.size > 1)) = false := by rw [S.plain]; rfl
  show wpAny _ _ (if (!t.plain && decide (es.size > 1)) = true then _ else _) _ _ _
  rw [hdr, Jm J1]
  refine JM ?_
  show wpAny _ _ (if (!t.led && !es.isEmpty) = true then _ else _) _ _ _
  rw [hled]
  simp only [LX, JS, K1, Ko]
  refine JQ (JQ ?_)
  rw [Bc S.tab hb hi]
  rw [e1, KU] at h
  by_cases hlt : i < Z.length
  ·have ez : Z[i]? = some Z[i] := MN hlt
   have ee := S.tab.hashAt ez
   have ep' : t.place[i]? = some (Z[i]).1 := by rw [<- KU, S.tab.place, Ke, ez]; rfl
   rw [ee, ep']
   rw [ee] at h
   have es' : dh w Z (i + 1) = (Z[i]).1 + 1 := by
    unfold dh
    rw [hb, Jm J1, Jm (by omega), Nat.add_sub_cancel, Mt, ez]; rfl
   rw [es'] at h
   exact h
  ·have : es[i]? = none := by rw [LN, S.tab.size.2]; omega
   rw [this]
   rw [this] at h
   exact h
end
end RS
namespace RS
open PySem PySem.W PyProof.Rows
section
variable {prog : Program} {w : World} {A : Around} {E : Value -> Shared -> Prop} {s : Shared}
theorem dy.typeIs {I S : Addr} {i n ep slot : Nat} (h : dy s.heap I S i n ep slot) : s.TypeIs (.ref I) "set_iterator" := ⟨_, h, rfl⟩
theorem gh {a : Addr} {ps : List (Int × Value)} {o es ep t Z} (S : dO w s.heap a ps o es ep t Z) : s.TypeIs (.ref a) "set" := ⟨o, S.ho, S.ex.1⟩
theorem Ae {a : Addr} {ps : List (Int × Value)} {o es ep t Z} {Q : Value -> Shared -> Prop} (S : dO w s.heap a ps o es ep t Z)
  (hQ : Q (.ref s.heap.objs.size) { s with heap := s.heap.push { cls := .type "set_iterator", data := .fields #[.int ((0 : Nat) : Int) 0, .int ((0 : Nat) : Int) 0, .ref a, .int (Z.length : Int) 0, .int (ep : Int) 0] } }) :
  wpAny (model prog w) A (pyIter (.ref a)) Q E s := by
 refine wpAny_pyIter_slot (gh S) PySem.F.slot_set_iter (Kx PySem.F.slot_set_iter (gh S) Fx.entry_set_iter ?_ (PySem.F.args_set_iter_1 _))
 unfold Builtin.«frozenset.__iter__» Builtin.Frozenset.sizeOf
 refine JM (m := Builtin.Frozenset.slot0 "__iter__" _) (La (a := a) rfl ?_)
 refine JM (JM (MP S.ho S.hd S.fits (JQ ?_)))
 unfold setDrawn
 refine JM (JM (LZ S.ho S.hd S.fits ?_))
 dsimp only
 unfold setsByText
 refine JM (JM (K8 (JQ (JQ ?_))))
 have hdr : (!w.params.followText "set-order" && (!t.plain && decide (es.size > 1))) = false := by rw [S.plain]; simp
 show wpAny _ _ (if (!w.params.followText "set-order" && (!t.plain && decide (es.size > 1))) = true then _ else _) _ _ _
 rw [hdr, Jm J1]
 refine JM (JQ ?_)
 refine JM (wpAny_setEpoch_of S.ho S.hd S.fits ?_)
 refine JM (KD (JQ ⟨_, rfl, "set_iterator", _, ⟨_, JU _ rfl, rfl⟩, Fx.slot_setiter_next.lookup, ?_⟩))
 rw [S.tab.size.2]
 exact hQ
theorem Af {I a : Addr} {ps : List (Int × Value)} {o es ep t Z} {i : Nat} {v : Int × Value} {Q : Option Value -> Shared -> Prop} (S : dO w s.heap a ps o es ep t Z) (hit : dy s.heap I a i Z.length ep (dh w Z i)) (hv : (dC w a ep es)[i]? = some v)
  (hQ : ∀ h', dy h' I a (i + 1) Z.length ep (dh w Z (i + 1)) -> Heap.SameBut I s.heap h' -> Q (some v.2) { s with heap := h' }) : wpAny (model prog w) A (pyNext (.ref I)) Q E s := by
 have hT := hit.typeIs
 have hoi := hit
 unfold dy at hoi
 have hil : i < Z.length := by
  have := (JD.mp hv).1
  rw [j8.length_eq, JJ, S.tab.size.2] at this
  exact this
 unfold pyNext
 refine JM (wpAny_attempt (Kv (name := Str.ofString "__next__") hT Fx.slot_setiter_next (Kx Fx.slot_setiter_next hT Fx.entry_setiter_next ?_ (Fx.args_setiter_next _))))
 unfold Builtin.«set_iterator.__next__»
 refine JM (m := slotArgs "__next__" 0 _) (La (a := (.ref I, [])) rfl ?_)
 dsimp only
 unfold fieldsOf
 refine JM (JM (JR hoi ?_))
 refine JQ ?_
 refine JM (MP S.ho S.hd S.fits ?_)
 rw [S.tab.size.2]
 simp only [ML, K1, Ko, Km]
 refine JM (tV S (Jv hil) ?_)
 rw [hv]
 dsimp only [Option.map_some]
 refine JM (MQ hoi (by simp) fun h1 e1 sb1 => ?_)
 refine JM (MQ (s := { s with heap := h1 }) e1 (by simp) fun h2 e2 sb2 => ?_)
 refine JQ ⟨v.2, rfl, JQ (hQ h2 ?_ (sb1.trans sb2))⟩
 unfold dy
 rw [e2]
 simp [rawInt]
theorem B2 {I a : Addr} {ps : List (Int × Value)} {o es ep t Z} {Q : Option Value -> Shared -> Prop} (hh : A.handled = none) (S : dO w s.heap a ps o es ep t Z) (hit : dy s.heap I a Z.length Z.length ep (dh w Z Z.length))
  (hQ : ∀ h', Heap.ExtBut I s.heap h' -> Q none { s with heap := h' }) : wpAny (model prog w) A (pyNext (.ref I)) Q E s := by
 have hT := hit.typeIs
 have hoi := hit
 unfold dy at hoi
 have hv : (dC w a ep es)[Z.length]? = none := by
  rw [List.getElem?_eq_none_iff, j8.length_eq, JJ, S.tab.size.2]
  exact JV _
 unfold pyNext
 refine JM (wpAny_attempt (Kv (name := Str.ofString "__next__") hT Fx.slot_setiter_next (Kx Fx.slot_setiter_next hT Fx.entry_setiter_next ?_ (Fx.args_setiter_next _))))
 unfold Builtin.«set_iterator.__next__»
 refine JM (m := slotArgs "__next__" 0 _) (La (a := (.ref I, [])) rfl ?_)
 dsimp only
 unfold fieldsOf
 refine JM (JM (JR hoi ?_))
 refine JQ ?_
 refine JM (MP S.ho S.hd S.fits ?_)
 rw [S.tab.size.2]
 simp only [ML, K1, Ko, Km]
 refine JM (tV S (JV _) ?_)
 rw [hv]
 dsimp only [Option.map_none]
 refine JM (MQ hoi (by simp) fun h1 e1 sb1 => ?_)
 refine JM ?_
 simp only [newExc, newTuple]
 refine JM (KD ?_ (by size_fits))
 refine JM (m := firstArgMember _ _) (La (a := Value.none) (by first | rfl | (simp only [firstArgMember]; rfl)) ?_)
 refine KD ?_ (by size_fits)
 simp only [raiseNew]
 refine JM (wpAny_handled ?_)
 rw [show A.in1.handled = none from hh]
 refine JM (JQ (wpAny_throw ?_))
 refine JM (wpAny_isInstance (T := "StopIteration") (b := true) ⟨_, JU _ rfl, rfl⟩ isSubtype_stop ?_)
 exact JQ (hQ _ ((sb1.extBut.push _).push _))
end
end RS
namespace RS
open PySem PySem.W PyProof.Rows
namespace Fx
theorem entry_extend_loop : entryFor table "list.extend.loop" = some Builtin.«list.extend.loop» := entryFor_of_fast (by kernel_rfl)
theorem plain_extend_loop : plainId "list.extend.loop" = true := by decide +kernel
theorem split_set_len : splitId "set.__len__" = some ("set", "__len__") := by decide +kernel
end Fx
section
variable {prog : Program} {w : World} {A : Around} {E : Value -> Shared -> Prop} {s : Shared}
theorem uL {a : Addr} {ps : List (Int × Value)} {o es ep t Z} {Q : Bool -> Shared -> Prop} (S : dO w s.heap a ps o es ep t Z) (h : Q false s) : wpAny (model prog w) A (Builtin.List.listLengthHint (.ref a)) Q E s := by
 unfold Builtin.List.listLengthHint
 refine JM (wpAny_specialOf (gh S) PySem.F.slot_set_len.lookup ?_)
 dsimp only
 rw [Fx.split_set_len]
 dsimp only
 refine JM (wpAny_isInstance (gh S) sub_set_self ?_)
 simp only [LX, K1, Ko]
 rw [Jl (by rfl)]
 refine JM (KB (gh S) ?_)
 exact JQ h
theorem uM {R : Result -> Shared -> Prop} {I a L : Addr} {ps : List (Int × Value)} {o es ep t Z} (hh : A.handled = none) (hIa : I ≠ a) (hIL : I ≠ L) (hLa : L ≠ a) (hz : Z.length <= 100) :
  ∀ (k i n : Nat) (s : Shared), Z.length - i = k -> i <= Z.length -> dO w s.heap a ps o es ep t Z -> dy s.heap I a i Z.length ep (dh w Z i) -> s.heap.get? L = some (seqObj "list" (((dC w a ep es).take i).map (·.2)).toArray n) ->
   (∀ h' m, (∀ b u, b ≠ I -> b ≠ L -> s.heap.get? b = some u -> h'.get? b = some u) -> h'.get? L = some (seqObj "list" ((dC w a ep es).map (·.2)).toArray m) -> R (.ok (.ret (.ref L))) { s with heap := h' }) ->
   codeAny (model prog w) A (.builtin "list.extend.loop" ⟨[.ref L, .ref I, .ref L], []⟩) R s := by
 intro k
 induction k with
 | zero =>
  intro i n s ek hi S hit hL hR
  have e : i = Z.length := by omega
  subst e
  refine Mc Fx.entry_extend_loop ?_
  rw [Md Fx.plain_extend_loop _]
  show wpAny _ A.in1 (pyNext (.ref I) >>= _) _ _ s
  refine JM (B2 (by simpa using hh) S hit fun h' eb => ?_)
  show wpAny _ A.in1 (ret (.ref L)) _ _ _
  refine JQ (hR h' n (fun b u hb _ q => eb b u hb q) ?_)
  rw [Lx (by rw [j8.length_eq, JJ, S.tab.size.2]; exact JV _)] at hL
  exact eb L _ (JA hIL) hL
 | succ k ih =>
  intro i n s ek hi S hit hL hR
  have hil : i < (dC w a ep es).length := by rw [j8.length_eq, JJ, S.tab.size.2]; omega
  refine Mc Fx.entry_extend_loop ?_
  rw [Md Fx.plain_extend_loop _]
  show wpAny _ A.in1 (pyNext (.ref I) >>= _) _ _ s
  refine JM (Af S hit (MN hil) fun h' hit' sb => ?_)
  have hL' : h'.get? L = some (seqObj "list" (((dC w a ep es).take i).map (·.2)).toArray n) := (sb.2 L (JA hIL)).trans hL
  have hsz : (((dC w a ep es).take i).map (·.2)).toArray.size <= 100 := by
   rw [J3, Kh, Ka]; omega
  show wpAny _ A.in1 (Builtin.List.listUpdate (.ref L) _ >>= _) _ _ _
  refine JM (My (s := { s with heap := h' }) hL' rfl ?_ (Ju hsz (by decide)) (by rw [Array.size_push]; exact Ju (Nat.succ_le_succ hsz) (by decide)))
  have hL2 := Mz hL' (·.push ((dC w a ep es)[i]).2)
  have eL : (((dC w a ep es).take i).map (·.2)).toArray.push ((dC w a ep es)[i]).2 = (((dC w a ep es).take (i + 1)).map (·.2)).toArray := by
   have q : (dC w a ep es).take (i + 1) = (dC w a ep es).take i ++ [(dC w a ep es)[i]] := by rw [Mo, MN hil]; rfl
   rw [q, LG, List.push_toArray]; rfl
  rw [eL] at hL2
  have hsb2 := Lh h' L (Obj.mapSeq (·.push ((dC w a ep es)[i]).2))
  refine JQ ⟨Mf Fx.plain_extend_loop _, ih (i + 1) _ _ (by omega) (by omega) ?_ ?_ hL2 fun h'' m kk hm => ?_⟩
  ·refine ⟨?_, S.ex, S.hd, S.tab, S.plain, S.led, S.big, S.perm⟩
   exact (hsb2.2 a (JA hLa)).trans ((sb.2 a (JA hIa)).trans S.ho)
  ·exact (hsb2.2 I hIL).trans hit'
  ·refine hR h'' m (fun b u hb1 hb2 q => kk b u hb1 hb2 ?_) hm
   exact (hsb2.2 b hb2).trans ((sb.2 b hb1).trans q)
theorem l5 {α β : Type} {f : α -> β} {l m : List β} (h : l.Perm m) : ∀ ps : List α, m = ps.map f -> ∃ qs : List α, qs.Perm ps /\ l = qs.map f := by
 induction h with
 | nil =>
  intro ps e
  have : ps = [] := List.map_eq_nil_iff.mp e.symm
  exact ⟨[], by rw [this], rfl⟩
 | cons x _ ih =>
  intro ps e
  cases ps with
  | nil => cases e
  | cons p ps =>
   rw [KF] at e
   obtain ⟨qs, h1, h2⟩ := ih ps (Lr e).2
   exact ⟨p :: qs, h1.cons p, by rw [KF, <- h2, (Lr e).1]⟩
 | swap x y l =>
  intro ps e
  match ps, e with
  | p :: q :: r, e =>
   rw [KF, KF] at e
   obtain ⟨e1, e2⟩ := Lr e
   obtain ⟨e2, e3⟩ := Lr e2
   exact ⟨q :: p :: r, List.Perm.swap _ _ _, by rw [KF, KF, e1, e2, e3]⟩
 | trans _ _ ih1 ih2 =>
  intro ps e
  obtain ⟨qs, h1, h2⟩ := ih2 ps e
  obtain ⟨rs, h3, h4⟩ := ih1 qs h2
  exact ⟨rs, h3.trans h1, h4⟩
theorem ni {a : Addr} {ps : List (Int × Value)} {o es ep t Z} {Q : List Value -> Shared -> Prop} (hh : A.handled = none) (S : dO w s.heap a ps o es ep t Z) (hz : Z.length <= 100)
  (h : ∀ qs : List (Int × Value), qs.Perm ps -> ∀ h', (∀ b u, s.heap.get? b = some u -> h'.get? b = some u) -> s.heap.objs.size <= h'.objs.size -> Q (qs.map (·.2)) { s with heap := h' }) : wpAny (model prog w) A (collect (.ref a)) Q E s := by
 have hal : a < s.heap.objs.size := Jo S.ho
 unfold collect
 refine JM (Mm (Mc entry_proto_collect' ?_))
 show wpAny _ _ (do again (.builtin "list.__iadd__" ⟨[<- newList [], .ref a], []⟩)) _ _ s
 refine JM (MF (JQ ⟨Mi _ (by decide +kernel), Mc entry_list_iadd' ?_⟩))
 show wpAny _ _ (Builtin.List.listExtendWith (.ref s.heap.objs.size) (.ref a) (.ref s.heap.objs.size)) _ _ { s with heap := s.heap.push (seqObj "list" #[] 0) }
 have S1 : dO w (s.heap.push (seqObj "list" #[] 0)) a ps o es ep t Z := ⟨JT _ S.ho, S.ex, S.hd, S.tab, S.plain, S.led, S.big, S.perm⟩
 unfold Builtin.List.listExtendWith
 refine JM (KB (gh (s := { s with heap := s.heap.push (seqObj "list" #[] 0) }) S1) ?_)
 have hsame : Builtin.List.listSameRef (.ref s.heap.objs.size) (.ref a) = false := by
  show (s.heap.objs.size == a) = false
  simpa using JP hal
 rw [hsame, Jm (by decide)]
 refine JM (Ae (s := { s with heap := s.heap.push (seqObj "list" #[] 0) }) S1 ?_)
 dsimp only
 generalize hH : (s.heap.push (seqObj "list" #[] 0)).push { cls := .type "set_iterator", data := .fields #[.int ((0 : Nat) : Int) 0, .int ((0 : Nat) : Int) 0, .ref a, .int (Z.length : Int) 0, .int (ep : Int) 0] } = H2
 have eI : (s.heap.push (seqObj "list" #[] 0)).objs.size = s.heap.objs.size + 1 := by rw [MH]
 have hk2 : ∀ b u, s.heap.get? b = some u -> H2.get? b = some u := fun b u q => by rw [<- hH]; exact JT _ (JT _ q)
 have S2 : dO w H2 a ps o es ep t Z := ⟨hk2 a o S.ho, S.ex, S.hd, S.tab, S.plain, S.led, S.big, S.perm⟩
 have hL2 : H2.get? s.heap.objs.size = some (seqObj "list" #[] 0) := by rw [<- hH]; exact JT _ (JU _ rfl)
 have hI2 : H2.get? (s.heap.objs.size + 1) = some { cls := .type "set_iterator", data := .fields #[.int ((0 : Nat) : Int) 0, .int ((0 : Nat) : Int) 0, .ref a, .int (Z.length : Int) 0, .int (ep : Int) 0] } := by
  rw [<- hH, <- eI]; exact JU _ rfl
 rw [eI]
 refine JM (JN (uL (s := { s with heap := H2 }) S2 ?_))
 rw [Jl (by rfl)]
 refine JM (K9 ?_)
 refine JM ?_
 unfold Builtin.List.listTouch
 refine JM (My (s := { s with heap := H2 }) hL2 rfl ?_ (Lb _) (by decide))
 have hL3 := Mz hL2 (·.push Value.none)
 refine My (s := { s with heap := H2.update s.heap.objs.size (Obj.mapSeq (·.push Value.none)) }) hL3 rfl ?_ (by decide) (by decide)
 have hL4 := Mz hL3 (·.pop)
 have sb3 := Lh H2 s.heap.objs.size (Obj.mapSeq (·.push Value.none))
 have sb4 := (sb3.trans (Lh (H2.update s.heap.objs.size (Obj.mapSeq (·.push Value.none))) s.heap.objs.size (Obj.mapSeq (·.pop))))
 generalize hH4 : (H2.update s.heap.objs.size (Obj.mapSeq (·.push Value.none))).update s.heap.objs.size (Obj.mapSeq (·.pop)) = H4 at hL4 sb4
 have neL : a ≠ s.heap.objs.size := Jr hal
 have neI : s.heap.objs.size + 1 ≠ s.heap.objs.size := Nat.succ_ne_self _
 refine JQ ⟨Mi _ (by decide +kernel), ?_⟩
 refine uM (by simpa using hh) (JP (K4 hal)) neI (JA neL) hz (Z.length - 0) 0 _ { s with heap := H4 } (by omega) (Lb _)
  ⟨(sb4.2 a neL).trans S2.ho, S.ex, S.hd, S.tab, S.plain, S.led, S.big, S.perm⟩ ?_ (by rw [List.take_zero]; exact hL4) fun h' m kk hm => ?_
 ·unfold dy
  have e0 : dh w Z 0 = 0 := by unfold dh; split <;> simp
  rw [e0]
  exact (sb4.2 _ neI).trans hI2
 ·dsimp only
  refine JM (JR hm ?_)
  refine JQ ?_
  have hp : (dC w a ep es).Perm ps := j8.trans (by rw [S.tab.ents]; exact S.perm)
  have fin := h (dC w a ep es) hp h' fun b u q => by
   have hb : b < s.heap.objs.size := Jo q
   exact kk b u (Jr (K4 hb)) (Jr hb) ((sb4.2 b (Jr hb)).trans (hk2 b u q))
  exact fin (Jv (Jo hm))
theorem uN {a : Addr} {ps : List KP} {Q : List Value -> Shared -> Prop} (hh : A.handled = none) (S : eD w s.heap a ps)
  (h : ∀ qs : List KP, qs.Perm ps -> ∀ h', (∀ b u, s.heap.get? b = some u -> h'.get? b = some u) -> s.heap.objs.size <= h'.objs.size -> Q (aU qs) { s with heap := h' }) : wpAny (model prog w) A (collect (.ref a)) Q E s := by
 obtain ⟨o, es, ep, t, Z, S, hk, hn⟩ := S
 have h15 := kq hk hn
 refine ni hh S (by rw [S.len, Kh]; omega) fun qs hq h' k1 k2 => ?_
 obtain ⟨rs, q1, q2⟩ := l5 hq ps rfl
 have q3 : qs.map (·.2) = aU rs := by rw [q2, Ln]; rfl
 rw [q3]
 exact h rs q1 h' k1 k2
theorem xA {x : Value} {ps : List KP} {Q : Value -> Shared -> Prop} (hk : ∀ p ∈ ps, p.1 ∈ prs) (hn : (ps.map (·.1)).Nodup) (hT : ∀ p ∈ ps, Tk prog w s.heap p.1 p.2)
  (hcol : ∀ Q' : List Value -> Shared -> Prop, (∀ qs : List KP, qs.Perm ps -> ∀ h', (∀ b u, s.heap.get? b = some u -> h'.get? b = some u) -> s.heap.objs.size <= h'.objs.size -> Q' (aU qs) { s with heap := h' }) -> wpAny (model prog w) A.in1 (collect x) Q' E s)
  (h : ∀ out : List KP, out.Perm ps -> ip out -> ∀ h' D, s.heap.objs.size <= D -> (∀ b u, s.heap.get? b = some u -> h'.get? b = some u) -> (∃ n, h'.get? D = some (seqObj "list" (aU out).toArray n)) -> Q (.ref D) { s with heap := h' }) :
  wpAny (model prog w) A (call (.builtin "sorted") [x]) Q E s := by
 refine MR kind_sorted plain_sorted entry_sorted (args_sorted1 _) ?_
 unfold Builtin.«sorted»
 refine JM (m := checkCount "sorted" 1 1 _) (JQ ?_)
 refine JM (hcol _ fun qs hqs h1 k1 hsz => ?_)
 have hkq : ∀ p ∈ qs, p.1 ∈ prs := fun p hp => hk p (hqs.mem_iff.mp hp)
 have hnq : (qs.map (·.1)).Nodup := (hqs.map _).nodup_iff.mpr hn
 have hlen := kq hkq hnq
 have hvl : (aU qs).length <= 15 := by unfold aU; rw [Kh]; exact hlen
 refine JM (MF ?_ (Ju hvl (by decide)))
 have hoL : (h1.push (seqObj "list" (aU qs).toArray 0)).get? h1.objs.size = some (seqObj "list" (aU qs).toArray 0) := JU _ rfl
 have hnn : ∀ b u, h1.get? b = some u -> b ≠ h1.objs.size := fun b u q => Jr (Jo q)
 refine JM (JN (Kx slot_list_sort (s := { s with heap := h1.push (seqObj "list" (aU qs).toArray 0) }) ⟨_, hoL, rfl⟩ MU ?body (args_list_sort _)))
 case body =>
  refine vv (s := { s with heap := h1.push (seqObj "list" (aU qs).toArray 0) }) hoL hkq hnq (fun p hp => ?_) fun out h2 h3 => ?_
  ·obtain ⟨o, its, n, ho, rest⟩ := hT p (hqs.mem_iff.mp hp)
   exact ⟨o, its, n, JT _ (k1 _ _ ho), rest⟩
  ·refine ⟨_, rfl, JQ ⟨_, rfl, h out (h2.trans hqs) h3 _ h1.objs.size hsz (fun b u q => ?_) ?_⟩⟩
   ·have hb := hnn b u (k1 b u q)
    unfold sortedHeap
    rw [MK _ _ _ _ hb]
    refine JT _ (JT _ ?_)
    rw [MK _ _ _ _ hb]
    exact JT _ (k1 b u q)
   ·unfold sortedHeap
    have g1 := Mz hoL (fun _ => #[])
    have g2 := JT (seqObj "list" #[] 0) (JT (seqObj "tuple" (aU qs).toArray 0) g1)
    exact ⟨_, Mz g2 (fun _ => (aU out).toArray)⟩
theorem vt {a : Addr} {ps : List KP} {Q : Value -> Shared -> Prop} (hh : A.handled = none) (S : eD w s.heap a ps) (hT : ∀ p ∈ ps, Tk prog w s.heap p.1 p.2)
  (h : ∀ out : List KP, out.Perm ps -> ip out -> ∀ h' D, s.heap.objs.size <= D -> (∀ b u, s.heap.get? b = some u -> h'.get? b = some u) -> (∃ n, h'.get? D = some (seqObj "list" (aU out).toArray n)) -> Q (.ref D) { s with heap := h' }) :
  wpAny (model prog w) A (call (.builtin "sorted") [.ref a]) Q E s := by
 obtain ⟨o, es, ep, t, Z, S0, hk, hn⟩ := id S
 exact xA hk hn hT (fun Q' hq => uN (by simpa using hh) S hq) h
end
end RS
namespace RS
open PySem PySem.W PyProof.Rows
theorem qk.free {t : SetTable} {es : Array (Int × Value)} {Z : List (Nat × Int × Value)} (T : qk t es Z) {h : Int} (cov : ∀ j, j <= t.mask -> j ∈ cB t.mask h) (hz : Z.length <= t.mask) (hA : Nat -> Int) (hne : ∀ i, hA i ≠ h) :
  ∃ j pre post, t.probe hA h (t.probeStart h) = some (.empty j none) /\ j <= t.mask /\ j ∉ Z.map (·.1) /\ cB t.mask h = pre ++ j :: post /\ ∀ k ∈ pre, k ∈ Z.map (·.1) := by
 obtain ⟨j0, hj0, hn0⟩ := qR (m := t.mask) (l := Z.map (·.1)) (by rw [Kh]; exact hz)
 obtain ⟨pre, j, post, e, hs, hp⟩ := jB (fun j => j ∉ Z.map (·.1)) (cB t.mask h) ⟨j0, cov j0 hj0, hn0⟩
 have el : (xi t.mask (SetTable.turns t.mask) (SetTable.bits h % (t.mask + 1)) (SetTable.bits h)).length = pre.length + 1 + post.length := by
  show (cB t.mask h).length = _
  rw [e, Kg, K2]; omega
 have hw : ie t (pre.length + 1 + post.length) (t.probeStart h) = pre ++ j :: post := by
  have q := ox t (SetTable.turns t.mask) (SetTable.bits h % (t.mask + 1)) (SetTable.bits h) none
  rw [el] at q
  exact q.trans e
 have hlen : pre.length < 10 * SetTable.turns t.mask := by
  have q := rT t.mask (SetTable.turns t.mask) (SetTable.bits h % (t.mask + 1)) (SetTable.bits h)
  omega
 have occ : ∀ k ∈ pre, k ∈ Z.map (·.1) := fun k hk => Lz fun q => hp k hk q
 have hpre : ∀ k ∈ pre, ∃ i, t.slot k = .live i /\ hA i ≠ h := fun k hk => by
  obtain ⟨z, hzm, ez⟩ := Ly.mp (occ k hk)
  obtain ⟨i, hi⟩ := LB hzm
  exact ⟨i, ez ▸ T.slot_live hi, hne i⟩
 obtain ⟨g1, g2⟩ := r6 t hA h pre j post (10 * SetTable.turns t.mask) (t.probeStart h) hw hlen rfl hpre
 exact ⟨j, pre, post, g1 (T.slot_empty hs), ja (h := h) (by rw [e]; simp), hs, e, occ⟩
abbrev KI := Int × Tok
def yR (p : KI) : Int × Value := (hashInt p.1, Value.int p.1 p.2)
def ins : List Int := [0, 1, 2, 3, 4, 5]
theorem C6 {i : Int} : i ∈ ins ↔ 0 <= i /\ i < 6 := by
 unfold ins
 simp only [Jz, Lj, Lk]
 omega
def D0 (mask : Nat) : Bool := ins.all fun k => (List.range (mask + 1)).all fun j => (cB mask (hashInt k)).contains j
theorem Hv : D0 7 = true := by decide +kernel
theorem zJ : D0 31 = true := by decide +kernel
theorem sd {mask : Nat} (h : D0 mask = true) {k : Int} (hk : k ∈ ins) : ∀ j, j <= mask -> j ∈ cB mask (hashInt k) := fun j hj => by
 have a := LV.mp h k hk
 have b := LV.mp a j (Jt.mpr (by omega))
 simpa using b
theorem qO {a b : Int} (ha : a ∈ ins) (hb : b ∈ ins) (e : hashInt a = hashInt b) : a = b := by
 have key : ∀ x ∈ ins, ∀ y ∈ ins, hashInt x = hashInt y -> x = y := by decide +kernel
 exact key a ha b hb e
def cT (w : World) (h : Heap) (a : Addr) (ps : List KI) : Prop := ∃ o es ep t Z, dO w h a (ps.map yR) o es ep t Z /\ (∀ p ∈ ps, p.1 ∈ ins) /\ (ps.map (·.1)).Nodup
theorem ka {ps : List KI} (hk : ∀ p ∈ ps, p.1 ∈ ins) (hn : (ps.map (·.1)).Nodup) : ps.length <= 6 := by
 have := i8 hn (l2 := ins) (fun x hx => by obtain ⟨p, hp, e⟩ := Ly.mp hx; rw [<- e]; exact hk p hp)
 rw [Kh] at this
 exact this
theorem cT.keeps {w : World} {h h' : Heap} {a : Addr} {ps : List KI} (S : cT w h a ps) (k : ∀ o, h.get? a = some o -> h'.get? a = some o) : cT w h' a ps := by
 obtain ⟨o, es, ep, t, Z, S, hk, hn⟩ := S
 exact ⟨o, es, ep, t, Z, ⟨k o S.ho, S.ex, S.hd, S.tab, S.plain, S.led, S.big, S.perm⟩, hk, hn⟩
theorem IC {w : World} {h : Heap} {a : Addr} {ps : List (Int × Value)} {o es ep t Z} (S : dO w h a ps o es ep t Z) {k : Int} (hk : k ∈ ins) : ∀ j, j <= t.mask -> j ∈ cB t.mask (hashInt k) := by
 rcases S.big with ⟨h1, h2⟩ | ⟨h1, h2⟩ <;> rw [h1]
 ·exact sd Hv hk
 ·exact sd zJ hk
def sX (ps : List KI) (k : Int) (t : Tok) : List KI := if k ∈ ps.map (·.1) then ps else ps ++ [(k, t)]
section
variable {prog : Program} {w : World} {A : Around} {E : Value -> Shared -> Prop} {s : Shared}
theorem qA {a : Addr} {k : Int} {tk : Tok} {ps0 : List (Int × Value)} {o es ep t Z} (S : dO w s.heap a ps0 o es ep t Z) {Q : ScanMet -> Shared -> Prop} :
  ∀ (l : List (Int × Value)) (n : Nat), (∀ e ∈ l, ∃ p : KI, e = yR p /\ p.1 ∈ ins) -> k ∈ ins -> ((∃ e ∈ l, e.1 = hashInt k) -> ∀ i, Q (.found i) s) -> ((∀ e ∈ l, e.1 ≠ hashInt k) -> Q .absent s) -> wpAny (model prog w) A (setScanFrom a (.int k tk) (hashInt k) true l n) Q E s
 | [], n, _, _, h1, h2 => by
  unfold setScanFrom
  exact JQ (h2 fun e he => by simp at he)
 | e :: l, n, hl, hk, h1, h2 => by
  obtain ⟨p, rfl, hp⟩ := hl e Jx
  show wpAny _ _ (setScanFrom a _ _ true ((hashInt p.1, Value.int p.1 p.2) :: l) n) _ _ _
  unfold setScanFrom
  by_cases he : hashInt p.1 = hashInt k
  ·rw [Jl (by simpa using he)]
   have ek := qO hp hk he
   refine JM (m := setEpoch a) (wpAny_setEpoch_of S.ho S.hd S.fits ?_)
   refine JM (Jk ?_)
   rw [ek]
   simp only [K0, L0, Kq]
   exact JQ (h1 ⟨_, Jx, he⟩ _)
  ·rw [Jm (by simpa using he)]
   refine qA S l (n + 1) (fun x hx => hl x (Jy _ hx)) hk (fun ⟨x, hx, ex⟩ => h1 ⟨x, Jy _ hx, ex⟩) fun hx => h2 fun x hxm => ?_
   rcases Jz.mp hxm with z | z
   ·rw [z]; exact he
   ·exact hx x z
theorem Dm {a : Addr} {k : Int} {tk : Tok} {ps : List KI} {Q : Bool -> Shared -> Prop} (S : cT w s.heap a ps) (hk : k ∈ ins)
  (h : ∀ b h', Heap.SameBut a s.heap h' -> cT w h' a (sX ps k tk) -> Q b { s with heap := h' }) : wpAny (model prog w) A (setAddHashed a (.int k tk) (hashInt k)) Q E s := by
 obtain ⟨o, es, ep, t, Z, S, hk0, hn0⟩ := S
 have hent : ∀ e ∈ es.toList, ∃ p ∈ ps, e = yR p := fun e he => by
  rw [S.tab.ents] at he
  obtain ⟨p, hp, q⟩ := Ly.mp (S.perm.mem_iff.mp he)
  exact ⟨p, hp, q.symm⟩
 have hto : ∀ p ∈ ps, yR p ∈ es.toList := fun p hp => by
  rw [S.tab.ents]
  exact S.perm.mem_iff.mpr (LC hp)
 have hlen6 := ka hk0 hn0
 have hZl : Z.length = ps.length := by rw [S.len, Kh]
 have hesz0 : es.size = ps.length := by rw [S.tab.size.2, hZl]
 have hz : Z.length <= t.mask := by rcases S.big with ⟨q, q2⟩ | ⟨q, q2⟩ <;> omega
 unfold setAddHashed setAddHashedIn
 refine JN (JM (LZ S.ho S.hd S.fits ?_))
 dsimp only
 have hsc : byScan (Value.int k tk) es = true := by
  unfold byScan
  have h1 : decide (es.size < scanBound) = true := KY (by rw [hesz0]; unfold scanBound; omega)
  have h2 : es.all (fun x => x.2.scannable) = true := by
   rw [<- Array.all_toList, LV]
   intro e he
   obtain ⟨p, _, rfl⟩ := hent e he
   rfl
  rw [h1, h2]; rfl
 rw [hsc]
 simp only [Kq]
 refine JM ?_
 unfold setAddByScan
 refine JM (K9 ?_)
 refine JM ?_
 show wpAny _ _ (setScanFrom a (.int k tk) (hashInt k) true es.toList 0) _ _ _
 refine qA S es.toList 0 (fun e he => by obtain ⟨p, hp, e'⟩ := hent e he; exact ⟨p, e', hk0 p hp⟩) hk (fun hex i => ?_) fun hno => ?_
 ·obtain ⟨e, he, q⟩ := hex
  obtain ⟨p, hp, rfl⟩ := hent e he
  have ek : p.1 = k := qO (hk0 p hp) hk q
  refine JQ (JQ ?_)
  have q := h false s.heap (Heap.SameBut.refl a s.heap) (by
   unfold sX; rw [Jl (by rw [<- ek]; exact LC hp)]; exact ⟨o, es, ep, t, Z, S, hk0, hn0⟩)
  cases s; exact q
 ·have hin : k ∉ ps.map (·.1) := fun hx => by
   obtain ⟨p, hp, e⟩ := Ly.mp hx
   exact hno _ (hto p hp) (by rw [<- e]; rfl)
  dsimp only
  obtain ⟨j, pre, post, epr, hj, hn, e, hp⟩ := S.tab.free (IC S hk) hz (fun _ => hashInt k + 1) (fun _ => by omega)
  obtain ⟨Z', T', hperm, et⟩ := S.tab.put (x := Value.int k tk) hj hn e hp
  have hfree : t.freeSlot (hashInt k) = some (j, false) := by
   unfold SetTable.freeSlot; rw [epr]; rfl
  have hpl : (t.put j).1.plain = true := by rw [et]; exact S.plain
  have hled : (t.put j).1.led = t.led := by rw [et]
  have hmask : (t.put j).1.mask = t.mask := by rw [et]
  have hperm' : (Z'.map (·.2)).Perm ((ps ++ [(k, tk)]).map yR) := by
   refine (hperm.map (·.2)).trans ?_
   rw [KF, LG]
   refine List.Perm.trans (List.Perm.cons _ S.perm) ?_
   exact (List.perm_append_singleton _ _).symm
  have hkeys : ∀ p ∈ ps ++ [(k, tk)], p.1 ∈ ins := fun p hp' => by
   rcases JB.mp hp' with q | q
   ·exact hk0 p q
   ·rw [Lc] at q; rw [q]; exact hk
  have hnd : ((ps ++ [(k, tk)]).map (·.1)).Nodup := by
   rw [LG]
   refine L4.mpr ⟨hn0, by simp, fun x hx y hy => ?_⟩
   simp at hy
   rw [hy]; rintro rfl; exact hin hx
  have hlen := ka hkeys hnd
  have hZ' : Z'.length = ps.length + 1 := by rw [hperm.length_eq, K2, hZl]
  have hesz : (SetTable.insertAt es (t.put j).2 (hashInt k, Value.int k tk)).size = Z'.length := T'.size.2
  have hadd : sX ps k tk = ps ++ [(k, tk)] := by unfold sX; rw [Jm hin]
  rw [hadd] at h
  rw [Kg, KS] at hlen
  have hfit : (t.put j).1.fits (SetTable.insertAt es (t.put j).2 (hashInt k, Value.int k tk)).size = true := by
   unfold SetTable.fits
   rw [T'.fill, T'.size.1, hesz, hmask]
   rcases S.big with ⟨q, q2⟩ | ⟨q, q2⟩ <;> simp [q] <;> omega
  have hlay : layNew t es (hashInt k) (.int k tk) = (SetTable.insertAt es (t.put j).2 (hashInt k, Value.int k tk), (t.put j).1, false, false) := by
   unfold layNew
   rw [hfree]
   dsimp only
   unfold SetTable.orStandIn
   rw [hfit]; rfl
  rw [hlay]
  dsimp only
  generalize ht1 : (t.put j).1 = t1 at *
  generalize hes1 : SetTable.insertAt es (t.put j).2 (hashInt k, Value.int k tk) = es1 at *
  have hline : es1.size <= sizeLine := by rw [hesz, hZ']; exact Ju hlen (by decide)
  refine JM (JQ ?_)
  refine JM (JQ ?_)
  rw [hpl]
  simp only [Kq]
  refine JM (m := hashByValue 8 (.int k tk)) (JQ ?_)
  simp only [Kq]
  refine JM (L6 S.ho S.hd ?_ hline)
  have hg : (s.heap.update a (Obj.putSet es1 t1)).get? a = some { o with data := .set es1 (ep + 1) t1 } := by
   have := KG (Obj.putSet es1 t1) S.ho (by rw [L8 es1 t1 S.hd]; rfl)
   rw [L8 es1 t1 S.hd] at this; exact this
  have hsb1 := Lh s.heap a (Obj.putSet es1 t1)
  have hfill : t1.fill = ps.length + 1 := by rw [T'.fill, hZ']
  by_cases hfull : t1.tooFull = true
  ·simp only [hfull, L9, L0, Kq]
   have hm7 : t.mask = 7 /\ ps.length = 4 := by
    unfold SetTable.tooFull at hfull
    rw [hfill, hmask] at hfull
    have hf : (ps.length + 1) * 5 ≥ t.mask * 3 := by simpa using hfull
    rcases S.big with ⟨q, q2⟩ | ⟨q, q2⟩
    ·rw [q] at hf; exact ⟨q, by omega⟩
    ·rw [q] at hf; omega
   have hsz1 : es1.size = 5 := by rw [hesz, hZ', hm7.2]
   have hgr : SetTable.grown es1.size = 20 := by rw [hsz1]; rfl
   rw [hgr]
   obtain ⟨t2, order, Z2, er, T2, hp2, hm2, hl2, hpl2, hord⟩ := oR (t := t1) (es := es1) (wanted := 20) (mask := 31) (by rfl) (by rw [hsz1]; decide) (fun e' he' => by
    rw [T'.ents] at he'
    obtain ⟨p, hp', q⟩ := Ly.mp (hperm'.mem_iff.mp he')
    rw [<- q]
    exact sd zJ (hkeys p hp'))
   have hZ2 : Z2.length = 5 := by
    have := hp2.length_eq
    simp at this
    omega
   have hes2 : (order.filterMap (es1[·]?)).size = 5 := by rw [T2.size.2, hZ2]
   have hrel : relayAll t1 es1 20 = (order.filterMap (es1[·]?), t2, false) := by
    unfold relayAll
    rw [er]
    dsimp only
    have c1 : coversAll order es1.size = true := by
     unfold coversAll
     exact List.isPerm_iff.mpr hord
    have c2 : t2.fits (order.filterMap (es1[·]?)).size = true := by
     unfold SetTable.fits
     rw [T2.fill, T2.size.1, hes2, hm2, hZ2]; rfl
    rw [c1, c2]; rfl
   rw [hrel]
   dsimp only
   refine JM (JM (JQ (JQ ?_)))
   refine JM (L6 hg rfl ?_ (by rw [hes2]; decide))
   have hg2 : ((s.heap.update a (Obj.putSet es1 t1)).update a (Obj.putSet (order.filterMap (es1[·]?)) t2)).get? a = some { o with data := .set (order.filterMap (es1[·]?)) (ep + 1 + 1) t2 } := by
    have := KG (Obj.putSet (order.filterMap (es1[·]?)) t2) hg (by rw [L8 _ t2 rfl]; rfl)
    rw [L8 _ t2 rfl] at this; exact this
   refine JQ (JQ ?_)
   refine h true _ (hsb1.trans (Lh _ a _)) ⟨_, _, _, t2, Z2, ⟨hg2, S.ex, rfl, T2, by rw [hpl2]; exact hpl, by rw [hl2, hled]; exact S.led, .inr ⟨hm2, by omega⟩, ?_⟩, hkeys, hnd⟩
   refine hp2.trans ?_
   rw [T'.ents]; exact hperm'
  ·have hf : t1.tooFull = false := by simpa using hfull
   simp only [hf, Ma, K1, Ko]
   refine JQ (JQ ?_)
   refine h true _ hsb1 ⟨_, _, _, t1, Z', ⟨hg, S.ex, rfl, T', hpl, by rw [hled]; exact S.led, ?_, hperm'⟩, hkeys, hnd⟩
   unfold SetTable.tooFull at hf
   rw [hfill, hmask] at hf
   have hf' : ¬ ((ps.length + 1) * 5 ≥ t.mask * 3) := by simpa using hf
   rw [hmask, hZ']
   rcases S.big with ⟨q, q2⟩ | ⟨q, q2⟩
   ·rw [q] at hf' ⊢; exact .inl ⟨rfl, by omega⟩
   ·rw [q] at hf' ⊢; exact .inr ⟨rfl, by omega⟩
end
end RS
namespace L2
open PySem PySem.Spec PyProof.Rows RS
inductive D where
 | non | bl (b : Bool) | int (i : Int) | str (x : Str) | tup (xs : List D) | frz (xs : List D) | obj (n : Nat)
inductive O where
 | lst (xs : List D) | set (ks : List (List Int)) | iset (ks : List Int) | dic
abbrev aB := List O
abbrev Ro := List (Option D)
def Dq (K : W.Frag) (H : Hp) (a : Addr) (xs : List V) : Prop :=
 (∃ o, H a = some (.frz o (.lst xs))) \/
  ∃ (o : Obj) (its : Array Value) (n : Nat), K.lookup a = some o /\ o.cls = .type "list" /\ o.dict = none /\ o.data = .seq its n /\ its.size <= sizeLine /\ bb xs its.toList
theorem Dq.sq {K : W.Frag} {H : Hp} {a : Addr} {xs : List V} (h : Dq K H a xs) : fw K H a xs := by
 rcases h with ⟨o, h⟩ | h
 ·exact .inl (.inr ⟨o, h⟩)
 ·exact .inr h
section
variable (K : W.Frag) (H : Hp) (α : List Addr)
mutual
def aJ : D -> V -> Prop
 | .non, v => v = .non
 | .bl b, v => v = .bl b
 | .int i, v => v = .int i
 | .str x, v => v = .str x
 | .tup xs, v => ∃ a vs, v = .ref a /\ fW K H a vs /\ Reps xs vs
 | .frz xs, v => ∃ a vs, v = .ref a /\ Dq K H a vs /\ Reps xs vs
 | .obj n, v => ∃ a, v = .ref a /\ α[n]? = some a
def Reps : List D -> List V -> Prop
 | [], vs => vs = []
 | x :: xs, vs => ∃ v r, vs = v :: r /\ aJ x v /\ Reps xs r
end
end
structure lC (K : W.Frag) (H H' : Hp) (α α' : List Addr) : Prop where
 tup : ∀ a xs, fW K H a xs -> fW K H' a xs
 frz : ∀ a xs, Dq K H a xs -> Dq K H' a xs
 pre : ∀ (n : Nat) a, α[n]? = some a -> α'[n]? = some a
section
variable {K : W.Frag} {H H' H1 H2 : Hp} {α α' α1 α2 : List Addr}
theorem lC.refl : lC K H H α α := ⟨fun _ _ h => h, fun _ _ h => h, fun _ _ h => h⟩
theorem lC.trans (a : lC K H H1 α α1) (b : lC K H1 H2 α1 α2) : lC K H H2 α α2 :=
 ⟨fun c xs h => b.tup c xs (a.tup c xs h), fun c xs h => b.frz c xs (a.frz c xs h), fun n c h => b.pre n c (a.pre n c h)⟩
mutual
theorem aJ.mono (e : lC K H H' α α') : ∀ {d : D} {v : V}, aJ K H α d v -> aJ K H' α' d v
 | .non, _, h => by simp only [aJ] at h ⊢; exact h
 | .bl _, _, h => by simp only [aJ] at h ⊢; exact h
 | .int _, _, h => by simp only [aJ] at h ⊢; exact h
 | .str _, _, h => by simp only [aJ] at h ⊢; exact h
 | .tup xs, _, h => by
  simp only [aJ] at h ⊢
  obtain ⟨a, vs, rfl, h1, h2⟩ := h
  exact ⟨a, vs, rfl, e.tup a vs h1, Reps.mono e h2⟩
 | .frz xs, _, h => by
  simp only [aJ] at h ⊢
  obtain ⟨a, vs, rfl, h1, h2⟩ := h
  exact ⟨a, vs, rfl, e.frz a vs h1, Reps.mono e h2⟩
 | .obj n, _, h => by
  simp only [aJ] at h ⊢
  obtain ⟨a, rfl, h1⟩ := h
  exact ⟨a, rfl, e.pre n a h1⟩
theorem Reps.mono (e : lC K H H' α α') : ∀ {ds : List D} {vs : List V}, Reps K H α ds vs -> Reps K H' α' ds vs
 | [], _, h => by simp only [Reps] at h ⊢; exact h
 | d :: ds, _, h => by
  simp only [Reps] at h ⊢
  obtain ⟨v, r, rfl, h1, h2⟩ := h
  exact ⟨v, r, rfl, aJ.mono e h1, Reps.mono e h2⟩
end
theorem Reps.nil : Reps K H α [] [] := by simp only [Reps]
theorem Reps.cons {d : D} {ds : List D} {v : V} {vs : List V} (h1 : aJ K H α d v) (h2 : Reps K H α ds vs) : Reps K H α (d :: ds) (v :: vs) := by
 simp only [Reps]; exact ⟨v, vs, rfl, h1, h2⟩
theorem Reps.length : ∀ {ds : List D} {vs : List V}, Reps K H α ds vs -> vs.length = ds.length
 | [], vs, h => by simp only [Reps] at h; rw [h]; rfl
 | d :: ds, vs, h => by
  simp only [Reps] at h
  obtain ⟨v, r, rfl, h1, h2⟩ := h
  simp [Reps.length h2]
theorem Reps.get : ∀ {ds : List D} {vs : List V} {i : Nat} {d : D}, Reps K H α ds vs -> ds[i]? = some d -> ∃ v, vs[i]? = some v /\ aJ K H α d v
 | [], _, _, _, _, e => by simp at e
 | d :: ds, vs, i, x, h, e => by
  simp only [Reps] at h
  obtain ⟨v, r, rfl, h1, h2⟩ := h
  cases i with
  | zero => simp at e; subst e; exact ⟨v, rfl, h1⟩
  | succ i => exact Reps.get (i := i) h2 (by simpa using e)
theorem Reps.getV : ∀ {ds : List D} {vs : List V} {i : Nat} {v : V}, Reps K H α ds vs -> vs[i]? = some v -> ∃ d, ds[i]? = some d /\ aJ K H α d v
 | [], vs, _, _, h, e => by simp only [Reps] at h; subst h; simp at e
 | d :: ds, vs, i, x, h, e => by
  simp only [Reps] at h
  obtain ⟨v, r, rfl, h1, h2⟩ := h
  cases i with
  | zero => simp at e; subst e; exact ⟨d, rfl, h1⟩
  | succ i => exact Reps.getV (i := i) h2 (by simpa using e)
theorem Reps.append : ∀ {ds es : List D} {vs ws : List V}, Reps K H α ds vs -> Reps K H α es ws -> Reps K H α (ds ++ es) (vs ++ ws)
 | [], _, vs, _, h, g => by simp only [Reps] at h; subst h; exact g
 | d :: ds, _, vs, _, h, g => by
  simp only [Reps] at h
  obtain ⟨v, r, rfl, h1, h2⟩ := h
  exact Reps.cons h1 (Reps.append h2 g)
theorem Reps.take : ∀ {ds : List D} {vs : List V} (n : Nat), Reps K H α ds vs -> Reps K H α (ds.take n) (vs.take n)
 | [], vs, n, h => by simp only [Reps] at h; subst h; simpa using Reps.nil
 | d :: ds, vs, n, h => by
  simp only [Reps] at h
  obtain ⟨v, r, rfl, h1, h2⟩ := h
  cases n with
  | zero => exact Reps.nil
  | succ n => exact Reps.cons h1 (Reps.take n h2)
theorem Reps.drop : ∀ {ds : List D} {vs : List V} (n : Nat), Reps K H α ds vs -> Reps K H α (ds.drop n) (vs.drop n)
 | [], vs, n, h => by simp only [Reps] at h; subst h; simpa using Reps.nil
 | d :: ds, vs, n, h => by
  cases n with
  | zero => exact h
  | succ n =>
   simp only [Reps] at h
   obtain ⟨v, r, rfl, h1, h2⟩ := h
   exact Reps.drop n h2
theorem Reps.set {d : D} {v : V} (q : aJ K H α d v) : ∀ {ds : List D} {vs : List V} (n : Nat), Reps K H α ds vs -> Reps K H α (ds.set n d) (vs.set n v)
 | [], vs, n, h => by simp only [Reps] at h; subst h; simpa using Reps.nil
 | e :: ds, vs, n, h => by
  simp only [Reps] at h
  obtain ⟨v', r, rfl, h1, h2⟩ := h
  cases n with
  | zero => exact Reps.cons q h2
  | succ n => exact Reps.cons h1 (Reps.set q n h2)
theorem Reps.eraseIdx : ∀ {ds : List D} {vs : List V} (n : Nat), Reps K H α ds vs -> Reps K H α (ds.eraseIdx n) (vs.eraseIdx n)
 | [], vs, n, h => by simp only [Reps] at h; subst h; simpa using Reps.nil
 | e :: ds, vs, n, h => by
  simp only [Reps] at h
  obtain ⟨v', r, rfl, h1, h2⟩ := h
  cases n with
  | zero => exact h2
  | succ n => exact Reps.cons h1 (Reps.eraseIdx n h2)
theorem Reps.reverse : ∀ {ds : List D} {vs : List V}, Reps K H α ds vs -> Reps K H α ds.reverse vs.reverse
 | [], vs, h => by simp only [Reps] at h; subst h; exact Reps.nil
 | d :: ds, vs, h => by
  simp only [Reps] at h
  obtain ⟨v, r, rfl, h1, h2⟩ := h
  rw [KL, KL]
  exact Reps.append (Reps.reverse h2) (Reps.cons h1 Reps.nil)
theorem Reps.one {d : D} {vs : List V} (h : Reps K H α [d] vs) : ∃ v, vs = [v] /\ aJ K H α d v := by
 simp only [Reps] at h
 obtain ⟨v, r, rfl, h1, rfl⟩ := h
 exact ⟨v, rfl, h1⟩
theorem Reps.two {d e : D} {vs : List V} (h : Reps K H α [d, e] vs) : ∃ v u, vs = [v, u] /\ aJ K H α d v /\ aJ K H α e u := by
 simp only [Reps] at h
 obtain ⟨v, r, rfl, h1, u, r', rfl, h2, rfl⟩ := h
 exact ⟨v, u, rfl, h1, h2⟩
theorem Reps.snoc {d : D} {ds : List D} {v : V} {vs : List V} (h : Reps K H α ds vs) (q : aJ K H α d v) : Reps K H α (ds ++ [d]) (vs ++ [v]) := h.append (Reps.cons q Reps.nil)
theorem Reps.ints : ∀ {ns : List Int} {vs : List V}, Reps K H α (ns.map D.int) vs -> vs = ns.map V.int
 | [], vs, h => by simp only [KE, Reps] at h; exact h
 | n :: ns, vs, h => by
  simp only [KF, Reps] at h
  obtain ⟨v, r, rfl, h1, h2⟩ := h
  simp only [aJ] at h1
  rw [h1, Reps.ints h2]; rfl
theorem iP : ∀ (ns : List Int), Reps K H α (ns.map D.int) (ns.map V.int)
 | [] => Reps.nil
 | n :: ns => Reps.cons (by simp only [aJ]) (iP ns)
theorem aF {xs : List D} {v : V} : aJ K H α (.tup xs) v ↔ ∃ a vs, v = .ref a /\ fW K H a vs /\ Reps K H α xs vs := by simp only [aJ]
theorem bp {xs : List D} {v : V} : aJ K H α (.frz xs) v ↔ ∃ a vs, v = .ref a /\ Dq K H a vs /\ Reps K H α xs vs := by simp only [aJ]
theorem aO {n : Nat} {v : V} : aJ K H α (.obj n) v ↔ ∃ a, v = .ref a /\ α[n]? = some a := by simp only [aJ]
theorem aq {n : Int} {v : V} : aJ K H α (.int n) v ↔ v = .int n := by simp only [aJ]
theorem bh {n : Bool} {v : V} : aJ K H α (.bl n) v ↔ v = .bl n := by simp only [aJ]
theorem bA {n : Str} {v : V} : aJ K H α (.str n) v ↔ v = .str n := by simp only [aJ]
theorem bL {v : V} : aJ K H α .non v ↔ v = .non := by simp only [aJ]
end
def sY (K : W.Frag) (w : World) (H : Hp) (α : List Addr) : O -> Addr -> Prop
 | .lst xs, a => ∃ vs, H a = some (.lst vs) /\ Reps K H α xs vs
 | .set ks, a => ∃ ps : List KP, ps.map (·.1) = ks /\ H a = some (.ext fun h => eD w h a ps) /\ (∀ p ∈ ps, p.1 ∈ prs) /\ (ps.map (·.1)).Nodup /\ ∀ p ∈ ps, fW K H p.2 (p.1.map V.int)
 | .iset ks, a => ∃ ps : List KI, ps.map (·.1) = ks /\ H a = some (.ext fun h => cT w h a ps) /\ ks.length <= 6
 | .dic, a => H a = some (.dK [])
structure iI (K : W.Frag) (w : World) (H : Hp) (α : List Addr) (μ : aB) : Prop where
 len : α.length = μ.length
 nd : α.Nodup
 ob : ∀ (n : Nat) o a, μ[n]? = some o -> α[n]? = some a -> sY K w H α o a
section
variable {K : W.Frag} {w : World} {H H' : Hp} {α α' : List Addr} {μ : aB}
theorem sY.live {o : O} {a : Addr} (h : sY K w H α o a) : H a ≠ none := by
 cases o with
 | lst xs => obtain ⟨vs, e, _⟩ := h; rw [e]; exact fun z => by cases z
 | set ks => obtain ⟨ps, _, e, _⟩ := h; rw [e]; exact fun z => by cases z
 | iset ks => obtain ⟨ps, _, e, _⟩ := h; rw [e]; exact fun z => by cases z
 | dic => have e : H a = some (.dK []) := h; rw [e]; exact fun z => by cases z
theorem sY.mono {o : O} {a : Addr} (h : sY K w H α o a) (e : lC K H H' α α') (ha : H' a = H a) : sY K w H' α' o a := by
 cases o with
 | lst xs => obtain ⟨vs, q, r⟩ := h; exact ⟨vs, ha.trans q, r.mono e⟩
 | set ks => obtain ⟨ps, h1, q, h2, h3, h4⟩ := h; exact ⟨ps, h1, ha.trans q, h2, h3, fun p hp => e.tup _ _ (h4 p hp)⟩
 | iset ks => obtain ⟨ps, h1, q, h2⟩ := h; exact ⟨ps, h1, ha.trans q, h2⟩
 | dic => exact ha.trans h
theorem iI.at (S : iI K w H α μ) {n : Nat} {o : O} (e : μ[n]? = some o) : ∃ a, α[n]? = some a /\ sY K w H α o a := by
 have hn : n < μ.length := (JD.mp e).1
 have hn' : n < α.length := by rw [S.len]; exact hn
 exact ⟨α[n], MN hn', S.ob n o _ e (MN hn')⟩
theorem iI.live (S : iI K w H α μ) {a : Addr} (h : a ∈ α) : H a ≠ none := by
 obtain ⟨n, hn, e⟩ := MV h
 have hm : n < μ.length := by rw [<- S.len]; exact hn
 exact (S.ob n _ a (MN hm) (by rw [<- e]; exact MN hn)).live
theorem iI.fresh (S : iI K w H α μ) {p : Addr} (h : H p = none) : p ∉ α := fun z => S.live z h
theorem iI.same (S : iI K w H α μ) (e : lC K H H' α α) (h : ∀ a, H a ≠ none -> H' a = H a) : iI K w H' α μ :=
 ⟨S.len, S.nd, fun n o a h1 h2 => (S.ob n o a h1 h2).mono e (h a (S.ob n o a h1 h2).live)⟩
theorem bN {p : Addr} {o : HO} (h : H p = none) : lC K H (cM H p o) α α := by
 refine ⟨fun a xs q => ?_, fun a xs q => ?_, fun _ _ z => z⟩
 ·rcases q with (q | ⟨x, q⟩) | q
  ·exact .inl (.inl (by rw [bX (dS q h)]; exact q))
  ·exact .inl (.inr ⟨x, by rw [bX (dS q h)]; exact q⟩)
  ·exact .inr q
 ·rcases q with ⟨x, q⟩ | q
  ·exact .inl ⟨x, by rw [bX (dS q h)]; exact q⟩
  ·exact .inr q
theorem iM {p : Addr} {vs : List V} {o : HO} (h : H p = some (.lst vs)) : lC K H (cM H p o) α α := by
 refine ⟨fun a xs q => ?_, fun a xs q => ?_, fun _ _ z => z⟩
 ·rcases q with (q | ⟨x, q⟩) | q
  ·exact .inl (.inl (by rw [bX (ze q h (by intro z; cases z))]; exact q))
  ·exact .inl (.inr ⟨x, by rw [bX (ze q h (by intro z; cases z))]; exact q⟩)
  ·exact .inr q
 ·rcases q with ⟨x, q⟩ | q
  ·exact .inl ⟨x, by rw [bX (ze q h (by intro z; cases z))]; exact q⟩
  ·exact .inr q
theorem kc (β : List Addr) : lC K H H α (α ++ β) := ⟨fun _ _ h => h, fun _ _ h => h, fun n a h => by rw [Kd (JD.mp h).1]; exact h⟩
theorem iI.tuple (S : iI K w H α μ) {p : Addr} {vs : List V} (h : H p = none) : iI K w (cM H p (.tup vs)) α μ :=
 S.same (bN h) fun a ha => bX fun z => ha (by rw [z]; exact h)
theorem iI.more (S : iI K w H α μ) {p : Addr} {o : O} {ho : HO} (h : H p = none) (q : sY K w (cM H p ho) (α ++ [p]) o p) : iI K w (cM H p ho) (α ++ [p]) (μ ++ [o]) := by
 refine ⟨by simp [S.len], ?_, fun n o' a h1 h2 => ?_⟩
 ·rw [L4]
  exact ⟨S.nd, by simp, fun x hx y hy z => by simp at hy; subst hy; subst z; exact S.fresh h hx⟩
 ·by_cases hn : n < μ.length
  ·rw [Kd hn] at h1
   rw [Kd (by rw [S.len]; exact hn)] at h2
   exact (S.ob n o' a h1 h2).mono ((bN h).trans (kc [p])) (bX fun z => (S.ob n o' a h1 h2).live (by rw [z]; exact h))
  ·have hn' : n = μ.length := by
    have := (JD.mp h1).1
    simp at this; omega
   subst hn'
   rw [Kc (JV _)] at h1
   rw [Kc (by rw [S.len]; exact JV _), S.len] at h2
   simp at h1 h2
   subst h1; subst h2
   exact q
theorem iI.put (S : iI K w H α μ) {n : Nat} {a : Addr} {xs ys : List D} {us vs : List V} (h1 : μ[n]? = some (.lst xs)) (h2 : α[n]? = some a) (h3 : H a = some (.lst us)) (q : Reps K H α ys vs) : iI K w (cM H a (.lst vs)) α (μ.set n (.lst ys)) := by
 have e := iM (K := K) (α := α) (o := .lst vs) h3
 refine ⟨by simp [S.len], S.nd, fun m o b g1 g2 => ?_⟩
 have hn : n < μ.length := (JD.mp h1).1
 by_cases hm : m = n
 ·subst hm
  rw [JF hn] at g1
  cases g1
  rw [h2] at g2; cases g2
  exact ⟨vs, cw, q.mono e⟩
 ·rw [JG (fun z => hm z.symm)] at g1
  refine (S.ob m o b g1 g2).mono e (bX fun z => hm ?_)
  subst z
  have i1 := (JD.mp g2)
  have i2 := (JD.mp h2)
  obtain ⟨l1, e1⟩ := i1
  obtain ⟨l2, e2⟩ := i2
  exact (JE S.nd).mp (e1.trans e2.symm)
end
structure dg (K : W.Frag) (H : Hp) (α : List Addr) (ρ : Ro) (σ : St) : Prop where
 len : ρ.length = σ.length
 at' : ∀ (i : Nat) d, ρ[i]? = some (some d) -> ∃ v, σ[i]? = some (some v) /\ aJ K H α d v
theorem dg.mono {K : W.Frag} {H H' : Hp} {α α' : List Addr} {ρ : Ro} {σ : St} (e : lC K H H' α α') (R : dg K H α ρ σ) : dg K H' α' ρ σ :=
 ⟨R.len, fun i d h => let ⟨v, h1, h2⟩ := R.at' i d h; ⟨v, h1, h2.mono e⟩⟩
theorem dg.set {K : W.Frag} {H : Hp} {α : List Addr} {ρ : Ro} {σ : St} {d : D} {v : V} (R : dg K H α ρ σ) (i : Nat) (q : aJ K H α d v) : dg K H α (ρ.set i (some d)) (σ.set i (some v)) := by
 refine ⟨by simp [R.len], fun j d' h => ?_⟩
 by_cases hj : j = i
 ·subst hj
  have hl : j < ρ.length := by have := (JD.mp h).1; simpa using this
  rw [JF hl] at h
  cases h
  exact ⟨v, by rw [JF (by rw [<- R.len]; exact hl)], q⟩
 ·rw [JG (fun z => hj z.symm)] at h ⊢
  exact R.at' j d' h
structure DX where
 cls : Str
 args : List D
inductive ak (β : Type) where
 | ok (a : β) (μ : aB) | exc (x : DX) (μ : aB) | bad
def ak.bind {β γ : Type} (o : ak β) (g : β -> aB -> ak γ) : ak γ := match o with
 | .ok a μ => g a μ
 | .exc x μ => .exc x μ
 | .bad => .bad
@[simp] theorem aa {β γ : Type} {a : β} {μ : aB} {g : β -> aB -> ak γ} : (ak.ok a μ).bind g = g a μ := MW (MX _)
inductive SO where
 | next (ρ : Ro) (μ : aB) | ret (d : D) (μ : aB) | brk (ρ : Ro) (μ : aB) | cnt (ρ : Ro) (μ : aB) | exc (x : DX) (μ : aB) | bad
def ak.bindS {β : Type} (o : ak β) (g : β -> aB -> SO) : SO := match o with
 | .ok a μ => g a μ
 | .exc x μ => .exc x μ
 | .bad => .bad
@[simp] theorem ab {β : Type} {a : β} {μ : aB} {g : β -> aB -> SO} : (ak.ok a μ).bindS g = g a μ := MW (MX _)
def SO.bind (o : SO) (g : Ro -> aB -> SO) : SO := match o with
 | .next ρ μ => g ρ μ
 | o => o
structure Pa where
 K : W.Frag
 w : World
 xw : DX -> aB -> Prop
abbrev Pa.S (p : Pa) := iI p.K p.w
abbrev Pa.X (p : Pa) := lC p.K
abbrev Pa.R (p : Pa) := aJ p.K
abbrev Pa.Rs (p : Pa) := Reps p.K
def aD {β : Type} (p : Pa) (H : Hp) (α : List Addr) (o : ak β) (R : β -> aB -> Hp -> List Addr -> Prop) : Prop := match o with
 | .ok a μ' => ∀ H' α', p.X H H' α α' -> p.S H' α' μ' -> R a μ' H' α'
 | .exc x μ' => p.xw x μ'
 | .bad => False
def gA (p : Pa) (H : Hp) (α : List Addr) (o : SO) (D : nX) : Prop := match o with
 | .next ρ' μ' => ∀ H' α' σ', p.X H H' α α' -> p.S H' α' μ' -> dg p.K H' α' ρ' σ' -> D.nx σ' H'
 | .brk ρ' μ' => ∀ H' α' σ', p.X H H' α α' -> p.S H' α' μ' -> dg p.K H' α' ρ' σ' -> D.bk σ' H'
 | .cnt ρ' μ' => ∀ H' α' σ', p.X H H' α α' -> p.S H' α' μ' -> dg p.K H' α' ρ' σ' -> D.ct σ' H'
 | .ret d μ' => ∀ H' α' v, p.X H H' α α' -> p.S H' α' μ' -> p.R H' α' d v -> D.rt v H'
 | .exc x μ' => p.xw x μ'
 | .bad => False
section
variable {p : Pa} {H H1 : Hp} {α α1 : List Addr} {β γ : Type}
theorem aD.imp {o : ak β} {R R' : β -> aB -> Hp -> List Addr -> Prop} (h : aD p H α o R) (k : ∀ a μ' H' α', p.X H H' α α' -> p.S H' α' μ' -> R a μ' H' α' -> R' a μ' H' α') : aD p H α o R' := by
 cases o with
 | ok a μ => exact fun H' α' e s => k a μ H' α' e s (h H' α' e s)
 | exc x μ => exact h
 | bad => exact h
theorem aD.from {o : ak β} {R : β -> aB -> Hp -> List Addr -> Prop} (e : p.X H H1 α α1) (h : aD p H α o R) : aD p H1 α1 o R := by
 cases o with
 | ok a μ => exact fun H' α' e' s => h H' α' (e.trans e') s
 | exc x μ => exact h
 | bad => exact h
theorem aD.bind {o : ak β} {g : β -> aB -> ak γ} {R : γ -> aB -> Hp -> List Addr -> Prop} (h : aD p H α (o.bind g) R) : aD p H α o (fun a μ1 H1 α1 => aD p H1 α1 (g a μ1) R) := by
 cases o with
 | ok a μ => exact fun H' α' e s => aD.from e h
 | exc x μ => exact h
 | bad => exact h
theorem aD.now {a : β} {μ : aB} {R : β -> aB -> Hp -> List Addr -> Prop} (h : aD p H α (.ok a μ) R) (s : p.S H α μ) : R a μ H α := h H α lC.refl s
theorem gA.from {o : SO} {D : nX} (e : p.X H H1 α α1) (h : gA p H α o D) : gA p H1 α1 o D := by
 cases o with
 | next ρ μ => exact fun H' α' σ' e' s r => h H' α' σ' (e.trans e') s r
 | brk ρ μ => exact fun H' α' σ' e' s r => h H' α' σ' (e.trans e') s r
 | cnt ρ μ => exact fun H' α' σ' e' s r => h H' α' σ' (e.trans e') s r
 | ret d μ => exact fun H' α' v e' s r => h H' α' v (e.trans e') s r
 | exc x μ => exact h
 | bad => exact h
theorem aD.bindS {o : ak β} {g : β -> aB -> SO} {D : nX} (h : gA p H α (o.bindS g) D) : aD p H α o (fun a μ1 H1 α1 => gA p H1 α1 (g a μ1) D) := by
 cases o with
 | ok a μ => exact fun H' α' e s => gA.from e h
 | exc x μ => exact h
 | bad => exact h
end
abbrev ME := Ro -> aB -> ak D
abbrev MT := Ro -> aB -> ak Bool
abbrev MA := Ro -> aB -> ak (List D)
abbrev MS := Ro -> aB -> SO
abbrev MG := D -> Ro -> aB -> ak Ro
abbrev RV (p : Pa) (Q : VK) : D -> aB -> Hp -> List Addr -> Prop := fun d _ H' α' => ∀ v, p.R H' α' d v -> Q v H'
def tD (p : Pa) (f : ME) : TE := fun σ H Q => ∃ α ρ μ, p.S H α μ /\ dg p.K H α ρ σ /\ aD p H α (f ρ μ) (RV p Q)
def h8 (p : Pa) (f : MT) : TT := fun σ H Q => ∃ α ρ μ, p.S H α μ /\ dg p.K H α ρ σ /\ aD p H α (f ρ μ) (fun b _ H' _ => Q b H')
def mr (p : Pa) (f : MA) : TA := fun σ H Q => ∃ α ρ μ, p.S H α μ /\ dg p.K H α ρ σ /\ aD p H α (f ρ μ) (fun ds _ H' α' => ∀ vs, p.Rs H' α' ds vs -> Q vs H')
def iZ (p : Pa) (f : MS) : TS := fun D σ H => ∃ α ρ μ, p.S H α μ /\ dg p.K H α ρ σ /\ gA p H α (f ρ μ) D
def mY (p : Pa) (g : MG) : TG := fun v σ H Q => ∃ α ρ μ d, p.S H α μ /\ dg p.K H α ρ σ /\ p.R H α d v /\ aD p H α (g d ρ μ) (fun ρ' _ H' α' => ∀ σ', dg p.K H' α' ρ' σ' -> Q σ' H')
theorem PE.weak {X : Cx} {e : Expr} {t t' : TE} (h : PE X e t) (k : ∀ σ H Q, t' σ H Q -> t σ H Q) : PE X e t' := fun pins s σ H Q I q => h pins s σ H Q I (k σ H Q q)
theorem PT.weak {X : Cx} {e : Expr} {t t' : TT} (h : PT X e t) (k : ∀ σ H Q, t' σ H Q -> t σ H Q) : PT X e t' := fun pins s σ H Q I q => h pins s σ H Q I (k σ H Q q)
theorem PW.weak {X : Cx} {e : Expr} {t t' : TT} (h : PW X e t) (k : ∀ σ H Q, t' σ H Q -> t σ H Q) : PW X e t' := fun wh pins s σ H Q I q => h wh pins s σ H Q I (k σ H Q q)
theorem PA.weak {X : Cx} {e : List Expr} {t t' : TA} (h : PA X e t) (k : ∀ σ H Q, t' σ H Q -> t σ H Q) : PA X e t' := fun pos pins s σ H Q I q => h pos pins s σ H Q I (k σ H Q q)
theorem PS.weak {X : Cx} {e : Stmt} {t t' : TS} (h : PS X e t) (k : ∀ D σ H, t' D σ H -> t D σ H) : PS X e t' := fun pins s σ H Q I q => h pins s σ H Q I (k Q σ H q)
theorem kO.weak {X : Cx} {e : List Stmt} {t t' : TS} (h : kO X e t) (k : ∀ D σ H, t' D σ H -> t D σ H) : kO X e t' := fun pins s σ H Q I q => h pins s σ H Q I (k Q σ H q)
def ah (i : Nat) : ME := fun ρ μ => match ρ[i]? with
 | some (some d) => .ok d μ
 | _ => .bad
def cC (d : D) : ME := fun _ μ => .ok d μ
def aw (op : D -> D -> aB -> ak D) (fa fb : ME) : ME := fun ρ μ => (fa ρ μ).bind fun a μ1 => (fb ρ μ1).bind fun b μ2 => op a b μ2
def pO (op : D -> aB -> ak D) (fa : ME) : ME := fun ρ μ => (fa ρ μ).bind fun a μ1 => op a μ1
def ay : MA := fun _ μ => .ok [] μ
def ae (fa : ME) (fr : MA) : MA := fun ρ μ => (fa ρ μ).bind fun a μ1 => (fr ρ μ1).bind fun r μ2 => .ok (a :: r) μ2
def aA (f : List D -> aB -> ak D) (fa : MA) : ME := fun ρ μ => (fa ρ μ).bind f
def dA (fa : MA) : ME := aA (fun ds μ => if ds.length <= sizeLine then .ok (.tup ds) μ else .bad) fa
def fY (fa : MA) : ME := aA (fun ds μ => if ds.length <= sizeLine then .ok (.obj μ.length) (μ ++ [.lst ds]) else .bad) fa
def Bg : D -> aB -> ak Bool
 | .bl b, μ => .ok b μ
 | _, _ => .bad
def gP (f : ME) : MT := fun ρ μ => (f ρ μ).bind Bg
def kR (f g : MT) : MT := fun ρ μ => (f ρ μ).bind fun b μ1 => if b = true then g ρ μ1 else .ok false μ1
def sW (f g : MT) : MT := fun ρ μ => (f ρ μ).bind fun b μ1 => if b = true then .ok true μ1 else g ρ μ1
def m5 (f : MT) : MT := fun ρ μ => (f ρ μ).bind fun b μ1 => .ok (!b) μ1
def m6 (f g : ME) : ME := fun ρ μ => (f ρ μ).bind fun a μ1 => (Bg a μ1).bind fun b μ2 => if b = true then g ρ μ2 else .ok (.bl false) μ2
def tL (f : ME) : ME := fun ρ μ => (f ρ μ).bind fun a μ1 => (Bg a μ1).bind fun b μ2 => .ok (.bl (!b)) μ2
def Gd (c : MT) (f g : ME) : ME := fun ρ μ => (c ρ μ).bind fun b μ1 => if b = true then f ρ μ1 else g ρ μ1
def rp (p : Pa) (op : D -> D -> aB -> ak D) (r : R2) : Prop := ∀ a b v y H α μ Q, p.S H α μ -> p.R H α a v -> p.R H α b y -> aD p H α (op a b μ) (RV p Q) -> r v y H Q
def IQ (p : Pa) (op : D -> aB -> ak D) (r : V -> Hp -> VK -> Prop) : Prop := ∀ a v H α μ Q, p.S H α μ -> p.R H α a v -> aD p H α (op a μ) (RV p Q) -> r v H Q
def sO (p : Pa) (f : List D -> aB -> ak D) (r : List V -> Hp -> VK -> Prop) : Prop := ∀ ds vs H α μ Q, p.S H α μ -> p.Rs H α ds vs -> aD p H α (f ds μ) (RV p Q) -> r vs H Q
section
variable {p : Pa}
theorem rO {d : D} {μ : aB} {H : Hp} {α : List Addr} {R : Bool -> aB -> Hp -> List Addr -> Prop} {v : V} (h : aD p H α (Bg d μ) R) (r : p.R H α d v) (s : p.S H α μ) : ∃ b, d = .bl b /\ v = .bl b /\ R b μ H α := by
 cases d with
 | bl b => exact ⟨b, rfl, bh.mp r, h.now s⟩
 | non => exact h.elim
 | int i => exact h.elim
 | str x => exact h.elim
 | tup xs => exact h.elim
 | frz xs => exact h.elim
 | obj n => exact h.elim
variable {X : Cx} {a b c : Expr} {es : List Expr} {fa fb fc : ME} {pos : Pos}
theorem Ez {i : Nat} {x : Str} (h : PE X (.Name x pos) (Gm i)) : PE X (.Name x pos) (tD p (ah i)) := h.weak fun σ H Q ⟨α, ρ, μ, S, R, P⟩ => by
 unfold ah at P
 cases e : ρ[i]? with
 | none => rw [e] at P; exact P.elim
 | some o =>
  rw [e] at P
  cases o with
  | none => exact P.elim
  | some d =>
   obtain ⟨v, h1, h2⟩ := R.at' i d e
   exact ⟨v, h1, P.now S v h2⟩
theorem yN {e : Expr} {v : V} {d : D} (h : PE X e (tC v)) (r : ∀ H α, p.R H α d v) : PE X e (tD p (cC d)) := h.weak fun σ H Q ⟨α, ρ, μ, S, R, P⟩ => P.now S v (r H α)
theorem my {op : Operator} {o : D -> D -> aB -> ak D} {r : R2} (ho : jL X (binaryOp op) r) (hd : rp p o r) (ha : PE X a (tD p fa)) (hb : PE X b (tD p fb)) : PE X (.BinOp a op b pos) (tD p (aw o fa fb)) :=
 (He ho ha hb).weak fun σ H Q ⟨α, ρ, μ, S, R, P⟩ => ⟨α, ρ, μ, S, R, P.bind.imp fun x μ1 H1 α1 X1 S1 P1 v rv => ⟨α1, ρ, μ1, S1, R.mono X1, P1.bind.imp fun y μ2 H2 α2 X2 S2 P2 u ru => hd x y v u H2 α2 μ2 Q S2 (rv.mono X2) ru P2⟩⟩
theorem EG {op : CmpOp} {o : D -> D -> aB -> ak D} {r : R2} (ho : jL X (compareOp op) r) (hd : rp p o r) (ha : PE X a (tD p fa)) (hb : PE X b (tD p fb)) (hm : behindInMarks op b = false) : PE X (.Compare a [op] [b] pos) (tD p (aw o fa fb)) :=
 (Cw ho ha hb hm).weak fun σ H Q ⟨α, ρ, μ, S, R, P⟩ => ⟨α, ρ, μ, S, R, P.bind.imp fun x μ1 H1 α1 X1 S1 P1 v rv => ⟨α1, ρ, μ1, S1, R.mono X1, P1.bind.imp fun y μ2 H2 α2 X2 S2 P2 u ru => hd x y v u H2 α2 μ2 Q S2 (rv.mono X2) ru P2⟩⟩
theorem Ej {op : CmpOp} {o : D -> D -> aB -> ak D} {r : R2} (ho : jL X (compareOp op) r) (hd : rp p o r) (ha : PE X a (tD p fa)) (hb : PE X b (tD p fb)) (hm : behindInMarks op b = false) : PT X (.Compare a [op] [b] pos) (h8 p (gP (aw o fa fb))) :=
 (Cg ho ha hb hm).weak fun σ H Q ⟨α, ρ, μ, S, R, P⟩ => ⟨α, ρ, μ, S, R, P.bind.bind.imp fun x μ1 H1 α1 X1 S1 P1 v rv => ⟨α1, ρ, μ1, S1, R.mono X1, P1.bind.imp fun y μ2 H2 α2 X2 S2 P2 u ru =>
  hd x y v u H2 α2 μ2 _ S2 (rv.mono X2) ru (P2.imp fun d μ3 H3 α3 X3 S3 P3 z rz => by
   obtain ⟨k, _, e, q⟩ := rO P3 rz S3
   exact ⟨k, e, q⟩)⟩⟩
theorem G4 {op : UnaryOp} {o : D -> aB -> ak D} {r : V -> Hp -> VK -> Prop} (ho : HG X (unaryOp op) r) (hd : IQ p o r) (ha : PE X a (tD p fa)) : PE X (.UnaryOp op a pos) (tD p (pO o fa)) :=
 (Hd ho ha).weak fun σ H Q ⟨α, ρ, μ, S, R, P⟩ => ⟨α, ρ, μ, S, R, P.bind.imp fun x μ1 H1 α1 X1 S1 P1 v rv => hd x v H1 α1 μ1 Q S1 rv P1⟩
theorem EI : PA X [] (mr p ay) := va.weak fun σ H Q ⟨α, ρ, μ, S, R, P⟩ => P.now S [] Reps.nil
theorem B8 {fr : MA} (ha : PE X a (tD p fa)) (hr : PA X es (mr p fr)) (hs : starEach (a :: es) X.env = (false, eval a X.env) :: starEach es X.env) : PA X (a :: es) (mr p (ae fa fr)) :=
 (nI ha hr hs).weak fun σ H Q ⟨α, ρ, μ, S, R, P⟩ => ⟨α, ρ, μ, S, R, P.bind.imp fun x μ1 H1 α1 X1 S1 P1 v rv => ⟨α1, ρ, μ1, S1, R.mono X1, P1.bind.imp fun y μ2 H2 α2 X2 S2 P2 us ru => P2.now S2 _ (Reps.cons (rv.mono X2) ru)⟩⟩
theorem EA {k : Nat} {fr : MA} (h : PA X es (mr p fr)) : PE X (.Tuple es k pos) (tD p (dA fr)) :=
 (EZ h).weak fun σ H Q ⟨α, ρ, μ, S, R, P⟩ => ⟨α, ρ, μ, S, R, P.bind.imp fun ds μ1 H1 α1 X1 S1 P1 vs rv => by
  by_cases hl : ds.length <= sizeLine
  ·rw [Jl hl] at P1
   refine ⟨by rw [rv.length]; exact hl, fun q hq => ?_⟩
   exact P1 _ _ (bN hq) (S1.tuple hq) _ (aF.mpr ⟨q, vs, rfl, fW.of cw, rv.mono (bN hq)⟩)
  ·rw [Jm hl] at P1
   exact P1.elim⟩
theorem cU {H : Hp} {α : List Addr} {μ : aB} {ds : List D} {vs : List V} {q : Addr} (S : p.S H α μ) (hq : H q = none) (rv : p.Rs H α ds vs) :
  p.X H (cM H q (.lst vs)) α (α ++ [q]) /\ p.S (cM H q (.lst vs)) (α ++ [q]) (μ ++ [.lst ds]) /\ p.R (cM H q (.lst vs)) (α ++ [q]) (.obj μ.length) (.ref q) := by
 have X1 : p.X H (cM H q (.lst vs)) α (α ++ [q]) := (bN hq).trans (kc [q])
 exact ⟨X1, S.more hq ⟨vs, cw, rv.mono X1⟩, aO.mpr ⟨q, rfl, by rw [<- S.len]; simp⟩⟩
theorem ED {fr : MA} (h : PA X es (mr p fr)) : PE X (.List es pos) (tD p (fY fr)) :=
 (E5 h).weak fun σ H Q ⟨α, ρ, μ, S, R, P⟩ => ⟨α, ρ, μ, S, R, P.bind.imp fun ds μ1 H1 α1 X1 S1 P1 vs rv => by
  by_cases hl : ds.length <= sizeLine
  ·rw [Jl hl] at P1
   refine ⟨by rw [rv.length]; exact hl, fun q hq => ?_⟩
   obtain ⟨x1, x2, x3⟩ := cU S1 hq rv
   exact P1 _ _ x1 x2 _ x3
  ·rw [Jm hl] at P1
   exact P1.elim⟩
variable {ft gt : MT} {rest : List Expr}
theorem Eh (ha : PT X a (h8 p ft)) (hb : PW X (.BoolOp .And (b :: rest) pos) (h8 p gt)) : PW X (.BoolOp .And (a :: b :: rest) pos) (h8 p (kR ft gt)) :=
 (EN ha hb).weak fun σ H Q ⟨α, ρ, μ, S, R, P⟩ => ⟨α, ρ, μ, S, R, P.bind.imp fun k μ1 H1 α1 X1 S1 P1 => by
  cases k with
  | true => rw [Jl rfl] at P1 ⊢; exact ⟨α1, ρ, μ1, S1, R.mono X1, P1⟩
  | false => rw [Jm J1] at P1 ⊢; exact P1.now S1⟩
theorem G0 (ha : PT X a (h8 p ft)) (hb : PW X (.BoolOp .Or (b :: rest) pos) (h8 p gt)) : PW X (.BoolOp .Or (a :: b :: rest) pos) (h8 p (sW ft gt)) :=
 (Hb ha hb).weak fun σ H Q ⟨α, ρ, μ, S, R, P⟩ => ⟨α, ρ, μ, S, R, P.bind.imp fun k μ1 H1 α1 X1 S1 P1 => by
  cases k with
  | true => rw [Jl rfl] at P1 ⊢; exact P1.now S1
  | false => rw [Jm J1] at P1 ⊢; exact ⟨α1, ρ, μ1, S1, R.mono X1, P1⟩⟩
theorem Ei (ha : PT X a (h8 p ft)) : PT X (.UnaryOp .Not a pos) (h8 p (m5 ft)) :=
 (EO ha).weak fun σ H Q ⟨α, ρ, μ, S, R, P⟩ => ⟨α, ρ, μ, S, R, P.bind.imp fun k μ1 H1 α1 X1 S1 P1 => P1.now S1⟩
theorem EH (ha : PE X a (tD p fa)) (hb : PE X (.BoolOp .And (b :: rest) pos) (tD p fb)) : PE X (.BoolOp .And (a :: b :: rest) pos) (tD p (m6 fa fb)) :=
 (E7 ha hb).weak fun σ H Q ⟨α, ρ, μ, S, R, P⟩ => ⟨α, ρ, μ, S, R, P.bind.imp fun d μ1 H1 α1 X1 S1 P1 v rv => by
  obtain ⟨k, _, e, q⟩ := rO P1.bind rv S1
  refine ⟨k, e, ?_⟩
  cases k with
  | true => rw [Jl rfl] at q ⊢; exact ⟨α1, ρ, μ1, S1, R.mono X1, q⟩
  | false => rw [Jm J1] at q ⊢; exact q.now S1 _ (bh.mpr rfl)⟩
theorem EC (ha : PE X a (tD p fa)) : PE X (.UnaryOp .Not a pos) (tD p (tL fa)) :=
 (E4 ha).weak fun σ H Q ⟨α, ρ, μ, S, R, P⟩ => ⟨α, ρ, μ, S, R, P.bind.imp fun d μ1 H1 α1 X1 S1 P1 v rv => by
  obtain ⟨k, _, e, q⟩ := rO P1.bind rv S1
  exact ⟨k, e, q.now S1 _ (bh.mpr rfl)⟩⟩
theorem G6 (hc : PT X c (h8 p ft)) (ha : PE X a (tD p fa)) (hb : PE X b (tD p fb)) : PE X (.IfExp c a b pos) (tD p (Gd ft fa fb)) :=
 (AB hc ha hb).weak fun σ H Q ⟨α, ρ, μ, S, R, P⟩ => ⟨α, ρ, μ, S, R, P.bind.imp fun k μ1 H1 α1 X1 S1 P1 => by
  cases k with
  | true => rw [Jl rfl] at P1 ⊢; exact ⟨α1, ρ, μ1, S1, R.mono X1, P1⟩
  | false => rw [Jm J1] at P1 ⊢; exact ⟨α1, ρ, μ1, S1, R.mono X1, P1⟩⟩
theorem Ak {id : String} {x : Str} {px : Pos} {f : List D -> aB -> ak D} {fr : MA} {r : List V -> Hp -> VK -> Prop} (hc : cE X (.builtin id) r) (hd : sO p f r) (hg : Gl X x) (hm : X.mg x = none) (hv : bootBuiltins x = some (.builtin id)) (ha : PA X (a :: es) (mr p fr))
  (hn : x ≠ "__name__") (hdb : (x == ("__debug__" : Str)) = false) (he : starEach (a :: es) X.env = (false, eval a X.env) :: starEach es X.env) (hpl : (backTo pos (starEach es X.env)).any (·.1) = false) : PE X (.Call (.Name x px) (a :: es) [] pos) (tD p (aA f fr)) :=
 (t6 hc hg hm hv ha hn hdb he hpl).weak fun σ H Q ⟨α, ρ, μ, S, R, P⟩ => ⟨α, ρ, μ, S, R, P.bind.imp fun ds μ1 H1 α1 X1 S1 P1 vs rv => hd ds vs H1 α1 μ1 Q S1 rv P1⟩
theorem xG {T : String} {x : Str} {px : Pos} {f : List D -> aB -> ak D} {fr : MA} {r : List V -> Hp -> VK -> Prop} (hc : cE X (.type T) r) (hd : sO p f r) (hg : Gl X x) (hm : X.mg x = none) (hv : bootBuiltins x = some (.type T)) (ha : PA X (a :: es) (mr p fr))
  (hn : x ≠ "__name__") (hdb : (x == ("__debug__" : Str)) = false) (he : starEach (a :: es) X.env = (false, eval a X.env) :: starEach es X.env) (hpl : (backTo pos (starEach es X.env)).any (·.1) = false) : PE X (.Call (.Name x px) (a :: es) [] pos) (tD p (aA f fr)) :=
 (qE hc hg hm hv ha hn hdb he hpl).weak fun σ H Q ⟨α, ρ, μ, S, R, P⟩ => ⟨α, ρ, μ, S, R, P.bind.imp fun ds μ1 H1 α1 X1 S1 P1 vs rv => hd ds vs H1 α1 μ1 Q S1 rv P1⟩
end
def cR (f : ME) : MS := fun ρ μ => (f ρ μ).bindS fun d μ' => .ret d μ'
def fZ : MS := fun ρ μ => .next ρ μ
def DW : MS := fun _ _ => .bad
def bG (f g : MS) : MS := fun ρ μ => (f ρ μ).bind g
def mq (c : MT) (f g : MS) : MS := fun ρ μ => (c ρ μ).bindS fun b μ1 => if b = true then f ρ μ1 else g ρ μ1
def bz (f : ME) (g : MG) : MS := fun ρ μ => (f ρ μ).bindS fun d μ1 => (g d ρ μ1).bindS fun ρ' μ2 => .next ρ' μ2
def tu (f : ME) : MS := fun ρ μ => (f ρ μ).bindS fun _ μ1 => .next ρ μ1
def ag (i : Nat) : MG := fun d ρ μ => .ok (ρ.set i (some d)) μ
abbrev DV := List D -> Ro -> aB -> ak Ro
def gR : DV := fun ds ρ μ => match ds with
 | [] => .ok ρ μ
 | _ :: _ => .bad
def bF (g : MG) (u : DV) : DV := fun ds ρ μ => match ds with
 | [] => .bad
 | d :: r => (g d ρ μ).bind fun ρ' μ' => u r ρ' μ'
def gQ (n : Nat) (u : DV) : MG := fun d ρ μ => match d with
 | .tup xs => if xs.length = n then u xs ρ μ else .bad
 | _ => .bad
def uZ (o i v : D) (μ : aB) : ak Unit := match o, i with
 | .obj n, .int k => match μ[n]? with
  | some (.lst xs) => match uT xs.length k with
   | some j => .ok () (μ.set n (.lst (xs.set j v)))
   | none => .bad
  | _ => .bad
 | _, _ => .bad
def n9 (fo fi : ME) : MG := fun d ρ μ => (fo ρ μ).bind fun o μ1 => (fi ρ μ1).bind fun i μ2 => (uZ o i d μ2).bind fun _ μ3 => .ok ρ μ3
def sS (p : Pa) (g : DV) : Bl := fun vs σ H Q => ∃ α ρ μ ds, p.S H α μ /\ dg p.K H α ρ σ /\ p.Rs H α ds vs /\ aD p H α (g ds ρ μ) (fun ρ' _ H' α' => ∀ σ', dg p.K H' α' ρ' σ' -> Q σ' H')
theorem PG.weak {X : Cx} {e : Expr} {t t' : TG} (h : PG X e t) (k : ∀ v σ H Q, t' v σ H Q -> t v σ H Q) : PG X e t' := fun pins s σ H v u Q I r q => h pins s σ H v u Q I r (k v σ H Q q)
theorem uV.weak {X : Cx} {e : List Expr} {t t' : Bl} (h : uV X e t) (k : ∀ v σ H Q, t' v σ H Q -> t v σ H Q) : uV X e t' := fun pins s σ H v u Q I r q => h pins s σ H v u Q I r (k v σ H Q q)
theorem PI.weak {X : Cx} {tg e : Expr} {t t' : TI} (h : PI X tg e t) (k : ∀ σ H R, t' σ H R -> t σ H R) : PI X tg e t' := fun pins s σ H Q I q => h pins s σ H Q I (k σ H Q q)
section
variable {p : Pa} {X : Cx} {a b c e tg : Expr} {es : List Expr} {f : ME} {g : MG} {u : DV} {pos : Pos} {st : Stmt} {sts : List Stmt} {fs gs : MS} {ft : MT}
theorem En : kO X [] (iZ p fZ) := Cj.weak fun D σ H ⟨α, ρ, μ, S, R, P⟩ => P H α σ lC.refl S R
theorem Ag {t u : TS} {D : nX} {σ : St} {H : Hp} {α : List Addr} {o : SO} {k : MS} (h : gA p H α (o.bind k) D)
  (hk : ∀ D σ H, iZ p k D σ H -> u D σ H) : gA p H α o { D with nx := u D } := by
 cases o with
 | next ρ μ => exact fun H' α' σ' e s r => hk _ _ _ ⟨α', ρ, μ, s, r, gA.from e h⟩
 | brk ρ μ => exact h
 | cnt ρ μ => exact h
 | ret d μ => exact h
 | exc x μ => exact h
 | bad => exact h
theorem BM (h1 : PS X st (iZ p fs)) (h2 : kO X sts (iZ p gs)) : kO X (st :: sts) (iZ p (bG fs gs)) :=
 (Av h1 h2).weak fun D σ H ⟨α, ρ, μ, S, R, P⟩ => ⟨α, ρ, μ, S, R, Ag (t := iZ p fs) (σ := σ) P fun _ _ _ z => z⟩
theorem Em (h1 : PS X st (iZ p fs)) : kO X [st] (iZ p fs) := Ci h1
theorem El (h : PE X e (tD p f)) : PS X (.Return (some e) pos) (iZ p (cR f)) :=
 (ES h).weak fun D σ H ⟨α, ρ, μ, S, R, P⟩ => ⟨α, ρ, μ, S, R, (aD.bindS P).imp fun d μ1 H1 α1 X1 S1 P1 v rv => P1 H1 α1 v lC.refl S1 rv⟩
theorem zV : PS X st (iZ p DW) := Aw.weak fun D σ H ⟨α, ρ, μ, S, R, P⟩ => P
theorem G1 {A B : List Stmt} (hc : PT X c (h8 p ft)) (ha : kO X A (iZ p fs)) (hb : kO X B (iZ p gs)) : PS X (.If c A B pos) (iZ p (mq ft fs gs)) :=
 (Hc hc ha hb).weak fun D σ H ⟨α, ρ, μ, S, R, P⟩ => ⟨α, ρ, μ, S, R, (aD.bindS P).imp fun k μ1 H1 α1 X1 S1 P1 => by
  cases k with
  | true => rw [Jl rfl] at P1 ⊢; exact ⟨α1, ρ, μ1, S1, R.mono X1, P1⟩
  | false => rw [Jm J1] at P1 ⊢; exact ⟨α1, ρ, μ1, S1, R.mono X1, P1⟩⟩
theorem uA {D : nX} {σ : St} {H : Hp} (h : iZ p (bz f g) D σ H) : yM (tD p f) (mY p g) D σ H := by
 obtain ⟨α, ρ, μ, S, R, P⟩ := h
 exact ⟨α, ρ, μ, S, R, (aD.bindS P).imp fun d μ1 H1 α1 X1 S1 P1 v rv => ⟨α1, ρ, μ1, d, S1, R.mono X1, rv, (aD.bindS P1).imp fun ρ' μ2 H2 α2 X2 S2 P2 σ' r' => P2 H2 α2 σ' lC.refl S2 r'⟩⟩
theorem Ep (he : PE X e (tD p f)) (hg : PG X tg (mY p g)) (hs : swapsWithSole [tg] e pos.line X.env = pure false) (hw : swappedStores [tg] e X.env = pure none)
  (h1 : (assignEach [tg] X.env).map (·.2) = [assign tg X.env]) : PS X (.Assign [tg] e pos) (iZ p (bz f g)) := (EU he hg hs hw h1).weak fun D σ H h => uA h
theorem oX {i : Nat} {v : V} {σ : St} {H : Hp} {Q : St -> Hp -> Prop} (h : mY p (ag i) v σ H Q) : tE i v σ H Q := by
 obtain ⟨α, ρ, μ, d, S, R, r, P⟩ := h
 exact P.now S _ (R.set i r)
theorem B1 {i : Nat} {x : Str} (hN : X.N.Nodup) (hi : X.N[i]? = some x) (hx : Dp X.env.scope x) (hf : X.fn x = true \/ X.env.scope.names.lookup x = some .local) : PG X (.Name x pos) (mY p (ag i)) :=
 (Cr hN hi hx hf).weak fun v σ H Q h => oX h
theorem Ek {i : Nat} {x : Str} {pos' : Pos} (hN : X.N.Nodup) (hi : X.N[i]? = some x) (hx : Dp X.env.scope x) (he : PE X e (tD p f)) (hs : swapsWith e (some (.Name x pos')) pos.line X.env = pure false) (hf : X.fn x = true \/ X.env.scope.names.lookup x = some .local) :
  PS X (.Assign [.Name x pos'] e pos) (iZ p (bz f (ag i))) := (ER hN hi hx he hs hf).weak fun D σ H h => by
 obtain ⟨α, ρ, μ, S, R, P⟩ := uA h
 exact ⟨α, ρ, μ, S, R, P.imp fun d μ1 H1 α1 X1 S1 P1 v rv => oX (P1 v rv)⟩
theorem BL (he : PE X e (tD p f)) (hs : swapsWith e none pos.line X.env = pure false) : PS X (.Expr e pos) (iZ p (tu f)) :=
 (Cm he hs).weak fun D σ H ⟨α, ρ, μ, S, R, P⟩ => ⟨α, ρ, μ, S, R, (aD.bindS P).imp fun d μ1 H1 α1 X1 S1 P1 v rv => P1 H1 α1 σ lC.refl S1 (R.mono X1)⟩
theorem B0 : uV X [] (sS p gR) := Cq.weak fun vs σ H Q ⟨α, ρ, μ, ds, S, R, r, P⟩ => by
 cases ds with
 | nil => simp only [Reps] at r; exact ⟨r, P.now S σ R⟩
 | cons d ds => exact P.elim
theorem Ac (h1 : PG X e (mY p g)) (h2 : uV X es (sS p u)) (hs : (assignEach (e :: es) X.env).map (·.2) = assign e X.env :: (assignEach es X.env).map (·.2)) : uV X (e :: es) (sS p (bF g u)) :=
 (Az h1 h2 hs).weak fun vs σ H Q ⟨α, ρ, μ, ds, S, R, r, P⟩ => by
  cases ds with
  | nil => exact P.elim
  | cons d ds =>
   simp only [Reps] at r
   obtain ⟨v, vr, rfl, r1, r2⟩ := r
   refine ⟨v, vr, rfl, α, ρ, μ, d, S, R, r1, ?_⟩
   exact (aD.bind (o := g d ρ μ) P).imp fun ρ' μ1 H1 α1 X1 S1 P1 σ' r' => ⟨α1, ρ', μ1, ds, S1, r', r2.mono X1, P1⟩
theorem Ex {k n : Nat} (hK : X.K = p.K) (hc : X.calm = true) (h : uV X es (sS p u)) (hn : (assignEach es X.env).length = n) (hst : (assignEach es X.env).findIdx? (·.1) = none) : PG X (.Tuple es k pos) (mY p (gQ n u)) :=
 (EW hc h hn hst).weak fun v σ H Q ⟨α, ρ, μ, d, S, R, r, P⟩ => by
  cases d with
  | tup xs =>
   obtain ⟨a, vs, rfl, h1, h2⟩ := aF.mp r
   have P' : aD p H α (if xs.length = n then u xs ρ μ else .bad) _ := P
   by_cases hl : xs.length = n
   ·rw [Jl hl] at P'
    exact ⟨a, vs, rfl, by rw [hK]; exact h1, by rw [h2.length]; exact hl, α, ρ, μ, xs, S, R, h2, P'⟩
   ·rw [Jm hl] at P'; exact P'.elim
  | non => exact P.elim
  | bl b => exact P.elim
  | int i => exact P.elim
  | str x => exact P.elim
  | frz xs => exact P.elim
  | obj n => exact P.elim
theorem B3 {o i d : D} {μ : aB} {H : Hp} {α : List Addr} {R : Unit -> aB -> Hp -> List Addr -> Prop} {vo vi v : V} (S : p.S H α μ) (ro : p.R H α o vo) (ri : p.R H α i vi) (rv : p.R H α d v) (P : aD p H α (uZ o i d μ) R) :
  Dv vo vi v H fun H' => ∃ μ', p.X H H' α α /\ p.S H' α μ' /\ R () μ' H' α := by
 unfold uZ at P
 split at P
 ·rename_i n k
  split at P
  ·rename_i xs hx
   split at P
   ·rename_i j hj
    obtain ⟨a, ea, us, hH, rr⟩ := S.at hx
    obtain ⟨a', rfl, ea'⟩ := aO.mp ro
    rw [ea] at ea'; cases ea'
    rw [aq.mp ri]
    have q := rr.set rv j
    refine ⟨a, us, k, j, rfl, rfl, hH, by rw [rr.length]; exact hj, _, iM hH, S.put hx ea hH q, ?_⟩
    exact P _ _ (iM hH) (S.put hx ea hH q)
   ·exact P.elim
  ·exact P.elim
 ·exact P.elim
theorem Ey {o i : Expr} {fo fi : ME} (ho : PE X o (tD p fo)) (hi : PE X i (tD p fi))
  (ha : ∀ v, assign (.Subscript o i pos) X.env v = (do
   let ov <- holding [v] (eval o X.env)
   let iv <- holding [v, ov] (eval i X.env)
   standAt pos
   holding [v, ov, iv] (setItem ov iv v)
   release [v, ov, iv] [])) : PG X (.Subscript o i pos) (mY p (n9 fo fi)) :=
 (EX ho hi Ad ha).weak fun v σ H Q ⟨α, ρ, μ, d, S, R, r, P⟩ => ⟨α, ρ, μ, S, R, (aD.bind P).imp fun od μ1 H1 α1 X1 S1 P1 vo ro => ⟨α1, ρ, μ1, S1, R.mono X1, (aD.bind P1).imp fun id μ2 H2 α2 X2 S2 P2 vi ri => by
  obtain ⟨pp, xs, k, j, e1, e2, e3, e4, μ3, x3, s3, q⟩ := B3 S2 (ro.mono X2) ri ((r.mono X1).mono X2) (aD.bind P2)
  exact ⟨pp, xs, k, j, e1, e2, e3, e4, q.now s3 σ (((R.mono X1).mono X2).mono x3)⟩⟩⟩
end
inductive mZ where
 | fix (xs : List D) | own (n : Nat) (xs : List D) | eno (n : Nat) (xs : List D)
def ij : Nat -> List D -> List D
 | _, [] => []
 | i, x :: r => .tup [.int i, x] :: ij (i + 1) r
theorem qW : ∀ {xs : List D} {k i : Nat}, (ij k xs)[i]? = (xs[i]?).map fun x => D.tup [.int ((k + i : Nat) : Int), x]
 | [], _, _ => by simp [ij]
 | x :: r, k, 0 => by simp [ij]
 | x :: r, k, i + 1 => by
  simp only [ij, MY]
  rw [qW (xs := r) (k := k + 1) (i := i)]
  congr 1
  funext y
  congr 4
  omega
theorem qV : ∀ {xs : List D} {k : Nat}, (ij k xs).length = xs.length
 | [], _ => rfl
 | x :: r, k => by simp [ij, qV (xs := r)]
def mZ.items : mZ -> List D
 | .fix xs => xs
 | .own _ xs => xs
 | .eno _ xs => ij 0 xs
def cZ : mZ -> aB -> Prop
 | .fix _, _ => True
 | .own n xs, μ => μ[n]? = some (.lst xs)
 | .eno n xs, μ => μ[n]? = some (.lst xs)
def u6 (p : Pa) (J : It) (src : mZ) (H0 : Hp) (α0 : List Addr) : Prop :=
 ∀ H2 α2 μ2, p.X H0 H2 α0 α2 -> p.S H2 α2 μ2 -> cZ src μ2 ->
  (∀ (i : Nat) d, src.items[i]? = some d -> J.go i H2 /\ ∀ x H3, J.yld i H2 x H3 -> p.X H2 H3 α2 α2 /\ p.S H3 α2 μ2 /\ p.R H3 α2 d x) /\ J.stop src.items.length H2
abbrev MI := Ro -> aB -> ak mZ
def pL (p : Pa) (f : MI) : TI := fun σ H R => ∃ α ρ μ, p.S H α μ /\ dg p.K H α ρ σ /\ aD p H α (f ρ μ) (fun src μ' H' α' => ∀ J, cZ src μ' -> u6 p J src H' α' -> R J H')
def SO.loop (o : SO) (k : Ro -> aB -> SO) : SO := match o with
 | .next ρ μ => k ρ μ
 | .cnt ρ μ => k ρ μ
 | .brk ρ μ => .next ρ μ
 | .ret d μ => .ret d μ
 | .exc x μ => .exc x μ
 | .bad => .bad
open Classical in
noncomputable def iF (src : mZ) (g : MG) (fb : MS) : List D -> Ro -> aB -> SO
 | [], ρ, μ => if cZ src μ then .next ρ μ else .bad
 | d :: r, ρ, μ => if cZ src μ then (g d ρ μ).bindS fun ρ' μ' => (fb ρ' μ').loop (iF src g fb r) else .bad
noncomputable def jX (fi : MI) (g : MG) (fb : MS) : MS := fun ρ μ => (fi ρ μ).bindS fun src μ1 => iF src g fb src.items ρ μ1
section
variable {p : Pa} {X : Cx} {tg iter c : Expr} {fi : MI} {g : MG} {fb : MS} {ft : MT} {body : List Stmt} {pos : Pos}
theorem xX {H : Hp} {α : List Addr} {o : SO} {k : Ro -> aB -> SO} {D : nX} {N : St -> Hp -> Prop} (h : gA p H α (o.loop k) D)
  (hN : ∀ ρ μ H' α' σ', p.X H H' α α' -> p.S H' α' μ -> dg p.K H' α' ρ σ' -> gA p H' α' (k ρ μ) D -> N σ' H') : gA p H α o { D with nx := N, ct := N, bk := D.nx } := by
 cases o with
 | next ρ μ => exact fun H' α' σ' e s r => hN ρ μ H' α' σ' e s r (gA.from e h)
 | cnt ρ μ => exact fun H' α' σ' e s r => hN ρ μ H' α' σ' e s r (gA.from e h)
 | brk ρ μ => exact h
 | ret d μ => exact h
 | exc x μ => exact h
 | bad => exact h
theorem Eo (hp : PassesOwn (model X.prog X.w) X.A X.env X.xe) (hc : X.calm = true) (hi : PI X tg iter (pL p fi)) (hg : PG X tg (mY p g)) (hb : kO X body (iZ p fb)) (hs : ∀ x, foldedSetIterable iter X.env x = pure x) :
  PS X (.For tg iter body [] pos) (iZ p (jX fi g fb)) := (ET hp hc hi hg hb hs).weak fun D σ H ⟨α, ρ, μ, S, R, P⟩ => by
 refine ⟨α, ρ, μ, S, R, (aD.bindS P).imp fun src μ1 H1 α1 X1 S1 P1 J hok hJ => ?_⟩
 refine ⟨fun i m σ2 H2 => m = src.items.length - i /\ i <= src.items.length /\ ∃ α2 ρ2 μ2, p.X H1 H2 α1 α2 /\ p.S H2 α2 μ2 /\ dg p.K H2 α2 ρ2 σ2 /\ gA p H2 α2 (iF src g fb (src.items.drop i) ρ2 μ2) D,
  ⟨_, rfl, Lb _, α1, ρ, μ1, lC.refl, S1, R.mono X1, by simpa using P1⟩, ?_⟩
 rintro i m σ2 H2 ⟨rfl, hi, α2, ρ2, μ2, X2, S2, R2, P2⟩
 by_cases hlt : i < src.items.length
 ·rw [MZ hlt] at P2
  unfold iF at P2
  by_cases ho : cZ src μ2
  ·rw [Jl ho] at P2
   obtain ⟨hgo, hy⟩ := (hJ H2 α2 μ2 X2 S2 ho).1 i _ (MN hlt)
   refine .inr ⟨hgo, fun σ' H' => i + 1 <= src.items.length /\ ∃ α2 ρ2 μ2, p.X H1 H' α1 α2 /\ p.S H' α2 μ2 /\ dg p.K H' α2 ρ2 σ' /\ gA p H' α2 (iF src g fb (src.items.drop (i + 1)) ρ2 μ2) D,
    fun σ' H' ⟨h1, h2⟩ => ⟨_, by omega, rfl, h1, h2⟩, fun x H3 yx => ?_⟩
   obtain ⟨X3, S3, R3⟩ := hy x H3 yx
   refine ⟨α2, ρ2, μ2, _, S3, R2.mono X3, R3, (aD.from X3 (aD.bindS P2)).imp fun ρ4 μ4 H4 α4 X4 S4 P4 σ4 R4 => ⟨α4, ρ4, μ4, S4, R4, xX P4 fun ρ5 μ5 H5 α5 σ5 X5 S5 R5 P5 => ⟨hlt, α5, ρ5, μ5, ((X2.trans X3).trans X4).trans X5, S5, R5, P5⟩⟩⟩
  ·rw [Jm ho] at P2; exact P2.elim
 ·have e : i = src.items.length := by omega
  subst e
  rw [Na] at P2
  unfold iF at P2
  by_cases ho : cZ src μ2
  ·rw [Jl ho] at P2
   exact .inl ⟨(hJ H2 α2 μ2 X2 S2 ho).2, P2 H2 α2 σ2 lC.refl S2 R2⟩
  ·rw [Jm ho] at P2; exact P2.elim
end
section
variable {p : Pa} {X : Cx} {tg iter : Expr}
theorem x8 {H : Hp} {α : List Addr} {μ : aB} {n : Nat} {xs : List D} {a : Addr} (S : p.S H α μ) (hn : μ[n]? = some (.lst xs)) (ha : α[n]? = some a) : u6 p (HI p.K a) (.own n xs) H α := by
 intro H2 α2 μ2 X2 S2 ho
 obtain ⟨a', ea, vs, hH, rr⟩ := S2.at ho
 rw [X2.pre n a ha] at ea; cases ea
 refine ⟨fun i d hd => ?_, vs, fw.of hH, by rw [rr.length]; exact JV _⟩
 obtain ⟨v, hv, rv⟩ := rr.get hd
 refine ⟨⟨vs, v, fw.of hH, hv⟩, fun x H3 ⟨e, hx⟩ => ?_⟩
 subst e
 have := hx vs (fw.of hH)
 rw [hv] at this; cases this
 exact ⟨lC.refl, S2, rv⟩
theorem AV {H : Hp} {α : List Addr} {xs : List D} {vs : List V} {a : Addr} (h : Dq p.K H a vs) (r : p.Rs H α xs vs) : u6 p (HI p.K a) (.fix xs) H α := by
 intro H2 α2 μ2 X2 S2 ho
 have h2 := (X2.frz a vs h).sq
 have rr := r.mono X2
 refine ⟨fun i d hd => ?_, vs, h2, by rw [rr.length]; exact JV _⟩
 obtain ⟨v, hv, rv⟩ := rr.get hd
 refine ⟨⟨vs, v, h2, hv⟩, fun x H3 ⟨e, hx⟩ => ?_⟩
 subst e
 have := hx vs h2
 rw [hv] at this; cases this
 exact ⟨lC.refl, S2, rv⟩
theorem AU {H : Hp} {α : List Addr} {xs : List D} {vs : List V} {a : Addr} (h : fW p.K H a vs) (r : p.Rs H α xs vs) : u6 p (HU p.K a) (.fix xs) H α := by
 intro H2 α2 μ2 X2 S2 ho
 have h2 := X2.tup a vs h
 have rr := r.mono X2
 refine ⟨fun i d hd => ?_, vs, h2, by rw [rr.length]; exact JV _⟩
 obtain ⟨v, hv, rv⟩ := rr.get hd
 refine ⟨⟨vs, v, h2, hv⟩, fun x H3 ⟨e, hx⟩ => ?_⟩
 subst e
 have := hx vs h2
 rw [hv] at this; cases this
 exact ⟨lC.refl, S2, rv⟩
def bq (lo : Int) (n : Nat) : List D := (List.range n).map fun (i : Nat) => D.int (lo + (i : Int))
theorem uh {H : Hp} {α : List Addr} (lo : Int) (n : Nat) : u6 p (Ge lo n) (.fix (bq lo n)) H α := by
 intro H2 α2 μ2 X2 S2 ho
 refine ⟨fun i d hd => ?_, by simp [mZ.items, bq, Ge]⟩
 have hd' : (bq lo n)[i]? = some d := hd
 unfold bq at hd'
 rw [Ke] at hd'
 by_cases hi : i < n
 ·rw [Mv hi] at hd'
  cases hd'
  refine ⟨hi, fun x H3 ⟨e, hx⟩ => ?_⟩
  subst e; subst hx
  exact ⟨lC.refl, S2, aq.mpr rfl⟩
 ·rw [Mw (by simpa using hi)] at hd'
  cases hd'
def xj (d : D) (μ : aB) : ak mZ := match d with
 | .tup xs => .ok (.fix xs) μ
 | .frz xs => .ok (.fix xs) μ
 | .obj n => match μ[n]? with
  | some (.lst xs) => .ok (.own n xs) μ
  | _ => .bad
 | _ => .bad
def gG (f : ME) : MI := fun ρ μ => (f ρ μ).bind xj
def Iu (K : W.Frag) (tl : TE) : TI := fun σ H R => tl σ H fun x H1 => ∃ a, x = .ref a /\ (((∃ xs, fw K H1 a xs) /\ R (HI K a) H1) \/ ((∃ xs, fW K H1 a xs) /\ R (HU K a) H1))
theorem EV {l : Expr} {tl : TE} (hl : PE X l tl) : PI X tg l (Iu X.K tl) := by
 intro pins s σ H R I h
 refine dY (hl pins s σ H _ I h) fun v s1 ⟨x, H1, I1, r1, q1⟩ => ?_
 obtain ⟨a, e, q⟩ := q1
 subst e
 cases r1
 rcases q with ⟨⟨xs, hq⟩, q⟩ | ⟨⟨xs, hq⟩, q⟩
 ·obtain ⟨its, rv, p, hz⟩ := I1.list hq
  refine Ml p.isList ?_
  refine ⟨s1.heap.objs.size, [s1.heap.objs.size], _, _, H1, rfl, I1.kept (t' := s1.toks) fun b o e => JT _ e, xp a _, ⟨_, JU _ rfl, rfl, rfl⟩, fun b hb => ?_, q⟩
  have e : b = s1.heap.objs.size := by simpa using hb
  subst e
  exact I1.fpOk (JV _) (I1.hok.fresh (JV _))
 ·obtain ⟨its, rv, p, hz⟩ := I1.tuple hq
  refine Li (show s1.heap.IsTuple a its.toArray from p) ?_
  refine ⟨s1.heap.objs.size, [s1.heap.objs.size], _, _, H1, rfl, I1.kept (t' := s1.toks) fun b o e => JT _ e, vm a _, ⟨_, JU _ rfl, rfl, rfl⟩, fun b hb => ?_, q⟩
  have e : b = s1.heap.objs.size := by simpa using hb
  subst e
  exact I1.fpOk (JV _) (I1.hok.fresh (JV _))
theorem Ew {l : Expr} {f : ME} (hK : X.K = p.K) (hl : PE X l (tD p f)) : PI X tg l (pL p (gG f)) := (EV hl).weak fun σ H R ⟨α, ρ, μ, S, Rr, P⟩ => by
 refine ⟨α, ρ, μ, S, Rr, (aD.bind P).imp fun d μ1 H1 α1 X1 S1 P1 v rv => ?_⟩
 rw [hK]
 cases d with
 | tup xs =>
  obtain ⟨a, vs, rfl, h1, h2⟩ := aF.mp rv
  exact ⟨a, rfl, .inr ⟨⟨vs, h1⟩, P1.now S1 _ trivial (AU h1 h2)⟩⟩
 | frz xs =>
  obtain ⟨a, vs, rfl, h1, h2⟩ := bp.mp rv
  exact ⟨a, rfl, .inl ⟨⟨vs, h1.sq⟩, P1.now S1 _ trivial (AV h1 h2)⟩⟩
 | obj n =>
  obtain ⟨a, rfl, ha⟩ := aO.mp rv
  unfold xj at P1
  dsimp only at P1
  split at P1
  ·rename_i xs hx
   obtain ⟨a', ea, vs, hH, rr⟩ := S1.at hx
   rw [ha] at ea; cases ea
   exact ⟨a, rfl, .inl ⟨⟨vs, fw.of hH⟩, P1.now S1 _ hx (x8 S1 hx ha)⟩⟩
  ·exact P1.elim
 | non => exact P1.elim
 | bl b => exact P1.elim
 | int i => exact P1.elim
 | str x => exact P1.elim
def fX (ds : List D) (μ : aB) : ak mZ := match ds with
 | [.int j] => if -(2 ^ 62) <= j /\ j < 2 ^ 62 then .ok (.fix (bq 0 j.toNat)) μ else .bad
 | _ => .bad
def lE (ds : List D) (μ : aB) : ak mZ := match ds with
 | [.int i, .int j] => if -(2 ^ 62) <= i /\ i < 2 ^ 62 /\ -(2 ^ 62) <= j /\ j < 2 ^ 62 then .ok (.fix (bq i (j - i).toNat)) μ else .bad
 | _ => .bad
def eA (f : List D -> aB -> ak mZ) (fa : MA) : MI := fun ρ μ => (fa ρ μ).bind f
theorem xE {a : Expr} {fa : MA} {px pos : Pos} (hg : Gl X "range") (hm : X.mg "range" = none) (ha : PA X [a] (mr p fa)) (hs : starEach [a] X.env = [(false, eval a X.env)]) : PI X tg (.Call (.Name "range" px) [a] [] pos) (pL p (eA fX fa)) :=
 (xN hg hm ha hs).weak fun σ H R ⟨α, ρ, μ, S, Rr, P⟩ => ⟨α, ρ, μ, S, Rr, (aD.bind P).imp fun ds μ1 H1 α1 X1 S1 P1 vs rv => by
  unfold fX at P1
  split at P1
  ·rename_i j
   obtain ⟨v, rfl, r1⟩ := rv.one
   rw [aq.mp r1]
   split at P1
   ·rename_i hj
    exact ⟨j, rfl, hj.1, hj.2, P1.now S1 _ trivial (uh 0 _)⟩
   ·exact P1.elim
  ·exact P1.elim⟩
theorem xD {a b : Expr} {fa : MA} {px pos : Pos} (hg : Gl X "range") (hm : X.mg "range" = none) (ha : PA X [a, b] (mr p fa)) (hs : starEach [a, b] X.env = [(false, eval a X.env), (false, eval b X.env)]) (hs2 : starEach [b] X.env = [(false, eval b X.env)]) : PI X tg (.Call (.Name "range" px) [a, b] [] pos) (pL p (eA lE fa)) :=
 (xM hg hm ha hs hs2).weak fun σ H R ⟨α, ρ, μ, S, Rr, P⟩ => ⟨α, ρ, μ, S, Rr, (aD.bind P).imp fun ds μ1 H1 α1 X1 S1 P1 vs rv => by
  unfold lE at P1
  split at P1
  ·rename_i i j
   obtain ⟨v, u, rfl, r1, r2⟩ := rv.two
   rw [aq.mp r1, aq.mp r2]
   split at P1
   ·rename_i hj
    exact ⟨i, j, rfl, hj, P1.now S1 _ trivial (uh i _)⟩
   ·exact P1.elim
  ·exact P1.elim⟩
theorem qK {b : Bool} {src : mZ} {xs : List D} {H : Hp} {α : List Addr} {a : Addr} (hi : src.items = ij 0 xs)
  (hs : ∀ H2 α2 μ2, p.X H H2 α α2 -> p.S H2 α2 μ2 -> cZ src μ2 -> ∃ vs, Sq b p.K H2 a vs /\ p.Rs H2 α2 xs vs ) : u6 p (HV b p.K a) src H α := by
 intro H2 α2 μ2 X2 S2 ho
 obtain ⟨vs, h2, rr⟩ := hs H2 α2 μ2 X2 S2 ho
 rw [hi]
 refine ⟨fun i d hd => ?_, vs, h2, by rw [rr.length, qV]⟩
 rw [qW] at hd
 cases e : xs[i]? with
 | none => rw [e] at hd; cases hd
 | some y =>
  rw [e] at hd
  cases hd
  obtain ⟨v, hv, rv⟩ := rr.get e
  refine ⟨⟨vs, v, h2, hv⟩, fun x H3 ⟨q, w, e1, hq, e2, hx⟩ => ?_⟩
  subst e1 e2
  have := hx vs h2
  rw [hv] at this; cases this
  refine ⟨bN hq, S2.tuple hq, aF.mpr ⟨q, _, rfl, fW.of cw, ?_⟩⟩
  rw [LQ]
  exact Reps.cons (aq.mpr rfl) (Reps.cons (rv.mono (bN hq)) Reps.nil)
def tG (ds : List D) (μ : aB) : ak mZ := match ds with
 | [.tup xs] => .ok (.fix (ij 0 xs)) μ
 | [.obj n] => match μ[n]? with
  | some (.lst xs) => .ok (.eno n xs) μ
  | _ => .bad
 | _ => .bad
theorem BZ {a : Expr} {fa : MA} {px pos tpos : Pos} {elts : List Expr} {k1 : Nat} (hK : X.K = p.K) (hg : Gl X "enumerate") (hm : X.mg "enumerate" = none) (ha : PA X [a] (mr p fa)) (hs : starEach [a] X.env = [(false, eval a X.env)]) :
  PI X (.Tuple elts k1 tpos) (.Call (.Name "enumerate" px) [a] [] pos) (pL p (eA tG fa)) :=
 (Cp hg hm ha hs).weak fun σ H R ⟨α, ρ, μ, S, Rr, P⟩ => ⟨α, ρ, μ, S, Rr, (aD.bind P).imp fun ds μ1 H1 α1 X1 S1 P1 vs rv => by
  rw [hK]
  unfold tG at P1
  split at P1
  ·rename_i xs
   obtain ⟨v, rfl, r1⟩ := rv.one
   obtain ⟨a, us, rfl, h1, h2⟩ := aF.mp r1
   exact ⟨a, false, rfl, ⟨us, h1⟩, P1.now S1 _ trivial (qK (b := false) rfl fun H2 α2 μ2 X2 S2 _ => ⟨us, X2.tup a us h1, h2.mono X2⟩)⟩
  ·rename_i n
   split at P1
   ·rename_i xs hx
    obtain ⟨v, rfl, r1⟩ := rv.one
    obtain ⟨a, rfl, ha⟩ := aO.mp r1
    obtain ⟨a', ea, us, hH, rr⟩ := S1.at hx
    rw [ha] at ea; cases ea
    refine ⟨a, true, rfl, ⟨us, fw.of hH⟩, P1.now S1 _ hx (qK (b := true) rfl fun H2 α2 μ2 X2 S2 ho => ?_)⟩
    obtain ⟨a2, ea2, us2, hH2, rr2⟩ := S2.at (show μ2[n]? = some (.lst xs) from ho)
    rw [X2.pre n a ha] at ea2; cases ea2
    exact ⟨us2, fw.of hH2, rr2⟩
   ·exact P1.elim
  ·exact P1.elim⟩
end
def ak.nox {β : Type} (o : ak β) : ak β := match o with
 | .exc _ _ => .bad
 | o => o
@[simp] theorem bJ {β : Type} {a : β} {μ : aB} : (ak.ok a μ).nox = .ok a μ := MW (MX _)
abbrev Pa.nx (p : Pa) : Pa := ⟨p.K, p.w, fun _ _ => False⟩
theorem dU {β γ : Type} {p : Pa} {H : Hp} {α : List Addr} {o : ak β} {k : β -> aB -> ak γ} {R : γ -> aB -> Hp -> List Addr -> Prop} (h : aD p H α (o.nox.bind k) R) : aD p.nx H α o (fun a μ1 H1 α1 => aD p H1 α1 (k a μ1) R) := by
 cases o with
 | ok a μ => exact fun H' α' e s => aD.from e h
 | exc x μ => exact h
 | bad => exact h
def eB (cap : List (Option Nat)) (ρ : Ro) : Ro := cap.map fun o => o.bind fun j => (ρ[j]?).join
theorem dg.cap {K : W.Frag} {H : Hp} {α : List Addr} {ρ : Ro} {σ : St} (R : dg K H α ρ σ) (cap : List (Option Nat)) : dg K H α (eB cap ρ) (oe cap σ) := by
 refine ⟨by simp [eB, oe], fun i d h => ?_⟩
 unfold eB at h
 unfold oe
 rw [Ke] at h ⊢
 cases e : cap[i]? with
 | none => rw [e] at h; cases h
 | some o =>
  rw [e] at h
  cases o with
  | none => simp at h
  | some j =>
   simp at h ⊢
   obtain ⟨v, h1, h2⟩ := R.at' j d (by
    cases e2 : ρ[j]? with
    | none => rw [e2] at h; simp at h
    | some x => rw [e2] at h; simp at h; rw [h])
   exact ⟨v, by rw [h1]; rfl, h2⟩
def qm (n : Nat) (y : D) (μ : aB) : ak Unit := match μ[n]? with
 | some (.lst ys) => if ys.length < sizeLine then .ok () (μ.set n (.lst (ys ++ [y]))) else .bad
 | _ => .bad
open Classical in
noncomputable def compLoop (src : mZ) (n : Nat) (g : MG) (t : MT) (e : ME) : List D -> Ro -> aB -> ak D
 | [], _, μ => if cZ src μ then .ok (.obj n) μ else .bad
 | d :: r, ρ, μ => if cZ src μ then (g d ρ μ).nox.bind fun ρ1 μ1 => (t ρ1 μ1).nox.bind fun b μ2 => if b = true then (e ρ1 μ2).nox.bind fun y μ3 => (qm n y μ3).bind fun _ μ4 => compLoop src n g t e r ρ1 μ4 else compLoop src n g t e r ρ1 μ2 else .bad
noncomputable def bS (fi : MI) (cap : List (Option Nat)) (g : MG) (t : MT) (e : ME) : ME := fun ρ μ => (fi ρ μ).bind fun src μ1 => compLoop src μ1.length g t e src.items (eB cap ρ) (μ1 ++ [.lst []])
def bw : MT := fun _ μ => .ok true μ
theorem t4 {p : Pa} {n : Nat} {y : D} {μ : aB} {H : Hp} {α : List Addr} {R : Unit -> aB -> Hp -> List Addr -> Prop} {v : V} {acc : Addr} (S : p.S H α μ) (ha : α[n]? = some acc) (rv : p.R H α y v) (P : aD p H α (qm n y μ) R) :
  ∃ ys, H acc = some (.lst ys) /\ ys.length < sizeLine /\ ∃ μ', p.X H (cM H acc (.lst (ys ++ [v]))) α α /\ p.S (cM H acc (.lst (ys ++ [v]))) α μ' /\ R () μ' (cM H acc (.lst (ys ++ [v]))) α := by
 unfold qm at P
 split at P
 ·rename_i xs hx
  obtain ⟨a, ea, us, hH, rr⟩ := S.at hx
  rw [ha] at ea; cases ea
  split at P
  ·rename_i hl
   have q := rr.snoc rv
   exact ⟨us, hH, by rw [rr.length]; exact hl, _, iM hH, S.put hx ha hH q, P _ _ (iM hH) (S.put hx ha hH q)⟩
  ·exact P.elim
 ·exact P.elim
section
variable {p : Pa} {X : Cx} {tg iter elt : Expr} {ifs : List Expr} {scope : Scope} {Nc : List Str} {cap : List (Option Nat)} {fi : MI} {g : MG} {t : MT} {e : ME} {pos pos' : Pos}
theorem qX {σ : St} {H : Hp} {Q : VK} (h : tD p (bS fi cap g t e) σ H Q) : y0 (pL p fi) cap (mY p.nx g) (h8 p.nx t) (tD p.nx e) σ H Q := by
 obtain ⟨α, ρ, μ, S, R, P⟩ := h
 refine ⟨α, ρ, μ, S, R, (aD.bind P).imp fun src μ1 H1 α1 X1 S1 P1 J hok hJ acc hacc => ?_⟩
 obtain ⟨x1, s1, _⟩ := cU (ds := []) (vs := []) S1 hacc Reps.nil
 have hn : (α1 ++ [acc])[μ1.length]? = some acc := by rw [<- S1.len]; simp
 refine ⟨fun i m σ2 H2 => m = src.items.length - i /\ i <= src.items.length /\ ∃ α2 ρ2 μ2, p.X H1 H2 α1 α2 /\ p.S H2 α2 μ2 /\ dg p.K H2 α2 ρ2 σ2 /\ α2[μ1.length]? = some acc /\ aD p H2 α2 (compLoop src μ1.length g t e (src.items.drop i) ρ2 μ2) (RV p Q),
  ⟨_, rfl, Lb _, α1 ++ [acc], eB cap ρ, μ1 ++ [.lst []], x1, s1, ((R.mono X1).cap cap).mono x1, hn, by simpa using aD.from x1 P1⟩, ?_⟩
 rintro i m σ2 H2 ⟨rfl, hi, α2, ρ2, μ2, X2, S2, R2, a2, P2⟩
 by_cases hlt : i < src.items.length
 ·rw [MZ hlt] at P2
  unfold compLoop at P2
  by_cases ho : cZ src μ2
  ·rw [Jl ho] at P2
   obtain ⟨hgo, hy⟩ := (hJ H2 α2 μ2 X2 S2 ho).1 i _ (MN hlt)
   refine .inr ⟨hgo, fun σ' H' => i + 1 <= src.items.length /\ ∃ α2 ρ2 μ2, p.X H1 H' α1 α2 /\ p.S H' α2 μ2 /\ dg p.K H' α2 ρ2 σ' /\ α2[μ1.length]? = some acc /\ aD p H' α2 (compLoop src μ1.length g t e (src.items.drop (i + 1)) ρ2 μ2) (RV p Q),
    fun σ' H' ⟨h1, h2⟩ => ⟨_, by omega, rfl, h1, h2⟩, fun x H3 yx => ?_⟩
   obtain ⟨X3, S3, R3⟩ := hy x H3 yx
   refine ⟨α2, ρ2, μ2, _, S3, R2.mono X3, R3, (aD.from (p := p.nx) X3 (dU P2)).imp fun ρ4 μ4 H4 α4 X4 S4 P4 σ4 R4 => ?_⟩
   refine ⟨α4, ρ4, μ4, S4, R4, (dU P4).imp fun b μ5 H5 α5 X5 S5 P5 => ?_⟩
   have xx : p.X H1 H5 α1 α5 := ((X2.trans X3).trans X4).trans X5
   have a5 : α5[μ1.length]? = some acc := X5.pre _ _ (X4.pre _ _ (X3.pre _ _ a2))
   cases b with
   | false =>
    rw [Jm J1] at P5
    refine GD ?_
    exact ⟨hlt, α5, ρ4, μ5, xx, S5, R4.mono X5, a5, P5⟩
   | true =>
    rw [Jl rfl] at P5
    refine GC ?_
    refine ⟨α5, ρ4, μ5, S5, R4.mono X5, (dU P5).imp fun y μ6 H6 α6 X6 S6 P6 v rv => ?_⟩
    obtain ⟨ys, e1, e2, μ7, x7, s7, q7⟩ := t4 (p := p) S6 (X6.pre _ _ a5) rv (aD.bind P6)
    exact ⟨ys, e1, e2, hlt, α6, ρ4, μ7, (xx.trans X6).trans x7, s7, ((R4.mono X5).mono X6).mono x7, X6.pre _ _ a5, q7⟩
  ·rw [Jm ho] at P2; exact P2.elim
 ·have e : i = src.items.length := by omega
  subst e
  rw [Na] at P2
  unfold compLoop at P2
  by_cases ho : cZ src μ2
  ·rw [Jl ho] at P2
   exact .inl ⟨(hJ H2 α2 μ2 X2 S2 ho).2, P2 H2 α2 lC.refl S2 _ (aO.mpr ⟨acc, rfl, a2⟩)⟩
  ·rw [Jm ho] at P2; exact P2.elim
theorem BH {X : Cx} : pP X [] (h8 p bw) := fun pins s σ H Q I h => by
 obtain ⟨α, ρ, μ, S, R, P⟩ := h
 exact Cf pins s σ H Q I (P.now S)
theorem BG {X : Cx} {c : Expr} {t : MT} (h : PT X c (h8 p t)) : pP X [c] (h8 p t) := Ce h
theorem B4 (hc : X.calm = true) (S : cf X.N X.env scope Nc cap) (hi : PI X tg iter (pL p fi))
  (hg : ∀ cl C s H fp, PG (i3 X Nc scope cl C s H fp) tg (mY p.nx g)) (ht : ∀ cl C s H fp, pP (i3 X Nc scope cl C s H fp) ifs (h8 p.nx t)) (he : ∀ cl C s H fp, PE (i3 X Nc scope cl C s H fp) elt (tD p.nx e))
  (hs : ∀ x, foldedSetIterable iter X.env x = pure x) : PE X (.ListComp elt [⟨tg, iter, ifs, 0⟩] scope pos) (tD p (bS fi cap g t e)) :=
 (Cv hc S hi hg ht he hs).weak fun σ H Q h => qX h
theorem BK {i : Nat} {x : Str} {pos1 : Pos} {pos2 : Pos} (hc : X.calm = true) (hN : X.N.Nodup) (hix : X.N[i]? = some x) (hx : X.env.scope.names.lookup x = some .local) (S : cf X.N X.env scope Nc cap) (hi : PI X tg iter (pL p fi))
  (hg : ∀ cl C s H fp, PG (i3 X Nc scope cl C s H fp) tg (mY p.nx g)) (ht : ∀ cl C s H fp, pP (i3 X Nc scope cl C s H fp) ifs (h8 p.nx t)) (he : ∀ cl C s H fp, PE (i3 X Nc scope cl C s H fp) elt (tD p.nx e))
  (hsw : swapsWith (.ListComp elt [⟨tg, iter, ifs, 0⟩] scope pos) (some (.Name x pos1)) pos2.line X.env = pure true) (hs : ∀ x, foldedSetIterable iter X.env x = pure x) :
  PS X (.Assign [.Name x pos1] (.ListComp elt [⟨tg, iter, ifs, 0⟩] scope pos) pos2) (iZ p (bz (bS fi cap g t e) (ag i))) :=
 (Ck hc hN hix hx S hi hg ht he hsw hs).weak fun D σ H h => by
  obtain ⟨α, ρ, μ, S, R, P⟩ := h
  refine qX ⟨α, ρ, μ, S, R, (aD.bindS P).imp fun d μ1 H1 α1 X1 S1 P1 v rv => ?_⟩
  exact P1 H1 α1 _ lC.refl S1 ((R.mono X1).set i rv)
end
abbrev MB := Nat -> Ro -> aB -> ak Ro
def oa (e : ME) : MB := fun n ρ μ => (e ρ μ).nox.bind fun y μ1 => (qm n y μ1).bind fun _ μ2 => .ok ρ μ2
open Classical in
noncomputable def jN (src : mZ) (n : Nat) (g : MG) (t : MT) (fb : MB) : List D -> Ro -> aB -> ak Ro
 | [], ρ, μ => if cZ src μ then .ok ρ μ else .bad
 | d :: r, ρ, μ => if cZ src μ then (g d ρ μ).nox.bind fun ρ1 μ1 => (t ρ1 μ1).nox.bind fun b μ2 => if b = true then (fb n ρ1 μ2).nox.bind fun ρ2 μ3 => jN src n g t fb r ρ2 μ3 else jN src n g t fb r ρ1 μ2 else .bad
noncomputable def om (fi : MI) (g : MG) (t : MT) (fb : MB) : MB := fun n ρ μ => (fi ρ μ).nox.bind fun src μ1 => jN src n g t fb src.items ρ μ1
noncomputable def mG (fi : MI) (cap : List (Option Nat)) (g : MG) (t : MT) (fb : MB) : ME := fun ρ μ => (fi ρ μ).bind fun src μ1 => (jN src μ1.length g t fb src.items (eB cap ρ) (μ1 ++ [.lst []])).bind fun _ μ2 => .ok (.obj μ1.length) μ2
section
variable {p : Pa}
def xh (p : Pa) (fb : MB) (acc : Addr) : Bm := fun σ H N => ∃ α ρ μ n, p.S H α μ /\ dg p.K H α ρ σ /\ α[n]? = some acc /\ aD p H α (fb n ρ μ) (fun ρ' _ H' α' => ∀ σ', dg p.K H' α' ρ' σ' -> N σ' H')
theorem yf {e : ME} {acc : Addr} {σ : St} {H : Hp} {N : St -> Hp -> Prop} (h : xh p (oa e) acc σ H N) : yZ (tD p.nx e) acc σ H N := by
 obtain ⟨α, ρ, μ, n, S, R, a, P⟩ := h
 refine ⟨α, ρ, μ, S, R, (dU P).imp fun y μ6 H6 α6 X6 S6 P6 v rv => ?_⟩
 obtain ⟨ys, e1, e2, μ7, x7, s7, q7⟩ := t4 (p := p) S6 (X6.pre _ _ a) rv (aD.bind P6)
 exact ⟨ys, e1, e2, q7.now s7 σ ((R.mono X6).mono x7)⟩
theorem oT {src : mZ} {n : Nat} {g : MG} {t : MT} {fb : MB} {acc : Addr} {J : It} {H1 H0 : Hp} {α1 α0 : List Addr} {ρ : Ro} {μ1 : aB} {σ : St} {N : St -> Hp -> Prop} (X0 : p.X H0 H1 α0 α1) (S1 : p.S H1 α1 μ1) (R : dg p.K H1 α1 ρ σ) (hn : α1[n]? = some acc) (hJ : u6 p J src H0 α0)
  (P1 : aD p H1 α1 (jN src n g t fb src.items ρ μ1) (fun ρ' _ H' α' => ∀ σ', dg p.K H' α' ρ' σ' -> N σ' H')) : HC J (mY p.nx g) (h8 p.nx t) (xh p.nx fb acc) N σ H1 := by
 refine ⟨fun i m σ2 H2 => m = src.items.length - i /\ i <= src.items.length /\ ∃ α2 ρ2 μ2, p.X H0 H2 α0 α2 /\ p.S H2 α2 μ2 /\ dg p.K H2 α2 ρ2 σ2 /\ α2[n]? = some acc /\ aD p H2 α2 (jN src n g t fb (src.items.drop i) ρ2 μ2) (fun ρ' _ H' α' => ∀ σ', dg p.K H' α' ρ' σ' -> N σ' H'),
  ⟨_, rfl, Lb _, α1, ρ, μ1, X0, S1, R, hn, by simpa using P1⟩, ?_⟩
 rintro i m σ2 H2 ⟨rfl, hi, α2, ρ2, μ2, X2, S2, R2, a2, P2⟩
 by_cases hlt : i < src.items.length
 ·rw [MZ hlt] at P2
  unfold jN at P2
  by_cases ho : cZ src μ2
  ·rw [Jl ho] at P2
   obtain ⟨hgo, hy⟩ := (hJ H2 α2 μ2 X2 S2 ho).1 i _ (MN hlt)
   refine .inr ⟨hgo, fun σ' H' => i + 1 <= src.items.length /\ ∃ α2 ρ2 μ2, p.X H0 H' α0 α2 /\ p.S H' α2 μ2 /\ dg p.K H' α2 ρ2 σ' /\ α2[n]? = some acc /\ aD p H' α2 (jN src n g t fb (src.items.drop (i + 1)) ρ2 μ2) (fun ρ' _ H' α' => ∀ σ', dg p.K H' α' ρ' σ' -> N σ' H'),
    fun σ' H' ⟨h1, h2⟩ => ⟨_, by omega, rfl, h1, h2⟩, fun x H3 yx => ?_⟩
   obtain ⟨X3, S3, R3⟩ := hy x H3 yx
   refine ⟨α2, ρ2, μ2, _, S3, R2.mono X3, R3, (aD.from (p := p.nx) X3 (dU P2)).imp fun ρ4 μ4 H4 α4 X4 S4 P4 σ4 R4 => ?_⟩
   refine ⟨α4, ρ4, μ4, S4, R4, (dU P4).imp fun b μ5 H5 α5 X5 S5 P5 => ?_⟩
   have xx : p.X H0 H5 α0 α5 := ((X2.trans X3).trans X4).trans X5
   have a5 : α5[n]? = some acc := X5.pre _ _ (X4.pre _ _ (X3.pre _ _ a2))
   cases b with
   | false =>
    rw [Jm J1] at P5
    refine GD ?_
    exact ⟨hlt, α5, ρ4, μ5, xx, S5, R4.mono X5, a5, P5⟩
   | true =>
    rw [Jl rfl] at P5
    refine GC ?_
    refine ⟨α5, ρ4, μ5, n, S5, R4.mono X5, a5, (dU P5).imp fun ρ6 μ6 H6 α6 X6 S6 P6 σ' r' => ?_⟩
    exact ⟨hlt, α6, ρ6, μ6, xx.trans X6, S6, r', X6.pre _ _ a5, P6⟩
  ·rw [Jm ho] at P2; exact P2.elim
 ·have e : i = src.items.length := by omega
  subst e
  rw [Na] at P2
  unfold jN at P2
  by_cases ho : cZ src μ2
  ·rw [Jl ho] at P2
   exact .inl ⟨(hJ H2 α2 μ2 X2 S2 ho).2, P2.now S2 _ R2⟩
  ·rw [Jm ho] at P2; exact P2.elim
theorem vK {fi : MI} {g : MG} {t : MT} {fb : MB} {acc : Addr} {σ : St} {H : Hp} {N : St -> Hp -> Prop} (h : xh p.nx (om fi g t fb) acc σ H N) : zq (pL p.nx fi) (mY p.nx g) (h8 p.nx t) (xh p.nx fb acc) σ H N := by
 obtain ⟨α, ρ, μ, n, S, R, a, P⟩ := h
 refine ⟨α, ρ, μ, S, R, (dU P).imp fun src μ1 H1 α1 X1 S1 P1 J hok hJ => ?_⟩
 exact oT (p := p.nx) lC.refl S1 (R.mono X1) (X1.pre _ _ a) hJ P1
theorem vO {fi : MI} {cap : List (Option Nat)} {g : MG} {t : MT} {fb : MB} {σ : St} {H : Hp} {Q : VK} (h : tD p (mG fi cap g t fb) σ H Q) : oh (fun _ => .lst []) (pL p fi) cap (mY p.nx g) (h8 p.nx t) (fun acc => xh p.nx fb acc) σ H Q := by
 obtain ⟨α, ρ, μ, S, R, P⟩ := h
 refine ⟨α, ρ, μ, S, R, (aD.bind P).imp fun src μ1 H1 α1 X1 S1 P1 J hok hJ acc hacc => ?_⟩
 obtain ⟨x1, s1, _⟩ := cU (ds := []) (vs := []) S1 hacc Reps.nil
 have hn : (α1 ++ [acc])[μ1.length]? = some acc := by rw [<- S1.len]; simp
 refine oT (p := p) x1 s1 (((R.mono X1).cap cap).mono x1) hn hJ ((aD.from x1 (aD.bind P1)).imp fun ρ' μ' H' α' X' S' P' σ' r' => ?_)
 exact P'.now S' _ (aO.mpr ⟨acc, rfl, X'.pre _ _ hn⟩)
variable {X : Cx} {elt : Expr} {cl0 cl : Comprehension} {rest : List Comprehension} {scope : Scope} {Nc : List Str} {cap : List (Option Nat)} {fi : MI} {g : MG} {t : MT} {fb : MB} {pos : Pos} {e : Expr} {d : Nat} {acc : Addr}
theorem B7 {f : ME} {gens : List Comprehension} (hg : gens[d]? = none) (hxe : X.xe = sQ) (hel : PE X elt (tD p.nx f)) : uW X (.ListComp elt gens scope pos) d acc (xh p.nx (oa f) acc) := fun pins s σ H N I h => oE hg hxe hel pins s σ H N I (yf (p := p.nx) h)
theorem Al (he : lh e = true) (hz : ∀ g ∈ clausesOf e, g.is_async = 0) (hg : (clausesOf e)[d]? = some cl) (hxe : X.xe = sQ) (hc : X.calm = true) (hi : PI X cl.target cl.iter (pL p.nx fi)) (hgc : PG X cl.target (mY p.nx g)) (htc : pP X cl.ifs (h8 p.nx t)) (hb : uW X e (d + 1) acc (xh p.nx fb acc))
  (hs : ∀ x, foldedSetIterable cl.iter X.env x = pure x) : uW X e d acc (xh p.nx (om fi g t fb) acc) := fun pins s σ H N I h => xP he hz hg hxe hc hi hgc htc hb hs pins s σ H N I (vK h)
theorem zU {i : Nat} {x : Str} {pos1 : Pos} {pos2 : Pos} (hc : X.calm = true) (hz : ∀ g ∈ cl0 :: rest, g.is_async = 0) (hN : X.N.Nodup) (hix : X.N[i]? = some x) (hx : X.env.scope.names.lookup x = some .local) (S : cf X.N X.env scope Nc cap) (hi : PI X cl0.target cl0.iter (pL p fi))
  (hg : ∀ cl C s H fp, PG (i3 X Nc scope cl C s H fp) cl0.target (mY p.nx g)) (ht : ∀ cl C s H fp, pP (i3 X Nc scope cl C s H fp) cl0.ifs (h8 p.nx t)) (hb : ∀ cl C s H fp acc, uW (i3 X Nc scope cl C s H fp) (.ListComp elt (cl0 :: rest) scope pos) 1 acc (xh p.nx fb acc))
  (hsw : swapsWith (.ListComp elt (cl0 :: rest) scope pos) (some (.Name x pos1)) pos2.line X.env = pure true) (hs : ∀ x, foldedSetIterable cl0.iter X.env x = pure x) :
  PS X (.Assign [.Name x pos1] (.ListComp elt (cl0 :: rest) scope pos) pos2) (iZ p (bz (mG fi cap g t fb) (ag i))) :=
 (t5 hc hz hN hix hx S hi hg ht hb hsw hs).weak fun D σ H h => by
  obtain ⟨α, ρ, μ, S, R, P⟩ := h
  refine vO ⟨α, ρ, μ, S, R, (aD.bindS P).imp fun d μ1 H1 α1 X1 S1 P1 v rv => ?_⟩
  exact P1 H1 α1 _ lC.refl S1 ((R.mono X1).set i rv)
end
mutual
def D.low (n : Nat) : D -> Prop
 | .tup xs => D.lows n xs
 | .frz xs => D.lows n xs
 | .obj m => m < n
 | _ => True
def D.lows (n : Nat) : List D -> Prop
 | [] => True
 | x :: xs => x.low n /\ D.lows n xs
end
def O.low (n : Nat) : O -> Prop
 | .lst xs => D.lows n xs
 | _ => True
section
variable {K : W.Frag} {H : Hp} {α α' : List Addr}
mutual
theorem aJ.low : ∀ {d : D} {v : V}, aJ K H α d v -> d.low α.length
 | .non, _, _ => trivial
 | .bl _, _, _ => trivial
 | .int _, _, _ => trivial
 | .str _, _, _ => trivial
 | .tup xs, _, h => by
  obtain ⟨a, vs, rfl, h1, h2⟩ := aF.mp h
  simp only [D.low]
  exact Reps.low h2
 | .frz xs, _, h => by
  obtain ⟨a, vs, rfl, h1, h2⟩ := bp.mp h
  simp only [D.low]
  exact Reps.low h2
 | .obj n, _, h => by
  obtain ⟨a, rfl, h1⟩ := aO.mp h
  simp only [D.low]
  exact (JD.mp h1).1
theorem Reps.low : ∀ {ds : List D} {vs : List V}, Reps K H α ds vs -> D.lows α.length ds
 | [], _, _ => trivial
 | d :: ds, _, h => by
  simp only [Reps] at h
  obtain ⟨v, r, rfl, h1, h2⟩ := h
  simp only [D.lows]
  exact ⟨aJ.low h1, Reps.low h2⟩
end
mutual
theorem aJ.cut {n : Nat} (e : ∀ m, m < n -> α'[m]? = α[m]?) : ∀ {d : D} {v : V}, aJ K H α' d v -> d.low n -> aJ K H α d v
 | .non, _, h, _ => by simp only [aJ] at h ⊢; exact h
 | .bl _, _, h, _ => by simp only [aJ] at h ⊢; exact h
 | .int _, _, h, _ => by simp only [aJ] at h ⊢; exact h
 | .str _, _, h, _ => by simp only [aJ] at h ⊢; exact h
 | .tup xs, _, h, b => by
  obtain ⟨a, vs, rfl, h1, h2⟩ := aF.mp h
  simp only [D.low] at b
  exact aF.mpr ⟨a, vs, rfl, h1, Reps.cut e h2 b⟩
 | .frz xs, _, h, b => by
  obtain ⟨a, vs, rfl, h1, h2⟩ := bp.mp h
  simp only [D.low] at b
  exact bp.mpr ⟨a, vs, rfl, h1, Reps.cut e h2 b⟩
 | .obj m, _, h, b => by
  obtain ⟨a, rfl, h1⟩ := aO.mp h
  simp only [D.low] at b
  exact aO.mpr ⟨a, rfl, by rw [<- e m b]; exact h1⟩
theorem Reps.cut {n : Nat} (e : ∀ m, m < n -> α'[m]? = α[m]?) : ∀ {ds : List D} {vs : List V}, Reps K H α' ds vs -> D.lows n ds -> Reps K H α ds vs
 | [], _, h, _ => by simp only [Reps] at h ⊢; exact h
 | d :: ds, _, h, b => by
  simp only [Reps] at h ⊢
  obtain ⟨v, r, rfl, h1, h2⟩ := h
  simp only [D.lows] at b
  exact ⟨v, r, rfl, aJ.cut e h1 b.1, Reps.cut e h2 b.2⟩
end
end
def DY (μ μ' : aB) (d : D) : Prop := d.low μ.length /\ μ.length <= μ'.length /\ ∀ (i : Nat) o, i < μ.length -> μ'[i]? = some o -> μ[i]? = some o \/ o.low μ.length
open Classical in
noncomputable def qi (μ : aB) (o : ak D) : ak D := match o with
 | .ok d μ' => if DY μ μ' d then .ok d (μ'.take μ.length) else .ok d μ'
 | o => o
theorem wY {p : Pa} {H : Hp} {α : List Addr} {μ : aB} {o : ak D} {Q : VK} (S : p.S H α μ) (P : aD p H α (qi μ o) (RV p Q)) : aD p H α o (RV p Q) := by
 cases o with
 | exc x μ' => exact P
 | bad => exact P
 | ok d μ' =>
  unfold qi at P
  dsimp only at P
  by_cases hg : DY μ μ' d
  ·rw [Jl hg] at P
   obtain ⟨g1, g2, g3⟩ := hg
   intro H' α' e s v rv
   have al : ∀ m, m < μ.length -> α'[m]? = α[m]? := fun m hm => by
    have hm' : m < α.length := by rw [S.len]; exact hm
    rw [MN hm']
    exact e.pre m _ (MN hm')
   refine P H' α ⟨e.tup, e.frz, fun _ _ z => z⟩ ⟨by rw [Ka, S.len]; omega, S.nd, fun n o a h1 h2 => ?_⟩ v (aJ.cut al rv g1)
   have hn : n < μ.length := by rw [<- S.len]; exact (JD.mp h2).1
   rw [List.getElem?_take_of_lt hn] at h1
   have q := s.ob n o a h1 (e.pre n a h2)
   have ob : o.low μ.length := by
    rcases g3 n o hn h1 with z | z
    ·have q0 := S.ob n o a z h2
     cases o with
     | lst xs => obtain ⟨vs, _, r⟩ := q0; have := r.low; rw [S.len] at this; exact this
     | set ks => trivial
     | iset ks => trivial
     | dic => trivial
    ·exact z
   cases o with
   | lst xs => obtain ⟨vs, h3, r⟩ := q; exact ⟨vs, h3, Reps.cut al r ob⟩
   | set ks => exact q
   | iset ks => exact q
   | dic => exact q
  ·rw [Jm hg] at P
   exact P
def SO.out (o : SO) : ak D := match o with
 | .ret d μ => .ok d μ
 | .next _ μ => .ok .non μ
 | .exc x μ => .exc x μ
 | _ => .bad
noncomputable def jK (n N : Nat) (fb : MS) : List D -> aB -> ak D := fun ds μ => if ds.length = n then qi μ (fb (ds.map some ++ List.replicate (N - n) none) μ).out else .bad
def DQ (p : Pa) (n : Nat) (F : List D -> aB -> ak D) : Sp := fun vs H Q _ => vs.length = n /\ ∃ α ds μ, p.S H α μ /\ p.Rs H α ds vs /\ aD p H α (F ds μ) (RV p Q)
structure d3 (P : Program) (w : World) (K : W.Frag) (mg : Str -> Option Value) (base : Heap) (p : Pa) (k : Nat) (x : Str) (n : Nat) (F : List D -> aB -> ak D) : Prop where
 len : ∀ ds μ, ds.length ≠ n -> F ds μ = .bad
 fn : ∃ f fd ps, mg x = some (.ref f) /\ W.keepIn K (.ref f) = true /\ j4 K fd ps [] /\ pU P w K mg base yJ k f fd ps (DQ p n F)
section
variable {p : Pa} {X : Cx} {k n : Nat} {x : Str} {F : List D -> aB -> ak D} {a : Expr} {es : List Expr} {fr : MA} {pos px : Pos}
theorem B5 (h : d3 X.prog X.w X.K X.mg X.base p k x n F) (hr : ic k X.A) (hg : Gl X x) (ha : PA X (a :: es) (mr p fr)) (hdb : (x == ("__debug__" : Str)) = false) (he : starEach (a :: es) X.env = (false, eval a X.env) :: starEach es X.env) (hpl : (backTo pos (starEach es X.env)).any (·.1) = false) :
  PE X (.Call (.Name x px) (a :: es) [] pos) (tD p (aA F fr)) := by
 obtain ⟨f, fd, ps, h1, h2, h3, h4⟩ := h.fn
 refine (Cy (dvs := []) (E := E0) h4 hr hg h1 h2 h3 .nil Hi ha hdb he hpl).weak fun σ H Q ⟨α, ρ, μ, S, R, P⟩ => ⟨α, ρ, μ, S, R, (aD.bind P).imp fun ds μ1 H1 α1 X1 S1 P1 vs rv => ?_⟩
 show DQ p n F (vs ++ []) H1 Q E0
 rw [J4]
 refine ⟨?_, α1, ds, μ1, S1, rv, P1⟩
 by_cases hl : ds.length = n
 ·rw [rv.length]; exact hl
 ·rw [h.len ds μ1 hl] at P1; exact P1.elim
end
theorem pj {K : W.Frag} {H : Hp} {α : List Addr} {ds : List D} {vs : List V} (r : Reps K H α ds vs) (m : Nat) : dg K H α (ds.map some ++ List.replicate m none) (vs.map some ++ List.replicate m none) := by
 refine ⟨by simp [r.length], fun i d h => ?_⟩
 by_cases hi : i < ds.length
 ·rw [Kd (by simpa using hi), Ke] at h
  cases e : ds[i]? with
  | none => rw [e] at h; cases h
  | some x =>
   rw [e] at h; cases h
   obtain ⟨v, hv, rv⟩ := r.get e
   refine ⟨v, ?_, rv⟩
   rw [Kd (by simp [r.length, hi]), Ke, hv]; rfl
 ·rw [Kc (by simpa using hi), List.getElem?_replicate] at h
  split at h <;> cases h
theorem F4 {P : Program} {w : World} {K : W.Frag} {mg : Str -> Option Value} {base : Heap} {p : Pa} {k n : Nat} {x qual : Str} {st : Stmt} {f : Addr} {fd : FuncData} {N ps : List Str} {fb : MS}
  (F : iJ K x qual st f fd) (S : aY N ps (ar st)) (hn : ps.length = n) (hm : mg x = some (.ref f)) (hb : j4 K fd ps [])
  (body : ∀ (cdv : Value) (A : Around) (outer : List Env) (s : Shared) (H : Hp) (E : XK), ic k (A.deeper (envOfC qual (ar st) s.heap.objs.size f cdv)) ->
   kO (rE yJ P w K mg base N qual (ar st) f cdv A outer s H E).nox (cG st) (iZ p fb)) : d3 P w K mg base p (k + 1) x n (jK n N.length fb) := by
 refine ⟨fun ds μ h => by unfold jK; rw [Jm h], f, fd, ps, hm, F.kp, hb, ?_⟩
 refine F.ok S (fun vs H Q E h => h.1.trans hn.symm) fun cdv A outer s H vs Q E hr h => ?_
 refine ⟨_, body cdv A outer s H E hr, ?_⟩
 obtain ⟨hl, α, ds, μ, S1, R1, P1⟩ := h
 unfold jK at P1
 have hd : ds.length = n := by rw [<- R1.length]; exact hl
 rw [Jl hd] at P1
 have P2 := wY S1 P1
 unfold start
 rw [hl]
 refine ⟨α, _, μ, S1, pj R1 _, ?_⟩
 cases e : fb (ds.map some ++ List.replicate (N.length - n) none) μ with
 | ret d μ' => rw [e] at P2; exact fun H' α' v x s r => P2 H' α' x s v r
 | next ρ μ' => rw [e] at P2; exact fun H' α' σ' x s r => P2 H' α' x s .non (bL.mpr rfl)
 | exc x μ' => rw [e] at P2; exact P2
 | brk ρ μ' => rw [e] at P2; exact P2.elim
 | cnt ρ μ' => rw [e] at P2; exact P2.elim
 | bad => rw [e] at P2; exact P2.elim
end L2
namespace L2
open PySem PySem.Spec PyProof.Rows RS
section
variable (K : W.Frag) (H : Hp)
mutual
def lB : PyData -> V -> Prop
 | .none, v => v = .non
 | .bool b, v => v = .bl b
 | .int i, v => v = .int i
 | .str x, v => v = .str x
 | .tuple xs, v => ∃ a vs, v = .ref a /\ fW K H a vs /\ RdPs xs vs
 | .list xs, v => ∃ a vs, v = .ref a /\ fw K H a vs /\ RdPs xs vs
 | .dict _, _ => False
def RdPs : List PyData -> List V -> Prop
 | [], vs => vs = []
 | x :: xs, vs => ∃ v r, vs = v :: r /\ lB x v /\ RdPs xs r
end
end
section
variable {X : Cx} {pins : List (Addr × Obj)} {σ : St} {H : Hp} {s : Shared}
mutual
theorem cH (I : aT X pins σ H s) : ∀ (d : PyData) (x : V) (v : Value), lB X.K H d x -> cz x v -> ∃ as, Reads s.heap v d as
 | .none, _, _, h, r => by simp only [lB] at h; subst h; cases r; exact ⟨_, .none⟩
 | .bool b, _, _, h, r => by simp only [lB] at h; subst h; cases r; exact ⟨_, .bool b⟩
 | .int b, _, _, h, r => by simp only [lB] at h; subst h; obtain ⟨t, rfl⟩ := r; exact ⟨_, .int b t⟩
 | .str b, _, _, h, r => by simp only [lB] at h; subst h; obtain ⟨t, rfl⟩ := r; exact ⟨_, .str b t⟩
 | .tuple xs, _, _, h, r => by
  simp only [lB] at h
  obtain ⟨a, vs, rfl, h1, h2⟩ := h
  cases r
  obtain ⟨its, rv, ⟨o, e1, e2, n, e3⟩, _⟩ := I.tuple h1
  obtain ⟨as, q⟩ := readsAll_of I xs vs its h2 rv
  exact ⟨_, .tuple e1 e2 e3 (by simpa using q)⟩
 | .list xs, _, _, h, r => by
  simp only [lB] at h
  obtain ⟨a, vs, rfl, h1, h2⟩ := h
  cases r
  obtain ⟨its, rv, ⟨o, n, e1, e2, _, e3⟩, _⟩ := I.list h1
  obtain ⟨as, q⟩ := readsAll_of I xs vs its h2 rv
  exact ⟨_, .list e1 e2 e3 (by simpa using q)⟩
 | .dict _, _, _, h, _ => by simp only [lB] at h
theorem readsAll_of (I : aT X pins σ H s) : ∀ (ds : List PyData) (xs : List V) (vs : List Value), RdPs X.K H ds xs -> bb xs vs -> ∃ as, ReadsAll s.heap vs ds as
 | [], _, _, h, r => by simp only [RdPs] at h; subst h; cases r; exact ⟨_, .nil⟩
 | d :: ds, _, _, h, r => by
  simp only [RdPs] at h
  obtain ⟨v, q, rfl, h1, h2⟩ := h
  cases r with
  | cons r rr =>
   obtain ⟨as, g1⟩ := cH I d _ _ h1 r
   obtain ⟨bs, g2⟩ := readsAll_of I ds _ _ h2 rr
   exact ⟨_, .cons g1 g2⟩
end
def dN (d : PyData) : Bool := d.canLay0 && decide (d.depth <= 60)
def yP (K : W.Frag) (neg : Bool) : R2 := fun x y H Q => ∃ a b, lB K H a x /\ lB K H b y /\ dN a = true /\ dN b = true /\ Q (.bl (if neg then !PyData.eqv a b else PyData.eqv a b)) H
theorem mN {a b : PyData} {A : Around} (ha : dN a = true) (hu : A.units + 64 < cLine) : A.units + min a.depth b.depth < cLine := by
 unfold dN at ha
 simp only [KC, Nb] at ha
 have := Nat.min_le_left a.depth b.depth
 omega
theorem cj {a : PyData} (ha : dN a = true) : a.canLay0 = true := by
 unfold dN at ha
 simp only [KC, Nb] at ha
 exact ha.1
theorem oY {a : PyData} (ha : dN a = true) : a.depth <= 60 := by
 unfold dN at ha
 simp only [KC, Nb] at ha
 exact ha.2
theorem Fi (hu : X.A.units + 64 < cLine) : jL X (compareOp .Eq) (yP X.K false) := by
 intro pins s σ H x y v u Q I rx ry h
 obtain ⟨a, b, h1, h2, h3, h4, q⟩ := h
 obtain ⟨as, r1⟩ := cH I a x v h1 rx
 obtain ⟨bs, r2⟩ := cH I b y u h2 ry
 exact SeqAt.compareEq_reads r1 r2 (cj h3) (cj h4) (mN h3 hu) ⟨.bl _, H, I, rfl, q⟩
theorem Fd (hu : X.A.units + 64 < cLine) : jL X (compareOp .NotEq) (yP X.K true) := by
 intro pins s σ H x y v u Q I rx ry h
 obtain ⟨a, b, h1, h2, h3, h4, q⟩ := h
 obtain ⟨as, r1⟩ := cH I a x v h1 rx
 obtain ⟨bs, r2⟩ := cH I b y u h2 ry
 exact SeqAt.compareNe_reads r1 r2 (cj h3) (cj h4) (mN h3 hu) ⟨.bl _, H, I, rfl, q⟩
def yO (K : W.Frag) (neg : Bool) : R2 := fun x y H Q => ∃ a b xs, lB K H a x /\ lB K H b y /\ (b = .list xs \/ b = .tuple xs) /\ dN a = true /\ dN b = true /\ Q (.bl (if neg then !(xs.any fun y => PyData.eqv y a) else xs.any fun y => PyData.eqv y a)) H
theorem Fh (hu : X.A.units + 64 < cLine) : jL X (compareOp .In) (yO X.K false) := by
 intro pins s σ H x y v u Q I rx ry h
 obtain ⟨a, b, xs, h1, h2, hb, h3, h4, q⟩ := h
 obtain ⟨as, r1⟩ := cH I a x v h1 rx
 obtain ⟨bs, r2⟩ := cH I b y u h2 ry
 have hd := oY h3
 rcases hb with rfl | rfl
 ·refine SeqAt.in_list_reads r2 r1 (by simpa [PyData.canLay0] using cj h4) (cj h3) ?_ ⟨.bl _, H, I, rfl, q⟩
  have := Kn (PyData.depthAll xs) a.depth
  omega
 ·refine SeqAt.in_tuple_reads r2 r1 (by simpa [PyData.canLay0] using cj h4) (cj h3) ?_ ⟨.bl _, H, I, rfl, q⟩
  have := Kn (PyData.depthAll xs) a.depth
  omega
theorem xR (hu : X.A.units + 64 < cLine) : jL X (compareOp .NotIn) (yO X.K true) := by
 intro pins s σ H x y v u Q I rx ry h
 obtain ⟨a, b, xs, h1, h2, hb, h3, h4, q⟩ := h
 obtain ⟨as, r1⟩ := cH I a x v h1 rx
 obtain ⟨bs, r2⟩ := cH I b y u h2 ry
 have hd := oY h3
 rcases hb with rfl | rfl
 ·refine SeqAt.notIn_list_reads r2 r1 (by simpa [PyData.canLay0] using cj h4) (cj h3) ?_ ⟨.bl _, H, I, rfl, q⟩
  have := Kn (PyData.depthAll xs) a.depth
  omega
 ·refine SeqAt.notIn_tuple_reads r2 r1 (by simpa [PyData.canLay0] using cj h4) (cj h3) ?_ ⟨.bl _, H, I, rfl, q⟩
  have := Kn (PyData.depthAll xs) a.depth
  omega
end
mutual
def xg (μ : aB) : D -> Option PyData
 | .non => some .none
 | .bl b => some (.bool b)
 | .int i => some (.int i)
 | .str x => some (.str x)
 | .tup xs => (toPs μ xs).map .tuple
 | .frz xs => (toPs μ xs).map .list
 | .obj _ => none
def toPs (μ : aB) : List D -> Option (List PyData)
 | [] => some []
 | x :: xs => (xg μ x).bind fun a => (toPs μ xs).map fun r => a :: r
end
def yK (μ : aB) (d : D) : Option PyData := match d with
 | .obj n => match μ[n]? with
  | some (.lst xs) => (toPs μ xs).map .list
  | _ => none
 | d => xg μ d
def ig (μ : aB) : List D -> Option (List PyData)
 | [] => some []
 | x :: xs => (yK μ x).bind fun a => (ig μ xs).map fun r => a :: r
def kN (μ : aB) (d : D) : Option PyData := match d with
 | .obj n => match μ[n]? with
  | some (.lst xs) => (ig μ xs).map .list
  | _ => none
 | .tup xs => (ig μ xs).map .tuple
 | d => xg μ d
section
variable {K : W.Frag} {w : World} {H : Hp} {α : List Addr} {μ : aB}
mutual
theorem gH : ∀ {d : D} {q : PyData} {v : V}, xg μ d = some q -> aJ K H α d v -> lB K H q v
 | .non, _, _, h, r => by simp only [xg] at h; cases h; simp only [lB]; exact bL.mp r
 | .bl b, _, _, h, r => by simp only [xg] at h; cases h; simp only [lB]; exact bh.mp r
 | .int b, _, _, h, r => by simp only [xg] at h; cases h; simp only [lB]; exact aq.mp r
 | .str b, _, _, h, r => by simp only [xg] at h; cases h; simp only [lB]; exact bA.mp r
 | .tup xs, _, _, h, r => by
  simp only [xg] at h
  cases e : toPs μ xs with
  | none => rw [e] at h; cases h
  | some ys =>
   rw [e] at h; cases h
   obtain ⟨a, vs, rfl, h1, h2⟩ := aF.mp r
   simp only [lB]
   exact ⟨a, vs, rfl, h1, toPs_ok e h2⟩
 | .frz xs, _, _, h, r => by
  simp only [xg] at h
  cases e : toPs μ xs with
  | none => rw [e] at h; cases h
  | some ys =>
   rw [e] at h; cases h
   obtain ⟨a, vs, rfl, h1, h2⟩ := bp.mp r
   simp only [lB]
   exact ⟨a, vs, rfl, h1.sq, toPs_ok e h2⟩
 | .obj n, _, _, h, r => by simp only [xg] at h; cases h
theorem toPs_ok : ∀ {ds : List D} {qs : List PyData} {vs : List V}, toPs μ ds = some qs -> Reps K H α ds vs -> RdPs K H qs vs
 | [], _, _, h, r => by simp only [toPs] at h; cases h; simp only [RdPs]; simp only [Reps] at r; exact r
 | x :: xs, _, _, h, r => by
  simp only [toPs] at h
  cases e1 : xg μ x with
  | none => rw [e1] at h; cases h
  | some a =>
   cases e2 : toPs μ xs with
   | none => rw [e1, e2] at h; cases h
   | some ys =>
    rw [e1, e2] at h; cases h
    simp only [Reps] at r
    obtain ⟨v, vr, rfl, r1, r2⟩ := r
    simp only [RdPs]
    exact ⟨v, vr, rfl, gH e1 r1, toPs_ok e2 r2⟩
end
theorem BE {d : D} {q : PyData} {v : V} (S : iI K w H α μ) (h : yK μ d = some q) (r : aJ K H α d v) : lB K H q v := by
 cases d with
 | obj n =>
  unfold yK at h
  dsimp only at h
  split at h
  ·rename_i xs hx
   obtain ⟨a, ea, us, hH, rr⟩ := S.at hx
   obtain ⟨a', rfl, ea'⟩ := aO.mp r
   rw [ea] at ea'; cases ea'
   cases e : toPs μ xs with
   | none => rw [e] at h; cases h
   | some ys =>
    rw [e] at h; cases h
    simp only [lB]
    exact ⟨a, us, rfl, fw.of hH, toPs_ok e rr⟩
  ·cases h
 | non => exact gH h r
 | bl b => exact gH h r
 | int i => exact gH h r
 | str x => exact gH h r
 | tup xs => exact gH h r
 | frz xs => exact gH h r
theorem oy (S : iI K w H α μ) : ∀ {ds : List D} {qs : List PyData} {vs : List V}, ig μ ds = some qs -> Reps K H α ds vs -> RdPs K H qs vs
 | [], _, _, h, r => by simp only [ig] at h; cases h; simp only [RdPs]; simp only [Reps] at r; exact r
 | x :: xs, _, _, h, r => by
  simp only [ig] at h
  cases e1 : yK μ x with
  | none => rw [e1] at h; cases h
  | some a =>
   cases e2 : ig μ xs with
   | none => rw [e1, e2] at h; cases h
   | some ys =>
    rw [e1, e2] at h; cases h
    simp only [Reps] at r
    obtain ⟨v, vr, rfl, r1, r2⟩ := r
    simp only [RdPs]
    exact ⟨v, vr, rfl, BE S e1 r1, oy S e2 r2⟩
theorem jo {d : D} {q : PyData} {v : V} (S : iI K w H α μ) (h : kN μ d = some q) (r : aJ K H α d v) : lB K H q v := by
 cases d with
 | obj n =>
  unfold kN at h
  dsimp only at h
  split at h
  ·rename_i xs hx
   obtain ⟨a, ea, us, hH, rr⟩ := S.at hx
   obtain ⟨a', rfl, ea'⟩ := aO.mp r
   rw [ea] at ea'; cases ea'
   cases e : ig μ xs with
   | none => rw [e] at h; cases h
   | some ys =>
    rw [e] at h; cases h
    simp only [lB]
    exact ⟨a, us, rfl, fw.of hH, oy S e rr⟩
  ·cases h
 | tup xs =>
  unfold kN at h
  dsimp only at h
  cases e : ig μ xs with
  | none => rw [e] at h; cases h
  | some ys =>
   rw [e] at h; cases h
   obtain ⟨a, vs, rfl, h1, h2⟩ := aF.mp r
   simp only [lB]
   exact ⟨a, vs, rfl, h1, oy S e h2⟩
 | non => exact gH h r
 | bl b => exact gH h r
 | int i => exact gH h r
 | str x => exact gH h r
 | frz xs => exact gH h r
end
def jV (neg : Bool) (a b : D) (μ : aB) : ak D := match kN μ a, kN μ b with
 | some p, some q => if dN p = true /\ dN q = true then .ok (.bl (if neg then !PyData.eqv p q else PyData.eqv p q)) μ else .bad
 | _, _ => .bad
def oj : PyData -> Option (List PyData)
 | .list xs => some xs
 | .tuple xs => some xs
 | _ => none
def pN (neg : Bool) (a b : D) (μ : aB) : ak D := match kN μ a, kN μ b with
 | some p, some q => match oj q with
  | some xs => if dN p = true /\ dN q = true then .ok (.bl (if neg then !(xs.any fun y => PyData.eqv y p) else xs.any fun y => PyData.eqv y p)) μ else .bad
  | none => .bad
 | _, _ => .bad
theorem DD {p : Pa} {neg : Bool} : rp p (jV neg) (yP p.K neg) := by
 intro a b v y H α μ Q S ra rb P
 unfold jV at P
 split at P
 ·rename_i x z hx hz
  split at P
  ·rename_i hf
   exact ⟨x, z, jo S hx ra, jo S hz rb, hf.1, hf.2, P.now S _ (bh.mpr rfl)⟩
  ·exact P.elim
 ·exact P.elim
theorem DC {p : Pa} {neg : Bool} : rp p (pN neg) (yO p.K neg) := by
 intro a b v y H α μ Q S ra rb P
 unfold pN at P
 split at P
 ·rename_i x z hx hz
  split at P
  ·rename_i xs hxs
   split at P
   ·rename_i hf
    refine ⟨x, z, xs, jo S hx ra, jo S hz rb, ?_, hf.1, hf.2, P.now S _ (bh.mpr rfl)⟩
    cases z <;> first | (cases hxs; exact .inl rfl) | (cases hxs; exact .inr rfl) | (cases hxs)
   ·exact P.elim
  ·exact P.elim
 ·exact P.elim
def D.isNon : D -> Bool
 | .non => true
 | _ => false
def pT (neg : Bool) (a b : D) (μ : aB) : ak D := match b with
 | .non => .ok (.bl (if neg then !a.isNon else a.isNon)) μ
 | _ => .bad
theorem wQ {K : W.Frag} {H : Hp} {α : List Addr} {a : D} {v : V} (r : aJ K H α a v) : decide (v = .non) = a.isNon := by
 cases a with
 | non => rw [bL.mp r]; rfl
 | bl b => rw [bh.mp r]; rfl
 | int b => rw [aq.mp r]; rfl
 | str b => rw [bA.mp r]; rfl
 | tup xs => obtain ⟨a, vs, rfl, _⟩ := aF.mp r; rfl
 | frz xs => obtain ⟨a, vs, rfl, _⟩ := bp.mp r; rfl
 | obj xs => obtain ⟨a, rfl, _⟩ := aO.mp r; rfl
theorem Fu {p : Pa} : rp p (pT false) (fun x y H Q => y = .non /\ Q (.bl (decide (x = .non))) H) := by
 intro a b v y H α μ Q S ra rb P
 cases b with
 | non => exact ⟨bL.mp rb, P.now S _ (bh.mpr (by rw [wQ ra]; rfl))⟩
 | bl b => exact P.elim
 | int b => exact P.elim
 | str b => exact P.elim
 | tup xs => exact P.elim
 | frz xs => exact P.elim
 | obj xs => exact P.elim
theorem CQ {p : Pa} : rp p (pT true) (fun x y H Q => y = .non /\ Q (.bl (!decide (x = .non))) H) := by
 intro a b v y H α μ Q S ra rb P
 cases b with
 | non => exact ⟨bL.mp rb, P.now S _ (bh.mpr (by rw [wQ ra]; cases a <;> rfl))⟩
 | bl b => exact P.elim
 | int b => exact P.elim
 | str b => exact P.elim
 | tup xs => exact P.elim
 | frz xs => exact P.elim
 | obj xs => exact P.elim
end L2
namespace L2
open PySem PySem.Spec PyProof.Rows RS
open PySem.SeqAt
open PySem.AutoSeq1 (wpAny_loadPart')
open PySem.MeetsSeq PySem.MeetsSeq2 PySem.MeetsSeq3
def xn (op : CmpOp) (A : Around) (s : Shared) (y x : Value) (k : Bool) : Prop := ∀ (prog : Program) (w : World) (E : Value -> Shared -> Prop) (Q : Value -> Shared -> Prop), Q (.bool k) s -> wpAny (model prog w) A (richCompare op y x) Q E s
def nT (t : Bool) : List (Bool × Bool) -> Bool
 | [] => t
 | (e, k) :: r => if e = true then nT t r else k
def nA (op : CmpOp) (A : Around) (s : Shared) : List Value -> List Value -> List (Bool × Bool) -> Prop
 | [], _, [] => True
 | _, [], [] => True
 | y :: ys, x :: xs, (e, k) :: r => EqAt A s y x e /\ (e = false -> xn op A s y x k) /\ (e = true -> nA op A s ys xs r)
 | _, _, _ => False
theorem sk (l b : Addr) (items items2 : Array Value) (n n2 : Nat) (dd dd2 : Option Addr) (sl sl2 : Array (Option Value)) (eks : List (Bool × Bool)) :
  Meets (Builtin.«tuple.__lt__» ⟨[.ref l, .ref b], []⟩)
   (fun A R s => s.heap.get? l = some { cls := .type "tuple", dict := dd, data := .seq items n, slots := sl } /\ s.heap.get? b = some { cls := .type "tuple", dict := dd2, data := .seq items2 n2, slots := sl2 } /\
    nA .Lt A.in1 s items.toList items2.toList eks /\ R (.ok (.ret (.bool (nT (decide (items.size < items2.size)) eks)))) s) :=
 .of_wp fun prog w A R s h => by
  obtain ⟨hp, g, d, tk, os⟩ := s; obtain ⟨hl, hb, hc, h⟩ := h
  have f2 := AutoSeq1.sub_tuple_tuple
  wp_walk using wpAny_loadPart' hl, wpAny_loadPart' hb, LY _ (fun rest b s' => b.1 = none /\ s' = ⟨hp, g, d, tk, os⟩ /\ ∃ (vs ws : List Value) (eks' : List (Bool × Bool)), rest = vs.zip ws /\
   nA .Lt A.in1 ⟨hp, g, d, tk, os⟩ vs ws eks' /\ R (.ok (.ret (.bool (nT (decide (items.size < items2.size)) eks')))) ⟨hp, g, d, tk, os⟩) _
  case turn =>
   rintro ⟨y, x⟩ rest b s' ⟨hb', rfl, vs, ws, eks', hz, hci, hR⟩
   cases vs with
   | nil => rw [List.zip_nil_left] at hz; cases hz
   | cons a vs =>
    cases ws with
    | nil => rw [List.zip_nil_right] at hz; cases hz
    | cons c ws =>
     rw [List.zip_cons_cons] at hz
     injection hz with hyx hrest
     injection hyx with hy hx
     subst hy hx
     cases eks' with
     | nil => simp only [nA] at hci
     | cons ek eks' =>
      obtain ⟨e, k⟩ := ek
      simp only [nA] at hci
      obtain ⟨he, hk, hci⟩ := hci
      refine JM (he prog w _ _ ?_)
      cases e with
      | true =>
       have hR' : R (.ok (.ret (.bool (nT (decide (items.size < items2.size)) eks')))) ⟨hp, g, d, tk, os⟩ := hR
       wp_walk
       exact ⟨rfl, rfl, _, _, _, hrest, hci rfl, hR'⟩
      | false =>
       have hR' : R (.ok (.ret (.bool k))) ⟨hp, g, d, tk, os⟩ := hR
       have hri := hk rfl prog w
       wp_walk using hri
       exact ⟨_, rfl, by simpa using hR'⟩
  case fin =>
   rintro ⟨b1, b2⟩ s' ⟨hb', rfl, vs, ws, eks', hz, hci, hR⟩
   simp only at hb'
   subst hb'
   have hv : eks' = [] := by
    cases vs with
    | nil => cases eks' with
     | nil => rfl
     | cons _ _ => simp only [nA] at hci
    | cons a vs => cases ws with
     | nil => cases eks' with
      | nil => rfl
      | cons _ _ => simp only [nA] at hci
     | cons c ws => rw [List.zip_cons_cons] at hz; cases hz
   subst hv
   have hR' : R (.ok (.ret (.bool (decide (items.size < items2.size))))) ⟨hp, g, d, tk, os⟩ := hR
   wp_walk
   exact ⟨_, rfl, by simpa [Builtin.Tuple.tupleCompareSizes] using hR'⟩
  case h =>
   exact ⟨rfl, rfl, items.toList, items2.toList, eks, rfl, hc, h⟩
theorem FA {prog : Program} {w : World} {A : Around} {E : Value -> Shared -> Prop} {s : Shared} {l b : Addr} {items items2 : Array Value} {eks : List (Bool × Bool)} {Q : Value -> Shared -> Prop} (hl : IsTup s.heap l items) (hb : IsTup s.heap b items2) (hc : nA .Lt A.in1 s items.toList items2.toList eks)
  (hu : A.units < cLine) (h : Q (.bool (nT (decide (items.size < items2.size)) eks)) s) : wpAny (model prog w) A (richCompare .Lt (.ref l) (.ref b)) Q E s := by
 obtain ⟨⟨cls, dd, data, sl⟩, ho, hc', n, hd⟩ := id hl
 obtain ⟨⟨cls2, dd2, data2, sl2⟩, ho2, hc2, n2, hd2⟩ := id hb
 simp only at hc' hd hc2 hd2
 subst hc' hd hc2 hd2
 exact richCompare_meets_room (op := .Lt) ⟨_, ho, rfl⟩ ⟨_, ho2, rfl⟩ PySem.F.slot_tuple_lt PySem.F.entry_tuple_lt (PySem.F.args_tuple_lt_2 _ _) (sk l b items items2 n n2 dd dd2 sl sl2 eks)
  ⟨ho, ho2, hc, show Value.bool (nT (decide (items.size < items2.size)) eks) ≠ Value.notImplemented /\ Q (.bool (nT (decide (items.size < items2.size)) eks)) s from ⟨(fun x => nomatch x), h⟩⟩ hu
end L2
namespace L2
open PySem PySem.Spec PyProof.Rows RS
def cY : CmpOp -> Int -> Int -> Bool
 | .Lt, i, j => decide (i < j)
 | .LtE, i, j => decide (i <= j)
 | .Gt, i, j => decide (i > j)
 | .GtE, i, j => decide (i ≥ j)
 | _, _, _ => false
def Bt : CmpOp -> Bool
 | .Lt => true
 | _ => false
mutual
def gx (op : CmpOp) : PyData -> PyData -> Option Bool
 | .int i, .int j => some (cY op i j)
 | .tuple xs, .tuple ys => if Bt op = true then cmpPs op xs ys else none
 | _, _ => none
def cmpPs (op : CmpOp) : List PyData -> List PyData -> Option Bool
 | [], ys => some (cY op 0 ys.length)
 | _ :: xs, [] => some (cY op (xs.length + 1) 0)
 | x :: xs, y :: ys => if PyData.eqv x y = true then cmpPs op xs ys else gx op x y
end
def tx : CmpOp -> Bool
 | .Lt | .LtE | .Gt | .GtE => true
 | _ => false
theorem G8 : ∀ {op : CmpOp} (ho : tx op = true) {A : Around} {s : Shared} (a : Int) (t : Tok) (c : Int) (u : Tok), xn op A s (.int a t) (.int c u) (cY op a c)
 | .Lt, _, A, s, a, t, c, u => fun prog w E Q h => (PyProof.Rows.lt_int h : wpAny (model prog w) A (compareOp .Lt (.int a t) (.int c u)) Q E s)
 | .LtE, _, A, s, a, t, c, u => fun prog w E Q h => (PyProof.Rows.le_int h : wpAny (model prog w) A (compareOp .LtE (.int a t) (.int c u)) Q E s)
 | .Gt, _, A, s, a, t, c, u => fun prog w E Q h => (PyProof.Rows.gt_int h : wpAny (model prog w) A (compareOp .Gt (.int a t) (.int c u)) Q E s)
 | .GtE, _, A, s, a, t, c, u => fun prog w E Q h => (PyProof.Rows.ge_int h : wpAny (model prog w) A (compareOp .GtE (.int a t) (.int c u)) Q E s)
theorem vP {op : CmpOp} (i j : Nat) : cY op ((i + 1 : Nat) : Int) ((j + 1 : Nat) : Int) = cY op (i : Int) (j : Int) := by
 cases op <;> first | rfl | (unfold cY; simp)
theorem G7 : ∀ {op : CmpOp} (ho : Bt op = true) {A : Around} {s : Shared} {l b : Addr} {items items2 : Array Value} {eks : List (Bool × Bool)} (hl : IsTup s.heap l items) (hb : IsTup s.heap b items2) (hc : nA op A.in1 s items.toList items2.toList eks)
  (hu : A.units < cLine), xn op A s (.ref l) (.ref b) (nT (cY op items.size items2.size) eks)
 | .Lt, _, A, s, l, b, items, items2, eks, hl, hb, hc, hu => fun prog w E Q h => FA hl hb hc hu (by
   have e : decide (items.size < items2.size) = cY .Lt items.size items2.size := by (unfold cY; simp)
   rw [e]; exact h)
mutual
theorem oC {op : CmpOp} (ho : tx op = true) : ∀ (da db : PyData) (A : Around) (s : Shared) (a b : Value) (as bs : List Addr) (k : Bool), Reads s.heap a da as -> Reads s.heap b db bs -> da.canLay0 = true -> db.canLay0 = true ->
  A.units + min da.depth db.depth < cLine -> gx op da db = some k -> xn op A s a b k
 | .int i, .int j, A, s, _, _, _, _, k, ra, rb, _, _, hu, hk => by
  cases ra; cases rb
  simp only [gx] at hk
  cases hk
  exact G8 ho _ _ _ _
 | .tuple xs, .tuple ys, A, s, _, _, _, _, k, ra, rb, ha, hb, hu, hk => by
  simp only [gx] at hk
  have hlt : Bt op = true := by
   cases z : Bt op with
   | true => rfl
   | false => rw [z, Jm J1] at hk; cases hk
  rw [Jl hlt] at hk
  cases ra with
  | @tuple l o vs n _ as₁ h1 h2 h3 h4 =>
   cases rb with
   | @tuple l' o' vs' n' _ bs₁ k1 k2 k3 k4 =>
    have n1 : vs.size = xs.length := by simpa using SeqAt.ReadsAll.length _ _ _ h4
    have n2 : vs'.size = ys.length := by simpa using SeqAt.ReadsAll.length _ _ _ k4
    obtain ⟨eks, e1, e2⟩ := rc_readsAll ho xs ys A.in1 s vs.toList vs'.toList _ _ k h4 k4 (by simpa [PyData.canLay0] using ha) (by simpa [PyData.canLay0] using hb) (SeqAt.room_in hu) hk
    have := G7 hlt (A := A) (s := s) (l := l) (b := l') (items := vs) (items2 := vs') (eks := eks) ⟨_, h1, h2, _, h3⟩ ⟨_, k1, k2, _, k3⟩ e1 (SeqAt.room_here hu)
    rw [n1, n2, e2] at this
    exact this
 | .none, _, _, _, _, _, _, _, _, _, _, _, _, _, hk => by simp only [gx] at hk; cases hk
 | .bool _, _, _, _, _, _, _, _, _, _, _, _, _, _, hk => by simp only [gx] at hk; cases hk
 | .str _, _, _, _, _, _, _, _, _, _, _, _, _, _, hk => by simp only [gx] at hk; cases hk
 | .list _, _, _, _, _, _, _, _, _, _, _, _, _, _, hk => by simp only [gx] at hk; cases hk
 | .dict _, _, _, _, _, _, _, _, _, _, _, _, _, _, hk => by simp only [gx] at hk; cases hk
 | .int _, .none, _, _, _, _, _, _, _, _, _, _, _, _, hk => by simp only [gx] at hk; cases hk
 | .int _, .bool _, _, _, _, _, _, _, _, _, _, _, _, _, hk => by simp only [gx] at hk; cases hk
 | .int _, .str _, _, _, _, _, _, _, _, _, _, _, _, _, hk => by simp only [gx] at hk; cases hk
 | .int _, .list _, _, _, _, _, _, _, _, _, _, _, _, _, hk => by simp only [gx] at hk; cases hk
 | .int _, .tuple _, _, _, _, _, _, _, _, _, _, _, _, _, hk => by simp only [gx] at hk; cases hk
 | .int _, .dict _, _, _, _, _, _, _, _, _, _, _, _, _, hk => by simp only [gx] at hk; cases hk
 | .tuple _, .none, _, _, _, _, _, _, _, _, _, _, _, _, hk => by simp only [gx] at hk; cases hk
 | .tuple _, .bool _, _, _, _, _, _, _, _, _, _, _, _, _, hk => by simp only [gx] at hk; cases hk
 | .tuple _, .int _, _, _, _, _, _, _, _, _, _, _, _, _, hk => by simp only [gx] at hk; cases hk
 | .tuple _, .str _, _, _, _, _, _, _, _, _, _, _, _, _, hk => by simp only [gx] at hk; cases hk
 | .tuple _, .list _, _, _, _, _, _, _, _, _, _, _, _, _, hk => by simp only [gx] at hk; cases hk
 | .tuple _, .dict _, _, _, _, _, _, _, _, _, _, _, _, _, hk => by simp only [gx] at hk; cases hk
theorem rc_readsAll {op : CmpOp} (ho : tx op = true) : ∀ (xs ys : List PyData) (A : Around) (s : Shared) (vs ws : List Value) (as bs : List Addr) (k : Bool), ReadsAll s.heap vs xs as -> ReadsAll s.heap ws ys bs -> PyData.canLayAll0 xs = true -> PyData.canLayAll0 ys = true ->
  A.units + min (PyData.depthAll xs) (PyData.depthAll ys) < cLine -> cmpPs op xs ys = some k -> ∃ eks, nA op A s vs ws eks /\ nT (cY op (xs.length : Nat) (ys.length : Nat)) eks = k
 | [], ys, A, s, _, _, _, _, k, ra, rb, _, _, _, hk => by
  cases ra
  simp only [cmpPs] at hk
  cases hk
  exact ⟨[], by unfold nA; trivial, rfl⟩
 | x :: xs, [], A, s, _, _, _, _, k, ra, rb, _, _, _, hk => by
  cases rb
  simp only [cmpPs] at hk
  cases hk
  cases ra
  refine ⟨[], by unfold nA; trivial, ?_⟩
  simp [nT]
 | x :: xs, y :: ys, A, s, _, _, _, _, k, ra, rb, ha, hb, hu, hk => by
  have ha' : x.canLay0 = true /\ PyData.canLayAll0 xs = true := by simpa [PyData.canLayAll0] using ha
  have hb' : y.canLay0 = true /\ PyData.canLayAll0 ys = true := by simpa [PyData.canLayAll0] using hb
  cases ra with
  | cons r rs =>
   cases rb with
   | cons r' rs' =>
    have he := SeqAt.eqAt_reads x y A s _ _ _ _ r r' ha'.1 hb'.1 (SeqAt.room_head hu)
    simp only [cmpPs] at hk
    cases e : PyData.eqv x y with
    | true =>
     rw [Jl e] at hk
     rw [e] at he
     obtain ⟨eks, e1, e2⟩ := rc_readsAll ho xs ys A s _ _ _ _ k rs rs' ha'.2 hb'.2 (SeqAt.room_tail hu) hk
     refine ⟨(true, false) :: eks, ⟨he, fun z => (by cases z), fun _ => e1⟩, ?_⟩
     show nT (cY op ((xs.length + 1 : Nat) : Int) ((ys.length + 1 : Nat) : Int)) eks = k
     rw [vP]; exact e2
    | false =>
     rw [Jm (by rw [e]; exact J1)] at hk
     rw [e] at he
     refine ⟨[(false, k)], ⟨he, fun _ => oC ho x y A s _ _ _ _ k r r' ha'.1 hb'.1 (SeqAt.room_head hu) hk, fun z => (by cases z)⟩, rfl⟩
end
def zb (K : W.Frag) (op : CmpOp) : R2 := fun x y H Q => ∃ a b k, lB K H a x /\ lB K H b y /\ dN a = true /\ dN b = true /\ gx op a b = some k /\ Q (.bl k) H
theorem CG {X : Cx} (hu : X.A.units + 64 < cLine) : ∀ {op : CmpOp}, tx op = true -> jL X (compareOp op) (zb X.K op) := by
 intro op ho pins s σ H x y v u Q I rx ry h
 obtain ⟨a, b, k, h1, h2, h3, h4, h5, q⟩ := h
 obtain ⟨as, r1⟩ := cH I a x v h1 rx
 obtain ⟨bs, r2⟩ := cH I b y u h2 ry
 have := oC ho a b X.A s v u as bs k r1 r2 (cj h3) (cj h4) (mN h3 hu) h5 X.prog X.w X.xe (EP X pins σ Q) ⟨.bl k, H, I, rfl, q⟩
 cases op <;> first
  | exact absurd ho (by decide)
  | exact this
def jW (op : CmpOp) (a b : D) (μ : aB) : ak D := match kN μ a, kN μ b with
 | some p, some q => if dN p = true /\ dN q = true then (match gx op p q with | some k => .ok (.bl k) μ | none => .bad) else .bad
 | _, _ => .bad
theorem Fv {p : Pa} {op : CmpOp} : rp p (jW op) (zb p.K op) := by
 intro a b v y H α μ Q S ra rb P
 unfold jW at P
 split at P
 ·rename_i x z hx hz
  split at P
  ·rename_i hf
   split at P
   ·rename_i k hk
    exact ⟨x, z, k, jo S hx ra, jo S hz rb, hf.1, hf.2, hk, P.now S _ (bh.mpr rfl)⟩
   ·exact P.elim
  ·exact P.elim
 ·exact P.elim
def dI (g : Int -> Int -> D) (a b : D) (μ : aB) : ak D := match a, b with
 | .int i, .int j => .ok (g i j) μ
 | _, _ => .bad
open Classical in
noncomputable def DS (C : Int -> Int -> Prop) (g : Int -> Int -> D) (a b : D) (μ : aB) : ak D := match a, b with
 | .int i, .int j => if C i j then .ok (g i j) μ else .bad
 | _, _ => .bad
section
variable {p : Pa}
theorem Im {g : Int -> Int -> V} {gd : Int -> Int -> D} (h : ∀ i j H α, p.R H α (gd i j) (g i j)) : rp p (dI gd) (Gg g) := by
 intro a b v y H α μ Q S ra rb P
 unfold dI at P
 split at P
 ·rename_i i j
  exact ⟨i, j, aq.mp ra, aq.mp rb, P.now S _ (h i j H α)⟩
 ·exact P.elim
theorem zd {C : Int -> Int -> Prop} {g : Int -> Int -> V} {gd : Int -> Int -> D} (h : ∀ i j H α, p.R H α (gd i j) (g i j)) : rp p (DS C gd) (rI C g) := by
 intro a b v y H α μ Q S ra rb P
 unfold DS at P
 split at P
 ·rename_i i j
  split at P
  ·rename_i hc
   exact ⟨i, j, aq.mp ra, aq.mp rb, hc, P.now S _ (h i j H α)⟩
  ·exact P.elim
 ·exact P.elim
def mw (a : D) (μ : aB) : ak D := match a with
 | .int i => .ok (.int (-i)) μ
 | _ => .bad
theorem Fy : IQ p mw (rU fun i => .int (-i)) := by
 intro a v H α μ Q S ra P
 unfold mw at P
 split at P
 ·rename_i i
  exact ⟨i, aq.mp ra, P.now S _ (aq.mpr rfl)⟩
 ·exact P.elim
def DB (K : W.Frag) : R2 := fun x y H Q => ∃ a b xs ys, x = .ref a /\ y = .ref b /\ fW K H a xs /\ fW K H b ys /\ xs.length + ys.length <= sizeLine /\
 (xs = [] -> Q (.ref b) H) /\ (xs ≠ [] -> ys = [] -> Q (.ref a) H) /\ (xs ≠ [] -> ys ≠ [] -> ∀ p, H p = none -> Q (.ref p) (cM H p (.tup (xs ++ ys))))
theorem A9 {prog : Program} {w : World} {A : Around} {E : Value -> Shared -> Prop} {s : Shared} {t b : Addr} {ws : List Value} {Q : Value -> Shared -> Prop} (ht : IsTup s.heap t #[]) (hb : IsTup s.heap b ws.toArray) (h0 : Q (.ref b) s) : wpAny (model prog w) A (binaryOp .Add (.ref t) (.ref b)) Q E s := by
 obtain ⟨⟨cls, dd, data, sl⟩, ho, hc, n, hd⟩ := id ht
 obtain ⟨⟨cls2, dd2, data2, sl2⟩, ho2, hc2, n2, hd2⟩ := id hb
 simp only at hc hd hc2 hd2
 subst hc hd hc2 hd2
 exact concat_meets ⟨_, ho, rfl⟩ ⟨_, ho2, rfl⟩ Ki seq_tuple_add Kj Kk (Kl _ _)
  (tuple_addW0 t b #[] ws.toArray n n2 dd dd2 sl sl2 (by simp)) ⟨ho, ho2, h0⟩
theorem CI {X : Cx} : jL X (binaryOp .Add) (DB X.K) := by
 intro pins s σ H x y v u Q I rx ry h
 obtain ⟨a, b, xs, ys, rfl, rfl, ha, hb, hz, q0, q1, q2⟩ := h
 by_cases hx : xs = []
 ·cases rx
  cases ry
  obtain ⟨its, r1, p1, _⟩ := I.tuple ha
  obtain ⟨its2, r2, p2, _⟩ := I.tuple hb
  subst hx
  cases r1
  exact A9 p1 p2 ⟨.ref b, H, I, rfl, q0 rfl⟩
 ·exact CH pins s σ H (.ref a) (.ref b) v u Q I rx ry ⟨a, b, xs, ys, rfl, rfl, ha, hb, hx, hz, q1 hx, q2 hx⟩
def zc (K : W.Frag) : R2 := fun x y H Q => Gg (fun i j => .int (i + j)) x y H Q \/ DB K x y H Q \/ Gx x y H Q \/ (∃ i j, x = .str i /\ y = .str j /\ i.length + j.length <= sizeLine /\ Q (.str (i ++ j)) H)
theorem CJ {X : Cx} : jL X (binaryOp .Add) (zc X.K) := Fk.or (CI.or (Fj.or vC))
def bf (a b : D) (μ : aB) : ak D := match a, b with
 | .int i, .int j => .ok (.int (i + j)) μ
 | .str x, .str y => if x.length + y.length <= sizeLine then .ok (.str (x ++ y)) μ else .bad
 | .tup xs, .tup ys => if xs.length + ys.length <= sizeLine then .ok (.tup (xs ++ ys)) μ else .bad
 | .obj m, .obj n => match μ[m]?, μ[n]? with
  | some (.lst xs), some (.lst ys) => if xs.length + ys.length <= sizeLine then .ok (.obj μ.length) (μ ++ [.lst (xs ++ ys)]) else .bad
  | _, _ => .bad
 | _, _ => .bad
theorem di {H : Hp} {α : List Addr} {μ : aB} {n : Nat} {v : V} {xs : List D} (S : p.S H α μ) (r : p.R H α (.obj n) v) (hx : μ[n]? = some (.lst xs)) : ∃ a us, v = .ref a /\ α[n]? = some a /\ H a = some (.lst us) /\ p.Rs H α xs us := by
 obtain ⟨a, ea, us, hH, rr⟩ := S.at hx
 obtain ⟨a', rfl, ea'⟩ := aO.mp r
 rw [ea] at ea'; cases ea'
 exact ⟨a, us, rfl, ea, hH, rr⟩
theorem Reps.nil_iff' {K : W.Frag} {H : Hp} {α : List Addr} {xs : List D} {vs : List V} (r : Reps K H α xs vs) : vs = [] ↔ xs = [] := by
 have := r.length
 constructor
 ·intro h; subst h; simp at this; exact Nd this.symm
 ·intro h; subst h; simp at this; exact this
theorem Fw : rp p bf (zc p.K) := by
 intro a b v y H α μ Q S ra rb P
 unfold bf at P
 split at P
 ·rename_i i j
  exact .inl ⟨i, j, aq.mp ra, aq.mp rb, P.now S _ (aq.mpr rfl)⟩
 ·rename_i i j
  split at P
  ·rename_i hl
   exact .inr (.inr (.inr ⟨i, j, bA.mp ra, bA.mp rb, hl, P.now S _ (bA.mpr rfl)⟩))
  ·exact P.elim
 ·rename_i xs ys
  split at P
  ·rename_i hl
   obtain ⟨a, us, rfl, h1, r1⟩ := aF.mp ra
   obtain ⟨b, ws, rfl, h2, r2⟩ := aF.mp rb
   refine .inr (.inl ⟨a, b, us, ws, rfl, rfl, h1, h2, by rw [r1.length, r2.length]; exact hl, fun e => ?_, fun _ e => ?_, fun _ _ q hq => ?_⟩)
   ·have ex := r1.nil_iff'.mp e
    subst ex
    exact P.now S _ (by simpa using rb)
   ·have ey := r2.nil_iff'.mp e
    subst ey
    exact P.now S _ (by simpa using ra)
   ·exact P _ _ (bN hq) (S.tuple hq) _ (aF.mpr ⟨q, _, rfl, fW.of cw, (r1.append r2).mono (bN hq)⟩)
  ·exact P.elim
 ·rename_i m n
  split at P
  ·rename_i xs ys hx hy
   split at P
   ·rename_i hl
    obtain ⟨a, us, rfl, a1, h1, r1⟩ := di S ra hx
    obtain ⟨b, ws, rfl, b1, h2, r2⟩ := di S rb hy
    refine .inr (.inr (.inl ⟨a, b, us, ws, rfl, rfl, h1, h2, by rw [r1.length, r2.length]; exact hl, fun q hq => ?_⟩))
    obtain ⟨x1, x2, x3⟩ := cU S hq (r1.append r2)
    exact P _ _ x1 x2 _ x3
   ·exact P.elim
  ·exact P.elim
 ·exact P.elim
def Dw : R2 := fun x y H Q => rI sZ (fun i j => .int (i * j)) x y H Q \/ Gr x y H Q
theorem CD {X : Cx} : jL X (binaryOp .Mult) Dw := Fe.or Fb
open Classical in
noncomputable def mx (a b : D) (μ : aB) : ak D := match a, b with
 | .int i, .int j => if sZ i j then .ok (.int (i * j)) μ else .bad
 | .obj m, .int k => match μ[m]? with
  | some (.lst xs) => if -(2 ^ 63) <= k /\ k < 2 ^ 63 /\ xs.length * k.toNat <= sizeLine then .ok (.obj μ.length) (μ ++ [.lst (List.replicate k.toNat xs).flatten]) else .bad
  | _ => .bad
 | _, _ => .bad
theorem Reps.rep {K : W.Frag} {H : Hp} {α : List Addr} {xs : List D} {vs : List V} (h : Reps K H α xs vs) : ∀ k : Nat, Reps K H α (List.replicate k xs).flatten (List.replicate k vs).flatten
 | 0 => by simpa using Reps.nil
 | k + 1 => by
  rw [KM, KM, KN, KN]
  exact h.append (Reps.rep h k)
theorem Ft : rp p mx Dw := by
 intro a b v y H α μ Q S ra rb P
 unfold mx at P
 split at P
 ·rename_i i j
  split at P
  ·rename_i hc
   exact .inl ⟨i, j, aq.mp ra, aq.mp rb, hc, P.now S _ (aq.mpr rfl)⟩
  ·exact P.elim
 ·rename_i m k
  split at P
  ·rename_i xs hx
   split at P
   ·rename_i hl
    obtain ⟨a, us, rfl, a1, h1, r1⟩ := di S ra hx
    refine .inr ⟨a, k, us, rfl, aq.mp rb, h1, hl.1, hl.2.1, by rw [r1.length]; exact hl.2.2, fun q hq => ?_⟩
    obtain ⟨x1, x2, x3⟩ := cU S hq (r1.rep k.toNat)
    exact P _ _ x1 x2 _ x3
   ·exact P.elim
  ·exact P.elim
 ·exact P.elim
def cO (a b : D) (μ : aB) : ak D := match a, b with
 | .tup xs, .int i => match atI xs i with
  | some d => .ok d μ
  | none => .bad
 | .frz xs, .int i => match atI xs i with
  | some d => .ok d μ
  | none => .bad
 | .obj n, .int i => match μ[n]? with
  | some (.lst xs) => match atI xs i with
   | some d => .ok d μ
   | none => .bad
  | _ => .bad
 | _, _ => .bad
theorem Reps.atI {K : W.Frag} {H : Hp} {α : List Addr} {xs : List D} {vs : List V} {i : Int} {d : D} (r : Reps K H α xs vs) (h : L2.atI xs i = some d) : ∃ v, L2.atI vs i = some v /\ aJ K H α d v := by
 unfold L2.atI at h ⊢
 rw [r.length]
 cases e : uT xs.length i with
 | none => rw [e] at h; cases h
 | some j => rw [e] at h; exact r.get h
theorem Hk : rp p cO (IL p.K) := by
 intro a b v y H α μ Q S ra rb P
 unfold cO at P
 split at P
 ·rename_i xs i
  split at P
  ·rename_i d hd
   obtain ⟨a, us, rfl, h1, r1⟩ := aF.mp ra
   obtain ⟨v, hv, rv⟩ := r1.atI hd
   exact .inr (.inl ⟨a, us, i, v, rfl, aq.mp rb, h1, hv, P.now S _ rv⟩)
  ·exact P.elim
 ·rename_i xs i
  split at P
  ·rename_i d hd
   obtain ⟨a, us, rfl, h1, r1⟩ := bp.mp ra
   obtain ⟨v, hv, rv⟩ := r1.atI hd
   exact .inl ⟨a, us, i, v, rfl, aq.mp rb, h1.sq, hv, P.now S _ rv⟩
  ·exact P.elim
 ·rename_i n i
  split at P
  ·rename_i xs hx
   split at P
   ·rename_i d hd
    obtain ⟨a, us, rfl, a1, h1, r1⟩ := di S ra hx
    obtain ⟨v, hv, rv⟩ := r1.atI hd
    exact .inl ⟨a, us, i, v, rfl, aq.mp rb, fw.of h1, hv, P.now S _ rv⟩
   ·exact P.elim
  ·exact P.elim
 ·exact P.elim
theorem G5 {X : Cx} {a b : Expr} {fa fb : ME} {pos : Pos} (hK : X.K = p.K) (ha : PE X a (tD p fa)) (hb : PE X b (tD p fb)) (hs : sj b) : PE X (.Subscript a b pos) (tD p (aw cO fa fb)) :=
 (Hf FL ha hb hs).weak fun σ H Q ⟨α, ρ, μ, S, R, P⟩ => ⟨α, ρ, μ, S, R, (aD.bind P).imp fun x μ1 H1 α1 X1 S1 P1 v rv => ⟨α1, ρ, μ1, S1, R.mono X1, (aD.bind P1).imp fun y μ2 H2 α2 X2 S2 P2 u ru => by
  rw [hK]; exact Hk x y v u H2 α2 μ2 Q S2 (rv.mono X2) ru P2⟩⟩
theorem kM {prog : Program} {w : World} {A : Around} {E : Value -> Shared -> Prop} {s : Shared} {t sl : Addr} {items : Array Value} {vl vu : Value} {lo hi : Option Int} {Q : Value -> Shared -> Prop} (ht : IsTup s.heap t items) (hs : s.heap.IsSliceOf sl vl vu .none) (pl : IsPart vl lo) (pu : IsPart vu hi)
  (hw : HT.sIx items.size 0 lo = 0 /\ HT.sIx items.size items.size hi = items.size) (h : Q (.ref t) s) : wpAny (model prog w) A (getItem (.ref t) (.ref sl)) Q E s := by
 obtain ⟨os, hos, hcs, hds⟩ := id hs
 have hTs : s.TypeIs (.ref sl) "slice" := ⟨os, hos, hcs⟩
 unfold getItem
 try with_reducible refine JN ?_
 first | refine JM (JQ ?_) | skip
 refine JM (Ku ht.typeIs (by decide) ?_)
 refine JM (Kv (name := Str.ofString "__getitem__") ht.typeIs Kw
  (Kx Kw ht.typeIs Ky ?_ (KA _ _)))
 show wpAny _ _ (Builtin.Tuple.tupleItemsOf (.ref t) >>= _) _ _ s
 refine JM (tupleItemsOf_ ht ?_)
 refine JM (KB hTs ?_)
 rw [Jl (by decide)]
 refine JM (HT.sliceApplied_gen hs pl pu ?_)
 have hno : (((HT.sIx items.size 0 lo : Nat) : Int) == 0 && (1 : Int) == 1 && (HT.sIx items.size items.size hi - HT.sIx items.size 0 lo) == items.size) = true := by
  rw [hw.1, hw.2]; simp
 show wpAny _ _ (if (((HT.sIx items.size 0 lo : Nat) : Int) == 0 && (1 : Int) == 1 && (HT.sIx items.size items.size hi - HT.sIx items.size 0 lo) == items.size) = true then _ else _) _ _ s
 rw [Jl hno]
 refine JM (m := Builtin.Tuple.tupleIsExact (.ref t)) (JM (KB ht.typeIs (JQ ?_)))
 rw [Jl (by decide)]
 exact JM (K9 (JQ ⟨_, rfl, JQ h⟩))
def gb {β : Type} (xs : List β) (lo hi : Option Int) : List β := (xs.drop (HT.sIx xs.length 0 lo)).take (HT.sIx xs.length xs.length hi - HT.sIx xs.length 0 lo)
theorem vM {β : Type} (xs : List β) (lo hi : Option Int) (h : HT.sIx xs.length 0 lo = 0 /\ HT.sIx xs.length xs.length hi = xs.length) : gb xs lo hi = xs := by
 unfold gb
 rw [h.1, h.2]; simp
def Du (K : W.Frag) : V -> Option Int -> Option Int -> Hp -> VK -> Prop := fun x lo hi H Q => ∃ a xs, x = .ref a /\ fW K H a xs /\
 (HT.sIx xs.length 0 lo = 0 /\ HT.sIx xs.length xs.length hi = xs.length) /\ Q (.ref a) H
theorem BX {X : Cx} : Bn X (Du X.K) := by
 intro pins s σ H x v vl vu lo hi sl Q I rx hs pl pu h
 obtain ⟨a, xs, rfl, hx, hw, q⟩ := h
 cases rx
 obtain ⟨its, r, ht, hz⟩ := I.tuple hx
 have hlen : its.toArray.size = xs.length := by rw [J3]; exact r.length.symm
 refine ⟨"tuple", _, Kw.lookup, ht.typeIs, ?_⟩
 exact kM ht hs pl pu (by rw [hlen]; exact hw) ⟨.ref a, H, I, rfl, q⟩
def Gq (K : W.Frag) : V -> Option Int -> Option Int -> Hp -> VK -> Prop := fun x lo hi H Q => Gn K x lo hi H Q \/ Du K x lo hi H Q \/ Gp K x lo hi H Q
theorem Ik {X : Cx} : Bn X (Gq X.K) := Eu.or (BX.or BY)
abbrev MO := Ro -> aB -> ak (Option Int)
def uS : MO := fun _ μ => .ok none μ
def HF (d : D) (μ : aB) : ak (Option Int) := match d with
 | .int i => .ok (some i) μ
 | _ => .bad
def f7 (f : ME) : MO := fun ρ μ => (f ρ μ).bind HF
def Do (p : Pa) (f : MO) : TO := fun σ H Q => ∃ α ρ μ, p.S H α μ /\ dg p.K H α ρ σ /\ aD p H α (f ρ μ) (fun o _ H' _ => Q o H')
theorem PO.weak {X : Cx} {e : Option Expr} {t t' : TO} (h : PO X e t) (k : ∀ σ H Q, t' σ H Q -> t σ H Q) : PO X e t' := fun pins s σ H Q I q => h pins s σ H Q I (k σ H Q q)
theorem BW {X : Cx} : PO X none (Do p uS) := Co.weak fun σ H Q ⟨α, ρ, μ, S, R, P⟩ => P.now S
theorem BV {X : Cx} {e : Expr} {f : ME} (h : PE X e (tD p f)) : PO X (some e) (Do p (f7 f)) := (Cn h).weak fun σ H Q ⟨α, ρ, μ, S, R, P⟩ => ⟨α, ρ, μ, S, R, (aD.bind P).imp fun d μ1 H1 α1 X1 S1 P1 v rv => by
 unfold HF at P1
 split at P1
 ·rename_i i
  exact ⟨i, aq.mp rv, P1.now S1⟩
 ·exact P1.elim⟩
def sN (a : D) (lo hi : Option Int) (μ : aB) : ak D := match a with
 | .tup xs => .ok (.tup (gb xs lo hi)) μ
 | .frz xs => .ok (.obj μ.length) (μ ++ [.lst (gb xs lo hi)])
 | .obj n => match μ[n]? with
  | some (.lst xs) => .ok (.obj μ.length) (μ ++ [.lst (gb xs lo hi)])
  | _ => .bad
 | _ => .bad
def sP (fa : ME) (fl fh : MO) : ME := fun ρ μ => (fa ρ μ).bind fun a μ1 => (fl ρ μ1).bind fun lo μ2 => (fh ρ μ2).bind fun hi μ3 => sN a lo hi μ3
theorem Reps.cut' {K : W.Frag} {H : Hp} {α : List Addr} {xs : List D} {vs : List V} (r : Reps K H α xs vs) (lo hi : Option Int) : Reps K H α (gb xs lo hi) (sV vs lo hi) := by
 unfold gb sV
 rw [r.length]
 exact (r.drop _).take _
theorem G3 {a : D} {v : V} {lo hi : Option Int} {H : Hp} {α : List Addr} {μ : aB} {Q : VK} (S : p.S H α μ) (ra : p.R H α a v) (P : aD p H α (sN a lo hi μ) (RV p Q)) : Gq p.K v lo hi H Q := by
 unfold sN at P
 split at P
 ·rename_i xs
  obtain ⟨a, us, rfl, h1, r1⟩ := aF.mp ra
  by_cases hw : HT.sIx us.length 0 lo = 0 /\ HT.sIx us.length us.length hi = us.length
  ·refine .inr (.inl ⟨a, us, rfl, h1, hw, ?_⟩)
   rw [r1.length] at hw
   rw [vM xs lo hi hw] at P
   exact P.now S _ ra
  ·exact .inl ⟨a, us, rfl, h1, hw, fun q hq => P _ _ (bN hq) (S.tuple hq) _ (aF.mpr ⟨q, _, rfl, fW.of cw, (r1.cut' lo hi).mono (bN hq)⟩)⟩
 ·rename_i xs
  obtain ⟨a, us, rfl, h1, r1⟩ := bp.mp ra
  refine .inr (.inr ⟨a, us, rfl, h1.sq, fun q hq => ?_⟩)
  obtain ⟨x1, x2, x3⟩ := cU S hq (r1.cut' lo hi)
  exact P _ _ x1 x2 _ x3
 ·rename_i n
  split at P
  ·rename_i xs hx
   obtain ⟨a, us, rfl, a1, h1, r1⟩ := di S ra hx
   refine .inr (.inr ⟨a, us, rfl, fw.of h1, fun q hq => ?_⟩)
   obtain ⟨x1, x2, x3⟩ := cU S hq (r1.cut' lo hi)
   exact P _ _ x1 x2 _ x3
  ·exact P.elim
 ·exact P.elim
theorem Ah {X : Cx} {e : Expr} {lo hi : Option Expr} {fa : ME} {fl fh : MO} {pos p2 : Pos} (hK : X.K = p.K) (he : PE X e (tD p fa)) (hl : PO X lo (Do p fl)) (hu : PO X hi (Do p fh)) : PE X (.Subscript e (.Slice lo hi none p2) pos) (tD p (sP fa fl fh)) :=
 (AA Ik he hl hu).weak fun σ H Q ⟨α, ρ, μ, S, R, P⟩ => ⟨α, ρ, μ, S, R, (aD.bind P).imp fun a μ1 H1 α1 X1 S1 P1 v rv => ⟨α1, ρ, μ1, S1, R.mono X1, (aD.bind P1).imp fun l μ2 H2 α2 X2 S2 P2 => ⟨α2, ρ, μ2, S2, (R.mono X1).mono X2, (aD.bind P2).imp fun h μ3 H3 α3 X3 S3 P3 => by
  rw [hK]; exact G3 S3 ((rv.mono X2).mono X3) P3⟩⟩⟩
theorem ko {β γ : Type} {f : β -> Option γ} {g : β -> γ} : ∀ {l : List β}, (∀ m ∈ l, f m = some (g m)) -> l.filterMap f = l.map g
 | [], _ => rfl
 | x :: r, h => by rw [Jw, h x Jx, KF, ko fun m hm => h m (Jy _ hm)]
theorem Ax (xs : Array Value) : ((List.range xs.size).filterMap fun (m : Nat) => xs[(((xs.size : Int) - 1) + (m : Int) * (-1)).toNat]?).toArray = xs.toList.reverse.toArray := by
 congr 1
 apply Mu
 intro i
 have hf : ∀ m ∈ List.range xs.size, xs[(((xs.size : Int) - 1) + (m : Int) * (-1)).toNat]? = some (xs.toList.reverse.getD m .none) := by
  intro m hm
  have hm' : m < xs.size := by simpa using hm
  have e : (((xs.size : Int) - 1) + (m : Int) * (-1)).toNat = xs.size - 1 - m := by omega
  rw [e, Mt, List.getElem?_reverse (by simpa using hm')]
  have h2 : xs.size - 1 - m < xs.size := by omega
  rw [LU h2]
  simp [JJ, h2]
 rw [ko hf]
 by_cases hi : i < xs.size
 ·rw [Ke, Mv hi]
  simp only [Option.map_some]
  rw [Mt, MN (by simpa using hi)]
  rfl
 ·rw [Mw (by simpa using hi), Mw (by simpa using hi)]
theorem mS {prog : Program} {w : World} {A : Around} {E : Value -> Shared -> Prop} {s : Shared} {sl : Addr} {n : Nat} {t : Tok} {Q : Int × Int × Nat -> Shared -> Prop} (hs : s.heap.IsSliceOf sl .none .none (.int (-1) t))
  (h : Q ((n : Int) - 1, -1, n) s) : wpAny (model prog w) A (Builtin.Slice.sliceApplied (.ref sl) (pure (n : Int))) Q E s := by
 obtain ⟨os, hos, hcs, hds⟩ := id hs
 unfold Builtin.Slice.sliceApplied Builtin.Slice.sliceFields
 refine JM (JM (Ks hos hds (x := .none) rfl (JM (Ks hos hds (x := .none) rfl (JM (Ks hos hds (x := .int (-1) t) rfl (JQ ?_)))))))
 refine JM (slicePart_int ?_)
 show wpAny _ _ (if ((-1 : Int) == 0) = true then _ else _) _ _ s
 rw [Jm (by decide)]
 refine JM (Kr (JM (Kr (JM (JQ ?_)))))
 show wpAny _ _ (match Builtin.Slice.sliceAdjust none none (-1) (n : Int) with | (lo, hi) => pure (lo, (-1 : Int), Builtin.Slice.slicePlaces lo hi (-1))) _ _ s
 have e : Builtin.Slice.sliceAdjust none none (-1) (n : Int) = ((n : Int) - 1, -1) := by unfold Builtin.Slice.sliceAdjust; simp
 rw [e]
 show wpAny _ _ (pure ((n : Int) - 1, (-1 : Int), Builtin.Slice.slicePlaces ((n : Int) - 1) (-1) (-1))) _ _ s
 have e2 : Builtin.Slice.slicePlaces ((n : Int) - 1) (-1) (-1) = n := by
  unfold Builtin.Slice.slicePlaces
  rw [Jm (by decide)]
  split <;> simp <;> omega
 rw [e2]
 exact JQ h
theorem mn {prog : Program} {w : World} {A : Around} {E : Value -> Shared -> Prop} {s : Shared} {t sl : Addr} {tk : Tok} {items : Array Value} {Q : Value -> Shared -> Prop} (ht : IsTup s.heap t items) (hs : s.heap.IsSliceOf sl .none .none (.int (-1) tk))
  (h : Q (.ref s.heap.objs.size) { s with heap := s.heap.push { cls := .type "tuple", data := .seq items.toList.reverse.toArray } }) (hsz : items.size <= sizeLine) : wpAny (model prog w) A (getItem (.ref t) (.ref sl)) Q E s := by
 have htake : sizeOk (.seq items.toList.reverse.toArray) := by
  show items.toList.reverse.toArray.size <= sizeLine
  simpa using hsz
 obtain ⟨os, hos, hcs, hds⟩ := id hs
 have hTs : s.TypeIs (.ref sl) "slice" := ⟨os, hos, hcs⟩
 unfold getItem
 try with_reducible refine JN ?_
 first | refine JM (JQ ?_) | skip
 refine JM (Ku ht.typeIs (by decide) ?_)
 refine JM (Kv (name := Str.ofString "__getitem__") ht.typeIs Kw
  (Kx Kw ht.typeIs Ky ?_ (KA _ _)))
 show wpAny _ _ (Builtin.Tuple.tupleItemsOf (.ref t) >>= _) _ _ s
 refine JM (tupleItemsOf_ ht ?_)
 refine JM (KB hTs ?_)
 rw [Jl (by decide)]
 refine JM (mS hs ?_)
 show wpAny _ _ (if (((items.size : Int) - 1) == 0 && (-1 : Int) == 1 && items.size == items.size) = true then _ else _) _ _ s
 rw [Jm (by simp), Ax]
 first
  | exact JM (m := Builtin.Tuple.tupleExact _) (KD (JQ ⟨_, rfl, JQ h⟩) htake)
  | exact JM (m := Builtin.Tuple.tupleExact _) (KD (JM (JQ (JQ ⟨_, rfl, JQ h⟩))) htake)
  | exact JM (JM (m := Builtin.Tuple.tupleExact _) (KD (JQ (JQ ⟨_, rfl, JQ h⟩)) htake))
  | exact JM (JM (m := Builtin.Tuple.tupleExact _) (KD (JQ ⟨_, rfl, JQ h⟩) htake))
def HZ (K : W.Frag) (te ts : TE) : TE := fun σ H Q => te σ H fun x H1 => ts σ H1 fun y H2 => y = .int (-1) /\ ∃ a xs, x = .ref a /\ fW K H2 a xs /\ ∀ p, H2 p = none -> Q (.ref p) (cM H2 p (.tup xs.reverse))
theorem E2 {X : Cx} {e st : Expr} {te ts : TE} {pos p2 : Pos} (he : PE X e te) (hs : PE X st ts) : PE X (.Subscript e (.Slice none none (some st) p2) pos) (HZ X.K te ts) := by
 intro pins s σ H Q I h
 refine Subscript_ (dY (he pins s σ H _ I h) fun v s1 ⟨x, H1, I1, r1, q1⟩ => ?_)
 refine wpAny_Slice ?_
 rw [evalPart_none]
 refine JQ (JQ ?_)
 rw [evalPart_some]
 refine dY (hs pins s1 σ H1 _ I1 q1) fun vs s3 ⟨y, H3, I3, r3, q3⟩ => ?_
 obtain ⟨rfl, a, xs, rfl, hx, q⟩ := q3
 obtain ⟨tk, rfl⟩ := r3
 cases r1
 have I4 : aT X pins σ H3 { s3 with heap := s3.heap.push { cls := .type "slice", data := .fields #[.none, .none, .int (-1) tk] } } := I3.kept (t' := s3.toks) fun b ob q => JT _ q
 obtain ⟨its, r, ht, hz⟩ := I4.tuple hx
 show wpAny (model X.prog X.w) X.A (subscriptTail e (.Slice none none (some st) p2) (.ref a) (.ref s3.heap.objs.size)) (EP X pins σ Q) X.xe { s3 with heap := s3.heap.push { cls := .type "slice", data := .fields #[.none, .none, .int (-1) tk] } }
 refine tail_any (ops := [.ref a, .ref s3.heap.objs.size]) ht.typeIs Kw.lookup ?_ (by with_unfolding_all rfl)
 refine mn ht (Heap.IsSliceOf.new ..) ?_ (by rw [J3, <- r.length]; exact hz)
 generalize { s3 with heap := s3.heap.push { cls := .type "slice", data := .fields #[.none, .none, .int (-1) tk] } } = s5 at I4 ht
 refine ⟨.ref s5.heap.objs.size, _, I4.laid (t' := s5.toks) (o := .tup xs.reverse) (fun b ob q => JT _ q) (JV _) ?_, rfl, q _ (I4.hok.fresh (JV _))⟩
 exact ⟨by rw [List.length_reverse]; exact hz, its.reverse, r.reverse, IsTup.new _ _⟩
def yS (a b : D) (μ : aB) : ak D := match a, b with
 | .tup xs, .int i => if i = -1 then .ok (.tup xs.reverse) μ else .bad
 | _, _ => .bad
theorem EB {X : Cx} {e st : Expr} {fa fs : ME} {pos p2 : Pos} (hK : X.K = p.K) (he : PE X e (tD p fa)) (hs : PE X st (tD p fs)) : PE X (.Subscript e (.Slice none none (some st) p2) pos) (tD p (aw yS fa fs)) :=
 (E2 he hs).weak fun σ H Q ⟨α, ρ, μ, S, R, P⟩ => ⟨α, ρ, μ, S, R, (aD.bind P).imp fun x μ1 H1 α1 X1 S1 P1 v rv => ⟨α1, ρ, μ1, S1, R.mono X1, (aD.bind P1).imp fun y μ2 H2 α2 X2 S2 P2 u ru => by
  rw [hK]
  unfold yS at P2
  split at P2
  ·rename_i xs i
   split at P2
   ·rename_i hi
    subst hi
    obtain ⟨a, us, rfl, h1, r1⟩ := aF.mp (rv.mono X2)
    refine ⟨aq.mp ru, a, us, rfl, h1, fun q hq => P2 _ _ (bN hq) (S2.tuple hq) _ (aF.mpr ⟨q, _, rfl, fW.of cw, r1.reverse.mono (bN hq)⟩)⟩
   ·exact P2.elim
  ·exact P2.elim⟩⟩
end
inductive yE (K : W.Frag) (H : Hp) : V -> String -> Prop where
 | non : yE K H .non "NoneType"
 | bl (x : Bool) : yE K H (.bl x) "bool"
 | int (i : Int) : yE K H (.int i) "int"
 | str (x : Str) : yE K H (.str x) "str"
 | lst {a : Addr} {xs : List V} (e : fw K H a xs) : yE K H (.ref a) "list"
 | tup {a : Addr} {xs : List V} (e : fW K H a xs) : yE K H (.ref a) "tuple"
 | dic {a : Addr} {kvs : List (rA × V)} (e : H a = some (.dK kvs)) : yE K H (.ref a) "dict"
def GE (tn T : String) : Bool := tn == T || (tn == "bool" && T == "int")
def rQ : List String := ["NoneType", "bool", "int", "str", "list", "tuple", "dict"]
theorem FE {K : W.Frag} : ∀ tn ∈ rQ, ∀ T ∈ ["int", "bool", "tuple", "list", "str", "dict"], W.kitOne K (.type tn) (.type T) = some (GE tn T) := by
 intro tn h1 T h2
 simp only [rQ, Jz, Lj, Lk] at h1 h2
 rcases h1 with rfl | rfl | rfl | rfl | rfl | rfl | rfl <;> rcases h2 with rfl | rfl | rfl | rfl | rfl | rfl <;> rfl
theorem yE.mem {K : W.Frag} {H : Hp} {x : V} {tn : String} (h : yE K H x tn) : tn ∈ rQ := by
 cases h <;> decide
section
variable {X : Cx}
theorem FM {pins : List (Addr × Obj)} {σ : St} {H : Hp} {s : Shared} {A : Around} {E : Value -> Shared -> Prop} {Q : Value -> Shared -> Prop} {c : Value} {b : Bool} {x : V} {u : Value} {tn : String} (I : aT X pins σ H s) (rx : cz x u) (ty : yE X.K H x tn) (e : W.kitOne X.K (.type tn) c = some b) (h : ∀ tk, Q (.bool b) { s with toks := tk }) :
  wpAny (model X.prog X.w) A (call (.builtin "isinstance") [u, c]) Q E s := by
 cases ty with
 | non => cases (show u = Value.none from rx); exact W.kia_one W.kitx_none I.kIn True.intro e (fun z => nomatch z) h
 | bl y => cases (show u = Value.bool y from rx); exact W.kia_one W.kitx_bool I.kIn True.intro e (fun z => nomatch z) h
 | int i => obtain ⟨t, q⟩ := (show ∃ t, u = Value.int i t from rx); cases q; exact W.kia_one W.kitx_int I.kIn True.intro e (fun z => nomatch z) h
 | str y => obtain ⟨t, q⟩ := (show ∃ t, u = Value.str y t from rx); cases q; exact W.kia_one W.kitx_str I.kIn True.intro e (fun z => nomatch z) h
 | @lst a xs ea =>
  cases (show u = Value.ref a from rx)
  obtain ⟨its, _, ⟨o, n, h1, h2, _⟩, _⟩ := I.list ea
  exact W.kia_one W.kitx_list I.kIn ⟨o, h1, h2⟩ e (fun z => nomatch z) h
 | @tup a xs ea =>
  cases (show u = Value.ref a from rx)
  obtain ⟨its, _, ⟨o, h1, h2, _⟩, _⟩ := I.tuple ea
  exact W.kia_one W.kitx_tuple I.kIn ⟨o, h1, h2⟩ e (fun z => nomatch z) h
 | @dic a kvs ea =>
  cases (show u = Value.ref a from rx)
  obtain ⟨_, _, vs, _, p⟩ := (show fk X.prog X.w H s.heap a (.dK kvs) from I.hok a _ ea)
  obtain ⟨o, es, ep, h1, h2, _⟩ := p
  exact W.kia_one W.kitx_dict I.kIn ⟨o, h1, h2.1⟩ e (fun z => nomatch z) h
def Gw (K : W.Frag) : List V -> Hp -> VK -> Prop := fun xs H Q => ∃ x T tn b, xs = [x, .ty T] /\ yE K H x tn /\ W.kitOne K (.type tn) (.type T) = some b /\ Q (.bl b) H
theorem Bb : cE X (.builtin "isinstance") (Gw X.K) := by
 intro pins s σ H xs us Q I r h
 obtain ⟨x, T, tn, b, rfl, ty, e, q⟩ := h
 obtain ⟨u, u2, rfl, ru, ru2⟩ := yW r
 cases ru2
 exact FM I ru ty e fun tk => ⟨.bl b, H, I.tok _, rfl, q⟩
end
def Bf (μ : aB) : D -> Option String
 | .non => some "NoneType"
 | .bl _ => some "bool"
 | .int _ => some "int"
 | .str _ => some "str"
 | .tup _ => some "tuple"
 | .frz _ => some "list"
 | .obj n => match μ[n]? with
  | some (.lst _) => some "list"
  | some .dic => some "dict"
  | _ => none
theorem Ee {p : Pa} {H : Hp} {α : List Addr} {μ : aB} {d : D} {v : V} {tn : String} (S : p.S H α μ) (r : p.R H α d v) (h : Bf μ d = some tn) : yE p.K H v tn := by
 cases d with
 | non => cases h; rw [bL.mp r]; exact .non
 | bl b => cases h; rw [bh.mp r]; exact .bl b
 | int b => cases h; rw [aq.mp r]; exact .int b
 | str b => cases h; rw [bA.mp r]; exact .str b
 | tup xs => cases h; obtain ⟨a, vs, rfl, h1, _⟩ := aF.mp r; exact .tup h1
 | frz xs => cases h; obtain ⟨a, vs, rfl, h1, _⟩ := bp.mp r; exact .lst h1.sq
 | obj n =>
  unfold Bf at h
  dsimp only at h
  split at h
  ·rename_i xs hx
   cases h
   obtain ⟨a, us, rfl, a1, h1, _⟩ := di S r hx
   exact .lst (fw.of h1)
  ·rename_i hx
   cases h
   obtain ⟨a, ea, q⟩ := S.at hx
   obtain ⟨a', rfl, ea'⟩ := aO.mp r
   rw [ea] at ea'; cases ea'
   exact .dic q
  ·cases h
def jn (T : String) (d : D) (μ : aB) : ak D := match Bf μ d with
 | some tn => .ok (.bl (GE tn T)) μ
 | none => .bad
theorem EE {p : Pa} {X : Cx} {a : Expr} {fa : ME} {T : String} {xT : Str} {px pt pos : Pos} (hK : X.K = p.K) (hT : T ∈ ["int", "bool", "tuple", "list", "str", "dict"]) (hg : Gl X "isinstance") (hm : X.mg "isinstance" = none) (hgT : Gl X xT) (hmT : X.mg xT = none) (hbT : bootBuiltins xT = some (.type T)) (ha : PE X a (tD p fa))
  (hnT : xT ≠ "__name__") (hdT : (xT == ("__debug__" : Str)) = false) (hs1 : starEach [a, .Name xT pt] X.env = (false, eval a X.env) :: starEach [.Name xT pt] X.env) :
  PE X (.Call (.Name "isinstance" px) [a, .Name xT pt] [] pos) (tD p (pO (jn T) fa)) := by
 have hb : PE X (.Name xT pt) (tC (.ty T)) := Cz hgT hmT hbT rfl hnT hdT
 refine (t6 Bb hg hm boot_isinstance (nI ha (nI hb va rfl) hs1) (by decide) (by decide) hs1 rfl).weak fun σ H Q ⟨α, ρ, μ, S, R, P⟩ => ⟨α, ρ, μ, S, R, (aD.bind P).imp fun d μ1 H1 α1 X1 S1 P1 v rv => ?_⟩
 show Gw X.K [v, .ty T] H1 Q
 unfold jn at P1
 split at P1
 ·rename_i tn htn
  have ty := Ee S1 rv htn
  rw [hK]
  exact ⟨v, T, tn, _, rfl, ty, FE tn ty.mem T hT, P1.now S1 _ (bh.mpr rfl)⟩
 ·exact P1.elim
def ll : List D -> Option (List Bool)
 | [] => some []
 | .bl b :: r => (ll r).map (b :: ·)
 | _ :: _ => none
theorem pb : ∀ {ds : List D} {bs : List Bool}, ll ds = some bs -> ds = bs.map D.bl
 | [], bs, h => by cases h; rfl
 | .bl b :: r, bs, h => by
  unfold ll at h
  cases e : ll r with
  | none => rw [e] at h; cases h
  | some cs => rw [e] at h; cases h; rw [pb e]; rfl
 | .non :: r, bs, h => by cases h
 | .int _ :: r, bs, h => by cases h
 | .str _ :: r, bs, h => by cases h
 | .tup _ :: r, bs, h => by cases h
 | .frz _ :: r, bs, h => by cases h
 | .obj _ :: r, bs, h => by cases h
theorem yz (bs : List Bool) : ll (bs.map D.bl) = some bs := by
 induction bs with
 | nil => rfl
 | cons b r ih => simp only [KF, ll, ih]; rfl
theorem Reps.bools {K : W.Frag} {H : Hp} {α : List Addr} : ∀ {bs : List Bool} {vs : List V}, Reps K H α (bs.map D.bl) vs -> vs = bs.map V.bl
 | [], vs, h => by simp only [KE, Reps] at h; exact h
 | n :: ns, vs, h => by
  simp only [KF, Reps] at h
  obtain ⟨v, r, rfl, h1, h2⟩ := h
  rw [bh.mp h1, Reps.bools h2]; rfl
theorem vk {bs : List Bool} {us : List Value} (h : bb (bs.map V.bl) us) : us = bs.map Value.bool := by
 induction bs generalizing us with
 | nil => cases h; rfl
 | cons b r ih =>
  cases h with
  | cons h1 h2 => cases h1; rw [ih h2]; rfl
theorem yC {bs : List Bool} : (List.range bs.length).all (fun i => bs.getD i false) = bs.all id := by
 induction bs with
 | nil => rfl
 | cons b r ih =>
  rw [K2, Lm, Nf, Ng, Nf]
  congr 1
section
variable {X : Cx}
def Gy (K : W.Frag) : List V -> Hp -> VK -> Prop := fun xs H Q => ∃ (a : Addr) (bs : List Bool), xs = [.ref a] /\ fw K H a (bs.map V.bl) /\ Q (.bl (bs.all id)) H
theorem aT.fresh_it {pins : List (Addr × Obj)} {σ : St} {H : Hp} {s : Shared} (I : aT X pins σ H s) {o : Obj} {h' : Heap} {tk : Nat} (hk : ∀ b ob, b ∉ [s.heap.objs.size] -> (s.heap.push o).get? b = some ob -> h'.get? b = some ob) : aT X pins σ H { s with heap := h', toks := tk } :=
 I.kept fun b ob e => hk b ob (fun hm => by
  have : b = s.heap.objs.size := by simpa using hm
  subst this
  exact absurd (Jo e) (Jq _)) (JT _ e)
theorem yw (hc : X.calm = true) : cE X (.builtin "all") (Gy X.K) := by
 intro pins s σ H xs us Q I r h
 obtain ⟨a, bs, rfl, ha, q⟩ := h
 obtain ⟨u, rfl, ru⟩ := eC r
 cases ru
 obtain ⟨its, rv, pl, hz⟩ := I.list ha
 have hi : its = bs.map Value.bool := vk rv
 have hne : a ≠ s.heap.objs.size := by
  obtain ⟨o, n, e, _⟩ := pl
  exact Jr (Jo e)
 refine call_all_walk (Ml pl.isList ?_)
 refine ⟨s.heap.objs.size, [s.heap.objs.size, a], [s.heap.objs.size], _, _, _, fun i => bs.getD i false, rfl, Mn (A := X.A.in1) (show X.A.in1.handled = none from I.ok.hd hc) _ a hne its.toArray, ⟨⟨_, JU _ rfl, rfl, rfl⟩, pl.isList.at fun o e => JT _ e⟩, ?_, ?_⟩
 ·intro i v s' Q' E' hP hQ
  subst hi
  have hv : (bs.map Value.bool)[i]? = some v := by simpa using hP
  rw [Ke] at hv
  cases e : bs[i]? with
  | none => rw [e] at hv; cases hv
  | some b =>
   rw [e] at hv; cases hv
   have : bs.getD i false = b := by rw [Mt, e]; rfl
   dsimp only at hQ
   rw [this] at hQ
   exact JI hQ
 ·intro h' tk hk
  have e2 : its.toArray.size = bs.length := by subst hi; simp
  rw [e2, yC]
  exact ⟨.bl _, H, I.fresh_it hk, rfl, q⟩
end
def sU (ds : List D) (μ : aB) : ak D := match ds with
 | [.obj n] => match μ[n]? with
  | some (.lst xs) => match ll xs with
   | some bs => .ok (.bl (bs.all id)) μ
   | none => .bad
  | _ => .bad
 | _ => .bad
theorem Fq {p : Pa} : sO p sU (Gy p.K) := by
 intro ds vs H α μ Q S r P
 unfold sU at P
 split at P
 ·rename_i n
  split at P
  ·rename_i xs hx
   split at P
   ·rename_i bs hb
    obtain ⟨v, rfl, r1⟩ := r.one
    obtain ⟨a, us, rfl, a1, h1, rr⟩ := di S r1 hx
    rw [pb hb] at rr
    exact ⟨a, bs, rfl, by rw [<- rr.bools]; exact fw.of h1, P.now S _ (bh.mpr rfl)⟩
   ·exact P.elim
  ·exact P.elim
 ·exact P.elim
def tJ (ds : List D) (μ : aB) : ak D := match ds with
 | [.tup xs] => .ok (.int xs.length) μ
 | [.frz xs] => .ok (.int xs.length) μ
 | [.str x] => if x.length <= sizeLine then .ok (.int x.length) μ else .bad
 | [.obj n] => match μ[n]? with
  | some (.lst xs) => .ok (.int xs.length) μ
  | _ => .bad
 | _ => .bad
theorem wD {p : Pa} : sO p tJ (fun xs H Q => ∃ x n, xs = [x] /\ D5 p.K x H n /\ Q (.int n) H) := by
 intro ds vs H α μ Q S r P
 unfold tJ at P
 split at P
 ·rename_i xs
  obtain ⟨v, rfl, r1⟩ := r.one
  obtain ⟨a, us, rfl, h1, rr⟩ := aF.mp r1
  exact ⟨_, xs.length, rfl, .inr ⟨us, h1, rr.length.symm⟩, P.now S _ (aq.mpr rfl)⟩
 ·rename_i xs
  obtain ⟨v, rfl, r1⟩ := r.one
  obtain ⟨a, us, rfl, h1, rr⟩ := bp.mp r1
  exact ⟨_, xs.length, rfl, .inl ⟨us, h1.sq, rr.length.symm⟩, P.now S _ (aq.mpr rfl)⟩
 ·rename_i x
  obtain ⟨v, rfl, r1⟩ := r.one
  split at P
  ·rename_i hl
   exact ⟨v, x.length, rfl, by rw [bA.mp r1]; exact ⟨hl, rfl⟩, P.now S _ (aq.mpr rfl)⟩
  ·exact P.elim
 ·rename_i n
  split at P
  ·rename_i xs hx
   obtain ⟨v, rfl, r1⟩ := r.one
   obtain ⟨a, us, rfl, a1, h1, rr⟩ := di S r1 hx
   exact ⟨_, xs.length, rfl, .inl ⟨us, fw.of h1, rr.length.symm⟩, P.now S _ (aq.mpr rfl)⟩
  ·exact P.elim
 ·exact P.elim
def gM (ds : List D) (μ : aB) : ak D := match ds with
 | [.tup xs] => .ok (.tup xs) μ
 | [.frz xs] => .ok (.tup xs) μ
 | [.obj n] => match μ[n]? with
  | some (.lst xs) => .ok (.tup xs) μ
  | _ => .bad
 | _ => .bad
theorem AH {p : Pa} : sO p gM (fun xs H Q => ∃ q ys, xs = [.ref q] /\ ((fw p.K H q ys /\ ∀ l, H l = none -> Q (.ref l) (cM H l (.tup ys))) \/ (fW p.K H q ys /\ Q (.ref q) H))) := by
 intro ds vs H α μ Q S r P
 unfold gM at P
 split at P
 ·rename_i xs
  obtain ⟨v, rfl, r1⟩ := r.one
  obtain ⟨a, us, rfl, h1, rr⟩ := aF.mp r1
  exact ⟨a, us, rfl, .inr ⟨h1, P.now S _ r1⟩⟩
 ·rename_i xs
  obtain ⟨v, rfl, r1⟩ := r.one
  obtain ⟨a, us, rfl, h1, rr⟩ := bp.mp r1
  exact ⟨a, us, rfl, .inl ⟨h1.sq, fun q hq => P _ _ (bN hq) (S.tuple hq) _ (aF.mpr ⟨q, us, rfl, fW.of cw, rr.mono (bN hq)⟩)⟩⟩
 ·rename_i n
  split at P
  ·rename_i xs hx
   obtain ⟨v, rfl, r1⟩ := r.one
   obtain ⟨a, us, rfl, a1, h1, rr⟩ := di S r1 hx
   exact ⟨a, us, rfl, .inl ⟨fw.of h1, fun q hq => P _ _ (bN hq) (S.tuple hq) _ (aF.mpr ⟨q, us, rfl, fW.of cw, rr.mono (bN hq)⟩)⟩⟩
  ·exact P.elim
 ·exact P.elim
def tI (ds : List D) (μ : aB) : ak D := match ds with
 | [.tup xs] => .ok (.obj μ.length) (μ ++ [.lst xs])
 | [.frz xs] => .ok (.obj μ.length) (μ ++ [.lst xs])
 | [.obj n] => match μ[n]? with
  | some (.lst xs) => .ok (.obj μ.length) (μ ++ [.lst xs])
  | _ => .bad
 | _ => .bad
theorem CO {p : Pa} : sO p tI (fun xs H Q => ∃ q ys, xs = [.ref q] /\ (fw p.K H q ys \/ fW p.K H q ys) /\ ∀ l, H l = none -> Q (.ref l) (cM H l (.lst ys))) := by
 intro ds vs H α μ Q S r P
 unfold tI at P
 split at P
 ·rename_i xs
  obtain ⟨v, rfl, r1⟩ := r.one
  obtain ⟨a, us, rfl, h1, rr⟩ := aF.mp r1
  refine ⟨a, us, rfl, .inr h1, fun q hq => ?_⟩
  obtain ⟨x1, x2, x3⟩ := cU S hq rr
  exact P _ _ x1 x2 _ x3
 ·rename_i xs
  obtain ⟨v, rfl, r1⟩ := r.one
  obtain ⟨a, us, rfl, h1, rr⟩ := bp.mp r1
  refine ⟨a, us, rfl, .inl h1.sq, fun q hq => ?_⟩
  obtain ⟨x1, x2, x3⟩ := cU S hq rr
  exact P _ _ x1 x2 _ x3
 ·rename_i n
  split at P
  ·rename_i xs hx
   obtain ⟨v, rfl, r1⟩ := r.one
   obtain ⟨a, us, rfl, a1, h1, rr⟩ := di S r1 hx
   refine ⟨a, us, rfl, .inl (fw.of h1), fun q hq => ?_⟩
   obtain ⟨x1, x2, x3⟩ := cU S hq rr
   exact P _ _ x1 x2 _ x3
  ·exact P.elim
 ·exact P.elim
def m4 (ds : List D) (μ : aB) : ak D := match ds with
 | [.int i] => .ok (.int i) μ
 | [.bl k] => .ok (.int (if k then 1 else 0)) μ
 | _ => .bad
theorem Fp {p : Pa} : sO p m4 (fun xs H Q => (∃ i, xs = [.int i] /\ Q (.int i) H) \/ ∃ k, xs = [.bl k] /\ Q (.int (if k then 1 else 0)) H) := by
 intro ds vs H α μ Q S r P
 unfold m4 at P
 split at P
 ·rename_i i
  obtain ⟨v, rfl, r1⟩ := r.one
  exact .inl ⟨i, by rw [aq.mp r1], P.now S _ (aq.mpr rfl)⟩
 ·rename_i i
  obtain ⟨v, rfl, r1⟩ := r.one
  exact .inr ⟨i, by rw [bh.mp r1], P.now S _ (aq.mpr rfl)⟩
 ·exact P.elim
def zk (ds : List D) (μ : aB) : ak D := match ds with
 | [.int i, .int j] => .ok (.int (if j > i then j else i)) μ
 | _ => .bad
def zj (ds : List D) (μ : aB) : ak D := match ds with
 | [.int i, .int j] => .ok (.int (if j < i then j else i)) μ
 | _ => .bad
theorem CN {p : Pa} : sO p zk (fun xs H Q => ∃ i j, xs = [.int i, .int j] /\ Q (.int (if j > i then j else i)) H) := by
 intro ds vs H α μ Q S r P
 unfold zk at P
 split at P
 ·rename_i i j
  obtain ⟨v, u, rfl, r1, r2⟩ := r.two
  exact ⟨i, j, by rw [aq.mp r1, aq.mp r2], P.now S _ (aq.mpr rfl)⟩
 ·exact P.elim
theorem CM {p : Pa} : sO p zj (fun xs H Q => ∃ i j, xs = [.int i, .int j] /\ Q (.int (if j < i then j else i)) H) := by
 intro ds vs H α μ Q S r P
 unfold zj at P
 split at P
 ·rename_i i j
  obtain ⟨v, u, rfl, r1, r2⟩ := r.two
  exact ⟨i, j, by rw [aq.mp r1, aq.mp r2], P.now S _ (aq.mpr rfl)⟩
 ·exact P.elim
end L2
namespace L2
open PySem PySem.Spec PyProof.Rows RS
section
variable {prog : Program} {w : World} {A : Around} {E : Value -> Shared -> Prop} {s : Shared}
theorem uO {T : String} (hT : T = "list" \/ T = "tuple") {l : Addr} {vs : List Value} {Q : List Value -> Shared -> Prop} {o : Obj} {n : Nat} (ho : s.heap.get? l = some o) (hc : o.cls = .type T) (hd : o.data = .seq vs.toArray n)
  (h : Q vs { s with heap := (s.heap.push (seqObj "list" #[] 0)).update s.heap.objs.size (Obj.mapSeq (· ++ vs.toArray)) }) (hsz : vs.length <= sizeLine) :
  wpAny (model prog w) A (collect (.ref l)) Q E s := by
 unfold collect
 refine JM (Mm (Mc entry_proto_collect' ?_))
 show wpAny _ _ (do again (.builtin "list.__iadd__" ⟨[<- newList [], .ref l], []⟩)) _ _ s
 refine JM (MF (JQ ⟨Mi _ (by decide +kernel), Mc entry_list_iadd' ?_⟩))
 show wpAny _ _ (Builtin.List.listExtendWith (.ref s.heap.objs.size) (.ref l) (.ref s.heap.objs.size)) _ _ { s with heap := s.heap.push (seqObj "list" #[] 0) }
 unfold Builtin.List.listExtendWith
 have ho' : (s.heap.push (seqObj "list" #[] 0)).get? l = some o := JT _ ho
 refine JM (KB (T := T) ⟨o, ho', hc⟩ ?_)
 have h1 : (Value.type "list" == Value.type "list") = true := by rfl
 have h2 : (Value.type "tuple" == Value.type "tuple") = true := by rfl
 rw [Jl (by rcases hT with rfl | rfl <;> simp [h1, h2])]
 refine JM (listItems_at ho' hd ?_)
 refine JM (listItems_at (xs := #[]) (n := 0) (JU _ rfl) rfl ?_)
 rw [Jm (by simp)]
 refine JM (My (xs := #[]) (n := 0) (JU _ rfl) rfl ?_ (Lb _) (by show (#[] ++ vs.toArray).size <= sizeLine + 1; simp only [Array.size_append, J3, Lq]; omega))
 refine JQ ?_
 show wpAny (model prog w) A (do
   let o <- load s.heap.objs.size
   match o.data with
   | .seq xs _ => pure xs.toList
   | _ => unsupported "internal:collect") Q E { s with heap := (s.heap.push (seqObj "list" #[] 0)).update s.heap.objs.size (Obj.mapSeq (· ++ vs.toArray)) }
 refine JM (JR (Mz (JU _ rfl) _) ?_)
 show wpAny _ _ (pure ((#[] : Array Value) ++ vs.toArray).toList) Q E _
 rw [show ((#[] : Array Value) ++ vs.toArray).toList = vs by simp]
 exact JQ h
theorem sm {T : String} (hT : T = "list" \/ T = "tuple") {l : Addr} {vs : List Value} {ns : List Int} {Q : Value -> Shared -> Prop} {o : Obj} {n : Nat} (ho : s.heap.get? l = some o) (hc : o.cls = .type T) (hd : o.data = .seq vs.toArray n) (hI : IntsAre vs ns) (h64 : vs.length < 64)
  (h : ∀ (out : Array Value) (ns' : List Int), IntsAre out.toList ns' -> ns'.Perm ns -> ns'.Pairwise (· <= ·) -> Q (.ref (s.heap.objs.size + 1)) { s with heap := sortedAll s.heap vs out }) :
  wpAny (model prog w) A (call (.builtin "sorted") [.ref l]) Q E s := by
 have hsz0 : vs.length <= sizeLine := Ju (Jv h64) (by decide)
 refine MR kind_sorted plain_sorted entry_sorted (args_sorted1 _) ?_
 unfold Builtin.«sorted»
 refine JM (m := checkCount "sorted" 1 1 _) (JQ ?_)
 refine JM (uO hT ho hc hd ?_ hsz0)
 refine JM (MF ?_ hsz0)
 have hsz : ((s.heap.push (seqObj "list" #[] 0)).update s.heap.objs.size (Obj.mapSeq (· ++ vs.toArray))).objs.size = s.heap.objs.size + 1 := by
  rw [MJ, MH]
 have hoL : (((s.heap.push (seqObj "list" #[] 0)).update s.heap.objs.size (Obj.mapSeq (· ++ vs.toArray))).push (seqObj "list" vs.toArray 0)).get? (s.heap.objs.size + 1) = some (seqObj "list" vs.toArray 0) := by
  rw [<- hsz]; exact JU _ rfl
 show wpAny _ _ _ _ _ { s with heap := ((s.heap.push (seqObj "list" #[] 0)).update s.heap.objs.size (Obj.mapSeq (· ++ vs.toArray))).push (seqObj "list" vs.toArray 0) }
 rw [hsz]
 refine JM (JN (Kx slot_list_sort ⟨_, hoL, rfl⟩ MU (list_sort_tree hoL hI h64 fun out ns' a1 a2 a3 => ⟨_, rfl, ?_⟩) (args_list_sort _)))
 exact JQ ⟨_, rfl, h out ns' a1 a2 a3⟩
end
theorem pV {h : Heap} {vs : List Value} {out : Array Value} {b : Addr} {u : Obj} (e : h.get? b = some u) : (sortedAll h vs out).get? b = some u := by
 have hb := Jo e
 have n1 : b ≠ h.objs.size := Jr hb
 have n2 : b ≠ h.objs.size + 1 := Jr (K4 hb)
 unfold sortedAll sortedHeap
 rw [MK _ _ _ _ n2]
 refine JT _ (JT _ ?_)
 rw [MK _ _ _ _ n2]
 refine JT _ ?_
 rw [MK _ _ _ _ n1]
 exact JT _ e
theorem pW {h : Heap} {vs : List Value} {out : Array Value} : ∃ n, (sortedAll h vs out).get? (h.objs.size + 1) = some (seqObj "list" out n) := by
 unfold sortedAll sortedHeap
 have hsz : ((h.push (seqObj "list" #[] 0)).update h.objs.size (Obj.mapSeq (· ++ vs.toArray))).objs.size = h.objs.size + 1 := by
  rw [MJ, MH]
 have hoL : (((h.push (seqObj "list" #[] 0)).update h.objs.size (Obj.mapSeq (· ++ vs.toArray))).push (seqObj "list" vs.toArray 0)).get? (h.objs.size + 1) = some (seqObj "list" vs.toArray 0) := by
  rw [<- hsz]; exact JU _ rfl
 have g1 := Mz hoL (fun _ => #[])
 have g2 := JT (seqObj "list" #[] 0) (JT (seqObj "tuple" vs.toArray 0) g1)
 exact ⟨_, Mz g2 (fun _ => out)⟩
theorem lW {us : List Value} {ns : List Int} (h : IntsAre us ns) : bb (ns.map V.int) us := by
 induction h with
 | nil => exact .nil
 | cons n t _ ih => exact .cons ⟨t, rfl⟩ ih
section
variable {X : Cx}
def zz (K : W.Frag) : List V -> Hp -> VK -> Prop := fun xs H Q => ∃ (a : Addr) (ns : List Int), xs = [.ref a] /\ (fw K H a (ns.map V.int) \/ fW K H a (ns.map V.int)) /\ ns.length < 64 /\
 ∀ ns' : List Int, ns'.Perm ns -> ns'.Pairwise (· <= ·) -> ∀ l, H l = none -> Q (.ref l) (cM H l (.lst (ns'.map V.int)))
theorem vV : cE X (.builtin "sorted") (zz X.K) := by
 intro pins s σ H xs us Q I r h
 obtain ⟨a, ns, rfl, ha, hl, q⟩ := h
 obtain ⟨u, rfl, ru⟩ := eC r
 cases ru
 have core : ∀ (T : String), T = "list" \/ T = "tuple" -> ∀ (its : List Value) (o : Obj) (n : Nat), s.heap.get? a = some o -> o.cls = .type T -> o.data = .seq its.toArray n -> bb (ns.map V.int) its -> wpAny (model X.prog X.w) X.A (call (.builtin "sorted") [.ref a]) (EP X pins σ Q) X.xe s := by
  intro T hT its o n e1 e2 e3 rv
  have hI : IntsAre its ns := eX rv
  refine sm hT e1 e2 e3 hI (by rw [hI.length]; exact hl) fun out ns' h1 h2 h3 => ?_
  refine ⟨.ref (s.heap.objs.size + 1), cM H (s.heap.objs.size + 1) (.lst (ns'.map V.int)), I.laid (t' := s.toks) (fun b ob e => pV e) (KO _) ?_, rfl, q ns' h2 h3 _ (I.hok.fresh (KO _))⟩
  obtain ⟨m, e⟩ := pW (h := s.heap) (vs := its) (out := out)
  refine ⟨?_, out.toList, m, lW h1, by simpa using e⟩
  rw [Kh, h2.length_eq]
  exact Ju (Jv hl) (by decide)
 rcases ha with ha | ha
 ·obtain ⟨its, rv, ⟨o, n, e1, e2, _, e3⟩, hz⟩ := I.list ha
  exact core "list" (.inl rfl) its o n e1 e2 e3 rv
 ·obtain ⟨its, rv, ⟨o, e1, e2, n, e3⟩, hz⟩ := I.tuple ha
  exact core "tuple" (.inr rfl) its o n e1 e2 e3 rv
theorem yX {pins : List (Addr × Obj)} {σ : St} {H : Hp} {s : Shared} {r : Addr} {k : List Int} (I : aT X pins σ H s) (h : fW X.K H r (k.map V.int)) : Tk X.prog X.w s.heap k r := by
 obtain ⟨its, rv, ⟨o, e1, e2, n, e3⟩, _⟩ := I.tuple h
 refine ⟨o, its.toArray, n, e1, e2, e3, ?_⟩
 have core : ∀ (k : List Int) (its : List Value), bb (k.map V.int) its -> PySem.ItemsAre (intKind X.prog X.w) k its := by
  intro k
  induction k with
  | nil => intro its h; cases h; exact .nil
  | cons i r ih =>
   intro its h
   cases h with
   | cons h1 h2 =>
    obtain ⟨t, rfl⟩ := h1
    exact .cons (by simp [intKind, Value.isInt]) (ih _ h2)
 simpa using core k its rv
def jY (qs : List KP) : List V := qs.map fun p => V.ref p.2
theorem mJ : ∀ {qs : List KP} {its : List Value}, bb (jY qs) its -> its = qs.map fun p => Value.ref p.2
 | [], its, h => by cases h; rfl
 | q :: qs, its, h => by
  cases h with
  | cons h1 h2 => cases h1; rw [mJ h2]; rfl
theorem m8 : ∀ (qs : List KP), bb (jY qs) (aU qs)
 | [] => .nil
 | q :: qs => .cons rfl (m8 qs)
def y8 (K : W.Frag) (w : World) : List V -> Hp -> VK -> Prop := fun xs H Q => ∃ (a : Addr) (qs : List KP), xs = [.ref a] /\ (fw K H a (jY qs) \/ fW K H a (jY qs)) /\ (∀ p ∈ qs, p.1 ∈ prs /\ fW K H p.2 (p.1.map V.int)) /\
 ∀ l, H l = none -> Q (.ref l) (cM H l (.ext fun h => eD w h l (eW qs)))
theorem yk (hc : X.calm = true) (hu : X.A.units + 64 < cLine) : cE X (.type "set") (y8 X.K X.w) := by
 intro pins s σ H xs us Q I r h
 obtain ⟨a, qs, rfl, ha, hq, q⟩ := h
 obtain ⟨u, rfl, ru⟩ := eC r
 cases ru
 have fin : ∀ (h' : Heap) (tk : Nat), eD X.w h' s.heap.objs.size (eW qs) -> (∀ b o, b < s.heap.objs.size -> s.heap.get? b = some o -> h'.get? b = some o) -> EP X pins σ Q (.ref s.heap.objs.size) { s with heap := h', toks := tk } := by
  intro h' tk hS hk
  refine ⟨.ref s.heap.objs.size, cM H s.heap.objs.size (.ext fun h => eD X.w h s.heap.objs.size (eW qs)), I.laid (t' := tk) (fun b ob e => hk b ob (Jo e) e) (JV _) ?_, rfl, q _ (I.hok.fresh (JV _))⟩
  refine ⟨hS, ?_, fun h1 h2 g k => g.keeps k⟩
  obtain ⟨o, es, ep, t, Z, S0, _⟩ := hS
  exact ⟨o, S0.ho⟩
 rcases ha with ha | ha
 ·obtain ⟨its, rv, pl, hz⟩ := I.list ha
  exact uD (I.ok.hd hc) pl.isList (by simpa using mJ rv) (fun p hp => (hq p hp).1) (fun p hp => yX I (hq p hp).2) (by omega) fin
 ·obtain ⟨its, rv, pl, hz⟩ := I.tuple ha
  exact su (I.ok.hd hc) pl (by simpa using mJ rv) (fun p hp => (hq p hp).1) (fun p hp => yX I (hq p hp).2) (by omega) fin
def zy (K : W.Frag) (w : World) : List V -> Hp -> VK -> Prop := fun xs H Q => ∃ (a : Addr) (ps : List KP), xs = [.ref a] /\ H a = some (.ext fun h => eD w h a ps) /\ (∀ p ∈ ps, fW K H p.2 (p.1.map V.int)) /\
 ∀ out : List KP, out.Perm ps -> ip out -> ∀ l, H l = none -> Q (.ref l) (cM H l (.lst (jY out)))
theorem vU (hc : X.calm = true) : cE X (.builtin "sorted") (zy X.K X.w) := by
 intro pins s σ H xs us Q I r h
 obtain ⟨a, ps, rfl, ha, hT, q⟩ := h
 obtain ⟨u, rfl, ru⟩ := eC r
 cases ru
 obtain ⟨hS, _⟩ := (show fk X.prog X.w H s.heap a (.ext fun h => eD X.w h a ps) from I.hok a _ ha)
 refine vt (I.ok.hd hc) hS (fun p hp => yX I (hT p hp)) fun out hp hr h' D hD hk hn => ?_
 refine ⟨.ref D, cM H D (.lst (jY out)), I.laid (t' := s.toks) (fun b ob e => hk b ob e) hD ?_, rfl, q out hp hr _ (I.hok.fresh hD)⟩
 obtain ⟨n, e⟩ := hn
 refine ⟨?_, aU out, n, m8 out, e⟩
 have hl : out.length <= 15 := by
  rw [hp.length_eq]
  obtain ⟨o, es, ep, t, Z, S0, hk, hn⟩ := hS
  exact kq hk hn
 unfold jY
 rw [Kh]
 exact Ju hl (by decide)
end
end L2
namespace L2
open PySem PySem.Spec PyProof.Rows RS
def gZ (qs : List KI) : List KI := qs.foldl (fun ps p => sX ps p.1 p.2) []
theorem sM (qs : List KI) (p : KI) : gZ (qs ++ [p]) = sX (gZ qs) p.1 p.2 := by unfold gZ; rw [Mb]; rfl
def cS (ns : List Int) : List Int := ns.foldl (fun acc k => if k ∈ acc then acc else acc ++ [k]) []
theorem l7 : ∀ (qs ps : List KI), (qs.foldl (fun ps p => sX ps p.1 p.2) ps).map (·.1) = (qs.map (·.1)).foldl (fun acc k => if k ∈ acc then acc else acc ++ [k]) (ps.map (·.1))
 | [], ps => rfl
 | q :: qs, ps => by
  rw [KR, l7 qs, KF, KR]
  congr 1
  unfold sX
  split
  ·rfl
  ·rw [LG]; rfl
theorem uR (qs : List KI) : (gZ qs).map (·.1) = cS (qs.map (·.1)) := l7 qs []
theorem lY {w : World} {h : Heap} {a : Addr} (e : h.get? a = some { cls := .type "set", dict := none, data := .set #[] 0 (.fresh 0 0 (lN w)) }) : cT w h a [] :=
 ⟨_, _, _, _, [], ⟨e, ⟨rfl, rfl, rfl⟩, rfl, ⟨rfl, rfl, List.Pairwise.nil, fun z hz => by simp at hz, rfl, fun z hz => by simp at hz⟩, rfl, rfl, .inl ⟨rfl, by decide⟩, List.Perm.nil⟩, fun p hp => by simp at hp, LO⟩
def mv (p : KI) : Value := Value.int p.1 p.2
section
variable {prog : Program} {w : World} {A : Around} {E : Value -> Shared -> Prop} {s : Shared}
theorem rj {qs : List KI} {S : Addr} {u : Nat} (hk : ∀ p ∈ qs, p.1 ∈ ins) : yV prog w u S (qs.map mv) (fun i h => cT w h S (gZ (qs.take i))) := by
 refine ⟨fun i h h' hk' j1 => j1.keeps fun o e => hk' S o (JV _) e, fun A i v s E Q hA hv j1 hQ => ?_⟩
 rw [Ke] at hv
 cases e : qs[i]? with
 | none => rw [e] at hv; cases hv
 | some p =>
  rw [e] at hv
  cases hv
  have hpm : p ∈ qs := Kf e
  unfold setAdd mv
  refine JN ?_
  refine JM (wpAny_pyHash_int ?_)
  refine Dm (s := { s with toks := s.toks + 1 }) j1 (hk p hpm) fun b h' hsb hS2 => ?_
  have etk : qs.take (i + 1) = qs.take i ++ [p] := by rw [Mo, e]; rfl
  refine hQ b h' _ (Mp _ _) hsb (by rw [etk, sM]; exact hS2)
theorem qN : ∀ (qs : List KI), IntsAre (qs.map mv) (qs.map (·.1))
 | [] => .nil
 | p :: qs => .cons p.1 p.2 (qN qs)
theorem uj {vs : List Value} {ns : List Int} (h : IntsAre vs ns) : ∃ qs : List KI, vs = qs.map mv /\ qs.map (·.1) = ns := by
 induction h with
 | nil => exact ⟨[], rfl, rfl⟩
 | cons n t _ ih =>
  obtain ⟨qs, e1, e2⟩ := ih
  exact ⟨(n, t) :: qs, by rw [e1]; rfl, by rw [<- e2]; rfl⟩
theorem uC {a : Addr} {ps : List KI} {Q : Value -> Shared -> Prop} (hh : A.handled = none) (S : cT w s.heap a ps)
  (h : ∀ (out : List Value) (ns' : List Int), IntsAre out ns' -> ns'.Perm (ps.map (·.1)) -> ns'.Pairwise (· <= ·) -> ∀ h' D, s.heap.objs.size <= D -> (∀ b u, s.heap.get? b = some u -> h'.get? b = some u) -> (∃ n, h'.get? D = some (seqObj "list" out.toArray n)) -> Q (.ref D) { s with heap := h' }) :
  wpAny (model prog w) A (call (.builtin "sorted") [.ref a]) Q E s := by
 obtain ⟨o, es, ep, t, Z, S, hk, hn⟩ := S
 have h6 := ka hk hn
 refine MR kind_sorted plain_sorted entry_sorted (args_sorted1 _) ?_
 unfold Builtin.«sorted»
 refine JM (m := checkCount "sorted" 1 1 _) (JQ ?_)
 refine JM (ni (by simpa using hh) S (by rw [S.len, Kh]; omega) fun qs hqs h1 k1 hsz => ?_)
 obtain ⟨rs, q1, q2⟩ := l5 hqs ps rfl
 have q3 : qs.map (·.2) = rs.map mv := by rw [q2, Ln]; rfl
 rw [q3]
 have hvl : (rs.map mv).length <= 6 := by rw [Kh, q1.length_eq]; exact h6
 refine JM (MF ?_ (Ju hvl (by decide)))
 have hoL : (h1.push (seqObj "list" (rs.map mv).toArray 0)).get? h1.objs.size = some (seqObj "list" (rs.map mv).toArray 0) := JU _ rfl
 have hnn : ∀ b u, h1.get? b = some u -> b ≠ h1.objs.size := fun b u q => Jr (Jo q)
 refine JM (JN (Kx slot_list_sort (s := { s with heap := h1.push (seqObj "list" (rs.map mv).toArray 0) }) ⟨_, hoL, rfl⟩ MU ?body (args_list_sort _)))
 case body =>
  refine list_sort_tree (s := { s with heap := h1.push (seqObj "list" (rs.map mv).toArray 0) }) hoL (qN rs) (by omega) fun out ns' a1 a2 a3 => ⟨_, rfl, ?_⟩
  refine JQ ⟨_, rfl, h out.toList ns' a1 (a2.trans (q1.map _)) a3 _ h1.objs.size hsz (fun b u q => ?_) ?_⟩
  ·have hb := hnn b u (k1 b u q)
   unfold sortedHeap
   rw [MK _ _ _ _ hb]
   refine JT _ (JT _ ?_)
   rw [MK _ _ _ _ hb]
   exact JT _ (k1 b u q)
  ·unfold sortedHeap
   have g1 := Mz hoL (fun _ => #[])
   have g2 := JT (seqObj "list" #[] 0) (JT (seqObj "tuple" (rs.map mv).toArray 0) g1)
   exact ⟨_, Mz g2 (fun _ => out)⟩
end
section
variable {X : Cx}
def y9 (K : W.Frag) (w : World) : List V -> Hp -> VK -> Prop := fun xs H Q => ∃ (a : Addr) (ns : List Int), xs = [.ref a] /\ (fw K H a (ns.map V.int) \/ fW K H a (ns.map V.int)) /\ (∀ n ∈ ns, n ∈ ins) /\
 ∀ l, H l = none -> ∀ ps : List KI, ps.map (·.1) = cS ns -> (∀ p ∈ ps, p.1 ∈ ins) -> (ps.map (·.1)).Nodup -> Q (.ref l) (cM H l (.ext fun h => cT w h l ps))
theorem ym (hc : X.calm = true) (hu : X.A.units + 64 < cLine) : cE X (.type "set") (y9 X.K X.w) := by
 intro pins s σ H xs us Q I r h
 obtain ⟨a, ns, rfl, ha, hq, q⟩ := h
 obtain ⟨u, rfl, ru⟩ := eC r
 cases ru
 have fin : ∀ (qs : List KI), qs.map (·.1) = ns -> ∀ (h' : Heap) (tk : Nat), cT X.w h' s.heap.objs.size (gZ qs) -> (∀ b o, b < s.heap.objs.size -> s.heap.get? b = some o -> h'.get? b = some o) -> EP X pins σ Q (.ref s.heap.objs.size) { s with heap := h', toks := tk } := by
  intro qs eq h' tk hS hk
  obtain ⟨o, es, ep, t, Z, S0, k1, k2⟩ := id hS
  refine ⟨.ref s.heap.objs.size, cM H s.heap.objs.size (.ext fun h => cT X.w h s.heap.objs.size (gZ qs)), I.laid (t' := tk) (fun b ob e => hk b ob (Jo e) e) (JV _) ?_, rfl, q _ (I.hok.fresh (JV _)) _ (by rw [uR, eq]) k1 k2⟩
  exact ⟨hS, ⟨o, S0.ho⟩, fun h1 h2 g k => g.keeps k⟩
 rcases ha with ha | ha
 ·obtain ⟨its, rv, pl, hz⟩ := I.list ha
  obtain ⟨qs, e1, e2⟩ := uj (eX rv)
  subst e1
  have hsz : (qs.map mv).toArray.size = qs.length := by rw [J3, Kh]
  refine lX (I.ok.hd hc) pl.isList (J := fun i h => cT X.w h s.heap.objs.size (gZ (qs.take i))) ?_ (fun h' k e => lY e) fun h' tk j1 => fin qs e2 h' tk ?_
  ·exact rj fun p hp => hq _ (by rw [<- e2]; exact LC hp)
  ·rw [hsz, Mq] at j1; exact j1
 ·obtain ⟨its, rv, pl, hz⟩ := I.tuple ha
  obtain ⟨qs, e1, e2⟩ := uj (eX rv)
  subst e1
  have hsz : (qs.map mv).toArray.size = qs.length := by rw [J3, Kh]
  refine kT (I.ok.hd hc) pl (J := fun i h => cT X.w h s.heap.objs.size (gZ (qs.take i))) ?_ (fun h' k e => lY e) fun h' tk j1 => fin qs e2 h' tk ?_
  ·exact rj fun p hp => hq _ (by rw [<- e2]; exact LC hp)
  ·rw [hsz, Mq] at j1; exact j1
def zx (w : World) : List V -> Hp -> VK -> Prop := fun xs H Q => ∃ (a : Addr) (ps : List KI), xs = [.ref a] /\ H a = some (.ext fun h => cT w h a ps) /\
 ∀ ns' : List Int, ns'.Perm (ps.map (·.1)) -> ns'.Pairwise (· <= ·) -> ∀ l, H l = none -> Q (.ref l) (cM H l (.lst (ns'.map V.int)))
theorem vT (hc : X.calm = true) : cE X (.builtin "sorted") (zx X.w) := by
 intro pins s σ H xs us Q I r h
 obtain ⟨a, ps, rfl, ha, q⟩ := h
 obtain ⟨u, rfl, ru⟩ := eC r
 cases ru
 obtain ⟨hS, _⟩ := (show fk X.prog X.w H s.heap a (.ext fun h => cT X.w h a ps) from I.hok a _ ha)
 obtain ⟨o, es, ep, t, Z, S0, k1, k2⟩ := id hS
 have h6 := ka k1 k2
 refine uC (I.ok.hd hc) hS fun out ns' a1 a2 a3 h' D hD hk hn => ?_
 refine ⟨.ref D, cM H D (.lst (ns'.map V.int)), I.laid (t' := s.toks) (fun b ob e => hk b ob e) hD ?_, rfl, q ns' a2 a3 _ (I.hok.fresh hD)⟩
 obtain ⟨n, e⟩ := hn
 refine ⟨?_, out, n, lW a1, e⟩
 rw [Kh, a2.length_eq, Kh]
 exact Ju h6 (by decide)
def Dz (w : World) : List V -> Hp -> VK -> Prop := fun xs H Q => ∃ (a : Addr) (ps : List KI), xs = [.ref a] /\ H a = some (.ext fun h => cT w h a ps) /\ Q (.int ps.length) H
theorem yt : cE X (.builtin "len") (Dz X.w) := by
 intro pins s σ H xs us Q I r h
 obtain ⟨a, ps, rfl, ha, q⟩ := h
 obtain ⟨u, rfl, ru⟩ := eC r
 cases ru
 obtain ⟨hS, _⟩ := (show fk X.prog X.w H s.heap a (.ext fun h => cT X.w h a ps) from I.hok a _ ha)
 obtain ⟨o, es, ep, t, Z, S0, k1, k2⟩ := id hS
 have h6 := ka k1 k2
 have hsz : es.size = ps.length := by rw [S0.tab.size.2, S0.len, Kh]
 refine PySem.call_len_set S0.ho S0.ex S0.hd S0.fits (by rw [hsz]; omega) ⟨.int ps.length, H, ?_, ⟨_, by rw [hsz]⟩, q⟩
 exact I.tok _
def DA (w : World) : List V -> Hp -> VK -> Prop := fun xs H Q => ∃ (a : Addr) (ps : List KP), xs = [.ref a] /\ H a = some (.ext fun h => eD w h a ps) /\ Q (.int ps.length) H
theorem yu : cE X (.builtin "len") (DA X.w) := by
 intro pins s σ H xs us Q I r h
 obtain ⟨a, ps, rfl, ha, q⟩ := h
 obtain ⟨u, rfl, ru⟩ := eC r
 cases ru
 obtain ⟨hS, _⟩ := (show fk X.prog X.w H s.heap a (.ext fun h => eD X.w h a ps) from I.hok a _ ha)
 obtain ⟨o, es, ep, t, Z, S0, k1, k2⟩ := id hS
 have h6 := kq k1 k2
 have hsz : es.size = ps.length := by rw [S0.tab.size.2, S0.len, Kh]
 refine PySem.call_len_set S0.ho S0.ex S0.hd S0.fits (by rw [hsz]; omega) ⟨.int ps.length, H, ?_, ⟨_, by rw [hsz]⟩, q⟩
 exact I.tok _
end
end L2
namespace L2
open PySem PySem.Spec PyProof.Rows RS
def av (k : List Int) : D := .tup (k.map D.int)
def xk : D -> Option (List Int)
 | .tup [.int a, .int b] => if 0 <= a /\ a < b /\ b < 6 then some [a, b] else none
 | _ => none
def kQ : List D -> Option (List (List Int))
 | [] => some []
 | d :: r => match xk d, kQ r with
  | some k, some ks => some (k :: ks)
  | _, _ => none
theorem C4 {d : D} {k : List Int} (h : xk d = some k) : d = av k /\ k ∈ prs := by
 unfold xk at h
 split at h
 ·split at h
  ·rename_i hc
   cases h
   exact ⟨rfl, wB hc.1 hc.2.1 hc.2.2⟩
  ·cases h
 ·cases h
theorem x6 {a b : Int} (h : 0 <= a /\ a < b /\ b < 6) : xk (.tup [.int a, .int b]) = some [a, b] := by
 simp only [xk, Jl h]
theorem ug : ∀ {ds : List D} {ks : List (List Int)}, kQ ds = some ks -> ds = ks.map av /\ ∀ k ∈ ks, k ∈ prs
 | [], ks, h => by cases h; exact ⟨rfl, fun k hk => by simp at hk⟩
 | d :: r, ks, h => by
  unfold kQ at h
  split at h
  ·rename_i k ks' h1 h2
   cases h
   obtain ⟨e1, e2⟩ := C4 h1
   obtain ⟨f1, f2⟩ := ug h2
   refine ⟨by rw [e1, f1]; rfl, fun k' hk => ?_⟩
   rcases Jz.mp hk with z | z
   ·rw [z]; exact e2
   ·exact f2 k' z
  ·cases h
theorem oH : ∀ {ks : List (List Int)}, (∀ k ∈ ks, k ∈ prs) -> kQ (ks.map av) = some ks
 | [], _ => rfl
 | k :: ks, h => by
  obtain ⟨a, b, rfl, h1, h2, h3⟩ := ia (h k Jx)
  simp only [KF, kQ, oH fun k' hk => h k' (Jy _ hk)]
  have : xk (av [a, b]) = some [a, b] := x6 ⟨h1, h2, h3⟩
  rw [this]
def yT (ks : List (List Int)) (k : List Int) : List (List Int) := if k ∈ ks then ks else ks ++ [k]
def eV (ks : List (List Int)) : List (List Int) := ks.foldl yT []
def jM (ks : List (List Int)) : List (List Int) := prs.filter fun k => decide (k ∈ ks)
theorem ph : ∀ (qs ps : List KP), (qs.foldl (fun ps p => lG ps p.1 p.2) ps).map (·.1) = (qs.map (·.1)).foldl yT (ps.map (·.1))
 | [], ps => rfl
 | q :: qs, ps => by
  rw [KR, KF, KR, ph qs]
  congr 1
  unfold lG yT
  split <;> simp
theorem yi (qs : List KP) : (eW qs).map (·.1) = eV (qs.map (·.1)) := ph qs []
theorem yg {ks : List (List Int)} {k : List Int} : k ∈ eV ks ↔ k ∈ ks := by
 have core : ∀ (ks acc : List (List Int)), k ∈ ks.foldl yT acc ↔ k ∈ acc \/ k ∈ ks := by
  intro ks
  induction ks with
  | nil => intro acc; simp
  | cons x r ih =>
   intro acc
   rw [KR, ih]
   unfold yT
   split
   ·rename_i hx
    constructor
    ·rintro (h | h)
     ·exact .inl h
     ·exact .inr (Jy _ h)
    ·rintro (h | h)
     ·exact .inl h
     ·rcases Jz.mp h with z | z
      ·exact .inl (by rw [z]; exact hx)
      ·exact .inr z
   ·simp [or_assoc]
 unfold eV
 rw [core]
 simp
theorem oS : prs.Pairwise fun a b => qj a < qj b := by decide +kernel
theorem A5 {l m : List (List Int)} (hl : l.Pairwise fun a b => qj a < qj b) (hm : m.Pairwise fun a b => qj a < qj b) (h : ∀ k, k ∈ l ↔ k ∈ m) : l = m := by
 have nl : l.Nodup := hl.imp fun h e => by subst e; omega
 have nm : m.Nodup := hm.imp fun h e => by subst e; omega
 have hp : l.Perm m := (LS nl nm).mpr h
 refine hp.eq_of_pairwise (le := fun a b => qj a < qj b) (fun a b _ _ h1 h2 => by omega) hl hm
theorem Ab {out : List KP} {ps : List KP} (hk : ∀ p ∈ ps, p.1 ∈ prs) (hp : out.Perm ps) (hr : ip out) : out.map (·.1) = jM (ps.map (·.1)) := by
 refine A5 ?_ (oS.filter _) fun k => ?_
 ·unfold ip at hr
  rw [Mx]
  exact hr
 ·have h1 : k ∈ out.map (·.1) ↔ k ∈ ps.map (·.1) := (hp.map _).mem_iff
  rw [h1]
  unfold jM
  rw [Js, Nb]
  constructor
  ·intro h
   refine ⟨?_, h⟩
   obtain ⟨p, hp', rfl⟩ := Ly.mp h
   exact hk p hp'
  ·exact fun h => h.2
theorem nc (ks : List (List Int)) : jM (eV ks) = jM ks := by
 unfold jM
 apply List.filter_congr
 intro k _
 simp only [yg]
theorem Reps.keys {K : W.Frag} {H : Hp} {α : List Addr} : ∀ {ks : List (List Int)} {vs : List V}, Reps K H α (ks.map av) vs -> ∃ qs : List KP, qs.map (·.1) = ks /\ vs = jY qs /\ ∀ p ∈ qs, fW K H p.2 (p.1.map V.int)
 | [], vs, h => by simp only [KE, Reps] at h; exact ⟨[], rfl, h, fun p hp => by simp at hp⟩
 | k :: ks, vs, h => by
  simp only [KF, Reps] at h
  obtain ⟨v, r, rfl, h1, h2⟩ := h
  obtain ⟨a, us, rfl, h3, h4⟩ := aF.mp h1
  obtain ⟨qs, e1, e2, e3⟩ := Reps.keys h2
  refine ⟨(k, a) :: qs, by rw [KF, e1], by rw [e2]; rfl, fun p hp => ?_⟩
  rcases Jz.mp hp with z | z
  ·subst z
   rw [<- h4.ints]; exact h3
  ·exact e3 p z
theorem nq {K : W.Frag} {H : Hp} {α : List Addr} : ∀ {qs : List KP}, (∀ p ∈ qs, fW K H p.2 (p.1.map V.int)) -> Reps K H α ((qs.map (·.1)).map av) (jY qs)
 | [], _ => Reps.nil
 | q :: qs, h => by
  refine Reps.cons (aF.mpr ⟨q.2, _, rfl, h q Jx, iP _⟩) (nq fun p hp => h p (Jy _ hp))
def i6 : List D -> Option (List Int)
 | [] => some []
 | .int i :: r => (i6 r).map (i :: ·)
 | _ :: _ => none
theorem gf : ∀ {ds : List D} {ns : List Int}, i6 ds = some ns -> ds = ns.map D.int
 | [], bs, h => by cases h; rfl
 | .int b :: r, bs, h => by
  unfold i6 at h
  cases e : i6 r with
  | none => rw [e] at h; cases h
  | some cs => rw [e] at h; cases h; rw [gf e]; rfl
 | .non :: r, bs, h => by cases h
 | .bl _ :: r, bs, h => by cases h
 | .str _ :: r, bs, h => by cases h
 | .tup _ :: r, bs, h => by cases h
 | .frz _ :: r, bs, h => by cases h
 | .obj _ :: r, bs, h => by cases h
theorem vL {ns : List Int} (h : ∀ n ∈ ns, n ∈ ins) : (cS ns).length <= 6 := by
 have core : ∀ (l acc : List Int), (∀ n ∈ l, n ∈ ins) -> (∀ n ∈ acc, n ∈ ins) -> acc.Nodup -> (l.foldl (fun acc k => if k ∈ acc then acc else acc ++ [k]) acc).length <= 6 := by
  intro l
  induction l with
  | nil =>
   intro acc _ h2 h3
   have := i8 h3 (l2 := ins) h2
   exact this
  | cons x l ih =>
   intro acc h1 h2 h3
   rw [KR]
   have hx := h1 x Jx
   split
   ·exact ih acc (fun n hn => h1 n (Jy _ hn)) h2 h3
   ·rename_i hxa
    refine ih (acc ++ [x]) (fun n hn => h1 n (Jy _ hn)) (fun n hn => ?_) ?_
    ·rcases JB.mp hn with z | z
     ·exact h2 n z
     ·rw [Lc.mp z]; exact hx
    ·refine L4.mpr ⟨h3, by simp, fun u hu v hv e => ?_⟩
     rw [Lc.mp hv] at e
     exact hxa (e ▸ hu)
 exact core ns [] h (fun n hn => by simp at hn) LO
def yQ (xs : List D) : Option (List Int) := match i6 xs with
 | some ns => if ns.all (fun n => decide (0 <= n /\ n < 6)) = true then some ns else none
 | none => none
theorem C7 {xs : List D} {ns : List Int} (h : yQ xs = some ns) : xs = ns.map D.int /\ ∀ n ∈ ns, n ∈ ins := by
 unfold yQ at h
 split at h
 ·rename_i ms hm
  split at h
  ·rename_i ha
   cases h
   refine ⟨gf hm, fun n hn => C6.mpr ?_⟩
   simpa using LV.mp ha n hn
  ·cases h
 ·cases h
def m3 (xs : List D) (μ : aB) : ak D := match kQ xs with
 | some ks => .ok (.obj μ.length) (μ ++ [.set (eV ks)])
 | none => match yQ xs with
  | some ns => .ok (.obj μ.length) (μ ++ [.iset (cS ns)])
  | none => .bad
def lb (ds : List D) (μ : aB) : ak D := match ds with
 | [.tup xs] => m3 xs μ
 | [.obj n] => match μ[n]? with
  | some (.lst xs) => m3 xs μ
  | _ => .bad
 | _ => .bad
section
variable {p : Pa}
theorem CS {H : Hp} {α : List Addr} {μ : aB} {ks : List (List Int)} {vs : List V} {Q : VK} (S : p.S H α μ) (hk : ∀ k ∈ ks, k ∈ prs) (r : p.Rs H α (ks.map av) vs) (P : aD p H α (.ok (.obj μ.length) (μ ++ [.set (eV ks)])) (RV p Q)) :
  ∃ qs : List KP, vs = jY qs /\ (∀ q ∈ qs, q.1 ∈ prs /\ fW p.K H q.2 (q.1.map V.int)) /\ ∀ l, H l = none -> Q (.ref l) (cM H l (.ext fun h => eD p.w h l (eW qs))) := by
 obtain ⟨qs, e1, e2, e3⟩ := r.keys
 refine ⟨qs, e2, fun q hq => ⟨hk _ (by rw [<- e1]; exact LC hq), e3 q hq⟩, fun l hl => ?_⟩
 have x1 : p.X H (cM H l (.ext fun h => eD p.w h l (eW qs))) α (α ++ [l]) := (bN hl).trans (kc [l])
 refine P _ _ x1 (S.more hl ⟨eW qs, by rw [yi, e1], cw, fun q hq => ?_, sL, fun q hq => ?_⟩) _ (aO.mpr ⟨l, rfl, by rw [<- S.len]; simp⟩)
 ·exact hk _ (by rw [<- e1]; exact LC (lx hq))
 ·exact x1.tup _ _ (e3 q (lx hq))
theorem AL {H : Hp} {α : List Addr} {μ : aB} {ns : List Int} {Q : VK} (S : p.S H α μ) (hk : ∀ n ∈ ns, n ∈ ins) (P : aD p H α (.ok (.obj μ.length) (μ ++ [.iset (cS ns)])) (RV p Q)) :
  ∀ l, H l = none -> ∀ ps : List KI, ps.map (·.1) = cS ns -> (∀ p ∈ ps, p.1 ∈ ins) -> (ps.map (·.1)).Nodup -> Q (.ref l) (cM H l (.ext fun h => cT p.w h l ps)) := fun l hl ps e _ _ => by
 have x1 : p.X H (cM H l (.ext fun h => cT p.w h l ps)) α (α ++ [l]) := (bN hl).trans (kc [l])
 exact P _ _ x1 (S.more hl ⟨ps, e, cw, vL hk⟩) _ (aO.mpr ⟨l, rfl, by rw [<- S.len]; simp⟩)
theorem zu {H : Hp} {α : List Addr} {μ : aB} {xs : List D} {us : List V} {a : Addr} {Q : VK} (S : p.S H α μ) (h1 : fw p.K H a us \/ fW p.K H a us) (rr : p.Rs H α xs us) (P : aD p H α (m3 xs μ) (RV p Q)) : y8 p.K p.w [.ref a] H Q \/ y9 p.K p.w [.ref a] H Q := by
 unfold m3 at P
 split at P
 ·rename_i ks hks
  obtain ⟨f1, f2⟩ := ug hks
  rw [f1] at rr
  obtain ⟨qs, e1, e2, e3⟩ := CS S f2 rr P
  exact .inl ⟨a, qs, rfl, by rw [<- e1]; exact h1, e2, e3⟩
 ·split at P
  ·rename_i ns hns
   obtain ⟨f1, f2⟩ := C7 hns
   rw [f1] at rr
   exact .inr ⟨a, ns, rfl, by rw [<- rr.ints]; exact h1, f2, AL S f2 P⟩
  ·exact P.elim
theorem Fl : sO p lb (fun xs H Q => y8 p.K p.w xs H Q \/ y9 p.K p.w xs H Q) := by
 intro ds vs H α μ Q S r P
 unfold lb at P
 split at P
 ·rename_i xs
  obtain ⟨v, rfl, r1⟩ := r.one
  obtain ⟨a, us, rfl, h1, rr⟩ := aF.mp r1
  exact zu S (.inr h1) rr P
 ·rename_i n
  split at P
  ·rename_i xs hx
   obtain ⟨v, rfl, r1⟩ := r.one
   obtain ⟨a, us, rfl, a1, h1, rr⟩ := di S r1 hx
   exact zu S (.inl (fw.of h1)) rr P
  ·exact P.elim
 ·exact P.elim
def lK (ns : List Int) : List Int := ns.mergeSort fun a b => decide (a <= b)
theorem oz {ns ns' : List Int} (hp : ns'.Perm ns) (hs : ns'.Pairwise (· <= ·)) : ns' = lK ns := by
 have h1 : (lK ns).Perm ns := List.mergeSort_perm ns _
 have h2 : (lK ns).Pairwise (· <= ·) := by
  have := List.pairwise_mergeSort (le := fun (a b : Int) => decide (a <= b)) (fun a b c h1 h2 => by simp at *; omega) (fun a b => by simp; omega) ns
  exact this.imp fun h => by simpa using h
 exact (hp.trans h1.symm).eq_of_pairwise (fun a b _ _ h1 h2 => Nh h1 h2) hs h2
def dk (ds : List D) (μ : aB) : ak D := match ds with
 | [.tup xs] => match i6 xs with
  | some ns => if ns.length < 64 then .ok (.obj μ.length) (μ ++ [.lst ((lK ns).map D.int)]) else .bad
  | none => .bad
 | [.obj n] => match μ[n]? with
  | some (.lst xs) => match i6 xs with
   | some ns => if ns.length < 64 then .ok (.obj μ.length) (μ ++ [.lst ((lK ns).map D.int)]) else .bad
   | none => .bad
  | some (.set ks) => .ok (.obj μ.length) (μ ++ [.lst ((jM ks).map av)])
  | some (.iset ks) => .ok (.obj μ.length) (μ ++ [.lst ((lK ks).map D.int)])
  | _ => .bad
 | _ => .bad
theorem xS : sO p dk (fun xs H Q => (zz p.K xs H Q \/ zy p.K p.w xs H Q) \/ zx p.w xs H Q) := by
 intro ds vs H α μ Q S r P
 have fin : ∀ {ns : List Int}, aD p H α (.ok (.obj μ.length) (μ ++ [.lst ((lK ns).map D.int)])) (RV p Q) -> ∀ ns' : List Int, ns'.Perm ns -> ns'.Pairwise (· <= ·) -> ∀ l, H l = none -> Q (.ref l) (cM H l (.lst (ns'.map V.int))) := by
  intro ns P ns' h1 h2 l hl
  rw [<- oz h1 h2] at P
  obtain ⟨x1, x2, x3⟩ := cU S hl (iP ns')
  exact P _ _ x1 x2 _ x3
 unfold dk at P
 split at P
 ·rename_i xs
  split at P
  ·rename_i ns hns
   split at P
   ·rename_i hl
    obtain ⟨v, rfl, r1⟩ := r.one
    obtain ⟨a, us, rfl, h1, rr⟩ := aF.mp r1
    rw [gf hns] at rr
    exact .inl (.inl ⟨a, ns, rfl, .inr (by rw [<- rr.ints]; exact h1), hl, fin P⟩)
   ·exact P.elim
  ·exact P.elim
 ·rename_i n
  split at P
  ·rename_i xs hx
   split at P
   ·rename_i ns hns
    split at P
    ·rename_i hl
     obtain ⟨v, rfl, r1⟩ := r.one
     obtain ⟨a, us, rfl, a1, h1, rr⟩ := di S r1 hx
     rw [gf hns] at rr
     exact .inl (.inl ⟨a, ns, rfl, .inl (by rw [<- rr.ints]; exact fw.of h1), hl, fin P⟩)
    ·exact P.elim
   ·exact P.elim
  ·rename_i ks hx
   obtain ⟨v, rfl, r1⟩ := r.one
   obtain ⟨a, ea, ps, e1, e2, e3, e4, e5⟩ := S.at hx
   obtain ⟨a', rfl, ea'⟩ := aO.mp r1
   rw [ea] at ea'; cases ea'
   refine .inl (.inr ⟨a, ps, rfl, e2, e5, fun out hp hr l hl => ?_⟩)
   have rr : p.Rs H α ((out.map (·.1)).map av) (jY out) := nq fun q hq => e5 q (hp.mem_iff.mp hq)
   rw [Ab e3 hp hr, e1] at rr
   obtain ⟨x1, x2, x3⟩ := cU S hl rr
   exact P _ _ x1 x2 _ x3
  ·rename_i ks hx
   obtain ⟨v, rfl, r1⟩ := r.one
   obtain ⟨a, ea, ps, e1, e2, e3⟩ := S.at hx
   obtain ⟨a', rfl, ea'⟩ := aO.mp r1
   rw [ea] at ea'; cases ea'
   exact .inr ⟨a, ps, rfl, e2, by rw [e1]; exact fin P⟩
  ·exact P.elim
 ·exact P.elim
def i5 (ds : List D) (μ : aB) : ak D := match ds with
 | [.obj n] => match μ[n]? with
  | some (.iset ks) => .ok (.int ks.length) μ
  | some (.set ks) => .ok (.int ks.length) μ
  | _ => tJ [.obj n] μ
 | _ => tJ ds μ
theorem Fo : sO p i5 (fun xs H Q => ((∃ x n, xs = [x] /\ D5 p.K x H n /\ Q (.int n) H) \/ Dz p.w xs H Q) \/ DA p.w xs H Q) := by
 intro ds vs H α μ Q S r P
 unfold i5 at P
 split at P
 ·rename_i n
  split at P
  ·rename_i ks hx
   obtain ⟨v, rfl, r1⟩ := r.one
   obtain ⟨a, ea, ps, e1, e2, e3⟩ := S.at hx
   obtain ⟨a', rfl, ea'⟩ := aO.mp r1
   rw [ea] at ea'; cases ea'
   refine .inl (.inr ⟨a, ps, rfl, e2, P.now S _ (aq.mpr ?_)⟩)
   rw [<- e1, Kh]
  ·rename_i ks hx
   obtain ⟨v, rfl, r1⟩ := r.one
   obtain ⟨a, ea, ps, e1, e2, e3⟩ := S.at hx
   obtain ⟨a', rfl, ea'⟩ := aO.mp r1
   rw [ea] at ea'; cases ea'
   refine .inr ⟨a, ps, rfl, e2, P.now S _ (aq.mpr ?_)⟩
   rw [<- e1, Kh]
  ·exact .inl (.inl (wD _ vs H α μ Q S r P))
 ·exact .inl (.inl (wD _ vs H α μ Q S r P))
end
section
variable {X : Cx}
def Dx (K : W.Frag) : List V -> Hp -> VK -> Prop := fun xs H Q => ∃ (a : Addr) (ns : List Int), xs = [.ref a] /\ (fw K H a (ns.map V.int) \/ fW K H a (ns.map V.int)) /\ ns ≠ [] /\ ∀ m ∈ ns, (∀ j ∈ ns, m <= j) -> Q (.int m) H
def Dy (K : W.Frag) : List V -> Hp -> VK -> Prop := fun xs H Q => ∃ (a : Addr) (ns : List Int), xs = [.ref a] /\ (fw K H a (ns.map V.int) \/ fW K H a (ns.map V.int)) /\ ns ≠ [] /\ ∀ m ∈ ns, (∀ j ∈ ns, j <= m) -> Q (.int m) H
theorem kr {its : List Value} {ns : List Int} (h : IntsAre its ns) {i : Nat} {v : Value} (e : its.toArray[i]? = some v) : ∃ t, v = .int (ns.getD i 0) t /\ i < ns.length := by
 have e' : its[i]? = some v := by simpa using e
 obtain ⟨n, t, rfl, hn⟩ := h.at i v e'
 have hi := (JD.mp hn).1
 exact ⟨t, by rw [Mt, hn]; rfl, hi⟩
theorem uo {ns : List Int} {i : Nat} (h : i < ns.length) : ns.getD i 0 ∈ ns := by
 rw [Mt, MN h]
 exact MM h
theorem ud {ns : List Int} {j : Int} (h : j ∈ ns) : ∃ i, i < ns.length /\ ns.getD i 0 = j := by
 obtain ⟨i, hi, e⟩ := MV h
 exact ⟨i, hi, by rw [Mt, MN hi]; exact e⟩
theorem yp (hc : X.calm = true) : cE X (.builtin "min") (Dx X.K) := by
 intro pins s σ H xs us Q I r h
 obtain ⟨a, ns, rfl, ha, hne, q⟩ := h
 obtain ⟨u, rfl, ru⟩ := eC r
 cases ru
 have hpos : 0 < ns.length := Ni.mpr hne
 have core : ∀ (its : List Value) (o : Obj), IntsAre its ns -> ∀ v s', its.toArray[argBest (fun i j => decide (ns.getD i 0 < ns.getD j 0)) (its.toArray.size - 1)]? = some v -> Moved [s.heap.objs.size] (fun a b => b = a) { s with heap := s.heap.push o } s' -> EP X pins σ Q v s' := by
  intro its o hI v s' hv hm
  obtain ⟨t, rfl, hi⟩ := kr hI hv
  have hsz : its.toArray.size - 1 = ns.length - 1 := by rw [J3, hI.length]
  rw [hsz] at hi ⊢
  obtain ⟨b1, b2⟩ := argBest_lt (fun i => ns.getD i 0) (ns.length - 1)
  obtain ⟨hh, g, d, tk, os⟩ := s'
  have e1 : g = s.gens := hm.gens
  have e2 : d = s.drawn := hm.drawn
  have e3 : os = s.os := hm.os
  subst e1 e2 e3
  refine ⟨.int _, H, I.fresh_it (o := o) (h' := hh) (tk := tk) fun b ob hb e => hm.heap b ob hb e, ⟨t, rfl⟩, q _ (uo hi) fun j hj => ?_⟩
  obtain ⟨i, hi', rfl⟩ := ud hj
  exact b2 i (by omega)
 have cmp : ∀ (its : List Value), IntsAre its ns -> CmpOf X.prog X.w X.A.in1 .Lt (fun i v => its.toArray[i]? = some v) (fun i j => decide (ns.getD i 0 < ns.getD j 0)) := by
  intro its hI i j vi vj s' Q' E' h1 h2 hQ
  obtain ⟨t1, rfl, _⟩ := kr hI h1
  obtain ⟨t2, rfl, _⟩ := kr hI h2
  exact (PyProof.Rows.lt_int hQ : wpAny _ _ (compareOp .Lt _ _) _ _ _)
 rcases ha with ha | ha
 ·obtain ⟨its, rv, pl, hz⟩ := I.list ha
  have hI : IntsAre its ns := eX rv
  have hne : a ≠ s.heap.objs.size := by
   obtain ⟨o, n, e, _⟩ := pl
   exact Jr (Jo e)
  refine call_min_walkS (Ml pl.isList ?_)
  refine ⟨s.heap.objs.size, [s.heap.objs.size, a], [s.heap.objs.size], _, _, _, _, _, rfl, (Mn (A := X.A.in1) (show X.A.in1.handled = none from I.ok.hd hc) _ a hne its.toArray).toS, ⟨⟨_, JU _ rfl, rfl, rfl⟩, pl.isList.at fun o e => JT _ e⟩, fun b hb => ?_, by simp [hI.length, hpos], cmp its hI, fun v s' hv hm => core its _ hI v s' hv hm⟩
  obtain ⟨o, n, e, _⟩ := pl
  have := Jo e
  simp only [Jz, Lj, Lk] at hb
  show b < (s.heap.push _).objs.size
  rw [MH]
  rcases hb with rfl | rfl
  ·exact K3 _
  ·exact K4 this
 ·obtain ⟨its, rv, pl, hz⟩ := I.tuple ha
  have hI : IntsAre its ns := eX rv
  have hne : a ≠ s.heap.objs.size := by
   obtain ⟨o, e, _⟩ := pl
   exact Jr (Jo e)
  refine call_min_walkS (Li (show s.heap.IsTuple a its.toArray from pl) ?_)
  refine ⟨s.heap.objs.size, [s.heap.objs.size, a], [s.heap.objs.size], _, _, _, _, _, rfl, (Walks.tuple (A := X.A.in1) (show X.A.in1.handled = none from I.ok.hd hc) _ a hne its.toArray).toS, ⟨⟨_, JU _ rfl, rfl, rfl⟩, (show s.heap.IsTuple a its.toArray from pl).at fun o e => JT _ e⟩, fun b hb => ?_, by simp [hI.length, hpos], cmp its hI, fun v s' hv hm => core its _ hI v s' hv hm⟩
  obtain ⟨o, e, _⟩ := pl
  have := Jo e
  simp only [Jz, Lj, Lk] at hb
  show b < (s.heap.push _).objs.size
  rw [MH]
  rcases hb with rfl | rfl
  ·exact K3 _
  ·exact K4 this
theorem yr (hc : X.calm = true) : cE X (.builtin "max") (Dy X.K) := by
 intro pins s σ H xs us Q I r h
 obtain ⟨a, ns, rfl, ha, hne, q⟩ := h
 obtain ⟨u, rfl, ru⟩ := eC r
 cases ru
 have hpos : 0 < ns.length := Ni.mpr hne
 have core : ∀ (its : List Value) (o : Obj), IntsAre its ns -> ∀ v s', its.toArray[argBest (fun i j => decide (ns.getD i 0 > ns.getD j 0)) (its.toArray.size - 1)]? = some v -> Moved [s.heap.objs.size] (fun a b => b = a) { s with heap := s.heap.push o } s' -> EP X pins σ Q v s' := by
  intro its o hI v s' hv hm
  obtain ⟨t, rfl, hi⟩ := kr hI hv
  have hsz : its.toArray.size - 1 = ns.length - 1 := by rw [J3, hI.length]
  rw [hsz] at hi ⊢
  obtain ⟨b1, b2⟩ := argBest_gt (fun i => ns.getD i 0) (ns.length - 1)
  obtain ⟨hh, g, d, tk, os⟩ := s'
  have e1 : g = s.gens := hm.gens
  have e2 : d = s.drawn := hm.drawn
  have e3 : os = s.os := hm.os
  subst e1 e2 e3
  refine ⟨.int _, H, I.fresh_it (o := o) (h' := hh) (tk := tk) fun b ob hb e => hm.heap b ob hb e, ⟨t, rfl⟩, q _ (uo hi) fun j hj => ?_⟩
  obtain ⟨i, hi', rfl⟩ := ud hj
  exact b2 i (by omega)
 have cmp : ∀ (its : List Value), IntsAre its ns -> CmpOf X.prog X.w X.A.in1 .Gt (fun i v => its.toArray[i]? = some v) (fun i j => decide (ns.getD i 0 > ns.getD j 0)) := by
  intro its hI i j vi vj s' Q' E' h1 h2 hQ
  obtain ⟨t1, rfl, _⟩ := kr hI h1
  obtain ⟨t2, rfl, _⟩ := kr hI h2
  exact (PyProof.Rows.gt_int hQ : wpAny _ _ (compareOp .Gt _ _) _ _ _)
 rcases ha with ha | ha
 ·obtain ⟨its, rv, pl, hz⟩ := I.list ha
  have hI : IntsAre its ns := eX rv
  have hne : a ≠ s.heap.objs.size := by
   obtain ⟨o, n, e, _⟩ := pl
   exact Jr (Jo e)
  refine call_max_walkS (Ml pl.isList ?_)
  refine ⟨s.heap.objs.size, [s.heap.objs.size, a], [s.heap.objs.size], _, _, _, _, _, rfl, (Mn (A := X.A.in1) (show X.A.in1.handled = none from I.ok.hd hc) _ a hne its.toArray).toS, ⟨⟨_, JU _ rfl, rfl, rfl⟩, pl.isList.at fun o e => JT _ e⟩, fun b hb => ?_, by simp [hI.length, hpos], cmp its hI, fun v s' hv hm => core its _ hI v s' hv hm⟩
  obtain ⟨o, n, e, _⟩ := pl
  have := Jo e
  simp only [Jz, Lj, Lk] at hb
  show b < (s.heap.push _).objs.size
  rw [MH]
  rcases hb with rfl | rfl
  ·exact K3 _
  ·exact K4 this
 ·obtain ⟨its, rv, pl, hz⟩ := I.tuple ha
  have hI : IntsAre its ns := eX rv
  have hne : a ≠ s.heap.objs.size := by
   obtain ⟨o, e, _⟩ := pl
   exact Jr (Jo e)
  refine call_max_walkS (Li (show s.heap.IsTuple a its.toArray from pl) ?_)
  refine ⟨s.heap.objs.size, [s.heap.objs.size, a], [s.heap.objs.size], _, _, _, _, _, rfl, (Walks.tuple (A := X.A.in1) (show X.A.in1.handled = none from I.ok.hd hc) _ a hne its.toArray).toS, ⟨⟨_, JU _ rfl, rfl, rfl⟩, (show s.heap.IsTuple a its.toArray from pl).at fun o e => JT _ e⟩, fun b hb => ?_, by simp [hI.length, hpos], cmp its hI, fun v s' hv hm => core its _ hI v s' hv hm⟩
  obtain ⟨o, e, _⟩ := pl
  have := Jo e
  simp only [Jz, Lj, Lk] at hb
  show b < (s.heap.push _).objs.size
  rw [MH]
  rcases hb with rfl | rfl
  ·exact K3 _
  ·exact K4 this
end
def GA : List Int -> Int
 | [] => 0
 | x :: r => r.foldl min x
def GB : List Int -> Int
 | [] => 0
 | x :: r => r.foldl max x
theorem yc (r : List Int) : ∀ x : Int, (r.foldl min x = x \/ r.foldl min x ∈ r) /\ r.foldl min x <= x /\ ∀ j ∈ r, r.foldl min x <= j := by
 induction r with
 | nil => intro x; exact ⟨.inl rfl, Int.le_refl _, fun j hj => by simp at hj⟩
 | cons y r ih =>
  intro x
  obtain ⟨h1, h2, h3⟩ := ih (min x y)
  rw [KR]
  have m1 : min x y <= x := Int.min_le_left _ _
  have m2 : min x y <= y := Int.min_le_right _ _
  refine ⟨?_, by omega, fun j hj => ?_⟩
  ·rcases h1 with h | h
   ·rcases (by omega : min x y = x \/ min x y = y) with e | e
    ·exact .inl (by omega)
    ·exact .inr (by rw [h, e]; exact Jx)
   ·exact .inr (Jy _ h)
  ·rcases Jz.mp hj with e | e
   ·rw [e]; omega
   ·exact h3 j e
theorem yd (r : List Int) : ∀ x : Int, (r.foldl max x = x \/ r.foldl max x ∈ r) /\ x <= r.foldl max x /\ ∀ j ∈ r, j <= r.foldl max x := by
 induction r with
 | nil => intro x; exact ⟨.inl rfl, Int.le_refl _, fun j hj => by simp at hj⟩
 | cons y r ih =>
  intro x
  obtain ⟨h1, h2, h3⟩ := ih (max x y)
  rw [KR]
  have m1 : x <= max x y := Int.le_max_left _ _
  have m2 : y <= max x y := Int.le_max_right _ _
  refine ⟨?_, by omega, fun j hj => ?_⟩
  ·rcases h1 with h | h
   ·rcases (by omega : max x y = x \/ max x y = y) with e | e
    ·exact .inl (by omega)
    ·exact .inr (by rw [h, e]; exact Jx)
   ·exact .inr (Jy _ h)
  ·rcases Jz.mp hj with e | e
   ·rw [e]; omega
   ·exact h3 j e
theorem CW {ns : List Int} {m : Int} (h : m ∈ ns) (hm : ∀ j ∈ ns, m <= j) : m = GA ns := by
 cases ns with
 | nil => simp at h
 | cons x r =>
  obtain ⟨h1, h2, h3⟩ := yc r x
  have a1 : m <= r.foldl min x := by
   rcases h1 with e | e
   ·rw [e]; exact hm x Jx
   ·exact hm _ (Jy _ e)
  have a2 : r.foldl min x <= m := by
   rcases Jz.mp h with e | e
   ·rw [e]; exact h2
   ·exact h3 m e
  exact Nh a1 a2
theorem CY {ns : List Int} {m : Int} (h : m ∈ ns) (hm : ∀ j ∈ ns, j <= m) : m = GB ns := by
 cases ns with
 | nil => simp at h
 | cons x r =>
  obtain ⟨h1, h2, h3⟩ := yd r x
  have a1 : r.foldl max x <= m := by
   rcases h1 with e | e
   ·rw [e]; exact hm x Jx
   ·exact hm _ (Jy _ e)
  have a2 : m <= r.foldl max x := by
   rcases Jz.mp h with e | e
   ·rw [e]; exact h2
   ·exact h3 m e
  exact Nh a2 a1
def Bq (d : D) (μ : aB) : Option (List Int) := match d with
 | .tup xs => i6 xs
 | .frz xs => i6 xs
 | .obj n => match μ[n]? with
  | some (.lst xs) => i6 xs
  | _ => none
 | _ => none
theorem wx {p : Pa} {H : Hp} {α : List Addr} {μ : aB} {d : D} {v : V} {ns : List Int} (S : p.S H α μ) (r : p.R H α d v) (h : Bq d μ = some ns) : ∃ a, v = .ref a /\ (fw p.K H a (ns.map V.int) \/ fW p.K H a (ns.map V.int)) := by
 unfold Bq at h
 split at h
 ·obtain ⟨a, us, rfl, h1, rr⟩ := aF.mp r
  rw [gf h] at rr
  exact ⟨a, rfl, .inr (by rw [<- rr.ints]; exact h1)⟩
 ·obtain ⟨a, us, rfl, h1, rr⟩ := bp.mp r
  rw [gf h] at rr
  exact ⟨a, rfl, .inl (by rw [<- rr.ints]; exact h1.sq)⟩
 ·split at h
  ·rename_i xs hx
   obtain ⟨a, us, rfl, a1, h1, rr⟩ := di S r hx
   rw [gf h] at rr
   exact ⟨a, rfl, .inl (by rw [<- rr.ints]; exact fw.of h1)⟩
  ·cases h
 ·cases h
def rD (ds : List D) (μ : aB) : ak D := match ds with
 | [d] => match Bq d μ with
  | some (n :: ns) => .ok (.int (GA (n :: ns))) μ
  | _ => .bad
 | ds => zj ds μ
def nV (ds : List D) (μ : aB) : ak D := match ds with
 | [d] => match Bq d μ with
  | some (n :: ns) => .ok (.int (GB (n :: ns))) μ
  | _ => .bad
 | ds => zk ds μ
theorem Fm {p : Pa} : sO p rD (fun xs H Q => Dx p.K xs H Q \/ ∃ i j, xs = [.int i, .int j] /\ Q (.int (if j < i then j else i)) H) := by
 intro ds vs H α μ Q S r P
 unfold rD at P
 split at P
 ·rename_i d
  split at P
  ·rename_i n ns hns
   obtain ⟨v, rfl, r1⟩ := r.one
   obtain ⟨a, rfl, h1⟩ := wx S r1 hns
   refine .inl ⟨a, n :: ns, rfl, h1, by simp, fun m hm hj => ?_⟩
   rw [CW hm hj]
   exact P.now S _ (aq.mpr rfl)
  ·exact P.elim
 ·exact .inr (CM ds vs H α μ Q S r P)
theorem Fn {p : Pa} : sO p nV (fun xs H Q => Dy p.K xs H Q \/ ∃ i j, xs = [.int i, .int j] /\ Q (.int (if j > i then j else i)) H) := by
 intro ds vs H α μ Q S r P
 unfold nV at P
 split at P
 ·rename_i d
  split at P
  ·rename_i n ns hns
   obtain ⟨v, rfl, r1⟩ := r.one
   obtain ⟨a, rfl, h1⟩ := wx S r1 hns
   refine .inl ⟨a, n :: ns, rfl, h1, by simp, fun m hm hj => ?_⟩
   rw [CY hm hj]
   exact P.now S _ (aq.mpr rfl)
  ·exact P.elim
 ·exact .inr (CN ds vs H α μ Q S r P)
theorem oN : ∀ {xs : List V} {us : List Value}, xs.length = us.length -> (∀ (i : Nat) x u, xs[i]? = some x -> us[i]? = some u -> cz x u) -> bb xs us
 | [], [], _, _ => .nil
 | [], _ :: _, h, _ => by simp at h
 | _ :: _, [], h, _ => by simp at h
 | x :: xs, u :: us, h, k => .cons (k 0 x u rfl rfl) (oN (by simpa using h) fun i x' u' h1 h2 => k (i + 1) x' u' (by simpa using h1) (by simpa using h2))
section
variable {X : Cx}
def GR (ta : TA) : TE := fun σ H Q => ta σ H fun vs H1 => ∃ j : Int, vs = [.int j] /\ ∀ r, H1 r = none -> Q (.ref r) (cM H1 r (.rng 0 j))
theorem xO {a : Expr} {ta : TA} {p pos : Pos} (hg : Gl X "range") (hm : X.mg "range" = none) (ha : PA X [a] ta) (hs : starEach [a] X.env = [(false, eval a X.env)]) : PE X (.Call (.Name "range" p) [a] [] pos) (GR ta) := by
 intro pins s σ H Q I h
 refine Call_ (j6 I hg hm boot_range (JW (dY (ha pos pins s σ H _ I h) fun us s1 ⟨vs, H1, I1, r1, q1⟩ => ?_) hs rfl))
 obtain ⟨j, e, q⟩ := q1
 subst e
 cases r1 with
 | cons r rr =>
  cases rr
  obtain ⟨t, rfl⟩ := r
  refine call_range_1 ?_
  refine ⟨.ref s1.heap.objs.size, cM H1 s1.heap.objs.size (.rng 0 j), I1.laid (fun b ob e => JT _ e) (JV _) ⟨_, _, _, JU _ rfl⟩, rfl, q _ (I1.hok.fresh (JV _))⟩
def EL : List V -> Hp -> VK -> Prop := fun xs H Q => ∃ (r : Addr) (j : Int), xs = [.ref r] /\ H r = some (.rng 0 j) /\ -(2 ^ 62) <= j /\ j <= 2 ^ 20 /\ ∀ l, H l = none -> Q (.ref l) (cM H l (.lst ((List.range j.toNat).map fun (i : Nat) => V.int (i : Int))))
theorem vY (hc : X.calm = true) : cE X (.type "list") EL := by
 intro pins s σ H xs us Q I r h
 obtain ⟨r0, j, rfl, ha, j1, j2, q⟩ := h
 obtain ⟨u, rfl, ru⟩ := eC r
 cases ru
 obtain ⟨t, u, v, hr⟩ := (show fk X.prog X.w H s.heap r0 (.rng 0 j) from I.hok r0 _ ha)
 have hn : Builtin.Range.rangeSize 0 j 1 = ((j.toNat : Nat) : Int) := by rw [rangeSize_one]; split <;> omega
 refine call_list_range (n := j.toNat) (I.ok.hd hc) hr (small_one (by omega) (by omega) (by omega) (by omega)) hn (by omega) fun h' tk acc' c' hk hl hit => ?_
 have hv : bb ((List.range j.toNat).map fun (i : Nat) => V.int (i : Int)) acc'.toList := by
  obtain ⟨e1, e2⟩ := hit
  refine oN (by simp [e1]) fun i x u h1 h2 => ?_
  rw [Ke] at h1
  have hi : i < j.toNat := by
   have := (JD.mp h2).1
   simp [e1] at this
   omega
  rw [Mv hi] at h1
  cases h1
  obtain ⟨t, rfl⟩ := e2 i u (by simpa using h2)
  exact ⟨t, by simp⟩
 refine ⟨.ref s.heap.objs.size, cM H s.heap.objs.size (.lst ((List.range j.toNat).map fun (i : Nat) => V.int (i : Int))), I.laid (fun b ob e => hk b ob e) (JV _) ⟨?_, acc'.toList, c', hv, by simpa using hl⟩, rfl, q _ (I.hok.fresh (JV _))⟩
 have : (sizeLine : Nat) = 16777216 := J2
 simp only [Kh, Lp]
 omega
end
def ot (o1 o2 : D -> D -> aB -> ak D) (fa fb fc : ME) : ME := fun ρ μ => (fa ρ μ).bind fun a μ1 => (fb ρ μ1).bind fun b μ2 => (o1 a b μ2).bind fun z μ3 => (Bg z μ3).bind fun k μ4 =>
 if k = true then (fc ρ μ4).bind fun c μ5 => o2 b c μ5 else .ok (.bl false) μ4
section
variable {X : Cx} {p : Pa} {a b c d : Expr} {ta tb tc td : TE} {fa fb fc fd : ME} {pos : Pos} {op op' op'' : CmpOp} {r r' r'' : R2} {o1 o2 o3 : D -> D -> aB -> ak D}
theorem vS (hd1 : rp p o1 r) (hd2 : rp p o2 r') {σ : St} {H : Hp} {Q : VK} (h : tD p (ot o1 o2 fa fb fc) σ H Q) : zr r r' (tD p fa) (tD p fb) (tD p fc) σ H Q := by
 obtain ⟨α, ρ, μ, S, R, P⟩ := h
 refine ⟨α, ρ, μ, S, R, (aD.bind P).imp fun x μ1 H1 α1 X1 S1 P1 v rv => ⟨α1, ρ, μ1, S1, R.mono X1, (aD.bind P1).imp fun y μ2 H2 α2 X2 S2 P2 u ru => ?_⟩⟩
 refine hd1 x y v u H2 α2 μ2 _ S2 (rv.mono X2) ru ((aD.bind P2).imp fun z μ3 H3 α3 X3 S3 P3 w rw' => ?_)
 obtain ⟨k, _, e, q⟩ := rO (aD.bind P3) rw' S3
 refine ⟨k, e, ?_⟩
 cases k with
 | true =>
  rw [Jl rfl] at q ⊢
  exact ⟨α3, ρ, μ3, S3, ((R.mono X1).mono X2).mono X3, (aD.bind q).imp fun c μ5 H5 α5 X5 S5 P5 t rt => hd2 y c u t H5 α5 μ5 Q S5 ((ru.mono X3).mono X5) rt P5⟩
 | false => rw [Jm J1] at q ⊢; exact q.now S3 _ (bh.mpr rfl)
theorem Aj (ho : jL X (compareOp op) r) (ho' : jL X (compareOp op') r') (hd1 : rp p o1 r) (hd2 : rp p o2 r') (ha : PE X a (tD p fa)) (hb : PE X b (tD p fb)) (hc : PE X c (tD p fc))
  (hm : lastMarks [op, op'] [b, c] = false) : PE X (.Compare a [op, op'] [b, c] pos) (tD p (ot o1 o2 fa fb fc)) := (AD ho ho' ha hb hc hm).weak fun σ H Q h => vS hd1 hd2 h
def uY (d : D) (μ : aB) : ak Bool := match d with
 | .non => .ok false μ
 | .bl b => .ok b μ
 | .int i => .ok (i != 0) μ
 | .str x => if x.length <= sizeLine then .ok ((x.length : Int) != 0) μ else .bad
 | .tup xs => .ok (!xs.isEmpty) μ
 | .frz xs => .ok (!xs.isEmpty) μ
 | .obj n => match μ[n]? with
  | some (.lst xs) => .ok (!xs.isEmpty) μ
  | _ => .bad
def rF (f : ME) : MT := fun ρ μ => (f ρ μ).bind uY
theorem Reps.isEmpty {K : W.Frag} {H : Hp} {α : List Addr} {xs : List D} {vs : List V} (r : Reps K H α xs vs) : vs.isEmpty = xs.isEmpty := by
 have := r.length
 cases xs with
 | nil => have h : vs = [] := Nd (by simpa using this); rw [h]; rfl
 | cons x r => cases vs with
  | nil => simp at this
  | cons _ _ => rfl
theorem BD {d : D} {μ : aB} {H : Hp} {α : List Addr} {v : V} {R : Bool -> aB -> Hp -> List Addr -> Prop} (S : p.S H α μ) (r : p.R H α d v) (P : aD p H α (uY d μ) R) : ∃ k, D3 p.K v H k /\ R k μ H α := by
 unfold uY at P
 split at P
 ·rw [bL.mp r]; exact ⟨false, rfl, P.now S⟩
 ·rename_i b; rw [bh.mp r]; exact ⟨b, rfl, P.now S⟩
 ·rename_i i; rw [aq.mp r]; exact ⟨_, rfl, P.now S⟩
 ·rename_i x
  split at P
  ·rename_i hl; rw [bA.mp r]; exact ⟨_, ⟨hl, rfl⟩, P.now S⟩
  ·exact P.elim
 ·obtain ⟨a, vs, rfl, h1, h2⟩ := aF.mp r
  exact ⟨_, .inr (.inl ⟨vs, h1, by rw [h2.isEmpty]⟩), P.now S⟩
 ·obtain ⟨a, vs, rfl, h1, h2⟩ := bp.mp r
  exact ⟨_, .inl ⟨vs, h1.sq, by rw [h2.isEmpty]⟩, P.now S⟩
 ·split at P
  ·rename_i xs hx
   obtain ⟨a, us, rfl, a1, h1, rr⟩ := di S r hx
   exact ⟨_, .inl ⟨us, fw.of h1, by rw [rr.isEmpty]⟩, P.now S⟩
  ·exact P.elim
theorem zR {e : Expr} {f : ME} (hK : X.K = p.K) (h : PE X e (tD p f)) (he : ∀ whole, isTrue e X.env whole = (do let v <- whole; standAt e.pos; holding [v] (truthy v))) : PT X e (h8 p (rF f)) :=
 (Au h he).weak fun σ H Q ⟨α, ρ, μ, S, R, P⟩ => ⟨α, ρ, μ, S, R, (aD.bind P).imp fun d μ1 H1 α1 X1 S1 P1 v rv => by
  rw [hK]; exact BD S1 rv P1⟩
def mF (ds : List D) (μ : aB) : ak D := match ds with
 | [.int j] => if -(2 ^ 62) <= j /\ j <= 2 ^ 20 then .ok (.obj μ.length) (μ ++ [.lst (bq 0 j.toNat)]) else .bad
 | _ => .bad
theorem Aq {K : W.Frag} {H : Hp} {α : List Addr} (n : Nat) : Reps K H α (bq 0 n) ((List.range n).map fun (i : Nat) => V.int (i : Int)) := by
 have : bq 0 n = ((List.range n).map fun (i : Nat) => ((i : Nat) : Int)).map D.int := by
  unfold bq; rw [Ln]; apply Lo; intro i _; simp
 rw [this]
 have h2 : ((List.range n).map fun (i : Nat) => V.int (i : Int)) = ((List.range n).map fun (i : Nat) => ((i : Nat) : Int)).map V.int := by rw [Ln]; rfl
 rw [h2]
 exact iP _
theorem Ai {fr : MA} {pl pr pos p1 : Pos} (hc : X.calm = true) (hg : Gl X "range") (hm : X.mg "range" = none) (hgl : Gl X "list") (hml : X.mg "list" = none) (ha : PA X [a] (mr p fr)) (hs : starEach [a] X.env = [(false, eval a X.env)]) :
  PE X (.Call (.Name "list" pl) [.Call (.Name "range" pr) [a] [] p1] [] pos) (tD p (aA mF fr)) := by
 refine (qE (T := "list") (vY hc) hgl hml boot_list (nI (xO hg hm ha hs) va rfl) (by decide) (by decide) rfl rfl).weak fun σ H Q ⟨α, ρ, μ, S, R, P⟩ => ⟨α, ρ, μ, S, R, (aD.bind P).imp fun ds μ1 H1 α1 X1 S1 P1 vs rv => ?_⟩
 unfold mF at P1
 split at P1
 ·rename_i j
  obtain ⟨v, rfl, r1⟩ := rv.one
  split at P1
  ·rename_i hj
   refine ⟨j, by rw [aq.mp r1], fun r0 hr => ?_⟩
   refine ⟨r0, j, rfl, cw, hj.1, hj.2, fun l hl => ?_⟩
   have S2 : p.S (cM H1 r0 (.rng 0 j)) α1 μ1 := S1.same (bN hr) fun a ha => bX fun z => ha (by rw [z]; exact hr)
   obtain ⟨x1, x2, x3⟩ := cU S2 hl (Aq j.toNat)
   exact P1 _ _ ((bN hr).trans x1) x2 _ x3
  ·exact P1.elim
 ·exact P1.elim
def GW : TE := fun _ H Q => ∀ q, H q = none -> Q (.ref q) (cM H q (.dK []))
theorem Cu : PE X (.Dict [] [] pos) GW := fun pins s σ H Q I h => by
 have hb : sysModules < s.heap.objs.size := Nat.lt_trans (by decide) (I.mod.glob.keeps I.bk).lt
 refine wpAny_Dict_empty ⟨.ref s.heap.objs.size, _, I.laid (a := s.heap.objs.size) (o := .dK []) (t' := s.toks) (fun _ _ q => JT _ q) (JV _) ?_, rfl, h _ (I.hok.fresh (JV _))⟩
 exact ⟨Lb _, Jj.mpr (JA (Jr hb)), [], .nil, Heap.DictOf.new s.heap⟩
def Bv : ME := fun _ μ => .ok (.obj μ.length) (μ ++ [.dic])
theorem EF : PE X (.Dict [] [] pos) (tD p Bv) := Cu.weak fun σ H Q ⟨α, ρ, μ, S, R, P⟩ q hq => by
 have x1 : p.X H (cM H q (.dK [])) α (α ++ [q]) := (bN hq).trans (kc [q])
 exact P _ _ x1 (S.more hq cw) _ (aO.mpr ⟨q, rfl, by rw [<- S.len]; simp⟩)
def HS (p : Pa) (f : D -> List D -> aB -> ak D) (r : V -> List V -> Hp -> VK -> Prop) : Prop := ∀ d ds v vs H α μ Q, p.S H α μ -> p.R H α d v -> p.Rs H α ds vs -> aD p H α (f d ds μ) (RV p Q) -> r v vs H Q
def Bk (d : D) (μ : aB) : Bool := match d with
 | .obj n => match μ[n]? with
  | some (.lst _) => true
  | _ => false
 | _ => false
def Gc (f : D -> List D -> aB -> ak D) (fo : ME) (fr : MA) : ME := fun ρ μ => (fo ρ μ).bind fun o μ1 => if Bk o μ1 = true then (fr ρ μ1).bind fun ds μ2 => f o ds μ2 else .bad
theorem FN {d : D} {μ : aB} {H : Hp} {α : List Addr} {v : V} (S : p.S H α μ) (r : p.R H α d v) (h : Bk d μ = true) : HM p.K "list" v H := by
 unfold Bk at h
 split at h
 ·split at h
  ·rename_i xs hx
   obtain ⟨a, us, rfl, a1, h1, rr⟩ := di S r hx
   exact .inl ⟨rfl, us, fw.of h1⟩
  ·cases h
 ·cases h
theorem Dt {o e : Expr} {es : List Expr} {fo : ME} {fr : MA} {name : Str} {apos cpos : Pos} {id : String} {rr : V -> List V -> Hp -> VK -> Prop} {f : D -> List D -> aB -> ak D} (hK : X.K = p.K) (slot : Slot "list" name id) (hty : typeOf (.builtin id) = pure (.type "method_descriptor")) (hm : IR X id rr) (hf : HS p f rr)
  (ho : PE X o (tD p fo)) (ha : PA X (e :: es) (mr p fr)) (hbase : attributeBase o name X.env (eval o X.env) = eval o X.env)
  (hfew : ((backTo cpos (starEach (e :: es) X.env)).all (fun x => !x.1) && (backToKw cpos (keywordEach [] X.env)).all (fun x => x.1.isSome)
   && decide ((e :: es).length + ([] : List Keyword).length + (if ([] : List Keyword).isEmpty then 0 else 1) < 30)) = true)
  (hline : (apos.endLine == cpos.line) = true) (hs : starEach (e :: es) X.env = (false, eval e X.env) :: starEach es X.env) (hplain : (backTo cpos (starEach es X.env)).any (·.1) = false) :
  PE X (.Call (.Attribute o name apos) (e :: es) [] cpos) (tD p (Gc f fo fr)) :=
 (Hg PySem.F.plainAttrs_list slot hty hm ho ha hbase hfew hline hs hplain).weak fun σ H Q ⟨α, ρ, μ, S, R, P⟩ => ⟨α, ρ, μ, S, R, (aD.bind P).imp fun d μ1 H1 α1 X1 S1 P1 v rv => by
  by_cases hl : Bk d μ1 = true
  ·rw [Jl hl] at P1
   rw [hK]
   exact ⟨FN S1 rv hl, α1, ρ, μ1, S1, R.mono X1, (aD.bind P1).imp fun ds μ2 H2 α2 X2 S2 P2 vs rs => hf d ds v vs H2 α2 μ2 Q S2 (rv.mono X2) rs P2⟩
  ·rw [Jm hl] at P1; exact P1.elim⟩
def oq (d : D) (ds : List D) (μ : aB) : ak D := match d, ds with
 | .obj n, [.int i] => match μ[n]? with
  | some (.lst xs) => match uT xs.length i with
   | some k => match xs[k]? with
    | some y => if -(2 ^ 63) <= i /\ i < 2 ^ 63 then .ok y (μ.set n (.lst (xs.eraseIdx k))) else .bad
    | none => .bad
   | none => .bad
  | _ => .bad
 | _, _ => .bad
theorem CU : HS p oq zB := by
 intro d ds v vs H α μ Q S rd rs P
 unfold oq at P
 split at P
 ·rename_i n i
  split at P
  ·rename_i xs hx
   split at P
   ·rename_i k hk
    split at P
    ·rename_i y hy
     split at P
     ·rename_i hb
      obtain ⟨a, us, rfl, a1, h1, rr⟩ := di S rd hx
      obtain ⟨w, rfl, rw'⟩ := rs.one
      obtain ⟨z, hz, rz⟩ := rr.get hy
      have hk' := (rY hk).1
      have q := rr.eraseIdx k
      refine ⟨a, us, i, k, z, rfl, by rw [aq.mp rw'], h1, hb.1, hb.2, by rw [rr.length]; exact hk', hz, ?_⟩
      exact P _ _ (iM h1) (S.put hx a1 h1 q) _ (rz.mono (iM h1))
     ·exact P.elim
    ·exact P.elim
   ·exact P.elim
  ·exact P.elim
 ·exact P.elim
def kv (d : D) (ds : List D) (μ : aB) : ak D := match d, ds with
 | .obj n, [y] => match μ[n]? with
  | some (.lst xs) => if xs.length < sizeLine then .ok .non (μ.set n (.lst (xs ++ [y]))) else .bad
  | _ => .bad
 | _, _ => .bad
theorem CV : HS p kv wA := by
 intro d ds v vs H α μ Q S rd rs P
 unfold kv at P
 split at P
 ·rename_i n y
  split at P
  ·rename_i xs hx
   split at P
   ·rename_i hb
    obtain ⟨a, us, rfl, a1, h1, rr⟩ := di S rd hx
    obtain ⟨w, rfl, rw'⟩ := rs.one
    have q := rr.snoc rw'
    exact ⟨a, us, w, rfl, rfl, h1, by rw [rr.length]; exact hb, P _ _ (iM h1) (S.put hx a1 h1 q) _ (bL.mpr rfl)⟩
   ·exact P.elim
  ·exact P.elim
 ·exact P.elim
end
abbrev dZ (K : W.Frag) (w : World) : Pa := ⟨K, w, fun _ _ => False⟩
abbrev iH : D -> D -> aB -> ak D := dI fun i j => .int (i - j)
noncomputable abbrev tK : D -> D -> aB -> ak D := DS BA fun i j => .int (i / j)
noncomputable abbrev pS : D -> D -> aB -> ak D := DS (fun _ j => 0 < j) fun i j => .int (i % j)
noncomputable abbrev DZ : D -> D -> aB -> ak D := DS D6 fun i j => .int (i ^ j.toNat)
def vf (N : List Str) (sc scope : Scope) (Nc : List Str) (cap : List (Option Nat)) : Bool :=
 (scope.kind == .function) && scope.names.all (fun y => scope.names.lookup y.1 == some y.2) &&
 scope.names.all (fun y => y.2 != .free || sc.names.lookup y.1 == some .cell || sc.names.lookup y.1 == some .free) && f9 N { scope := sc, globals := 0, builtins := 0, locals := 0, cells := [], qual := "", func := none, code := .none, frame := none } scope Nc cap
theorem mR {N : List Str} {e1 e2 : Env} {scope : Scope} : ∀ {Nc : List Str} {cap : List (Option Nat)}, f9 N e1 scope Nc cap = f9 N e2 scope Nc cap
 | [], [] => rfl
 | _ :: _, [] => rfl
 | [], _ :: _ => rfl
 | _ :: Nc, none :: cap => by unfold f9; exact mR
 | x :: Nc, some j :: cap => by unfold f9; rw [mR (Nc := Nc) (cap := cap) (e1 := e1) (e2 := e2)]
theorem yj {X : Cx} {N : List Str} {sc scope : Scope} {Nc : List Str} {cap : List (Option Nat)} (hN : X.N = N) (hk : ∀ x, (sc.names.lookup x = some .cell \/ sc.names.lookup x = some .free) -> X.env.kindOf x = some .cell \/ X.env.kindOf x = some .free) (h : vf N sc scope Nc cap = true) : cf X.N X.env scope Nc cap := by
 unfold vf at h
 simp only [KC] at h
 obtain ⟨⟨⟨h1, h3⟩, h4⟩, h5⟩ := h
 refine ⟨eq_of_beq h1, fun y hy => ?_, fun y hy hf => ?_, ?_⟩
 ·exact eq_of_beq (LV.mp h3 y hy)
 ·have := LV.mp h4 y hy
  simp only [Nj, hf] at this
  refine hk _ ?_
  rcases this with (z | z) | z
  ·exact absurd z (by decide)
  ·exact .inl (eq_of_beq z)
  ·exact .inr (eq_of_beq z)
 ·rw [hN, mR]; exact h5
theorem bB {X : Cx} {N : List Str} {sc scope : Scope} {Nc : List Str} {cap : List (Option Nat)} (hN : X.N = N) (hs : X.env.scope = sc) (h : vf N sc scope Nc cap = true) : cf X.N X.env scope Nc cap :=
 yj hN (fun x hx => by subst hs; exact hx) h
structure Bx (P : Prop) : Prop where
 h : P
section
variable {X : Cx} {p : Pa} {a b c d e : Expr} {es : List Expr} {fa fb fc fd f : ME} {fr : MA} {pos : Pos} {ft gt : MT}
theorem aE (i : Nat) {x : Str} (hN : X.N[i]? = some x := by rfl) (hv : HQ X.env.scope x := by first | exact Or.inl rfl | exact Or.inr (Or.inl rfl) | exact Or.inr (Or.inr rfl)) (hd : (x == ("__debug__" : Str)) = false := by decide) (hcd : (x == ("__classdict__" : Str)) = false := by decide) : Bx (PE X (.Name x pos) (tD p (ah i))) := ⟨Ez (EY hN hv hd hcd)⟩
theorem bC {i j} : Bx (PE X (.Constant (.int i) j pos) (tD p (cC (.int i)))) := ⟨yN E6 fun _ _ => aq.mpr rfl⟩
theorem DO {i j} : Bx (PE X (.Constant (.bool i) j pos) (tD p (cC (.bl i)))) := ⟨yN Hh fun _ _ => bh.mpr rfl⟩
theorem Be {j} : Bx (PE X (.Constant .none j pos) (tD p (cC .non))) := ⟨yN zC fun _ _ => bL.mpr rfl⟩
theorem IU {x j} : Bx (PE X (.Constant (.str x) j pos) (tD p (cC (.str x)))) := ⟨yN E1 fun _ _ => bA.mpr rfl⟩
theorem Gk {x : Str} {i : Int} (h : ∃ t, X.mg x = some (.int i t)) (hg : Gl X x := by rfl) (hd : (x == ("__debug__" : Str)) = false := by decide) : Bx (PE X (.Name x pos) (tD p (cC (.int i)))) := Bx.mk (by
 obtain ⟨t, ht⟩ := h
 exact yN (Ct (v := .int i) hg ht ⟨t, rfl⟩ hd) fun _ _ => aq.mpr rfl)
theorem bD (ha : Bx (PE X a (tD p fa))) (hb : Bx (PE X b (tD p fb))) (hK : X.K = p.K := by rfl) : Bx (PE X (.BinOp a .Add b pos) (tD p (aw bf fa fb))) := ⟨my (r := zc p.K) (hK ▸ CJ) Fw ha.h hb.h⟩
theorem kP (ha : Bx (PE X a (tD p fa))) (hb : Bx (PE X b (tD p fb))) : Bx (PE X (.BinOp a .Sub b pos) (tD p (aw iH fa fb))) := ⟨my E9 (Im fun _ _ _ _ => aq.mpr rfl) ha.h hb.h⟩
theorem v7 (ha : Bx (PE X a (tD p fa))) (hb : Bx (PE X b (tD p fb))) : Bx (PE X (.BinOp a .Mult b pos) (tD p (aw mx fa fb))) := ⟨my CD Ft ha.h hb.h⟩
theorem zp (ha : Bx (PE X a (tD p fa))) (hb : Bx (PE X b (tD p fb))) : Bx (PE X (.BinOp a .FloorDiv b pos) (tD p (aw tK fa fb))) := ⟨my CF (zd fun _ _ _ _ => aq.mpr rfl) ha.h hb.h⟩
theorem ql (ha : Bx (PE X a (tD p fa))) (hb : Bx (PE X b (tD p fb))) : Bx (PE X (.BinOp a .Mod b pos) (tD p (aw pS fa fb))) := ⟨my Ff (zd fun _ _ _ _ => aq.mpr rfl) ha.h hb.h⟩
theorem GL (ha : Bx (PE X a (tD p fa))) (hb : Bx (PE X b (tD p fb))) : Bx (PE X (.BinOp a .Pow b pos) (tD p (aw DZ fa fb))) := ⟨my Fc (zd fun _ _ _ _ => aq.mpr rfl) ha.h hb.h⟩
theorem lJ (ha : Bx (PE X a (tD p fa))) : Bx (PE X (.UnaryOp .USub a pos) (tD p (pO mw fa))) := ⟨G4 Ec Fy ha.h⟩
structure nB (X : Cx) (p : Pa) (op : CmpOp) (o : D -> D -> aB -> ak D) : Prop where
 ex : ∃ r, jL X (compareOp op) r /\ rp p o r
theorem nU (hu : X.A.units + 64 < cLine) (hK : X.K = p.K := by rfl) : nB X p .Eq (jV false) := ⟨yP p.K false, hK ▸ Fi hu, DD⟩
theorem Bs (hu : X.A.units + 64 < cLine) (hK : X.K = p.K := by rfl) : nB X p .NotEq (jV true) := ⟨yP p.K true, hK ▸ Fd hu, DD⟩
theorem u3 (hu : X.A.units + 64 < cLine) (hK : X.K = p.K := by rfl) : nB X p .In (pN false) := ⟨yO p.K false, hK ▸ Fh hu, DC⟩
theorem DF (hu : X.A.units + 64 < cLine) (hK : X.K = p.K := by rfl) : nB X p .NotIn (pN true) := ⟨yO p.K true, hK ▸ xR hu, DC⟩
theorem DH : nB X p .Is (pT false) := ⟨_, Fg, Fu⟩
theorem zF : nB X p .IsNot (pT true) := ⟨_, CC, CQ⟩
theorem jZ {op : CmpOp} (hu : X.A.units + 64 < cLine) (ho : tx op = true := by rfl) (hK : X.K = p.K := by rfl) : nB X p op (jW op) := ⟨zb p.K op, hK ▸ CG hu ho, Fv⟩
variable {op op' op'' : CmpOp} {o o' o'' : D -> D -> aB -> ak D}
theorem tp (k : nB X p op o) (ha : Bx (PE X a (tD p fa))) (hb : Bx (PE X b (tD p fb))) (hm : behindInMarks op b = false := by rfl) : Bx (PE X (.Compare a [op] [b] pos) (tD p (aw o fa fb))) := Bx.mk (let ⟨_, h1, h2⟩ := k.ex; EG h1 h2 ha.h hb.h hm)
theorem bZ (k : nB X p op o) (ha : Bx (PE X a (tD p fa))) (hb : Bx (PE X b (tD p fb))) (hm : behindInMarks op b = false := by rfl) : Bx (PT X (.Compare a [op] [b] pos) (h8 p (gP (aw o fa fb)))) := Bx.mk (let ⟨_, h1, h2⟩ := k.ex; Ej h1 h2 ha.h hb.h hm)
theorem GN (k : nB X p op o) (k' : nB X p op' o') (ha : Bx (PE X a (tD p fa))) (hb : Bx (PE X b (tD p fb))) (hc : Bx (PE X c (tD p fc))) (hm : lastMarks [op, op'] [b, c] = false := by rfl) : Bx (PE X (.Compare a [op, op'] [b, c] pos) (tD p (ot o o' fa fb fc))) := Bx.mk (let ⟨_, h1, h2⟩ := k.ex; let ⟨_, h3, h4⟩ := k'.ex; Aj h1 h3 h2 h4 ha.h hb.h hc.h hm)
theorem Ga (h : Bx (PE X e (tD p f))) (he : ∀ whole, isTrue e X.env whole = (do let v <- whole; standAt e.pos; holding [v] (truthy v)) := by intro _; rfl) (hK : X.K = p.K := by rfl) : Bx (PT X e (h8 p (rF f))) := ⟨zR hK h.h he⟩
theorem tq {rest : List Expr} (ha : Bx (PT X a (h8 p ft))) (hb : Bx (PW X (.BoolOp .And (b :: rest) pos) (h8 p gt))) : Bx (PW X (.BoolOp .And (a :: b :: rest) pos) (h8 p (kR ft gt))) := ⟨Eh ha.h hb.h⟩
theorem yL {rest : List Expr} (ha : Bx (PT X a (h8 p ft))) (hb : Bx (PW X (.BoolOp .Or (b :: rest) pos) (h8 p gt))) : Bx (PW X (.BoolOp .Or (a :: b :: rest) pos) (h8 p (sW ft gt))) := ⟨G0 ha.h hb.h⟩
theorem og (ha : Bx (PT X a (h8 p ft))) : Bx (PW X (.BoolOp .And [a] pos) (h8 p ft)) := ⟨Cd ha.h⟩
theorem yY (ha : Bx (PT X a (h8 p ft))) : Bx (PW X (.BoolOp .Or [a] pos) (h8 p ft)) := ⟨EM ha.h⟩
theorem tm {op} (ha : Bx (PE X a (tD p fa))) : Bx (PE X (.BoolOp op [a] pos) (tD p fa)) := ⟨E3 ha.h⟩
def vb : Expr -> Bool
 | .Starred _ _ => false
 | _ => true
theorem mK {a : Expr} {es : List Expr} {env : Env} (h : vb a = true) : starEach (a :: es) env = (false, eval a env) :: starEach es env := by
 cases a <;> first | rfl | cases h
theorem aI (ha : Bx (PE X a (tD p fa))) (hr : Bx (PA X es (mr p fr))) (hs : vb a = true := by rfl) : Bx (PA X (a :: es) (mr p (ae fa fr))) := ⟨B8 ha.h hr.h (mK hs)⟩
theorem ba  : Bx (PA X [] (mr p ay)) := ⟨EI⟩
theorem aS {k n : Nat} {x : Str} {F : List D -> aB -> ak D} {px : Pos} (h : d3 X.prog X.w X.K X.mg X.base p k x n F) (hr : ic k X.A) (ha : Bx (PA X (a :: es) (mr p fr))) (hg : Gl X x := by rfl) (hdb : (x == ("__debug__" : Str)) = false := by decide) (he : starEach (a :: es) X.env = (false, eval a X.env) :: starEach es X.env := by rfl) (hpl : (backTo pos (starEach es X.env)).any (·.1) = false := by rfl) : Bx (PE X (.Call (.Name x px) (a :: es) [] pos) (tD p (aA F fr))) := ⟨B5 h hr hg ha.h hdb he hpl⟩
structure nY (X : Cx) (p : Pa) (x : Str) (F : List D -> aB -> ak D) : Prop where
 ex : ∃ (u : Value) (r : List V -> Hp -> VK -> Prop), ((∃ id, u = .builtin id) \/ ∃ T, u = .type T) /\ bootBuiltins x = some u /\ cE X u r /\ sO p F r /\ x ≠ "__name__" /\ (x == ("__debug__" : Str)) = false
theorem bu {x : Str} {F : List D -> aB -> ak D} {px : Pos} (k : nY X p x F) (hm : X.mg x = none) (ha : Bx (PA X (a :: es) (mr p fr))) (hg : Gl X x := by rfl) (he : starEach (a :: es) X.env = (false, eval a X.env) :: starEach es X.env := by rfl) (hpl : (backTo pos (starEach es X.env)).any (·.1) = false := by rfl) : Bx (PE X (.Call (.Name x px) (a :: es) [] pos) (tD p (aA F fr))) := Bx.mk (by
 obtain ⟨u, r, hu, h1, h2, h3, h4, h5⟩ := k.ex
 rcases hu with ⟨id, rfl⟩ | ⟨T, rfl⟩
 ·exact Ak h2 h3 hg hm h1 ha.h h4 h5 he hpl
 ·exact xG h2 h3 hg hm h1 ha.h h4 h5 he hpl)
theorem j3 (hK : X.K = p.K := by rfl) (hw : X.w = p.w := by rfl) : nY X p "len" i5 := ⟨_, _, .inl ⟨_, rfl⟩, PySem.boot_len, (Ba.or yt).or yu, by rw [hK, hw]; exact Fo, by decide, by decide⟩
theorem zl (hc : X.calm = true := by rfl) (hK : X.K = p.K := by rfl) : nY X p "all" sU := ⟨_, _, .inl ⟨_, rfl⟩, by decide +kernel, yw hc, hK ▸ Fq, by decide, by decide⟩
theorem jx (hK : X.K = p.K := by rfl) : nY X p "tuple" gM := ⟨_, _, .inr ⟨_, rfl⟩, by decide +kernel, qh, hK ▸ AH, by decide, by decide⟩
theorem F8 (hK : X.K = p.K := by rfl) : nY X p "list" tI := ⟨_, _, .inr ⟨_, rfl⟩, by decide +kernel, sJ, hK ▸ CO, by decide, by decide⟩
theorem DL : nY X p "int" m4 := ⟨_, _, .inr ⟨_, rfl⟩, by decide +kernel, yv, Fp, by decide, by decide⟩
theorem wd (hc : X.calm = true := by rfl) (hK : X.K = p.K := by rfl) : nY X p "min" rD := ⟨_, _, .inl ⟨_, rfl⟩, by decide +kernel, (yp hc).or (yo hc), hK ▸ Fm, by decide, by decide⟩
theorem tM (hc : X.calm = true := by rfl) (hK : X.K = p.K := by rfl) : nY X p "max" nV := ⟨_, _, .inl ⟨_, rfl⟩, by decide +kernel, (yr hc).or (yq hc), hK ▸ Fn, by decide, by decide⟩
theorem wc (hu : X.A.units + 64 < cLine) (hc : X.calm = true := by rfl) (hK : X.K = p.K := by rfl) (hw : X.w = p.w := by rfl) : nY X p "set" lb := ⟨_, _, .inr ⟨_, rfl⟩, by decide +kernel, (yk hc hu).or (ym hc hu), by rw [hK, hw]; exact Fl, by decide, by decide⟩
theorem lV (hc : X.calm = true := by rfl) (hK : X.K = p.K := by rfl) (hw : X.w = p.w := by rfl) : nY X p "sorted" dk := ⟨_, _, .inl ⟨_, rfl⟩, by decide +kernel, (vV.or (vU hc)).or (vT hc), by rw [hK, hw]; exact xS, by decide, by decide⟩
theorem nZ {T : String} {xT : Str} {px pt : Pos} (hT : T ∈ ["int", "bool", "tuple", "list", "str", "dict"]) (hbT : bootBuiltins xT = some (.type T)) (hnT : xT ≠ "__name__") (hdT : (xT == ("__debug__" : Str)) = false) (hm : X.mg "isinstance" = none) (hmT : X.mg xT = none) (ha : Bx (PE X a (tD p fa))) (hg : Gl X "isinstance" := by rfl) (hgT : Gl X xT := by rfl) (hs1 : starEach [a, .Name xT pt] X.env = (false, eval a X.env) :: starEach [.Name xT pt] X.env := by rfl) (hK : X.K = p.K := by rfl) : Bx (PE X (.Call (.Name "isinstance" px) [a, .Name xT pt] [] pos) (tD p (pO (jn T) fa))) := ⟨EE hK hT hg hm hgT hmT hbT ha.h hnT hdT hs1⟩
theorem zK : bootBuiltins "int" = some (.type "int") := by decide +kernel
theorem se : bootBuiltins "bool" = some (.type "bool") := by decide +kernel
theorem uz : bootBuiltins "tuple" = some (.type "tuple") := by decide +kernel
theorem Eb {pl pr p1 : Pos} (hm : X.mg "range" = none) (hml : X.mg "list" = none) (ha : Bx (PA X [a] (mr p fr))) (hc : X.calm = true := by rfl) (hg : Gl X "range" := by rfl) (hgl : Gl X "list" := by rfl) (hs : starEach [a] X.env = [(false, eval a X.env)] := by rfl) : Bx (PE X (.Call (.Name "list" pl) [.Call (.Name "range" pr) [a] [] p1] [] pos) (tD p (aA mF fr))) := ⟨Ai hc hg hm hgl hml ha.h hs⟩
theorem bx (ha : Bx (PE X a (tD p fa))) (hb : Bx (PE X b (tD p fb))) (hs : sj b := by exact fun _ _ => rfl) (hK : X.K = p.K := by rfl) : Bx (PE X (.Subscript a b pos) (tD p (aw cO fa fb))) := ⟨G5 hK ha.h hb.h hs⟩
theorem lD {lo hi : Option Expr} {fl fh : MO} {p2 : Pos} (he : Bx (PE X e (tD p fa))) (hl : Bx (PO X lo (Do p fl))) (hu : Bx (PO X hi (Do p fh))) (hK : X.K = p.K := by rfl) : Bx (PE X (.Subscript e (.Slice lo hi none p2) pos) (tD p (sP fa fl fh))) := ⟨Ah hK he.h hl.h hu.h⟩
theorem GK {st : Expr} {fs : ME} {p2 : Pos} (he : Bx (PE X e (tD p fa))) (hs : Bx (PE X st (tD p fs))) (hK : X.K = p.K := by rfl) : Bx (PE X (.Subscript e (.Slice none none (some st) p2) pos) (tD p (aw yS fa fs))) := ⟨EB hK he.h hs.h⟩
theorem GM {fo : ME} {ob : Expr} {apos : Pos} (ho : Bx (PE X ob (tD p fo))) (ha : Bx (PA X [e] (mr p fr))) (hbase : attributeBase ob "pop" X.env (eval ob X.env) = eval ob X.env := by rfl) (hfew : ((backTo pos (starEach [e] X.env)).all (fun x => !x.1) && (backToKw pos (keywordEach [] X.env)).all (fun x => x.1.isSome)
   && decide ([e].length + ([] : List Keyword).length + (if ([] : List Keyword).isEmpty then 0 else 1) < 30)) = true := by rfl) (hline : (apos.endLine == pos.line) = true := by rfl) (hs : starEach [e] X.env = (false, eval e X.env) :: starEach [] X.env := by rfl) (hpl : (backTo pos (starEach [] X.env)).any (·.1) = false := by rfl) (hK : X.K = p.K := by rfl) : Bx (PE X (.Call (.Attribute ob "pop" apos) [e] [] pos) (tD p (Gc oq fo fr))) := ⟨Dt hK PySem.F.slot_list_pop PySem.F.type_list_pop AN CU ho.h ha.h hbase hfew hline hs hpl⟩
theorem GO {fo : ME} {ob : Expr} {apos : Pos} (ho : Bx (PE X ob (tD p fo))) (ha : Bx (PA X [e] (mr p fr))) (hbase : attributeBase ob "append" X.env (eval ob X.env) = eval ob X.env := by rfl) (hfew : ((backTo pos (starEach [e] X.env)).all (fun x => !x.1) && (backToKw pos (keywordEach [] X.env)).all (fun x => x.1.isSome)
   && decide ([e].length + ([] : List Keyword).length + (if ([] : List Keyword).isEmpty then 0 else 1) < 30)) = true := by rfl) (hline : (apos.endLine == pos.line) = true := by rfl) (hs : starEach [e] X.env = (false, eval e X.env) :: starEach [] X.env := by rfl) (hpl : (backTo pos (starEach [] X.env)).any (·.1) = false := by rfl) (hK : X.K = p.K := by rfl) : Bx (PE X (.Call (.Attribute ob "append" apos) [e] [] pos) (tD p (Gc kv fo fr))) := ⟨Dt hK PySem.F.slot_list_append PySem.F.type_list_append qI CV ho.h ha.h hbase hfew hline hs hpl⟩
variable {tg iter elt : Expr} {fi : MI} {g : MG} {u : DV}
theorem rm (hl : Bx (PE X e (tD p f))) (hK : X.K = p.K := by rfl) : Bx (PI X tg e (pL p (gG f))) := ⟨Ew hK hl.h⟩
theorem lF {px : Pos} (hm : X.mg "range" = none) (ha : Bx (PA X [a] (mr p fr))) (hg : Gl X "range" := by rfl) (hs : starEach [a] X.env = [(false, eval a X.env)] := by rfl) : Bx (PI X tg (.Call (.Name "range" px) [a] [] pos) (pL p (eA fX fr))) := ⟨xE hg hm ha.h hs⟩
theorem xl {px : Pos} (hm : X.mg "range" = none) (ha : Bx (PA X [a, b] (mr p fr))) (hg : Gl X "range" := by rfl) (hs : starEach [a, b] X.env = [(false, eval a X.env), (false, eval b X.env)] := by rfl) (hs2 : starEach [b] X.env = [(false, eval b X.env)] := by rfl) : Bx (PI X tg (.Call (.Name "range" px) [a, b] [] pos) (pL p (eA lE fr))) := ⟨xD hg hm ha.h hs hs2⟩
theorem Ir {px tpos : Pos} {elts : List Expr} {k1 : Nat} (hm : X.mg "enumerate" = none) (ha : Bx (PA X [a] (mr p fr))) (hg : Gl X "enumerate" := by rfl) (hs : starEach [a] X.env = [(false, eval a X.env)] := by rfl) (hK : X.K = p.K := by rfl) : Bx (PI X (.Tuple elts k1 tpos) (.Call (.Name "enumerate" px) [a] [] pos) (pL p (eA tG fr))) := ⟨BZ hK hg hm ha.h hs⟩
theorem iD (i : Nat) {x : Str} (hN : X.N.Nodup) (hi : X.N[i]? = some x := by rfl) (hx : Dp X.env.scope x := by first | exact Or.inl rfl | exact Or.inr rfl) (hf : X.fn x = true \/ X.env.scope.names.lookup x = some .local := by first | exact .inl rfl | exact .inr rfl) : Bx (PG X (.Name x pos) (mY p (ag i))) := ⟨B1 hN hi hx hf⟩
theorem qp  : Bx (uV X [] (sS p gR)) := ⟨B0⟩
theorem gK (h1 : Bx (PG X e (mY p g))) (h2 : Bx (uV X es (sS p u))) (hs : (assignEach (e :: es) X.env).map (·.2) = assign e X.env :: (assignEach es X.env).map (·.2) := by rfl) : Bx (uV X (e :: es) (sS p (bF g u))) := ⟨Ac h1.h h2.h hs⟩
theorem qo {k n : Nat} (h : Bx (uV X es (sS p u))) (hc : X.calm = true := by rfl) (hn : (assignEach es X.env).length = n := by rfl) (hst : (assignEach es X.env).findIdx? (·.1) = none := by rfl) (hK : X.K = p.K := by rfl) : Bx (PG X (.Tuple es k pos) (mY p (gQ n u))) := ⟨Ex hK hc h.h hn hst⟩
theorem v9 {fo fi : ME} (ho : Bx (PE X a (tD p fo))) (hi : Bx (PE X b (tD p fi))) (ha : ∀ v, assign (.Subscript a b pos) X.env v = (do
   let ov <- holding [v] (eval a X.env)
   let iv <- holding [v, ov] (eval b X.env)
   standAt pos
   holding [v, ov, iv] (setItem ov iv v)
   release [v, ov, iv] []) := by intro _; rfl) : Bx (PG X (.Subscript a b pos) (mY p (n9 fo fi))) := ⟨Ey ho.h hi.h ha⟩
variable {ifs : List Expr} {scope : Scope} {Nc : List Str} {cap : List (Option Nat)} {tt : MT} {te : ME}
theorem fx (S : cf X.N X.env scope Nc cap) (hi : Bx (PI X tg iter (pL p fi))) (hg : ∀ cl C s H fp, Bx (PG (i3 X Nc scope cl C s H fp) tg (mY p.nx g))) (ht : ∀ cl C s H fp, Bx (pP (i3 X Nc scope cl C s H fp) ifs (h8 p.nx tt))) (he : ∀ cl C s H fp, Bx (PE (i3 X Nc scope cl C s H fp) elt (tD p.nx te))) (hc : X.calm = true := by rfl) (hs : ∀ x, foldedSetIterable iter X.env x = pure x := by intro _; rfl) : Bx (PE X (.ListComp elt [⟨tg, iter, ifs, 0⟩] scope pos) (tD p (bS fi cap g tt te))) := ⟨B4 hc S hi.h (fun cl C s H fp => (hg cl C s H fp).h) (fun cl C s H fp => (ht cl C s H fp).h) (fun cl C s H fp => (he cl C s H fp).h) hs⟩
def si (gs : List Comprehension) : Bool := gs.all fun g => g.is_async == 0
theorem wm {gs : List Comprehension} (h : si gs = true) : ∀ g ∈ gs, g.is_async = 0 := fun g hg => eq_of_beq (LV.mp h g hg)
variable {mb : MB} {cl0 : Comprehension} {rest : List Comprehension} {d : Nat} {acc : Addr}
theorem IF {gens : List Comprehension} (hg : gens[d]? = none) (hel : Bx (PE X elt (tD p.nx te))) (hxe : X.xe = sQ := by rfl) : Bx (uW X (.ListComp elt gens scope pos) d acc (xh p.nx (oa te) acc)) := ⟨B7 hg hxe hel.h⟩
theorem IE {gens : List Comprehension} (hg : gens[d]? = some ⟨tg, iter, ifs, 0⟩) (hi : Bx (PI X tg iter (pL p.nx fi))) (hgc : Bx (PG X tg (mY p.nx g))) (htc : Bx (pP X ifs (h8 p.nx tt))) (hb : Bx (uW X (.ListComp elt gens scope pos) (d + 1) acc (xh p.nx mb acc)))
  (hz : si gens = true := by rfl) (hxe : X.xe = sQ := by rfl) (hc : X.calm = true := by rfl) (hs : ∀ x, foldedSetIterable iter X.env x = pure x := by intro _; rfl) : Bx (uW X (.ListComp elt gens scope pos) d acc (xh p.nx (om fi g tt mb) acc)) :=
 ⟨Al (e := .ListComp elt gens scope pos) (cl := ⟨tg, iter, ifs, 0⟩) rfl (wm hz) hg hxe hc hi.h hgc.h htc.h hb.h hs⟩
theorem B9 (i : Nat) {x : Str} {pos1 pos2 : Pos} (hN : X.N.Nodup) (S : cf X.N X.env scope Nc cap) (hi : Bx (PI X tg iter (pL p fi))) (hg : ∀ cl C s H fp, Bx (PG (i3 X Nc scope cl C s H fp) tg (mY p.nx g))) (ht : ∀ cl C s H fp, Bx (pP (i3 X Nc scope cl C s H fp) ifs (h8 p.nx tt))) (hb : ∀ cl C s H fp acc, Bx (uW (i3 X Nc scope cl C s H fp) (.ListComp elt (⟨tg, iter, ifs, 0⟩ :: rest) scope pos) 1 acc (xh p.nx mb acc))) (hz : si (⟨tg, iter, ifs, 0⟩ :: rest) = true := by rfl) (hix : X.N[i]? = some x := by rfl) (hx : X.env.scope.names.lookup x = some .local := by rfl) (hc : X.calm = true := by rfl) (hsw : swapsWith (.ListComp elt (⟨tg, iter, ifs, 0⟩ :: rest) scope pos) (some (.Name x pos1)) pos2.line X.env = pure true := by rfl) (hs : ∀ x, foldedSetIterable iter X.env x = pure x := by intro _; rfl) : Bx (PS X (.Assign [.Name x pos1] (.ListComp elt (⟨tg, iter, ifs, 0⟩ :: rest) scope pos) pos2) (iZ p (bz (mG fi cap g tt mb) (ag i)))) :=
 ⟨zU (cl0 := ⟨tg, iter, ifs, 0⟩) hc (wm hz) hN hix hx S hi.h (fun cl C s H fp => (hg cl C s H fp).h) (fun cl C s H fp => (ht cl C s H fp).h) (fun cl C s H fp acc => (hb cl C s H fp acc).h) hsw hs⟩
variable {fs gs : MS} {st : Stmt} {sts A B body : List Stmt}
theorem bW (i : Nat) {x : Str} {pos' : Pos} (hN : X.N.Nodup) (he : Bx (PE X e (tD p f))) (hi : X.N[i]? = some x := by rfl) (hx : Dp X.env.scope x := by first | exact Or.inl rfl | exact Or.inr rfl) (hs : swapsWith e (some (.Name x pos')) pos.line X.env = pure false := by rfl) (hf : X.fn x = true \/ X.env.scope.names.lookup x = some .local := by first | exact .inl rfl | exact .inr rfl) : Bx (PS X (.Assign [.Name x pos'] e pos) (iZ p (bz f (ag i)))) := ⟨Ek hN hi hx he.h hs hf⟩
theorem iV (i : Nat) {x : Str} {pos1 pos2 : Pos} (hN : X.N.Nodup) (S : cf X.N X.env scope Nc cap) (hi : Bx (PI X tg iter (pL p fi))) (hg : ∀ cl C s H fp, Bx (PG (i3 X Nc scope cl C s H fp) tg (mY p.nx g))) (ht : ∀ cl C s H fp, Bx (pP (i3 X Nc scope cl C s H fp) ifs (h8 p.nx tt))) (he : ∀ cl C s H fp, Bx (PE (i3 X Nc scope cl C s H fp) elt (tD p.nx te))) (hix : X.N[i]? = some x := by rfl) (hx : X.env.scope.names.lookup x = some .local := by rfl) (hc : X.calm = true := by rfl) (hsw : swapsWith (.ListComp elt [⟨tg, iter, ifs, 0⟩] scope pos) (some (.Name x pos1)) pos2.line X.env = pure true := by rfl) (hs : ∀ x, foldedSetIterable iter X.env x = pure x := by intro _; rfl) : Bx (PS X (.Assign [.Name x pos1] (.ListComp elt [⟨tg, iter, ifs, 0⟩] scope pos) pos2) (iZ p (bz (bS fi cap g tt te) (ag i)))) := ⟨BK hc hN hix hx S hi.h (fun cl C s H fp => (hg cl C s H fp).h) (fun cl C s H fp => (ht cl C s H fp).h) (fun cl C s H fp => (he cl C s H fp).h) hsw hs⟩
theorem v8 (he : Bx (PE X e (tD p f))) (hg : Bx (PG X tg (mY p g))) (hs : swapsWithSole [tg] e pos.line X.env = pure false := by rfl) (hw : swappedStores [tg] e X.env = pure none := by rfl) (h1 : (assignEach [tg] X.env).map (·.2) = [assign tg X.env] := by rfl) : Bx (PS X (.Assign [tg] e pos) (iZ p (bz f g))) := ⟨Ep he.h hg.h hs hw h1⟩
theorem zv (he : Bx (PE X e (tD p f))) (hs : swapsWith e none pos.line X.env = pure false := by rfl) : Bx (PS X (.Expr e pos) (iZ p (tu f))) := ⟨BL he.h hs⟩
theorem iL (hp : PassesOwn (model X.prog X.w) X.A X.env X.xe) (hi : Bx (PI X tg iter (pL p fi))) (hg : Bx (PG X tg (mY p g))) (hb : Bx (kO X body (iZ p fs))) (hc : X.calm = true := by rfl) (hs : ∀ x, foldedSetIterable iter X.env x = pure x := by intro _; rfl) : Bx (PS X (.For tg iter body [] pos) (iZ p (jX fi g fs))) := ⟨Eo hp hc hi.h hg.h hb.h hs⟩
end
section
variable {X : Cx} {p : Pa} {a b c e : Expr} {es rest : List Expr} {fa fb f : ME} {fr : MA} {ft gt : MT} {pos : Pos} {fs gs : MS} {st : Stmt} {sts A B : List Stmt}
theorem Dr (ha : Bx (PE X a (tD p fa))) : Bx (PE X (.UnaryOp .Not a pos) (tD p (tL fa))) := ⟨EC ha.h⟩
theorem tj (ha : Bx (PE X a (tD p fa))) (hb : Bx (PE X (.BoolOp .And (b :: rest) pos) (tD p fb))) : Bx (PE X (.BoolOp .And (a :: b :: rest) pos) (tD p (m6 fa fb))) := ⟨EH ha.h hb.h⟩
theorem Gj (hc : Bx (PT X c (h8 p ft))) (ha : Bx (PE X a (tD p fa))) (hb : Bx (PE X b (tD p fb))) : Bx (PE X (.IfExp c a b pos) (tD p (Gd ft fa fb))) := ⟨G6 hc.h ha.h hb.h⟩
theorem cn {k : Nat} (h : Bx (PA X es (mr p fr))) : Bx (PE X (.Tuple es k pos) (tD p (dA fr))) := ⟨EA h.h⟩
theorem d8 (h : Bx (PA X es (mr p fr))) : Bx (PE X (.List es pos) (tD p (fY fr))) := ⟨ED h.h⟩
theorem GJ : Bx (PE X (.Dict [] [] pos) (tD p Bv)) := ⟨EF⟩
theorem d4 : Bx (PO X none (Do p uS)) := ⟨BW⟩
theorem dj (h : Bx (PE X e (tD p f))) : Bx (PO X (some e) (Do p (f7 f))) := ⟨BV h.h⟩
theorem tf (ha : Bx (PT X a (h8 p ft))) : Bx (PT X (.UnaryOp .Not a pos) (h8 p (m5 ft))) := ⟨Ei ha.h⟩
theorem sR (h : Bx (PW X e (h8 p ft))) : Bx (PT X e (h8 p ft)) := ⟨h.h.pt⟩
theorem gy : Bx (pP X [] (h8 p bw)) := ⟨BH⟩
theorem lI (h : Bx (PT X c (h8 p ft))) : Bx (pP X [c] (h8 p ft)) := ⟨BG h.h⟩
theorem iK : Bx (kO X [] (iZ p fZ)) := ⟨En⟩
theorem aM (h1 : Bx (PS X st (iZ p fs))) (h2 : Bx (kO X sts (iZ p gs))) : Bx (kO X (st :: sts) (iZ p (bG fs gs))) := ⟨BM h1.h h2.h⟩
theorem aQ (h1 : Bx (PS X st (iZ p fs))) : Bx (kO X [st] (iZ p fs)) := ⟨Em h1.h⟩
theorem bK (h : Bx (PE X e (tD p f))) : Bx (PS X (.Return (some e) pos) (iZ p (cR f))) := ⟨El h.h⟩
theorem BB : Bx (PS X st (iZ p DW)) := ⟨zV⟩
theorem jm (hc : Bx (PT X c (h8 p ft))) (ha : Bx (kO X A (iZ p fs))) (hb : Bx (kO X B (iZ p gs))) : Bx (PS X (.If c A B pos) (iZ p (mq ft fs gs))) := ⟨G1 hc.h ha.h hb.h⟩
end
theorem cP {P : Program} {w : World} {K : W.Frag} {mg : Str -> Option Value} {base : Heap} {p : Pa} {k n : Nat} {x qual : Str} {st : Stmt} {f : Addr} {fd : FuncData} {N ps : List Str} {fb : MS}
  (F : iJ K x qual st f fd) (S : aY N ps (ar st)) (hn : ps.length = n) (hm : mg x = some (.ref f)) (hb : j4 K fd ps [])
  (body : ∀ (cdv : Value) (A : Around) (outer : List Env) (s : Shared) (H : Hp) (E : XK), ic k (A.deeper (envOfC qual (ar st) s.heap.objs.size f cdv)) ->
   Bx (kO (rE yJ P w K mg base N qual (ar st) f cdv A outer s H E).nox (cG st) (iZ p fb))) : d3 P w K mg base p (k + 1) x n (jK n N.length fb) :=
 F4 F S hn hm hb fun cdv A outer s H E hr => (body cdv A outer s H E hr).h
end L2
namespace L2
open PySem RS
section
variable {ρ : Ro} {μ : aB} {fa fb fc fd f : ME} {fr : MA} {ft gt : MT} {op o1 o2 o3 : D -> D -> aB -> ak D} {fs gs : MS} {g : MG}
@[simp] theorem af {d : D} {r : Ro} : ah 0 (some d :: r) μ = .ok d μ := MW (MX _)
@[simp] theorem aj {i : Nat} {x : Option D} {r : Ro} : ah (i + 1) (x :: r) μ = ah i r μ := MW (MX _)
@[simp] theorem aX {d : D} : cC d ρ μ = .ok d μ := MW (MX _)
@[simp] theorem az : aw op fa fb ρ μ = (fa ρ μ).bind fun a μ1 => (fb ρ μ1).bind fun b μ2 => op a b μ2 := MW (MX _)
@[simp] theorem gS {o : D -> aB -> ak D} : pO o fa ρ μ = (fa ρ μ).bind fun a μ1 => o a μ1 := MW (MX _)
@[simp] theorem ax : ay ρ μ = .ok [] μ := MW (MX _)
@[simp] theorem au : ae fa fr ρ μ = (fa ρ μ).bind fun a μ1 => (fr ρ μ1).bind fun r μ2 => .ok (a :: r) μ2 := MW (MX _)
@[simp] theorem aG {F : List D -> aB -> ak D} : aA F fr ρ μ = (fr ρ μ).bind F := MW (MX _)
@[simp] theorem bM : dA fr ρ μ = (fr ρ μ).bind fun ds μ => if ds.length <= sizeLine then .ok (.tup ds) μ else .bad := MW (MX _)
@[simp] theorem cL : fY fr ρ μ = (fr ρ μ).bind fun ds μ => if ds.length <= sizeLine then .ok (.obj μ.length) (μ ++ [.lst ds]) else .bad := MW (MX _)
@[simp] theorem aW {b : Bool} : Bg (.bl b) μ = .ok b μ := MW (MX _)
@[simp] theorem bR : gP f ρ μ = (f ρ μ).bind Bg := MW (MX _)
@[simp] theorem gY : kR ft gt ρ μ = (ft ρ μ).bind fun b μ1 => if b = true then gt ρ μ1 else .ok false μ1 := MW (MX _)
@[simp] theorem mC : sW ft gt ρ μ = (ft ρ μ).bind fun b μ1 => if b = true then .ok true μ1 else gt ρ μ1 := MW (MX _)
@[simp] theorem jv : m5 ft ρ μ = (ft ρ μ).bind fun b μ1 => .ok (!b) μ1 := MW (MX _)
@[simp] theorem ku : m6 fa fb ρ μ = (fa ρ μ).bind fun a μ1 => (Bg a μ1).bind fun b μ2 => if b = true then fb ρ μ2 else .ok (.bl false) μ2 := MW (MX _)
@[simp] theorem w6 : tL f ρ μ = (f ρ μ).bind fun a μ1 => (Bg a μ1).bind fun b μ2 => .ok (.bl (!b)) μ2 := MW (MX _)
@[simp] theorem DJ : Gd ft fa fb ρ μ = (ft ρ μ).bind fun b μ1 => if b = true then fa ρ μ1 else fb ρ μ1 := MW (MX _)
@[simp] theorem A2 : ot o1 o2 fa fb fc ρ μ = (fa ρ μ).bind fun a μ1 => (fb ρ μ1).bind fun b μ2 => (o1 a b μ2).bind fun z μ3 => (Bg z μ3).bind fun k μ4 =>
 if k = true then (fc ρ μ4).bind fun c μ5 => o2 b c μ5 else .ok (.bl false) μ4 := MW (MX _)
@[simp] theorem j7 : rF f ρ μ = (f ρ μ).bind uY := MW (MX _)
@[simp] theorem gU {b : Bool} : uY (.bl b) μ = .ok b μ := MW (MX _)
@[simp] theorem tF {fl fh : MO} : sP fa fl fh ρ μ = (fa ρ μ).bind fun a μ1 => (fl ρ μ1).bind fun lo μ2 => (fh ρ μ2).bind fun hi μ3 => sN a lo hi μ3 := MW (MX _)
@[simp] theorem rM : uS ρ μ = .ok none μ := MW (MX _)
@[simp] theorem ke : f7 f ρ μ = (f ρ μ).bind HF := MW (MX _)
@[simp] theorem oo {i : Int} : HF (.int i) μ = .ok (some i) μ := MW (MX _)
@[simp] theorem FY : Bv ρ μ = .ok (.obj μ.length) (μ ++ [.dic]) := MW (MX _)
@[simp] theorem DI {F : D -> List D -> aB -> ak D} {fo : ME} : Gc F fo fr ρ μ = (fo ρ μ).bind fun o μ1 => if Bk o μ1 = true then (fr ρ μ1).bind fun ds μ2 => F o ds μ2 else .bad := MW (MX _)
@[simp] theorem bo : cR f ρ μ = (f ρ μ).bindS fun d μ' => .ret d μ' := MW (MX _)
@[simp] theorem cF : fZ ρ μ = .next ρ μ := MW (MX _)
@[simp] theorem aN : bG fs gs ρ μ = (fs ρ μ).bind gs := MW (MX _)
@[simp] theorem bI : mq ft fs gs ρ μ = (ft ρ μ).bindS fun b μ1 => if b = true then fs ρ μ1 else gs ρ μ1 := MW (MX _)
@[simp] theorem bc : bz f g ρ μ = (f ρ μ).bindS fun d μ1 => (g d ρ μ1).bindS fun ρ' μ2 => .next ρ' μ2 := MW (MX _)
@[simp] theorem w9 : tu f ρ μ = (f ρ μ).bindS fun _ μ1 => .next ρ μ1 := MW (MX _)
@[simp] theorem aH {g : MS} : (SO.next ρ μ).bind g = g ρ μ := MW (MX _)
@[simp] theorem gI {d : D} {g : MS} : (SO.ret d μ).bind g = .ret d μ := MW (MX _)
@[simp] theorem wJ {g : MS} : (SO.next ρ μ).loop g = g ρ μ := MW (MX _)
@[simp] theorem aK {d : D} : (SO.ret d μ).out = .ok d μ := MW (MX _)
@[simp] theorem AG : (SO.next ρ μ).out = .ok .non μ := MW (MX _)
@[simp] theorem bH {i : Nat} {d : D} : ag i d ρ μ = .ok (ρ.set i (some d)) μ := MW (MX _)
@[simp] theorem nL {fo fi : ME} {d : D} : n9 fo fi d ρ μ = (fo ρ μ).bind fun o μ1 => (fi ρ μ1).bind fun i μ2 => (uZ o i d μ2).bind fun _ μ3 => .ok ρ μ3 := MW (MX _)
@[simp] theorem fA {fi : MI} : jX fi g fs ρ μ = (fi ρ μ).bindS fun src μ1 => iF src g fs src.items ρ μ1 := MW (MX _)
@[simp] theorem cy : gG f ρ μ = (f ρ μ).bind xj := MW (MX _)
@[simp] theorem bV {F : List D -> aB -> ak mZ} : eA F fr ρ μ = (fr ρ μ).bind F := MW (MX _)
@[simp] theorem ju {xs : List D} : xj (.tup xs) μ = .ok (.fix xs) μ := MW (MX _)
@[simp] theorem bE {fi : MI} {cap : List (Option Nat)} : bS fi cap g ft f ρ μ = (fi ρ μ).bind fun src μ1 => compLoop src μ1.length g ft f src.items (eB cap ρ) (μ1 ++ [.lst []]) := MW (MX _)
@[simp] theorem aR {xs : List D} : (mZ.fix xs).items = xs := MW (MX _)
@[simp] theorem cA {n : Nat} {xs : List D} : (mZ.own n xs).items = xs := MW (MX _)
theorem gL {N : Nat} {a : D} : jK 1 N fs [a] μ = qi μ (fs (some a :: List.replicate (N - 1) none) μ).out := Jl rfl
theorem dB {N : Nat} {a b : D} : jK 2 N fs [a, b] μ = qi μ (fs (some a :: some b :: List.replicate (N - 2) none) μ).out := Jl rfl
theorem vd {N : Nat} {a b c : D} : jK 3 N fs [a, b, c] μ = qi μ (fs (some a :: some b :: some c :: List.replicate (N - 3) none) μ).out := Jl rfl
@[simp] theorem dE {op : CmpOp} {i j : Int} : jW op (.int i) (.int j) μ = .ok (.bl (cY op i j)) μ := MW (MX _)
@[simp] theorem fB {i j : Int} : bf (.int i) (.int j) μ = .ok (.int (i + j)) μ := MW (MX _)
@[simp] theorem Hu {gg : Int -> Int -> D} {i j : Int} : dI gg (.int i) (.int j) μ = .ok (gg i j) μ := MW (MX _)
@[simp] theorem mE {C : Int -> Int -> Prop} {gg : Int -> Int -> D} {i j : Int} (h : C i j) : DS C gg (.int i) (.int j) μ = .ok (gg i j) μ := by unfold DS; simp [h]
@[simp] theorem HL {i j : Int} (h : sZ i j) : mx (.int i) (.int j) μ = .ok (.int (i * j)) μ := by unfold mx; simp [h]
@[simp] theorem lj {i : Int} : mw (.int i) μ = .ok (.int (-i)) μ := MW (MX _)
@[simp] theorem dQ {neg : Bool} {i j : Int} : jV neg (.int i) (.int j) μ = .ok (.bl (if neg then !(i == j) else i == j)) μ := MW (MX _)
@[simp] theorem FX {neg : Bool} {i j : Bool} : jV neg (.bl i) (.bl j) μ = .ok (.bl (if neg then !(i == j) else i == j)) μ := MW (MX _)
@[simp] theorem rN {neg : Bool} {a : D} : pT neg a .non μ = .ok (.bl (if neg then !a.isNon else a.isNon)) μ := MW (MX _)
@[simp] theorem jw {xs : List D} : i5 [.tup xs] μ = .ok (.int xs.length) μ := MW (MX _)
@[simp] theorem w8 {xs : List D} : i5 [.frz xs] μ = .ok (.int xs.length) μ := MW (MX _)
theorem Df {n : Nat} {xs : List D} (h : μ[n]? = some (.lst xs)) : i5 [.obj n] μ = .ok (.int xs.length) μ := by unfold i5 tJ; simp [h]
theorem De {n : Nat} {ks : List Int} (h : μ[n]? = some (.iset ks)) : i5 [.obj n] μ = .ok (.int ks.length) μ := by unfold i5; simp [h]
theorem jt {n : Nat} {xs : List D} (h : μ[n]? = some (.lst xs)) : gM [.obj n] μ = .ok (.tup xs) μ := by unfold gM; simp [h]
theorem nM {n : Nat} {bs : List Bool} (h : μ[n]? = some (.lst (bs.map D.bl))) : sU [.obj n] μ = .ok (.bl (bs.all id)) μ := by unfold sU; simp [h, yz]
theorem mD {xs : List D} {i : Int} {d : D} (h : atI xs i = some d) : cO (.tup xs) (.int i) μ = .ok d μ := by unfold cO; simp [h]
theorem FW {xs : List D} {i : Int} {d : D} (h : atI xs i = some d) : cO (.frz xs) (.int i) μ = .ok d μ := by unfold cO; simp [h]
theorem fy {n : Nat} {xs : List D} {i : Int} {d : D} (hm : μ[n]? = some (.lst xs)) (h : atI xs i = some d) : cO (.obj n) (.int i) μ = .ok d μ := by unfold cO; simp [hm, h]
theorem r8 {n j : Nat} {xs : List D} {i : Int} {d : D} (hm : μ[n]? = some (.lst xs)) (h : uT xs.length i = some j) : uZ (.obj n) (.int i) d μ = .ok () (μ.set n (.lst (xs.set j d))) := by unfold uZ; simp [hm, h]
theorem eR {n : Nat} {xs : List D} (hm : μ[n]? = some (.lst xs)) : xj (.obj n) μ = .ok (.own n xs) μ := by unfold xj; simp [hm]
theorem dD {j : Int} (h0 : 0 <= j) (h : j < 1000) : fX [.int j] μ = .ok (.fix (bq 0 j.toNat)) μ := by
 unfold fX; dsimp only; rw [Jl]; omega
theorem lQ {i j : Int} (h0 : 0 <= i) (h1 : i < 1000) (h2 : -1000 <= j) (h : j < 1000) : lE [.int i, .int j] μ = .ok (.fix (bq i (j - i).toNat)) μ := by
 unfold lE; dsimp only; rw [Jl]; omega
theorem m7 {α : Type} {x : α} {r : List α} : atI (x :: r) 0 = some x := by unfold atI uT; simp
theorem zo {α : Type} {x y : α} {r : List α} : atI (x :: y :: r) 1 = some y := sf (j := 1) rfl
theorem DM {α : Type} {x y z : α} {r : List α} : atI (x :: y :: z :: r) 2 = some z := sf (j := 2) rfl
@[simp] theorem bO {x : D} {r : List D} : cO (.tup (x :: r)) (.int 0) μ = .ok x μ := mD m7
@[simp] theorem gX {x y : D} {r : List D} : cO (.tup (x :: y :: r)) (.int 1) μ = .ok y μ := mD zo
theorem mH {α : Type} {xs : List α} {i : Int} {x : α} (h0 : 0 <= i) (h : xs[i.toNat]? = some x) : atI xs i = some x := by
 have := sf h
 rwa [show ((i.toNat : Nat) : Int) = i by omega] at this
theorem rL {n : Nat} {i : Int} (h0 : 0 <= i) (h : i < n) : uT n i = some i.toNat := by unfold uT; simp [h0, h]
end
section
variable {μ g : aB} {d : D}
@[simp] theorem C1 {n : Nat} {i : Int} : (D.int i).low n = True := by simp [D.low]
@[simp] theorem IJ {n : Nat} {i : Bool} : (D.bl i).low n = True := by simp [D.low]
@[simp] theorem HK {n : Nat} : D.non.low n = True := by simp [D.low]
@[simp] theorem wI {n : Nat} {xs : List D} : (D.tup xs).low n = D.lows n xs := by simp [D.low]
@[simp] theorem HJ {n m : Nat} : (D.obj m).low n = (m < n) := by simp [D.low]
@[simp] theorem Hy {n : Nat} : D.lows n [] = True := by simp [D.lows]
@[simp] theorem Gf {n : Nat} {x : D} {xs : List D} : D.lows n (x :: xs) = (x.low n /\ D.lows n xs) := by simp [D.lows]
theorem gB {n : Nat} : ∀ {xs : List D}, D.lows n xs ↔ ∀ x ∈ xs, x.low n
 | [] => by simp
 | x :: xs => by simp [gB (xs := xs)]
theorem gJ (hd : d.low μ.length) : qi μ (.ok d (μ ++ g)) = .ok d μ := by
 unfold qi
 dsimp only
 rw [Jl]
 ·simp
 ·refine ⟨hd, by simp, fun i o hi h => .inl ?_⟩
  rw [Kd hi] at h
  exact h
theorem bU (hd : d.low μ.length) : qi μ (.ok d μ) = .ok d μ := by
 have := gJ (μ := μ) (g := []) hd
 simpa using this
theorem vc {i : Nat} {o : O} (hd : d.low μ.length) (ho : o.low μ.length) : qi μ (.ok d (μ.set i o ++ g)) = .ok d (μ.set i o) := by
 unfold qi
 dsimp only
 rw [Jl]
 ·congr 1
  rw [Nk (by simp)]
  exact Lx (by simp)
 ·refine ⟨hd, by simp, fun j o' hj h => ?_⟩
  rw [Kd (by simpa using hj)] at h
  by_cases hij : i = j
  ·subst hij
   rw [JF hj] at h
   cases h
   exact .inr ho
  ·rw [JG hij] at h
   exact .inl h
theorem wZ {i : Nat} {o : O} (hd : d.low μ.length) (ho : o.low μ.length) : qi μ (.ok d (μ.set i o)) = .ok d (μ.set i o) := by
 have := vc (μ := μ) (g := []) (i := i) hd ho
 simpa using this
theorem n8 {μ' : aB} (h : ¬ d.low μ.length) : qi μ (.ok d μ') = .ok d μ' := by
 unfold qi
 dsimp only
 rw [Jm fun z => h z.1]
theorem zH {μ' : aB} : qi μ (.ok d μ') = .ok d μ' \/ (qi μ (.ok d μ') = .ok d (μ'.take μ.length) /\ d.low μ.length) := by
 unfold qi
 dsimp only
 by_cases h : DY μ μ' d
 ·rw [Jl h]; exact .inr ⟨rfl, h.1⟩
 ·rw [Jm h]; exact .inl rfl
end
theorem i7 {μ1 g : aB} {a b : O} : (μ1 ++ a :: g).set μ1.length b = μ1 ++ b :: g := by
 rw [List.set_append_right _ _ (JV _), LP]; rfl
theorem ao {μ1 g : aB} {a : O} : (μ1 ++ a :: g)[μ1.length]? = some a := by
 rw [Kc (JV _), LP]; rfl
theorem kB {μ1 g : aB} {ys : List D} {y : D} (h : ys.length < sizeLine) : qm μ1.length y (μ1 ++ .lst ys :: g) = .ok () (μ1 ++ .lst (ys ++ [y]) :: g) := by
 unfold qm
 rw [ao]
 dsimp only
 rw [Jl h, i7]
theorem fm {src : mZ} {g : MG} {t : MT} {e : ME} {μ1 : aB} {q : D -> Bool} {h : D -> D} (R : Ro -> Prop) (ho : ∀ a, cZ src (μ1 ++ [.lst a])) :
  ∀ {xs acc : List D} {ρ : Ro}, R ρ -> acc.length + xs.length <= sizeLine -> (∀ x ∈ xs, ∀ a ρ, R ρ -> ∃ ρ1, R ρ1 /\ g x ρ (μ1 ++ [.lst a]) = .ok ρ1 (μ1 ++ [.lst a]) /\ t ρ1 (μ1 ++ [.lst a]) = .ok (q x) (μ1 ++ [.lst a]) /\ (q x = true -> e ρ1 (μ1 ++ [.lst a]) = .ok (h x) (μ1 ++ [.lst a]))) ->
   compLoop src μ1.length g t e xs ρ (μ1 ++ [.lst acc]) = .ok (.obj μ1.length) (μ1 ++ [.lst (acc ++ (xs.filter q).map h)])
 | [], acc, ρ, hr, hl, he => by
  unfold compLoop
  rw [Jl (ho acc)]
  simp
 | x :: xs, acc, ρ, hr, hl, he => by
  obtain ⟨ρ1, r1, e1, e2, e3⟩ := he x Jx acc ρ hr
  unfold compLoop
  rw [Jl (ho acc), e1]
  simp only [bJ, aa]
  rw [e2]
  simp only [bJ, aa]
  have he' := fun y hy => he y (Jy _ hy)
  simp only [K2] at hl
  cases hq : q x with
  | false =>
   rw [Jm J1, fm R ho r1 (by omega) he', Nl, hq]
   rfl
  | true =>
   rw [Jl rfl, e3 hq]
   simp only [bJ, aa]
   rw [kB (by omega)]
   simp only [aa]
   rw [fm R ho r1 (by simp; omega) he', Nl, hq]
   simp
theorem gE {src : mZ} {g : MG} {t : MT} {e : ME} {n : Nat} (J : List D -> List D -> Ro -> aB -> aB -> Prop)
  (fin : ∀ ys ρ μ1 s, J [] ys ρ μ1 s -> μ1.length = n /\ cZ src (μ1 ++ .lst ys :: s))
  (step : ∀ x r ys ρ μ1 s, J (x :: r) ys ρ μ1 s -> μ1.length = n /\ cZ src (μ1 ++ .lst ys :: s) /\ ∃ ρ1 μa sa b μb sb, g x ρ (μ1 ++ .lst ys :: s) = .ok ρ1 (μa ++ .lst ys :: sa) /\ t ρ1 (μa ++ .lst ys :: sa) = .ok b (μb ++ .lst ys :: sb) /\
   (b = true -> ∃ y μc sc, e ρ1 (μb ++ .lst ys :: sb) = .ok y (μc ++ .lst ys :: sc) /\ ys.length < sizeLine /\ μc.length = n /\ J r (ys ++ [y]) ρ1 μc sc) /\ (b = false -> J r ys ρ1 μb sb)) :
  ∀ {xs ys : List D} {ρ : Ro} {μ1 s : aB}, J xs ys ρ μ1 s -> ∃ ys' ρ' μ1' s', J [] ys' ρ' μ1' s' /\ compLoop src n g t e xs ρ (μ1 ++ .lst ys :: s) = .ok (.obj n) (μ1' ++ .lst ys' :: s')
 | [], ys, ρ, μ1, s, hJ => by
  refine ⟨ys, ρ, μ1, s, hJ, ?_⟩
  unfold compLoop
  rw [Jl (fin ys ρ μ1 s hJ).2]
 | x :: xs, ys, ρ, μ1, s, hJ => by
  obtain ⟨hn, ho, ρ1, μa, sa, b, μb, sb, e1, e2, e3, e4⟩ := step x xs ys ρ μ1 s hJ
  unfold compLoop
  rw [Jl ho, e1]
  simp only [bJ, aa]
  rw [e2]
  simp only [bJ, aa]
  cases b with
  | false =>
   rw [Jm J1]
   exact gE J fin step (e4 rfl)
  | true =>
   obtain ⟨y, μc, sc, f1, f2, f3, f4⟩ := e3 rfl
   rw [Jl rfl, f1]
   simp only [bJ, aa]
   subst f3
   rw [kB f2]
   simp only [aa]
   exact gE J fin step f4
theorem d5 {src : mZ} {g : MG} {fb : MS} (J : List D -> Ro -> aB -> Prop) (fin : ∀ ρ μ, J [] ρ μ -> cZ src μ)
  (step : ∀ x r ρ μ, J (x :: r) ρ μ -> cZ src μ /\ ∃ ρ1 μ1 ρ2 μ2, g x ρ μ = .ok ρ1 μ1 /\ fb ρ1 μ1 = .next ρ2 μ2 /\ J r ρ2 μ2) :
  ∀ {xs : List D} {ρ : Ro} {μ : aB}, J xs ρ μ -> ∃ ρ' μ', J [] ρ' μ' /\ iF src g fb xs ρ μ = .next ρ' μ'
 | [], ρ, μ, h => ⟨ρ, μ, h, by unfold iF; rw [Jl (fin ρ μ h)]⟩
 | x :: xs, ρ, μ, h => by
  obtain ⟨ho, ρ1, μ1, ρ2, μ2, e1, e2, h2⟩ := step x xs ρ μ h
  obtain ⟨ρ', μ', h3, e3⟩ := d5 J fin step h2
  refine ⟨ρ', μ', h3, ?_⟩
  unfold iF
  rw [Jl ho, e1]
  simp only [ab]
  rw [e2]
  exact e3
end L2
namespace L2
open PySem PySem.Spec PyProof.Rows RS
theorem Hs {P : Program} {w : World} {K : W.Frag} {mg : Str -> Option Value} {base : Heap} {p : Pa} {k n : Nat} {x qual : Str} {st : Stmt} {f : Addr} {fd : FuncData} {N ps : List Str} {fb : MS}
  (F : iJ K x qual st f fd) (S : aY N ps (ar st)) (hn : ps.length = n)
  (body : ∀ (cdv : Value) (A : Around) (outer : List Env) (s : Shared) (H : Hp) (E : XK), ic k (A.deeper (envOfC qual (ar st) s.heap.objs.size f cdv)) ->
   Bx (kO (rE yJ P w K mg base N qual (ar st) f cdv A outer s H E).nox (cG st) (iZ p fb))) : pU P w K mg base yJ (k + 1) f fd ps (DQ p n (jK n N.length fb)) := by
 refine F.ok S (fun vs H Q E h => h.1.trans hn.symm) fun cdv A outer s H vs Q E hr h => ?_
 refine ⟨_, (body cdv A outer s H E hr).h, ?_⟩
 obtain ⟨hl, α, ds, μ, S1, R1, P1⟩ := h
 unfold jK at P1
 have hd : ds.length = n := by rw [<- R1.length]; exact hl
 rw [Jl hd] at P1
 have P2 := wY S1 P1
 unfold start
 rw [hl]
 refine ⟨α, _, μ, S1, pj R1 _, ?_⟩
 cases e : fb (ds.map some ++ List.replicate (N.length - n) none) μ with
 | ret d μ' => rw [e] at P2; exact fun H' α' v x s r => P2 H' α' x s v r
 | next ρ μ' => rw [e] at P2; exact fun H' α' σ' x s r => P2 H' α' x s .non (bL.mpr rfl)
 | exc x μ' => rw [e] at P2; exact P2
 | brk ρ μ' => rw [e] at P2; exact P2.elim
 | cnt ρ μ' => rw [e] at P2; exact P2.elim
 | bad => rw [e] at P2; exact P2.elim
theorem qC {K : W.Frag} {H : Hp} {α : List Addr} : ∀ ns : List Int, Reps K H α (ns.map D.int) (ns.map V.int)
 | [] => by simp only [KE, Reps]
 | n :: ns => by
  simp only [KF, Reps]
  exact ⟨_, _, rfl, aq.mpr rfl, qC ns⟩
theorem AR {K : W.Frag} {w : World} {F : List D -> aB -> ak D} {H : Hp} {a : Addr} {ns : List Int} {E : XK} (hF : ∃ μ', F [.frz (ns.map D.int)] [] = .ok (.bl true) μ') (hO : Bw H) (hS : fw K H a (ns.map V.int)) :
  DQ (dZ K w) 1 F [.ref a] H (fun v _ => v = .bl true) E := by
 obtain ⟨μ', e⟩ := hF
 have fz : Dq K H a (ns.map V.int) := by
  rcases hS with (h | h) | h
  ·rcases hO a with z | ⟨o, xs, z⟩
   ·rw [h] at z; cases z
   ·rw [h] at z; cases z
  ·exact .inl h
  ·exact .inr h
 refine ⟨rfl, [], [.frz (ns.map D.int)], [], ⟨rfl, LO, fun n o a h => by simp at h⟩, ?_, ?_⟩
 ·simp only [Reps]
  exact ⟨_, _, rfl, bp.mpr ⟨a, _, rfl, fz, qC ns⟩, rfl⟩
 ·rw [e]
  exact fun H' α' x s v r => bh.mp r
end L2
namespace L2
open PySem PySem.Spec PyProof.Rows RS
section
variable {X : Cx} {p : Pa}
def u9 (K : W.Frag) : List V -> Hp -> VK -> Prop := fun xs H Q => ∃ a d, xs = [.ref a] /\ lB K H d (.ref a) /\ d.showable = true /\ d.hasDict = false /\ d.depth <= 60 /\ d.shown.length <= sizeLine /\ Q (.str d.shown) H
theorem vW (hu : X.A.units + 64 < cLine) (hg : X.A.guards = some []) : cE X (.builtin "repr") (u9 X.K) := by
 intro pins s σ H xs us Q I r h
 obtain ⟨a, d, rfl, h1, hs, hd, hdp, hz, q⟩ := h
 obtain ⟨u, rfl, ru⟩ := eC r
 cases ru
 obtain ⟨as, r1⟩ := cH I d (.ref a) (.ref a) h1 rfl
 exact PySem.repr_of_reads' (h₀ := s.heap) r1 hs (by rw [hd]; nofun) hg (by omega) (fun _ _ e => e) (fun h' u tk hk => ⟨.str _, H, I.kept hk, ⟨u, rfl⟩, q⟩) hz
def zG : D -> Bool
 | .tup _ => true
 | .frz _ => true
 | .obj _ => true
 | _ => false
def rK (q : PyData) : Bool := q.showable && !q.hasDict && decide (q.depth <= 60) && decide (q.shown.length <= sizeLine)
def tH (ds : List D) (μ : aB) : ak D := match ds with
 | [d] => match kN μ d with
  | some q => if zG d = true /\ rK q = true then .ok (.str q.shown) μ else .bad
  | none => .bad
 | _ => .bad
theorem vI {K : W.Frag} {H : Hp} {α : List Addr} {d : D} {v : V} (h : zG d = true) (r : aJ K H α d v) : ∃ a, v = .ref a := by
 cases d with
 | tup xs => obtain ⟨a, us, rfl, _⟩ := aF.mp r; exact ⟨a, rfl⟩
 | frz xs => obtain ⟨a, us, rfl, _⟩ := bp.mp r; exact ⟨a, rfl⟩
 | obj n => obtain ⟨a, rfl, _⟩ := aO.mp r; exact ⟨a, rfl⟩
 | _ => cases h
theorem CK : sO p tH (u9 p.K) := by
 intro ds vs H α μ Q S r P
 unfold tH at P
 split at P
 ·rename_i d
  split at P
  ·rename_i q hq
   split at P
   ·rename_i hf
    obtain ⟨v, rfl, r1⟩ := r.one
    obtain ⟨a, rfl⟩ := vI hf.1 r1
    have h2 := hf.2
    unfold rK at h2
    simp only [KC, Nn, Nb] at h2
    exact ⟨a, q, rfl, jo S hq r1, h2.1.1.1, h2.1.1.2, h2.1.2, h2.2, P.now S _ (bA.mpr rfl)⟩
   ·exact P.elim
  ·exact P.elim
 ·exact P.elim
def u5 (neg : Bool) (a b : D) (μ : aB) : ak D := match a, b with
 | .str x, .str y => .ok (.bl (if neg then !decide (x = y) else decide (x = y))) μ
 | _, _ => .bad
theorem BI {x y : Str} : decide (V.str x = V.str y) = decide (x = y) := by
 by_cases e : x = y
 ·subst e; simp
 ·rw [Ji e, Ji]
  intro z; cases z; exact e rfl
theorem Fs : rp p (u5 true) HP := by
 intro a b v y H α μ Q S ra rb P
 unfold u5 at P
 split at P
 ·rename_i x z
  obtain rfl := bA.mp ra
  obtain rfl := bA.mp rb
  exact ⟨rfl, by rw [BI]; exact P.now S _ (bh.mpr rfl)⟩
 ·exact P.elim
theorem DG : nB X p .NotEq (u5 true) := ⟨HP, Hj, Fs⟩
end
end L2
namespace L2
open PySem PySem.W PyProof.Rows RS
section
variable {prog : Program} {w : World} {A : Around} {E : Value -> Shared -> Prop}
theorem FU {id : String} {b : Builtin} {us : List Value} {kw : List (Str × Value)} {Q : Value -> Shared -> Prop} {s : Shared} (h1 : builtinKind id = none) (h2 : plainId id = true) (h3 : entryFor table id = some b) (h4 : argsOk id ⟨us, kw⟩)
  (go : wpAny (model prog w) A.in1 (b ⟨us, kw⟩) (fun fin s' => match fin with
   | .done f => (match (Except.ok f : Result) with | .ok (.ret v) => Q v s' | .ok _ => False | .error e => E e s')
   | .again c => c.quiet = true /\ codeAny (model prog w) A c (fun r s' => match r with | .ok (.ret v) => Q v s' | .ok _ => False | .error e => E e s') s') E s) : wpAny (model prog w) A (call (.builtin id) us kw) Q E s := by
 refine wpAny_call (Mj h2 h3 ?_)
 simp only [checkBuiltinCall, h1]
 cases z : Manifest.signature? id with
 | none => exact JQ go
 | some sg =>
  have z2 : Bind.checkArgs id sg ⟨us, kw⟩ = pure () := by simpa only [argsOk, z] using h4
  simp only [z2]
  exact JQ go
def GF (vs : Array Value) (c : Nat) : Obj := { cls := .type "list", dict := none, data := .seq vs c, slots := #[] }
abbrev Kp (s0 : Shared) (h : Heap) : Prop := ∀ b ob, s0.heap.get? b = some ob -> h.get? b = some ob
theorem stay {s0 : Shared} (hA : A.in1.handled = none) {its : List Value} {J S l : Addr} (n1 : J ≠ S) (n2 : l ≠ S) (n3 : l ≠ J) (n4 : s0.heap.get? J = none) (n5 : s0.heap.get? S = none) {v0 : Value} {kw : List (Str × Value)} {R : Result -> Shared -> Prop}
  (hc : ∀ (i : Nat) v, 1 <= i -> its[i]? = some v -> ∀ h tk, Kp s0 h -> xn .Lt A.in1 { s0 with heap := h, toks := tk } v v0 false)
  (hR : ∀ h tk, Kp s0 h -> R (.ok (.ret v0)) { s0 with heap := h, toks := tk }) :
  ∀ (k j : Nat) (h : Heap) (tk c : Nat), its.length - j = k -> 1 <= j -> j <= its.length -> Kp s0 h -> h.IsListIter J l j -> h.IsList l its.toArray -> h.get? S = some (GF #[v0, v0] c) ->
   codeAny (model prog w) A (.builtin "min.loop" ⟨[.ref J, .none, .ref S], kw⟩) R { s0 with heap := h, toks := tk } := by
 have nm : (toString "min" ++ toString ".loop" : String) = "min.loop" := by decide
 have Wk := Mn (prog := prog) (w := w) (A := A.in1) hA J l n3 its.toArray
 have kJ : ∀ {h h' : Heap}, Kp s0 h -> (∀ b o, b ∉ [J] -> h.get? b = some o -> h'.get? b = some o) -> Kp s0 h' := fun k1 k2 b ob e => k2 b ob (fun z => by
  simp only [Jz, Lj, Lk] at z
  subst z; rw [n4] at e; cases e) (k1 b ob e)
 have kS : ∀ {h : Heap} {o : Obj -> Obj}, Kp s0 h -> Kp s0 (h.update S o) := fun k1 b ob e => by
  have : S ≠ b := fun z => by subst z; rw [n5] at e; cases e
  exact (KH _ _ this).trans (k1 b ob e)
 intro k
 induction k with
 | zero =>
  intro j h tk c hk h1 hj kp hi hl hS
  have je : j = its.length := by omega
  subst je
  refine Mc Np ?_
  rw [Md Nq _]
  refine JM (Lg (a := S) hS rfl ?_)
  refine JM (Nr (Wk.done _ _ _ (by simpa using (⟨hi, hl⟩ : h.IsListIter J l its.length /\ _)) fun h' tk' hm => ?_))
  have hS' := hm S _ (by simpa using n1.symm) hS
  refine JM (m := updateSeq S fun _ => #[]) ?_
  exact wpAny_updateSeq hS' rfl (JM (wpAny_letGo (JQ (hR _ _ (kS (kJ kp hm))))))
 | succ k ih =>
  intro j h tk c hk h1 hj kp hi hl hS
  have jl : j < its.length := by omega
  refine Mc Np ?_
  rw [Md Nq _]
  refine JM (Lg (a := S) hS rfl ?_)
  refine JM (Nr (Wk.item j _ _ _ (by simpa using jl) ⟨hi, hl⟩ fun v h' tk' hP hst hm => ?_))
  have hS' := hm S _ (by simpa using n1.symm) hS
  have kp' := kJ kp hm
  refine JM (m := tryCatch (holding [v, v] (richCompare .Lt v v0 >>= _)) _) (Nr (JN (JM (hc j v h1 (by simpa using hP) h' tk' kp' prog w _ _ ?_))))
  refine JM (JN (JI (JM (wpAny_letGo (JQ ?_)))))
  simp only [K1, Ko]
  refine JM (wpAny_letGo ?_)
  rw [nm]
  exact JQ ⟨Mf Nq _, ih (j + 1) h' tk' c (by omega) (by omega) jl kp' hst.1 hst.2 hS'⟩
theorem F7 {s0 : Shared} (hA : A.in1.handled = none) {its : List Value} {J S l : Addr} (n1 : J ≠ S) (n2 : l ≠ S) (n3 : l ≠ J) (n4 : s0.heap.get? J = none) (n5 : s0.heap.get? S = none) {d : Value} {R : Result -> Shared -> Prop}
  (hc : ∀ v0, its[0]? = some v0 -> ∀ (i : Nat) v, 1 <= i -> its[i]? = some v -> ∀ h tk, Kp s0 h -> xn .Lt A.in1 { s0 with heap := h, toks := tk } v v0 false)
  (hR : ∀ h tk, Kp s0 h -> R (.ok (.ret (its.head?.getD d))) { s0 with heap := h, toks := tk }) {h : Heap} {tk c : Nat} (kp : Kp s0 h) (hi : h.IsListIter J l 0) (hl : h.IsList l its.toArray) (hS : h.get? S = some (GF #[] c)) :
  codeAny (model prog w) A (.builtin "min.loop" ⟨[.ref J, .none, .ref S], [(Str.ofString "default", d)]⟩) R { s0 with heap := h, toks := tk } := by
 have nm : (toString "min" ++ toString ".loop" : String) = "min.loop" := by decide
 have Wk := Mn (prog := prog) (w := w) (A := A.in1) hA J l n3 its.toArray
 have kJ : ∀ {h h' : Heap}, Kp s0 h -> (∀ b o, b ∉ [J] -> h.get? b = some o -> h'.get? b = some o) -> Kp s0 h' := fun k1 k2 b ob e => k2 b ob (fun z => by
  simp only [Jz, Lj, Lk] at z
  subst z; rw [n4] at e; cases e) (k1 b ob e)
 have kS : ∀ {h : Heap} {o : Obj -> Obj}, Kp s0 h -> Kp s0 (h.update S o) := fun k1 b ob e => by
  have : S ≠ b := fun z => by subst z; rw [n5] at e; cases e
  exact (KH _ _ this).trans (k1 b ob e)
 refine Mc Np ?_
 rw [Md Nq _]
 refine JM (Lg (a := S) hS rfl ?_)
 cases its with
 | nil =>
  refine JM (Nr (Wk.done _ _ _ (by simpa using (⟨hi, hl⟩ : h.IsListIter J l 0 /\ _)) fun h' tk' hm => ?_))
  exact JM (K9 (JQ (hR _ _ (kJ kp hm))))
 | cons v0 r =>
  refine JM (Nr (Wk.item 0 _ _ _ (by simp) ⟨hi, hl⟩ fun v h' tk' hP hst hm => ?_))
  have hv : v = v0 := by simpa using hP.symm
  subst hv
  have hS' := hm S _ (by simpa using n1.symm) hS
  refine JM (m := updateSeq S fun _ => #[v, v]) ?_
  refine wpAny_updateSeq hS' rfl ?_
  rw [nm]
  refine JQ ⟨Mf Nq _, stay hA (its := v :: r) n1 n2 n3 n4 n5 (hc v rfl) hR (r.length) 1 _ tk' _ (by simp) (JV _) (by simp) (kS (kJ kp hm)) ?_ ?_ (KG _ hS' rfl)⟩
  ·exact hst.1.at fun o e => (KH _ _ n1.symm).trans e
  ·exact hst.2.at fun o e => (KH _ _ n2.symm).trans e
end
section
variable {X : Cx}
theorem wF {h : Heap} {a : Addr} (k : h.objs.size <= a) : h.get? a = none := by
 cases e : h.get? a with
 | none => rfl
 | some o => exact absurd (Jo e) (Nat.not_lt.mpr k)
def za (K : W.Frag) : List V -> Hp -> VK -> Prop := fun xs H Q => ∃ (a : Addr) (vs : List V), xs = [.ref a] /\ fw K H a vs /\ (∀ v0, vs[0]? = some v0 -> ∀ v ∈ vs, ∃ p q, lB K H p v /\ lB K H q v0 /\ dN p = true /\ dN q = true /\ gx .Lt p q = some false) /\ Q (vs.head?.getD .non) H
theorem yB (x d : Value) : argsOk "min" ⟨[x], [(Str.ofString "default", d)]⟩ := by unfold argsOk; kernel_rfl
theorem yn (hc : X.calm = true) (hu : X.A.units + 64 < cLine) {pins : List (Addr × Obj)} {s : Shared} {σ : St} {H : Hp} {xs : List V} {us : List Value} {Q : VK} (I : aT X pins σ H s) (r : bb xs us) (h : za X.K xs H Q) :
  wpAny (model X.prog X.w) X.A (call (.builtin "min") us [(Str.ofString "default", Value.none)]) (EP X pins σ Q) X.xe s := by
 obtain ⟨a, vs, rfl, ha, hcm, q⟩ := h
 obtain ⟨u, rfl, ru⟩ := eC r
 cases ru
 obtain ⟨its, rv, pl, hz⟩ := I.list ha
 have alt : a < s.heap.objs.size := by obtain ⟨o, n, e, _⟩ := pl; exact Jo e
 have nm : (toString "min" ++ toString ".loop" : String) = "min.loop" := by decide
 refine FU F.kind_min F.plain_min F.entry_min (yB _ _) ?_
 refine JM (m := Builtin.Builtins.bindParams "min" ["key", "default"] 0 ⟨[], [(Str.ofString "default", Value.none)]⟩) (La (a := [none, some Value.none]) rfl ?_)
 refine JM (JQ ?_)
 refine JM (Ml pl.isList ?_)
 refine JM (KD ?_)
 rw [nm]
 refine JQ ⟨Mf Nq _, F7 (s0 := s) (A := X.A) (show X.A.in1.handled = none from I.ok.hd hc) (its := its) (J := s.heap.objs.size) (l := a) ?_ ?_ (Jr alt) ?_ ?_ ?_ ?_ ?_ ?_ ?_ (JU _ rfl)⟩
 ·rw [MH]; exact Jr (K3 _)
 ·rw [MH]; exact Jr (K4 alt)
 ·exact wF (JV _)
 ·rw [MH]; exact wF (KO _)
 ·intro v0 e0 i v hi ev h tk kp pr wo E' Q' hQ
  have i0 : (0 : Nat) < vs.length := by
   have := (JD.mp e0).1
   rw [rv.length]; exact this
  have i1 : i < vs.length := by
   have := (JD.mp ev).1
   rw [rv.length]; exact this
  obtain ⟨u0, e0', r0⟩ := rv.get (MN i0)
  obtain ⟨u1, e1', r1⟩ := rv.get (MN i1)
  rw [e0] at e0'; cases e0'
  rw [ev] at e1'; cases e1'
  obtain ⟨p, q, h1, h2, h3, h4, h5⟩ := hcm _ (MN i0) _ (MM i1)
  have I' : aT X pins σ H { s with heap := h, toks := tk } := I.kept kp
  obtain ⟨as, k1⟩ := cH I' p _ _ h1 r1
  obtain ⟨bs, k2⟩ := cH I' q _ _ h2 r0
  refine oC rfl p q X.A.in1 _ _ _ as bs false k1 k2 (cj h3) (cj h4) ?_ h5 pr wo E' Q' hQ
  unfold dN at h3
  simp only [KC, Nb] at h3
  have := Nat.min_le_left p.depth q.depth
  show X.A.units + 1 + _ < _
  omega
 ·intro h tk kp
  refine ⟨_, H, I.kept kp, ?_, q⟩
  cases rv with
  | nil => rfl
  | cons r rr => exact r
 ·exact fun b ob e => JT _ (JT _ e)
 ·exact ⟨_, JT _ (JU _ rfl), rfl, rfl⟩
 ·exact pl.isList.at fun o e => JT _ (JT _ e)
def Br (μ : aB) (y x : D) : Bool := match kN μ y, kN μ x with
 | some p, some q => dN p && dN q && decide (gx .Lt p q = some false)
 | _, _ => false
def qt (ds : List D) (μ : aB) : ak D := match ds with
 | [.obj n] => match μ[n]? with
  | some (.lst []) => .ok .non μ
  | some (.lst (x :: r)) => if (x :: r).all (fun y => Br μ y x) = true then .ok x μ else .bad
  | _ => .bad
 | _ => .bad
theorem CL {p : Pa} : sO p qt (za p.K) := by
 intro ds vs H α μ Q S r P
 unfold qt at P
 split at P
 ·rename_i n
  split at P
  ·rename_i hx
   obtain ⟨v, rfl, r1⟩ := r.one
   obtain ⟨a, us, rfl, a1, h1, rr⟩ := di S r1 hx
   simp only [Reps] at rr
   subst rr
   exact ⟨a, [], rfl, fw.of h1, fun v0 e => by simp at e, P.now S _ (bL.mpr rfl)⟩
  ·rename_i x xs hx
   split at P
   ·rename_i hall
    obtain ⟨v, rfl, r1⟩ := r.one
    obtain ⟨a, us, rfl, a1, h1, rr⟩ := di S r1 hx
    have rr' := rr
    simp only [Reps] at rr'
    obtain ⟨u0, us', rfl, q0, qr⟩ := rr'
    refine ⟨a, u0 :: us', rfl, fw.of h1, fun v0 e v hv => ?_, P.now S _ q0⟩
    cases e
    obtain ⟨i, hi, rfl⟩ := MV hv
    obtain ⟨y, hy, ry⟩ := rr.getV (MN hi)
    have hl := LV.mp hall y (Kf hy)
    unfold Br at hl
    split at hl
    ·rename_i pp qq e1 e2
     simp only [KC, Nb] at hl
     exact ⟨pp, qq, jo S e1 ry, jo S e2 q0, hl.1.1, hl.1.2, hl.2⟩
    ·cases hl
   ·exact P.elim
  ·exact P.elim
 ·exact P.elim
theorem yy : bootBuiltins "min" = some (.builtin "min") := by decide +kernel
theorem Cs {a : Expr} {t : TA} {p pk pos : Pos} {kp : Pos} {j : Nat} (hc : X.calm = true) (hu : X.A.units + 64 < cLine) (hg : Gl X "min") (hm : X.mg "min" = none) (ha : PA X [a] t)
  (he : backTo pos (starEach [a] X.env) = (false, eval a X.env) :: backTo pos (starEach [] X.env)) (hp : (backTo pos (starEach [a] X.env)).any (·.1) = false) : PE X (.Call (.Name "min" p) [a] [⟨some "default", .Constant .none j pk, kp⟩] pos) (HN (za X.K) t) := by
 intro pins s σ H Q I h
 refine J6 (j6 I hg hm yy ?_ (by decide) (by decide))
 refine callWith_kw (dY (ha pos pins s σ H _ I h) fun us s1 ⟨vs, H1, I1, r1, q1⟩ => ?_) he hp
 refine kws_cons (dY (zC pins s1 σ H1 (fun v H' => v = .non /\ H' = H1) I1 ⟨rfl, rfl⟩) fun u s2 ⟨v, H2, I2, rv, hv, hH⟩ => kws_nil ?_)
 subst hv hH
 cases rv
 exact yn hc hu I2 r1 q1
theorem Ea {a : Expr} {fa : ME} {pa : Pa} {p pk pos : Pos} {kp : Pos} {j : Nat} (hu : X.A.units + 64 < cLine) (hm : X.mg "min" = none) (ha : Bx (PE X a (tD pa fa))) (hc : X.calm = true := by rfl) (hg : Gl X "min" := by rfl) (hs : vb a = true := by rfl) (hK : X.K = pa.K := by rfl) : Bx (PE X (.Call (.Name "min" p) [a] [⟨some "default", .Constant .none j pk, kp⟩] pos) (tD pa (aA qt (ae fa ay)))) := Bx.mk (by
 refine (Cs (t := mr pa (ae fa ay)) hc hu hg hm (aI ha ba hs).h ?_ ?_).weak fun σ H Q ⟨α, ρ, μ, S, R, P⟩ => ⟨α, ρ, μ, S, R, P.bind.imp fun ds μ1 H1 α1 X1 S1 P1 vs rv => by rw [hK]; exact CL ds vs H1 α1 μ1 Q S1 rv P1⟩
 ·rw [mK hs]; rfl
 ·rw [mK hs]; rfl)
def zA (K : W.Frag) : List V -> Hp -> VK -> Prop := fun xs H Q => u9 K xs H Q \/ (xs = [.non] /\ Q (.str "None") H) \/ ∃ a : Int, xs = [.int a] /\ a.natAbs.log2 < 1920 /\ Q (.str (toString a)) H
theorem vX (hu : X.A.units + 64 < cLine) (hg : X.A.guards = some []) : cE X (.builtin "repr") (zA X.K) := by
 intro pins s σ H xs us Q I r h
 rcases h with h | ⟨rfl, q⟩ | ⟨a, rfl, ha, q⟩
 ·exact vW hu hg pins s σ H xs us Q I r h
 ·obtain ⟨u, rfl, ru⟩ := eC r
  cases ru
  exact PySem.P.repr_of_none ⟨.str _, H, I.kept (fun _ _ e => e), ⟨_, rfl⟩, q⟩
 ·obtain ⟨u, rfl, t, rfl⟩ := eC r
  exact PySem.P.repr_of_int ha ⟨.str _, H, I.kept (fun _ _ e => e), ⟨_, rfl⟩, q⟩
def il (ds : List D) (μ : aB) : ak D := match ds with
 | [.non] => .ok (.str "None") μ
 | [.int a] => if a.natAbs.log2 < 1920 then .ok (.str (toString a)) μ else .bad
 | ds => tH ds μ
theorem AI {p : Pa} : sO p il (zA p.K) := by
 intro ds vs H α μ Q S r P
 unfold il at P
 split at P
 ·obtain ⟨v, rfl, r1⟩ := r.one
  rw [bL.mp r1]
  exact .inr (.inl ⟨rfl, P.now S _ (bA.mpr rfl)⟩)
 ·obtain ⟨v, rfl, r1⟩ := r.one
  rw [aq.mp r1]
  split at P
  ·rename_i ha
   exact .inr (.inr ⟨_, rfl, ha, P.now S _ (bA.mpr rfl)⟩)
  ·exact P.elim
 ·exact .inl (CK _ vs H α μ Q S r P)
theorem nN {p : Pa} {k : Nat} (hr : ic k X.A) (hK : X.K = p.K := by rfl) : nY X p "repr" il := ⟨_, _, .inl ⟨_, rfl⟩, by decide +kernel, vX hr.units hr.gd, hK ▸ AI, by decide, by decide⟩
end
theorem IW {α : Type} {P : List α -> Prop} (h : ∀ a, P [a]) : ∀ us : List α, us.length = 1 -> P us
 | [a], _ => h a
theorem us2 {α : Type} {P : List α -> Prop} (h : ∀ a b, P [a, b]) : ∀ us : List α, us.length = 2 -> P us
 | [a, b], _ => h a b
theorem IV {α : Type} {P : List α -> Prop} (h : ∀ a b c, P [a, b, c]) : ∀ us : List α, us.length = 3 -> P us
 | [a, b, c], _ => h a b c
theorem iJ.b1 {K : W.Frag} {x qual : Str} {st : Stmt} {f : Addr} {fd : FuncData} {ps : List Str} (F : iJ K x qual st f fd) (hl : ps.length = 1) (h : ∀ (kV doc pm : Value) (an : Option Addr) (cdv ct a : Value), bindArgs (W.fnOf x qual (d6 st) (cG st) (ar st) .none kV doc pm an cdv ct) ⟨[a], []⟩ = pure (ps.zip [a])) : j4 K fd ps [] :=
 F.binds fun kV doc pm an cdv ct us e => IW (P := fun us => bindArgs (W.fnOf x qual (d6 st) (cG st) (ar st) .none kV doc pm an cdv ct) ⟨us, []⟩ = pure (ps.zip us)) (fun a => h kV doc pm an cdv ct a) us (e.trans hl)
theorem iJ.b2 {K : W.Frag} {x qual : Str} {st : Stmt} {f : Addr} {fd : FuncData} {ps : List Str} (F : iJ K x qual st f fd) (hl : ps.length = 2) (h : ∀ (kV doc pm : Value) (an : Option Addr) (cdv ct a b : Value), bindArgs (W.fnOf x qual (d6 st) (cG st) (ar st) .none kV doc pm an cdv ct) ⟨[a, b], []⟩ = pure (ps.zip [a, b])) : j4 K fd ps [] :=
 F.binds fun kV doc pm an cdv ct us e => us2 (P := fun us => bindArgs (W.fnOf x qual (d6 st) (cG st) (ar st) .none kV doc pm an cdv ct) ⟨us, []⟩ = pure (ps.zip us)) (fun a b => h kV doc pm an cdv ct a b) us (e.trans hl)
theorem iJ.b3 {K : W.Frag} {x qual : Str} {st : Stmt} {f : Addr} {fd : FuncData} {ps : List Str} (F : iJ K x qual st f fd) (hl : ps.length = 3) (h : ∀ (kV doc pm : Value) (an : Option Addr) (cdv ct a b c : Value), bindArgs (W.fnOf x qual (d6 st) (cG st) (ar st) .none kV doc pm an cdv ct) ⟨[a, b, c], []⟩ = pure (ps.zip [a, b, c])) : j4 K fd ps [] :=
 F.binds fun kV doc pm an cdv ct us e => IV (P := fun us => bindArgs (W.fnOf x qual (d6 st) (cG st) (ar st) .none kV doc pm an cdv ct) ⟨us, []⟩ = pure (ps.zip us)) (fun a b c => h kV doc pm an cdv ct a b c) us (e.trans hl)
end L2
namespace Lw
open PySem L2
section
variable {P : Program} {w : World} {K : W.Frag} {mg : Str -> Option Value} {base : Heap}
structure Nm (mg : Str -> Option Value) : Prop where
 all : mg "all" = none
 bool : mg "bool" = none
 enumerate : mg "enumerate" = none
 int : mg "int" = none
 isinstance : mg "isinstance" = none
 len : mg "len" = none
 list : mg "list" = none
 max : mg "max" = none
 min : mg "min" = none
 range : mg "range" = none
 repr : mg "repr" = none
 set : mg "set" = none
 sorted : mg "sorted" = none
 tuple : mg "tuple" = none
theorem uE : aY ["thing"] ["thing"] (ar iN) := ⟨rfl, rfl, rfl, by decide +kernel, rfl, by decide +kernel, by decide +kernel⟩
noncomputable def pA : MS := cR (m6 (pO (jn "int") (ah 0)) (tL (pO (jn "bool") (ah 0))))
noncomputable def iw : List D -> aB -> ak D := jK 1 1 pA
theorem mT : aY ["thing", "least", "most"] ["thing", "least", "most"] (ar d7) := ⟨rfl, rfl, rfl, by decide +kernel, rfl, by decide +kernel, by decide +kernel⟩
noncomputable def jS : MS := cR (m6 (aA iw (ae (ah 0) (ay))) (ot (jW .LtE) (jW .LtE) (ah 1) (ah 0) (ah 2)))
noncomputable def dw : List D -> aB -> ak D := jK 3 3 jS
theorem uF : aY ["many", "thing"] ["many", "thing"] (ar iO) := ⟨rfl, rfl, rfl, by decide +kernel, rfl, by decide +kernel, by decide +kernel⟩
noncomputable def pB : MS := cR (aA dw (ae (ah 1) (ae (cC (.int 0)) (ae (aw iH (ah 0) (cC (.int 1))) (ay)))))
noncomputable def eY : List D -> aB -> ak D := jK 2 2 pB
theorem sx : aY ["many", "thing"] ["many", "thing"] (ar fD) := ⟨rfl, rfl, rfl, by decide +kernel, rfl, by decide +kernel, by decide +kernel⟩
theorem pJ : (["place", "many"] : List Str).Nodup := by decide +kernel
noncomputable def iY : ME := aA eY (ae (ah 1) (ae (ah 0) (ay)))
noncomputable def ki : MS := cR (m6 (pO (jn "tuple") (ah 1)) (aA sU (ae (bS (gG (ah 1)) [none, some 0] (ag 0) (bw) (iY)) (ay))))
noncomputable def cK : List D -> aB -> ak D := jK 2 2 ki
theorem pE : aY ["web", "thing"] ["web", "thing"] (ar fL) := ⟨rfl, rfl, rfl, by decide +kernel, rfl, by decide +kernel, by decide +kernel⟩
noncomputable def k8 : MS := mq (m5 (rF (aA eY (ae (aw cO (ah 0) (cC (.int 0))) (ae (ah 1) (ay)))))) (DW) (fZ)
noncomputable def eM : List D -> aB -> ak D := jK 2 2 k8
theorem vx : aY ["web", "one", "other"] ["web", "one", "other"] (ar jz) := ⟨rfl, rfl, rfl, by decide +kernel, rfl, by decide +kernel, by decide +kernel⟩
noncomputable def rl : MS := cR (aw (pN false) (dA (ae (aA rD (ae (ah 1) (ae (ah 2) (ay)))) (ae (aA nV (ae (ah 1) (ae (ah 2) (ay)))) (ay)))) (aw cO (ah 0) (cC (.int 1))))
noncomputable def jg : List D -> aB -> ak D := jK 3 3 rl
theorem pD : aY ["ties", "front"] ["ties", "front"] (ar cV) := ⟨rfl, rfl, rfl, by decide +kernel, rfl, by decide +kernel, by decide +kernel⟩
theorem jj : (["a", "b", "front"] : List Str).Nodup := by decide +kernel
theorem ji : (["a", "b", "front"] : List Str).Nodup := by decide +kernel
noncomputable def jR : ME := ah 1
noncomputable def gO : MT := gP (aw (pN false) (ah 0) (ah 2))
noncomputable def jQ : ME := ah 0
noncomputable def gN : MT := gP (aw (pN false) (ah 1) (ah 2))
noncomputable def k7 : MS := cR (aw bf (bS (gG (ah 0)) [none, none, some 1] (gQ 2 (bF (ag 0) (bF (ag 1) (gR)))) (gO) (jR)) (bS (gG (ah 0)) [none, none, some 1] (gQ 2 (bF (ag 0) (bF (ag 1) (gR)))) (gN) (jQ)))
noncomputable def eK : List D -> aB -> ak D := jK 2 2 k7
theorem vw : aY ["web", "place"] ["web", "place"] (ar jy) := ⟨rfl, rfl, rfl, by decide +kernel, rfl, by decide +kernel, by decide +kernel⟩
noncomputable def rk : MS := bG (tu (aA eM (ae (ah 0) (ae (ah 1) (ay)))))
 (cR (aA gM (ae (aA dk (ae (aA lb (ae (aw bf (fY (ae (ah 1) (ay))) (aA eK (ae (aw cO (ah 0) (cC (.int 1))) (ae (fY (ae (ah 1) (ay))) (ay))))) (ay))) (ay))) (ay))))
noncomputable def jf : List D -> aB -> ak D := jK 2 2 rk
theorem sv : aY ["web", "thing"] ["web", "thing"] (ar fC) := ⟨rfl, rfl, rfl, by decide +kernel, rfl, by decide +kernel, by decide +kernel⟩
theorem kn : (["at", "place", "web", "thing"] : List Str).Nodup := by decide +kernel
noncomputable def iX : ME := aA jg (ae (ah 2) (ae (aw cO (ah 3) (aw iH (ah 0) (cC (.int 1)))) (ae (ah 1) (ay))))
noncomputable def kh : MS := bG (mq (sW (m5 (rF (aA cK (ae (aw cO (ah 0) (cC (.int 0))) (ae (ah 1) (ay)))))) (sW (gP (aw (jW .Lt) (aA i5 (ae (ah 1) (ay))) (cC (.int 3)))) (gP (aw (jV true) (aA i5 (ae (aA lb (ae (ah 1) (ay))) (ay))) (aA i5 (ae (ah 1) (ay))))))) (cR (cC (.bl false))) (fZ))
 (cR (aA sU (ae (bS (eA tG (ae (ah 1) (ay))) [none, none, some 0, some 1] (gQ 2 (bF (ag 0) (bF (ag 1) (gR)))) (bw) (iX)) (ay))))
noncomputable def de : List D -> aB -> ak D := jK 2 2 kh
theorem fq : aY ["web", "size", "many", "stars", "ways", "step"] ["web", "size"] (ar dc) := ⟨rfl, rfl, rfl, by decide +kernel, rfl, by decide +kernel, by decide +kernel⟩
theorem qd : (["place", "web"] : List Str).Nodup := by decide +kernel
theorem qc : (["place"] : List Str).Nodup := by decide +kernel
theorem kY : (["way", "place", "stars"] : List Str).Nodup := by decide +kernel
theorem p9 : (["way", "stars"] : List Str).Nodup := by decide +kernel
noncomputable def jJ : ME := aA jf (ae (ah 1) (ae (ah 0) (ay)))
noncomputable def jI : ME := dA (ae (ah 0) (ay))
noncomputable def jH : ME := aw bf (ah 0) (dA (ae (ah 1) (ay)))
noncomputable def jE : MT := gP (aw (pN true) (ah 1) (ah 0))
noncomputable def hG : MB := om (gG (aw cO (ah 2) (aw cO (ah 0) (pO mw (cC (.int 1)))))) (ag 1) (jE) (oa (jH))
noncomputable def hV : MS := bz (mG (gG (ah 4)) [none, none, some 3] (ag 0) (bw) (hG)) (ag 4)
noncomputable def jG : ME := ah 0
noncomputable def jD : MT := gP (aw (pN false) (aw cO (ah 0) (cC (.int 0))) (aw cO (ah 1) (aw cO (ah 0) (pO mw (cC (.int 1))))))
noncomputable def pq : MS := bG (bz (aw cO (ah 0) (cC (.int 0))) (ag 2))
 (bG (bz (bS (eA fX (ae (ah 2) (ay))) [none, some 0] (ag 0) (bw) (jJ)) (ag 3))
 (bG (bz (bS (eA fX (ae (ah 2) (ay))) [none] (ag 0) (bw) (jI)) (ag 4))
 (bG (jX (eA fX (ae (aw iH (ah 1) (cC (.int 1))) (ay))) (ag 5) hV)
 (cR (bS (gG (ah 4)) [none, some 3] (ag 0) (jD) (jG))))))
noncomputable def iu : List D -> aB -> ak D := jK 2 6 pq
theorem fS : aY ["web", "size", "rings"] ["web"] (ar dF) := ⟨rfl, rfl, rfl, by decide +kernel, rfl, by decide +kernel, by decide +kernel⟩
noncomputable def bt : MS := bG (bz (aA iu (ae (ah 0) (ae (ah 1) (ay)))) (ag 2))
 (mq (rF (ah 2)) (cR (ah 2)) (fZ))
noncomputable def gm : MS := bG (jX (eA lE (ae (cC (.int 3)) (ae (aw bf (aw cO (ah 0) (cC (.int 0))) (cC (.int 1))) (ay)))) (ag 1) bt)
 (cR (fY (ay)))
noncomputable def cX : List D -> aB -> ak D := jK 1 3 gm
theorem pY : aY ["web"] ["web"] (ar gq) := ⟨rfl, rfl, rfl, by decide +kernel, rfl, by decide +kernel, by decide +kernel⟩
noncomputable def ma : MS := cR (aA qt (ae (aA cX (ae (ah 0) (ay))) (ay)))
noncomputable def dm : List D -> aB -> ak D := jK 1 1 ma
theorem kU : aY ["web", "ring"] ["web"] (ar gn) := ⟨rfl, rfl, rfl, by decide +kernel, rfl, by decide +kernel, by decide +kernel⟩
noncomputable def l9 : MS := bG (bz (aA dm (ae (ah 0) (ay))) (ag 1))
 (cR (Gd (gP (aw (pT false) (ah 1) (cC .non))) (cC .non) (aA i5 (ae (ah 1) (ay)))))
noncomputable def fG : List D -> aB -> ak D := jK 1 2 l9
theorem nC : aY ["_law_script", "_law_k"] ["_law_script", "_law_k"] (ar eS) := ⟨rfl, rfl, rfl, by decide +kernel, rfl, by decide +kernel, by decide +kernel⟩
noncomputable def iB : MS := bG (mq (gP (aw (jW .Lt) (ah 1) (aA i5 (ae (ah 0) (ay))))) (cR (aw cO (ah 0) (ah 1))) (fZ))
 (cR (cC (.int 0)))
noncomputable def dX : List D -> aB -> ak D := jK 2 2 iB
theorem lZ : aY ["_law_seed"] ["_law_seed"] (ar g6) := ⟨rfl, rfl, rfl, by decide +kernel, rfl, by decide +kernel, by decide +kernel⟩
noncomputable def nt : MS := bG (bz (aw pS (aw bf (ah 0) (cC (.int 7919))) (cC (.int 2147483647))) (ag 0))
 (cR (aw pS (aw bf (aw bf (aw mx (ah 0) (ah 0)) (aw mx (cC (.int 48271)) (ah 0))) (cC (.int 12345))) (cC (.int 2147483629))))
noncomputable def fu : List D -> aB -> ak D := jK 1 1 nt
theorem kl : aY ["_law_cell", "_law_left"] ["_law_cell"] (ar fN) := ⟨rfl, rfl, rfl, by decide +kernel, rfl, by decide +kernel, by decide +kernel⟩
noncomputable def k9 : MS := bG (bz (aA nV (ae (ah 0) (ae (aw iH (cC (.int 0)) (ah 0)) (ay)))) (ag 1))
 (cR (fY (ae (ah 1) (ae (aA m4 (ae (aw (jW .GtE) (ah 1) (aw DZ (cC (.int 10)) (cC (.int 18)))) (ay))) (ae (aw pS (ah 1) (cC (.int 1000003))) (ay))))))
noncomputable def eP : List D -> aB -> ak D := jK 1 2 k9
theorem l4 : aY ["_law_pen", "_law_many", "_law_found"] ["_law_pen", "_law_many"] (ar g8) := ⟨rfl, rfl, rfl, by decide +kernel, rfl, by decide +kernel, by decide +kernel⟩
noncomputable def kj : MS := bG (mq (gP (aw (jV false) (aw cO (ah 0) (cC (.int 1))) (cC (.int 1)))) (bG (bz (aw pS (aw cO (ah 0) (cC (.int 0))) (ah 1)) (ag 2))
 (bG (bz (aw tK (aw cO (ah 0) (cC (.int 0))) (ah 1)) (n9 (ah 0) (cC (.int 0))))
 (cR (ah 2)))) (fZ))
 (bG (bz (aA fu (ae (aw bf (aA fu (ae (aw cO (ah 0) (cC (.int 2))) (ay))) (cC (.int 7))) (ay))) (n9 (ah 0) (cC (.int 2))))
 (cR (aw pS (aw tK (aw cO (ah 0) (cC (.int 2))) (cC (.int 64))) (ah 1))))
noncomputable def aL : List D -> aB -> ak D := jK 2 3 kj
theorem pZ : aY ["_law_found"] ["_law_found"] (ar gr) := ⟨rfl, rfl, rfl, by decide +kernel, rfl, by decide +kernel, by decide +kernel⟩
noncomputable def me : MS := cR (m6 (pO (jn "int") (ah 0)) (tL (pO (jn "bool") (ah 0))))
noncomputable def fH : List D -> aB -> ak D := jK 1 1 me
theorem kW : aY ["_law_web", "_law_names", "_law_ties"] ["_law_web", "_law_names"] (ar dz) := ⟨rfl, rfl, rfl, by decide +kernel, rfl, by decide +kernel, by decide +kernel⟩
theorem jO : (["_law_one", "_law_other", "_law_names"] : List Str).Nodup := by decide +kernel
theorem nF : (["_law_tie"] : List Str).Nodup := by decide +kernel
noncomputable def fR : ME := dA (ae (aw cO (ah 2) (ah 0)) (ae (aw cO (ah 2) (ah 1)) (ay)))
noncomputable def fQ : ME := dA (ae (aA rD (ae (ah 0) (ay))) (ae (aA nV (ae (ah 0) (ay))) (ay)))
noncomputable def mh : MS := bG (bz (bS (gG (aw cO (ah 0) (cC (.int 1)))) [none, none, some 1] (gQ 2 (bF (ag 0) (bF (ag 1) (gR)))) (bw) (fR)) (ag 2))
 (cR (dA (ae (aw cO (ah 0) (cC (.int 0))) (ae (aA gM (ae (aA dk (ae (aA lb (ae (bS (gG (ah 2)) [none] (ag 0) (bw) (fQ)) (ay))) (ay))) (ay))) (ay)))))
noncomputable def fI : List D -> aB -> ak D := jK 2 3 mh
theorem jh : aY ["_law_pen", "_law_many", "_law_left"] ["_law_pen", "_law_many"] (ar cW) := ⟨rfl, rfl, rfl, by decide +kernel, rfl, by decide +kernel, by decide +kernel⟩
theorem lA : (["_law_place", "_law_left", "_law_pen"] : List Str).Nodup := by decide +kernel
noncomputable def dM : ME := Gc oq (ah 1) (ae (aA aL (ae (ah 2) (ae (aA i5 (ae (ah 1) (ay))) (ay)))) (ay))
noncomputable def jU : MS := bG (bz (aA mF (ae (ah 1) (ay))) (ag 2))
 (cR (aA gM (ae (bS (eA fX (ae (ah 1) (ay))) [none, some 2, some 0] (ag 0) (bw) (dM)) (ay))))
noncomputable def cg : List D -> aB -> ak D := jK 2 3 jU
theorem cI : aY ["_law_web", "_law_many", "_law_far_here", "_law_place", "_law_size", "_law_one", "_law_other", "_law_a", "_law_b"] ["_law_web"] (ar gF) := ⟨rfl, rfl, rfl, by decide +kernel, rfl, by decide +kernel, by decide +kernel⟩
theorem qf : (["_law_place", "_law_many"] : List Str).Nodup := by decide +kernel
noncomputable def fK : ME := aw mx (fY (ae (cC .non) (ay))) (ah 1)
noncomputable def jF : MS := mq (kR (gP (aw (jV false) (aw cO (aw cO (ah 2) (ah 3)) (ah 7)) (aw iH (ah 4) (cC (.int 1))))) (gP (aw (pT false) (aw cO (aw cO (ah 2) (ah 3)) (ah 8)) (cC .non)))) (bz (ah 4) (n9 (aw cO (ah 2) (ah 3)) (ah 8))) (fZ)
noncomputable def h7 : MS := jX (gG (fY (ae (dA (ae (ah 5) (ae (ah 6) (ay)))) (ae (dA (ae (ah 6) (ae (ah 5) (ay)))) (ay))))) (gQ 2 (bF (ag 7) (bF (ag 8) (gR)))) jF
noncomputable def hZ : MS := jX (gG (aw cO (ah 0) (cC (.int 1)))) (gQ 2 (bF (ag 5) (bF (ag 6) (gR)))) h7
noncomputable def hX : MS := bG (bz (cC (.int 0)) (n9 (aw cO (ah 2) (ah 3)) (ah 3)))
 (jX (eA lE (ae (cC (.int 1)) (ae (ah 1) (ay)))) (ag 4) hZ)
noncomputable def pC : MS := bG (bz (aw cO (ah 0) (cC (.int 0))) (ag 1))
 (bG (bz (bS (eA fX (ae (ah 1) (ay))) [none, some 1] (ag 0) (bw) (fK)) (ag 2))
 (bG (jX (eA fX (ae (ah 1) (ay))) (ag 3) hX)
 (cR (ah 2))))
noncomputable def iy : List D -> aB -> ak D := jK 1 9 pC
theorem eJ : aY ["_law_web", "_law_k", "_law_far_here", "_law_ties", "_law_one"] ["_law_web", "_law_k"] (ar eG) := ⟨rfl, rfl, rfl, by decide +kernel, rfl, by decide +kernel, by decide +kernel⟩
theorem nE : (["_law_b", "_law_one", "_law_k", "_law_far_here"] : List Str).Nodup := by decide +kernel
noncomputable def fP : ME := dA (ae (ah 1) (ae (ah 0) (ay)))
noncomputable def dW : MT := kR (gP (aw (pT true) (aw cO (aw cO (ah 3) (ah 1)) (ah 0)) (cC .non))) (gP (aw (jW .LtE) (aw cO (aw cO (ah 3) (ah 1)) (ah 0)) (ah 2)))
noncomputable def fO : MS := bz (aw bf (ah 3) (bS (eA lE (ae (aw bf (ah 4) (cC (.int 1))) (ae (aw cO (ah 0) (cC (.int 0))) (ay)))) [none, some 4, some 1, some 2] (ag 0) (dW) (fP))) (ag 3)
noncomputable def mf : MS := bG (bz (aA iy (ae (ah 0) (ay))) (ag 2))
 (bG (bz (fY (ay)) (ag 3))
 (bG (jX (eA fX (ae (aw cO (ah 0) (cC (.int 0))) (ay))) (ag 4) fO)
 (cR (dA (ae (aw cO (ah 0) (cC (.int 0))) (ae (aA gM (ae (ah 3) (ay))) (ay)))))))
noncomputable def dq : List D -> aB -> ak D := jK 2 5 mf
theorem aV : aY ["_law_pen", "_law_way", "_law_many", "_law_every", "_law_other", "_law_ties"] ["_law_pen"] (ar aZ) := ⟨rfl, rfl, rfl, by decide +kernel, rfl, by decide +kernel, by decide +kernel⟩
theorem kL : (["_law_one", "_law_other"] : List Str).Nodup := by decide +kernel
theorem kK : (["_law_pair", "_law_pen"] : List Str).Nodup := by decide +kernel
theorem kI : (["_law_pair", "_law_pen"] : List Str).Nodup := by decide +kernel
theorem kH : (["_law_place"] : List Str).Nodup := by decide +kernel
theorem kG : (["_law_place"] : List Str).Nodup := by decide +kernel
theorem kF : (["_law_place"] : List Str).Nodup := by decide +kernel
theorem kE : (["_law_place", "_law_pen"] : List Str).Nodup := by decide +kernel
noncomputable def iC : ME := dA (ae (ah 0) (ae (ah 1) (ay)))
noncomputable def dr : MS := bz (aw bf (ah 3) (bS (eA fX (ae (ah 4) (ay))) [none, some 4] (ag 0) (bw) (iC))) (ag 3)
noncomputable def fj : ME := ah 0
noncomputable def fe : MT := gP (aw (jV false) (aA aL (ae (ah 1) (ae (cC (.int 2)) (ay)))) (cC (.int 0)))
noncomputable def fg : ME := ah 0
noncomputable def eZ : MT := gP (aw (jV false) (aA aL (ae (ah 1) (ae (cC (.int 3)) (ay)))) (cC (.int 0)))
noncomputable def dv : ME := dA (ae (ah 0) (ae (aw bf (ah 0) (cC (.int 1))) (ay)))
noncomputable def ff : ME := dA (ae (ah 0) (ae (aw bf (ah 0) (cC (.int 1))) (ay)))
noncomputable def du : ME := dA (ae (cC (.int 0)) (ae (ah 0) (ay)))
noncomputable def ck : ME := dA (ae (aA aL (ae (ah 1) (ae (ah 0) (ay)))) (ae (ah 0) (ay)))
noncomputable def jk : MS := bG (bz (aA aL (ae (ah 0) (ae (cC (.int 7)) (ay)))) (ag 1))
 (bG (bz (aw bf (cC (.int 1)) (aA aL (ae (ah 0) (ae (cC (.int 6)) (ay))))) (ag 2))
 (bG (bz (fY (ay)) (ag 3))
 (bG (jX (eA fX (ae (ah 2) (ay))) (ag 4) dr)
 (bG (mq (gP (aw (jV false) (ah 1) (cC (.int 0)))) (bz (bS (gG (ah 3)) [none, some 0] (ag 0) (fe) (fj)) (ag 5)) (mq (gP (aw (jV false) (ah 1) (cC (.int 1)))) (bz (bS (gG (ah 3)) [none, some 0] (ag 0) (eZ) (fg)) (ag 5)) (mq (gP (aw (jV false) (ah 1) (cC (.int 2)))) (bz (aw bf (bS (eA fX (ae (aw iH (ah 2) (cC (.int 1))) (ay))) [none] (ag 0) (bw) (dv)) (aw mx (fY (ae (dA (ae (cC (.int 0)) (ae (aw iH (ah 2) (cC (.int 1))) (ay)))) (ay))) (aA m4 (ae (aw (jW .Gt) (ah 2) (cC (.int 2))) (ay))))) (ag 5)) (mq (gP (aw (jV false) (ah 1) (cC (.int 3)))) (bz (bS (eA fX (ae (aw iH (ah 2) (cC (.int 1))) (ay))) [none] (ag 0) (bw) (ff)) (ag 5)) (mq (gP (aw (jV false) (ah 1) (cC (.int 4)))) (bz (bS (eA lE (ae (cC (.int 1)) (ae (ah 2) (ay)))) [none] (ag 0) (bw) (du)) (ag 5)) (bz (bS (eA lE (ae (cC (.int 1)) (ae (ah 2) (ay)))) [none, some 0] (ag 0) (bw) (ck)) (ag 5)))))))
 (cR (aA fI (ae (dA (ae (ah 2) (ae (aA gM (ae (ah 5) (ay))) (ay)))) (ae (aA cg (ae (ah 0) (ae (ah 2) (ay)))) (ay)))))))))
noncomputable def bQ : List D -> aB -> ak D := jK 1 6 jk
theorem cx : aY ["_law_pen", "_law_web", "_law_way", "_law_spot", "_law_one", "_law_pair"] ["_law_pen"] (ar fM) := ⟨rfl, rfl, rfl, by decide +kernel, rfl, by decide +kernel, by decide +kernel⟩
noncomputable def gv : MS := bG (bz (aA bQ (ae (ah 0) (ay))) (ag 1))
 (bG (bz (aA aL (ae (ah 0) (ae (cC (.int 6)) (ay)))) (ag 2))
 (bG (mq (gP (aw (jW .Lt) (ah 2) (cC (.int 3)))) (bz (aA dq (ae (ah 1) (ae (cC (.int 2)) (ay)))) (ag 1)) (fZ))
 (bG (mq (kR (gP (aw (jV false) (ah 2) (cC (.int 0)))) (gP (aw (jV true) (aw cO (ah 1) (cC (.int 1))) (dA (ay))))) (bG (bz (aA aL (ae (ah 0) (ae (aA i5 (ae (aw cO (ah 1) (cC (.int 1))) (ay))) (ay)))) (ag 3))
 (cR (dA (ae (aw cO (ah 1) (cC (.int 0))) (ae (aw bf (sP (aw cO (ah 1) (cC (.int 1))) (uS) (f7 (ah 3))) (sP (aw cO (ah 1) (cC (.int 1))) (f7 (aw bf (ah 3) (cC (.int 1)))) (uS))) (ay)))))) (fZ))
 (bG (mq (kR (gP (aw (jV false) (ah 2) (cC (.int 1)))) (gP (aw (jW .Gt) (aw cO (ah 1) (cC (.int 0))) (cC (.int 1))))) (bG (bz (aA aL (ae (ah 0) (ae (aw cO (ah 1) (cC (.int 0))) (ay)))) (ag 4))
 (bG (bz (aA gM (ae (aA dk (ae (dA (ae (ah 4) (ae (aw pS (aw bf (aw bf (ah 4) (cC (.int 1))) (aA aL (ae (ah 0) (ae (aw iH (aw cO (ah 1) (cC (.int 0))) (cC (.int 1))) (ay))))) (aw cO (ah 1) (cC (.int 0)))) (ay)))) (ay))) (ay))) (ag 5))
 (cR (dA (ae (aw cO (ah 1) (cC (.int 0))) (ae (aA gM (ae (aA dk (ae (aA lb (ae (aw bf (aw cO (ah 1) (cC (.int 1))) (dA (ae (ah 5) (ay)))) (ay))) (ay))) (ay))) (ay))))))) (fZ))
 (cR (ah 1))))))
noncomputable def eO : List D -> aB -> ak D := jK 1 6 gv
theorem bP : aY ["_law_web", "_law_size", "_law_found", "_law_turn", "_law_longer", "_law_way", "_law_place"] ["_law_web", "_law_size"] (ar cu) := ⟨rfl, rfl, rfl, by decide +kernel, rfl, by decide +kernel, by decide +kernel⟩
theorem lz : (["_law_place"] : List Str).Nodup := by decide +kernel
theorem ly : (["_law_way", "_law_web"] : List Str).Nodup := by decide +kernel
noncomputable def fV : ME := dA (ae (ah 0) (ay))
noncomputable def dJ : MS := mq (kR (gP (aw (pN true) (ah 6) (ah 5))) (gP (aw (pN false) (dA (ae (aA rD (ae (aw cO (ah 5) (pO mw (cC (.int 1)))) (ae (ah 6) (ay)))) (ae (aA nV (ae (aw cO (ah 5) (pO mw (cC (.int 1)))) (ae (ah 6) (ay)))) (ay)))) (aw cO (ah 0) (cC (.int 1)))))) (tu (Gc kv (ah 4) (ae (aw bf (ah 5) (dA (ae (ah 6) (ay)))) (ay)))) (fZ)
noncomputable def dH : MS := jX (eA fX (ae (aw cO (ah 0) (cC (.int 0))) (ay))) (ag 6) dJ
noncomputable def dG : MS := bG (bz (fY (ay)) (ag 4))
 (bG (jX (gG (ah 2)) (ag 5) dH)
 (bz (ah 4) (ag 2)))
noncomputable def fU : ME := ah 0
noncomputable def fT : MT := gP (aw (pN false) (dA (ae (aA rD (ae (aw cO (ah 0) (cC (.int 0))) (ae (aw cO (ah 0) (pO mw (cC (.int 1)))) (ay)))) (ae (aA nV (ae (aw cO (ah 0) (cC (.int 0))) (ae (aw cO (ah 0) (pO mw (cC (.int 1)))) (ay)))) (ay)))) (aw cO (ah 1) (cC (.int 1))))
noncomputable def jT : MS := bG (bz (bS (eA fX (ae (aw cO (ah 0) (cC (.int 0))) (ay))) [none] (ag 0) (bw) (fV)) (ag 2))
 (bG (jX (eA fX (ae (aw iH (ah 1) (cC (.int 1))) (ay))) (ag 3) dG)
 (cR (bS (gG (ah 2)) [none, some 0] (ag 0) (fT) (fU))))
noncomputable def bg : List D -> aB -> ak D := jK 2 7 jT
theorem kX : aY ["_law_web", "_law_sizes"] ["_law_web"] (ar eH) := ⟨rfl, rfl, rfl, by decide +kernel, rfl, by decide +kernel, by decide +kernel⟩
theorem nG : (["_law_size", "_law_web"] : List Str).Nodup := by decide +kernel
noncomputable def iA : ME := ah 0
noncomputable def iz : MT := gP (aw (jV true) (aA bg (ae (ah 1) (ae (ah 0) (ay)))) (fY (ay)))
noncomputable def mi : MS := bG (bz (bS (eA lE (ae (cC (.int 3)) (ae (aw bf (aw cO (ah 0) (cC (.int 0))) (cC (.int 1))) (ay)))) [none, some 0] (ag 0) (iz) (iA)) (ag 1))
 (cR (aw cO (aw bf (ah 1) (fY (ae (cC .non) (ay)))) (cC (.int 0))))
noncomputable def fJ : List D -> aB -> ak D := jK 1 2 mi
theorem sy : aY ["_law_web", "_law_thing"] ["_law_web", "_law_thing"] (ar fE) := ⟨rfl, rfl, rfl, by decide +kernel, rfl, by decide +kernel, by decide +kernel⟩
theorem pK : (["_law_one"] : List Str).Nodup := by decide +kernel
noncomputable def gu : ME := aA fH (ae (ah 0) (ay))
noncomputable def iQ : MS := bG (mq (sW (m5 (rF (pO (jn "tuple") (ah 1)))) (sW (gP (aw (jW .Lt) (aA i5 (ae (ah 1) (ay))) (cC (.int 3)))) (m5 (rF (aA sU (ae (bS (gG (ah 1)) [none] (ag 0) (bw) (gu)) (ay))))))) (cR (cC (.bl false))) (fZ))
 (cR (m6 (aw (jW .LtE) (aA i5 (ae (ah 1) (ay))) (aw cO (ah 0) (cC (.int 0)))) (aw (pN false) (ah 1) (aA bg (ae (ah 0) (ae (aA i5 (ae (ah 1) (ay))) (ay)))))))
noncomputable def cq : List D -> aB -> ak D := jK 2 2 iQ
theorem fF : aY ["_law_ring", "_law_many", "_law_pen", "_law_spot", "_law_odd", "_law_some"] ["_law_ring", "_law_many", "_law_pen"] (ar g9) := ⟨rfl, rfl, rfl, by decide +kernel, rfl, by decide +kernel, by decide +kernel⟩
noncomputable def nu : MS := bG (bz (aA aL (ae (ah 2) (ae (aw bf (aA i5 (ae (ah 0) (ay))) (cC (.int 1))) (ay)))) (ag 3))
 (bG (bz (aw cO (fY (ae (aA aL (ae (ah 2) (ae (ah 1) (ay)))) (ae (ah 1) (ae (pO mw (cC (.int 1))) (ae (cC (.bl true)) (ae (cC .non) (ae (cC (.str "0")) (ae (dA (ae (cC (.int 0)) (ay))) (ay))))))))) (aA aL (ae (ah 2) (ae (cC (.int 7)) (ay))))) (ag 4))
 (bG (bz (fY (ae (aw bf (aw bf (sP (ah 0) (uS) (f7 (ah 3))) (dA (ae (ah 4) (ay)))) (sP (ah 0) (f7 (aw bf (ah 3) (cC (.int 1)))) (uS))) (ae (aw bf (aw bf (sP (ah 0) (uS) (f7 (ah 3))) (dA (ae (ah 4) (ay)))) (sP (ah 0) (f7 (ah 3)) (uS))) (ae (aw bf (sP (ah 0) (uS) (f7 (ah 3))) (sP (ah 0) (f7 (aw bf (ah 3) (cC (.int 1)))) (uS))) (ay))))) (ag 5))
 (bG (bz (aw bf (ah 5) (fY (ae (aw bf (sP (ah 0) (f7 (ah 3)) (uS)) (sP (ah 0) (uS) (f7 (ah 3)))) (ae (aw yS (ah 0) (pO mw (cC (.int 1)))) (ae (aA tI (ae (ah 0) (ay))) (ae (dA (ae (ah 0) (ay))) (ae (aw bf (ah 0) (sP (ah 0) (uS) (f7 (cC (.int 1))))) (ay)))))))) (ag 5))
 (cR (aw cO (aw bf (ah 5) (fY (ae (cC .non) (ae (cC (.int 0)) (ay))))) (aA aL (ae (ah 2) (ae (cC (.int 10)) (ay)))))))))
noncomputable def fv : List D -> aB -> ak D := jK 3 6 nu
theorem iU : aY ["_law_script", "_law_cell", "_law_pen", "_law_web", "_law_least_here", "_law_rings", "_law_longest", "_law_things", "_law_thing", "_law_found"] ["_law_script"] (ar j5) := ⟨rfl, rfl, rfl, by decide +kernel, rfl, by decide +kernel, by decide +kernel⟩
theorem AM : (["_law_one", "_law_pen", "_law_web"] : List Str).Nodup := by decide +kernel
noncomputable def nQ : ME := aA fv (ae (ah 0) (ae (aw cO (ah 2) (cC (.int 0))) (ae (ah 1) (ay))))
noncomputable def lR : MS := bG (bz (aA de (ae (ah 3) (ae (ah 8) (ay)))) (ag 9))
 (mq (sW (m5 (rF (pO (jn "bool") (ah 9)))) (gP (aw (jV true) (ah 9) (aA cq (ae (ah 3) (ae (ah 8) (ay))))))) (cR (cC (.bl false))) (fZ))
noncomputable def kz : MS := bG (bz (aA fJ (ae (ah 3) (ay))) (ag 4))
 (bG (mq (gP (aw (u5 true) (aA il (ae (aA fG (ae (ah 3) (ay))) (ay))) (aA il (ae (ah 4) (ay))))) (cR (cC (.bl false))) (fZ))
 (bG (bz (Gd (gP (aw (pT true) (ah 4) (cC .non))) (aA bg (ae (ah 3) (ae (ah 4) (ay)))) (fY (ay))) (ag 5))
 (bG (mq (gP (aw (u5 true) (aA il (ae (aA dm (ae (ah 3) (ay))) (ay))) (aA il (ae (aw cO (aw bf (ah 5) (fY (ae (cC .non) (ay)))) (cC (.int 0))) (ay))))) (cR (cC (.bl false))) (fZ))
 (bG (bz (aA bg (ae (ah 3) (ae (aw cO (ah 3) (cC (.int 0))) (ay)))) (ag 6))
 (bG (bz (aw bf (aw bf (sP (ah 5) (uS) (f7 (cC (.int 2)))) (sP (ah 6) (f7 (pO mw (cC (.int 2)))) (uS))) (fY (ae (aA cg (ae (ah 2) (ae (aw cO (ah 3) (cC (.int 0))) (ay)))) (ae (dA (ae (cC (.int 0)) (ae (cC (.int 1)) (ae (cC (.int 2)) (ay))))) (ay))))) (ag 7))
 (jX (gG (aw bf (aw bf (ah 7) (bS (gG (ah 7)) [none, some 2, some 3] (ag 0) (bw) (nQ))) (fY (ae (dA (ay)) (ae (Bv) (ay)))))) (ag 8) lR))))))
noncomputable def nP : MS := bG (bz (aA eP (ae (ah 1) (ay))) (ag 2))
 (jX (gG (fY (ae (aA eO (ae (ah 2) (ay))) (ae (aA bQ (ae (ah 2) (ay))) (ay))))) (ag 3) kz)
noncomputable def DN : MS := bG (jX (gG (aw bf (fY (ae (aA dX (ae (ah 0) (ae (cC (.int 0)) (ay)))) (ay))) (sP (ah 0) (f7 (cC (.int 1))) (f7 (cC (.int 6)))))) (ag 1) nP)
 (cR (cC (.bl true)))
noncomputable def tN : List D -> aB -> ak D := jK 1 10 DN
theorem uH (nm : Nm mg) {f : Addr} {fd : FuncData} (F : iJ K "is_whole" "is_whole" iN f fd) (hm : mg "is_whole" = some (.ref f)) : d3 P w K mg base (dZ K w) 1 "is_whole" 1 iw :=
 cP F uE rfl hm (F.b1 (by rfl) fun _ _ _ _ _ _ _ => by rfl) fun cdv A outer s H E hr =>
 aQ (bK (tj (nZ (T := "int") (by decide) zK (by decide) (by decide) nm.isinstance nm.int (aE 0)) (tm (Dr (nZ (T := "bool") (by decide) se (by decide) (by decide) nm.isinstance nm.bool (aE 0))))))
theorem mU (nm : Nm mg) {f : Addr} {fd : FuncData} (F : iJ K "is_whole_from" "is_whole_from" d7 f fd) (hm : mg "is_whole_from" = some (.ref f)) (d_is_whole : d3 P w K mg base (dZ K w) 1 "is_whole" 1 iw) : d3 P w K mg base (dZ K w) 2 "is_whole_from" 3 dw :=
 cP F mT rfl hm (F.b3 (by rfl) fun _ _ _ _ _ _ _ _ _ => by rfl) fun cdv A outer s H E hr =>
 aQ (bK (tj (aS d_is_whole (hr.mono (by decide)) (aI (aE 0) (ba))) (tm (GN (jZ (op := .LtE) hr.units) (jZ (op := .LtE) hr.units) (aE 1) (aE 0) (aE 2)))))
theorem uI (nm : Nm mg) {f : Addr} {fd : FuncData} (F : iJ K "is_place" "is_place" iO f fd) (hm : mg "is_place" = some (.ref f)) (d_is_whole_from : d3 P w K mg base (dZ K w) 2 "is_whole_from" 3 dw) : d3 P w K mg base (dZ K w) 3 "is_place" 2 eY :=
 cP F uF rfl hm (F.b2 (by rfl) fun _ _ _ _ _ _ _ _ => by rfl) fun cdv A outer s H E hr =>
 aQ (bK (aS d_is_whole_from (hr.mono (by decide)) (aI (aE 1) (aI (bC) (aI (kP (aE 0) (bC)) (ba))))))
theorem sC (nm : Nm mg) {f : Addr} {fd : FuncData} (F : iJ K "is_places" "is_places" fD f fd) (hm : mg "is_places" = some (.ref f)) (d_is_place : d3 P w K mg base (dZ K w) 3 "is_place" 2 eY) : d3 P w K mg base (dZ K w) 4 "is_places" 2 cK :=
 cP F sx rfl hm (F.b2 (by rfl) fun _ _ _ _ _ _ _ _ => by rfl) fun cdv A outer s H E hr =>
 aQ (bK (tj (nZ (T := "tuple") (by decide) uz (by decide) (by decide) nm.isinstance nm.tuple (aE 1)) (tm (bu zl nm.all (aI (fx (bB (N := ["many", "thing"]) (sc := ar fD) (Nc := ["place", "many"]) (cap := [none, some 0]) rfl rfl (by decide +kernel)) (rm (aE 1)) (fun _ _ _ _ _ => iD 0 pJ) (fun _ _ _ _ _ => gy) (fun _ _ _ _ _ => aS d_is_place (hr.mono (by decide)) (aI (aE 1) (aI (aE 0) (ba))))) (ba))))))
theorem pG (nm : Nm mg) {f : Addr} {fd : FuncData} (F : iJ K "check_place" "check_place" fL f fd) (hm : mg "check_place" = some (.ref f)) (d_is_place : d3 P w K mg base (dZ K w) 3 "is_place" 2 eY) : d3 P w K mg base (dZ K w) 4 "check_place" 2 eM :=
 cP F pE rfl hm (F.b2 (by rfl) fun _ _ _ _ _ _ _ _ => by rfl) fun cdv A outer s H E hr =>
 aQ (jm (tf (Ga (aS d_is_place (hr.mono (by decide)) (aI (bx (aE 0) (bC)) (aI (aE 1) (ba)))))) (aQ (BB)) (iK))
theorem vE (nm : Nm mg) {f : Addr} {fd : FuncData} (F : iJ K "is_tied" "is_tied" jz f fd) (hm : mg "is_tied" = some (.ref f)) : d3 P w K mg base (dZ K w) 1 "is_tied" 3 jg :=
 cP F vx rfl hm (F.b3 (by rfl) fun _ _ _ _ _ _ _ _ _ => by rfl) fun cdv A outer s H E hr =>
 aQ (bK (tp (u3 hr.units) (cn (aI (bu wd nm.min (aI (aE 1) (aI (aE 2) (ba)))) (aI (bu tM nm.max (aI (aE 1) (aI (aE 2) (ba)))) (ba)))) (bx (aE 0) (bC))))
theorem pF (nm : Nm mg) {f : Addr} {fd : FuncData} (F : iJ K "next_places" "next_places" cV f fd) (hm : mg "next_places" = some (.ref f)) : d3 P w K mg base (dZ K w) 1 "next_places" 2 eK :=
 cP F pD rfl hm (F.b2 (by rfl) fun _ _ _ _ _ _ _ _ => by rfl) fun cdv A outer s H E hr =>
 aQ (bK (bD (fx (bB (N := ["ties", "front"]) (sc := ar cV) (Nc := ["a", "b", "front"]) (cap := [none, none, some 1]) rfl rfl (by decide +kernel)) (rm (aE 0)) (fun _ _ _ _ _ => qo (gK (iD 0 jj) (gK (iD 1 jj) (qp)))) (fun _ _ _ _ _ => lI (bZ (u3 hr.units) (aE 0) (aE 2))) (fun _ _ _ _ _ => aE 1)) (fx (bB (N := ["ties", "front"]) (sc := ar cV) (Nc := ["a", "b", "front"]) (cap := [none, none, some 1]) rfl rfl (by decide +kernel)) (rm (aE 0)) (fun _ _ _ _ _ => qo (gK (iD 0 ji) (gK (iD 1 ji) (qp)))) (fun _ _ _ _ _ => lI (bZ (u3 hr.units) (aE 1) (aE 2))) (fun _ _ _ _ _ => aE 0))))
theorem vD (nm : Nm mg) {f : Addr} {fd : FuncData} (F : iJ K "star_of" "star_of" jy f fd) (hm : mg "star_of" = some (.ref f)) (d_check_place : d3 P w K mg base (dZ K w) 4 "check_place" 2 eM) (d_next_places : d3 P w K mg base (dZ K w) 1 "next_places" 2 eK) : d3 P w K mg base (dZ K w) 5 "star_of" 2 jf :=
 cP F vw rfl hm (F.b2 (by rfl) fun _ _ _ _ _ _ _ _ => by rfl) fun cdv A outer s H E hr =>
 aM (zv (aS d_check_place (hr.mono (by decide)) (aI (aE 0) (aI (aE 1) (ba)))))
 (aQ (bK (bu jx nm.tuple (aI (bu lV nm.sorted (aI (bu (wc hr.units) nm.set (aI (bD (d8 (aI (aE 1) (ba))) (aS d_next_places (hr.mono (by decide)) (aI (bx (aE 0) (bC)) (aI (d8 (aI (aE 1) (ba))) (ba))))) (ba))) (ba))) (ba)))))
theorem sA (nm : Nm mg) {f : Addr} {fd : FuncData} (F : iJ K "ring_good" "ring_good" fC f fd) (hm : mg "ring_good" = some (.ref f)) (c_LEAST_RING : ∃ t, mg "LEAST_RING" = some (.int 3 t)) (d_is_places : d3 P w K mg base (dZ K w) 4 "is_places" 2 cK) (d_is_tied : d3 P w K mg base (dZ K w) 1 "is_tied" 3 jg) : d3 P w K mg base (dZ K w) 5 "ring_good" 2 de :=
 cP F sv rfl hm (F.b2 (by rfl) fun _ _ _ _ _ _ _ _ => by rfl) fun cdv A outer s H E hr =>
 aM (jm (sR (yL (tf (Ga (aS d_is_places (hr.mono (by decide)) (aI (bx (aE 0) (bC)) (aI (aE 1) (ba)))))) (yL (bZ (jZ (op := .Lt) hr.units) (bu j3 nm.len (aI (aE 1) (ba))) (Gk c_LEAST_RING)) (yY (bZ (Bs hr.units) (bu j3 nm.len (aI (bu (wc hr.units) nm.set (aI (aE 1) (ba))) (ba))) (bu j3 nm.len (aI (aE 1) (ba)))))))) (aQ (bK (DO))) (iK))
 (aQ (bK (bu zl nm.all (aI (fx (bB (N := ["web", "thing"]) (sc := ar fC) (Nc := ["at", "place", "web", "thing"]) (cap := [none, none, some 0, some 1]) rfl rfl (by decide +kernel)) (Ir nm.enumerate (aI (aE 1) (ba))) (fun _ _ _ _ _ => qo (gK (iD 0 kn) (gK (iD 1 kn) (qp)))) (fun _ _ _ _ _ => gy) (fun _ _ _ _ _ => aS d_is_tied (hr.mono (by decide)) (aI (aE 2) (aI (bx (aE 3) (kP (aE 0) (bC))) (aI (aE 1) (ba)))))) (ba)))))
theorem uG (nm : Nm mg) {f : Addr} {fd : FuncData} (F : iJ K "rings_of" "rings_of" dc f fd) (hm : mg "rings_of" = some (.ref f)) (d_star_of : d3 P w K mg base (dZ K w) 5 "star_of" 2 jf) : d3 P w K mg base (dZ K w) 6 "rings_of" 2 iu :=
 cP F fq rfl hm (F.b2 (by rfl) fun _ _ _ _ _ _ _ _ => by rfl) fun cdv A outer s H E hr =>
 aM (bW 2 fq.nd (bx (aE 0) (bC)))
 (aM (bW 3 fq.nd (fx (bB (N := ["web", "size", "many", "stars", "ways", "step"]) (sc := ar dc) (Nc := ["place", "web"]) (cap := [none, some 0]) rfl rfl (by decide +kernel)) (lF nm.range (aI (aE 2) (ba))) (fun _ _ _ _ _ => iD 0 qd) (fun _ _ _ _ _ => gy) (fun _ _ _ _ _ => aS d_star_of (hr.mono (by decide)) (aI (aE 1) (aI (aE 0) (ba))))))
 (aM (iV 4 fq.nd (bB (N := ["web", "size", "many", "stars", "ways", "step"]) (sc := ar dc) (Nc := ["place"]) (cap := [none]) rfl rfl (by decide +kernel)) (lF nm.range (aI (aE 2) (ba))) (fun _ _ _ _ _ => iD 0 qc) (fun _ _ _ _ _ => gy) (fun _ _ _ _ _ => cn (aI (aE 0) (ba))))
 (aM (iL Nt (lF nm.range (aI (kP (aE 1) (bC)) (ba))) (iD 5 fq.nd) (aQ (B9 4 fq.nd (bB (N := ["web", "size", "many", "stars", "ways", "step"]) (sc := ar dc) (Nc := ["way", "place", "stars"]) (cap := [none, none, some 3]) rfl rfl (by decide +kernel)) (rm (aE 4)) (fun _ _ _ _ _ => iD 0 kY) (fun _ _ _ _ _ => gy) (fun _ _ _ _ _ _ => IE rfl (rm (bx (aE 2) (bx (aE 0) (lJ (bC))))) (iD 1 kY) (lI (bZ (DF hr.units) (aE 1) (aE 0))) (IF rfl (bD (aE 0) (cn (aI (aE 1) (ba)))))))))
 (aQ (bK (fx (bB (N := ["web", "size", "many", "stars", "ways", "step"]) (sc := ar dc) (Nc := ["way", "stars"]) (cap := [none, some 3]) rfl rfl (by decide +kernel)) (rm (aE 4)) (fun _ _ _ _ _ => iD 0 p9) (fun _ _ _ _ _ => lI (bZ (u3 hr.units) (bx (aE 0) (bC)) (bx (aE 1) (bx (aE 0) (lJ (bC)))))) (fun _ _ _ _ _ => aE 0)))))))
theorem mj (nm : Nm mg) {f : Addr} {fd : FuncData} (F : iJ K "shortest_rings" "shortest_rings" dF f fd) (hm : mg "shortest_rings" = some (.ref f)) (c_LEAST_RING : ∃ t, mg "LEAST_RING" = some (.int 3 t)) (d_rings_of : d3 P w K mg base (dZ K w) 6 "rings_of" 2 iu) : d3 P w K mg base (dZ K w) 7 "shortest_rings" 1 cX :=
 cP F fS rfl hm (F.b1 (by rfl) fun _ _ _ _ _ _ _ => by rfl) fun cdv A outer s H E hr =>
 aM (iL Nt (xl nm.range (aI (Gk c_LEAST_RING) (aI (bD (bx (aE 0) (bC)) (bC)) (ba)))) (iD 1 fS.nd) (aM (bW 2 fS.nd (aS d_rings_of (hr.mono (by decide)) (aI (aE 0) (aI (aE 1) (ba)))))
 (aQ (jm (Ga (aE 2)) (aQ (bK (aE 2))) (iK)))))
 (aQ (bK (d8 (ba))))
theorem p4 (nm : Nm mg) {f : Addr} {fd : FuncData} (F : iJ K "first_ring" "first_ring" gq f fd) (hm : mg "first_ring" = some (.ref f)) (d_shortest_rings : d3 P w K mg base (dZ K w) 7 "shortest_rings" 1 cX) : d3 P w K mg base (dZ K w) 8 "first_ring" 1 dm :=
 cP F pY rfl hm (F.b1 (by rfl) fun _ _ _ _ _ _ _ => by rfl) fun cdv A outer s H E hr =>
 aQ (bK (Ea hr.units nm.min (aS d_shortest_rings (hr.mono (by decide)) (aI (aE 0) (ba)))))
theorem p3 (nm : Nm mg) {f : Addr} {fd : FuncData} (F : iJ K "least_ring" "least_ring" gn f fd) (hm : mg "least_ring" = some (.ref f)) (d_first_ring : d3 P w K mg base (dZ K w) 8 "first_ring" 1 dm) : d3 P w K mg base (dZ K w) 9 "least_ring" 1 fG :=
 cP F kU rfl hm (F.b1 (by rfl) fun _ _ _ _ _ _ _ => by rfl) fun cdv A outer s H E hr =>
 aM (bW 1 kU.nd (aS d_first_ring (hr.mono (by decide)) (aI (aE 0) (ba))))
 (aQ (bK (Gj (bZ (DH) (aE 1) (Be)) (Be) (bu j3 nm.len (aI (aE 1) (ba))))))
theorem nD (nm : Nm mg) {f : Addr} {fd : FuncData} (F : iJ K "_law_cell_at" "_law_cell_at" eS f fd) (hm : mg "_law_cell_at" = some (.ref f)) : d3 P w K mg base (dZ K w) 1 "_law_cell_at" 2 dX :=
 cP F nC rfl hm (F.b2 (by rfl) fun _ _ _ _ _ _ _ _ => by rfl) fun cdv A outer s H E hr =>
 aM (jm (bZ (jZ (op := .Lt) hr.units) (aE 1) (bu j3 nm.len (aI (aE 0) (ba)))) (aQ (bK (bx (aE 0) (aE 1)))) (iK))
 (aQ (bK (bC)))
theorem sE (nm : Nm mg) {f : Addr} {fd : FuncData} (F : iJ K "_law_next" "_law_next" g6 f fd) (hm : mg "_law_next" = some (.ref f)) : d3 P w K mg base (dZ K w) 1 "_law_next" 1 fu :=
 cP F lZ rfl hm (F.b1 (by rfl) fun _ _ _ _ _ _ _ => by rfl) fun cdv A outer s H E hr =>
 aM (bW 0 lZ.nd (ql (bD (aE 0) (bC)) (bC)))
 (aQ (bK (ql (bD (bD (v7 (aE 0) (aE 0)) (v7 (bC) (aE 0))) (bC)) (bC))))
theorem pI (nm : Nm mg) {f : Addr} {fd : FuncData} (F : iJ K "_law_pen_of" "_law_pen_of" fN f fd) (hm : mg "_law_pen_of" = some (.ref f)) : d3 P w K mg base (dZ K w) 1 "_law_pen_of" 1 eP :=
 cP F kl rfl hm (F.b1 (by rfl) fun _ _ _ _ _ _ _ => by rfl) fun cdv A outer s H E hr =>
 aM (bW 1 kl.nd (bu tM nm.max (aI (aE 0) (aI (kP (bC) (aE 0)) (ba)))))
 (aQ (bK (d8 (aI (aE 1) (aI (bu DL nm.int (aI (tp (jZ (op := .GtE) hr.units) (aE 1) (GL (bC) (bC))) (ba))) (aI (ql (aE 1) (bC)) (ba)))))))
theorem sG (nm : Nm mg) {f : Addr} {fd : FuncData} (F : iJ K "_law_draw" "_law_draw" g8 f fd) (hm : mg "_law_draw" = some (.ref f)) (d__law_next : d3 P w K mg base (dZ K w) 1 "_law_next" 1 fu) : d3 P w K mg base (dZ K w) 2 "_law_draw" 2 aL :=
 cP F l4 rfl hm (F.b2 (by rfl) fun _ _ _ _ _ _ _ _ => by rfl) fun cdv A outer s H E hr =>
 aM (jm (bZ (nU hr.units) (bx (aE 0) (bC)) (bC)) (aM (bW 2 l4.nd (ql (bx (aE 0) (bC)) (aE 1)))
 (aM (v8 (zp (bx (aE 0) (bC)) (aE 1)) (v9 (aE 0) (bC)))
 (aQ (bK (aE 2))))) (iK))
 (aM (v8 (aS d__law_next (hr.mono (by decide)) (aI (bD (aS d__law_next (hr.mono (by decide)) (aI (bx (aE 0) (bC)) (ba))) (bC)) (ba))) (v9 (aE 0) (bC)))
 (aQ (bK (ql (zp (bx (aE 0) (bC)) (bC)) (aE 1)))))
theorem p5 (nm : Nm mg) {f : Addr} {fd : FuncData} (F : iJ K "_law_whole" "_law_whole" gr f fd) (hm : mg "_law_whole" = some (.ref f)) : d3 P w K mg base (dZ K w) 1 "_law_whole" 1 fH :=
 cP F pZ rfl hm (F.b1 (by rfl) fun _ _ _ _ _ _ _ => by rfl) fun cdv A outer s H E hr =>
 aQ (bK (tj (nZ (T := "int") (by decide) zK (by decide) (by decide) nm.isinstance nm.int (aE 0)) (tm (Dr (nZ (T := "bool") (by decide) se (by decide) (by decide) nm.isinstance nm.bool (aE 0))))))
theorem p7 (nm : Nm mg) {f : Addr} {fd : FuncData} (F : iJ K "_law_named" "_law_named" dz f fd) (hm : mg "_law_named" = some (.ref f)) : d3 P w K mg base (dZ K w) 1 "_law_named" 2 fI :=
 cP F kW rfl hm (F.b2 (by rfl) fun _ _ _ _ _ _ _ _ => by rfl) fun cdv A outer s H E hr =>
 aM (iV 2 kW.nd (bB (N := ["_law_web", "_law_names", "_law_ties"]) (sc := ar dz) (Nc := ["_law_one", "_law_other", "_law_names"]) (cap := [none, none, some 1]) rfl rfl (by decide +kernel)) (rm (bx (aE 0) (bC))) (fun _ _ _ _ _ => qo (gK (iD 0 jO) (gK (iD 1 jO) (qp)))) (fun _ _ _ _ _ => gy) (fun _ _ _ _ _ => cn (aI (bx (aE 2) (aE 0)) (aI (bx (aE 2) (aE 1)) (ba)))))
 (aQ (bK (cn (aI (bx (aE 0) (bC)) (aI (bu jx nm.tuple (aI (bu lV nm.sorted (aI (bu (wc hr.units) nm.set (aI (fx (bB (N := ["_law_web", "_law_names", "_law_ties"]) (sc := ar dz) (Nc := ["_law_tie"]) (cap := [none]) rfl rfl (by decide +kernel)) (rm (aE 2)) (fun _ _ _ _ _ => iD 0 nF) (fun _ _ _ _ _ => gy) (fun _ _ _ _ _ => cn (aI (bu wd nm.min (aI (aE 0) (ba))) (aI (bu tM nm.max (aI (aE 0) (ba))) (ba))))) (ba))) (ba))) (ba))) (ba))))))
theorem mW (nm : Nm mg) {f : Addr} {fd : FuncData} (F : iJ K "_law_names_by" "_law_names_by" cW f fd) (hm : mg "_law_names_by" = some (.ref f)) (d__law_draw : d3 P w K mg base (dZ K w) 2 "_law_draw" 2 aL) : d3 P w K mg base (dZ K w) 3 "_law_names_by" 2 cg :=
 cP F jh rfl hm (F.b2 (by rfl) fun _ _ _ _ _ _ _ _ => by rfl) fun cdv A outer s H E hr =>
 aM (bW 2 jh.nd (Eb nm.range nm.list (aI (aE 1) (ba))))
 (aQ (bK (bu jx nm.tuple (aI (fx (bB (N := ["_law_pen", "_law_many", "_law_left"]) (sc := ar cW) (Nc := ["_law_place", "_law_left", "_law_pen"]) (cap := [none, some 2, some 0]) rfl rfl (by decide +kernel)) (lF nm.range (aI (aE 1) (ba))) (fun _ _ _ _ _ => iD 0 lA) (fun _ _ _ _ _ => gy) (fun _ _ _ _ _ => GM (aE 1) (aI (aS d__law_draw (hr.mono (by decide)) (aI (aE 2) (aI (bu j3 nm.len (aI (aE 1) (ba))) (ba)))) (ba)))) (ba)))))
theorem uJ (nm : Nm mg) {f : Addr} {fd : FuncData} (F : iJ K "_law_far" "_law_far" gF f fd) (hm : mg "_law_far" = some (.ref f)) : d3 P w K mg base (dZ K w) 1 "_law_far" 1 iy :=
 cP F cI rfl hm (F.b1 (by rfl) fun _ _ _ _ _ _ _ => by rfl) fun cdv A outer s H E hr =>
 aM (bW 1 cI.nd (bx (aE 0) (bC)))
 (aM (iV 2 cI.nd (bB (N := ["_law_web", "_law_many", "_law_far_here", "_law_place", "_law_size", "_law_one", "_law_other", "_law_a", "_law_b"]) (sc := ar gF) (Nc := ["_law_place", "_law_many"]) (cap := [none, some 1]) rfl rfl (by decide +kernel)) (lF nm.range (aI (aE 1) (ba))) (fun _ _ _ _ _ => iD 0 qf) (fun _ _ _ _ _ => gy) (fun _ _ _ _ _ => v7 (d8 (aI (Be) (ba))) (aE 1)))
 (aM (iL Nt (lF nm.range (aI (aE 1) (ba))) (iD 3 cI.nd) (aM (v8 (bC) (v9 (bx (aE 2) (aE 3)) (aE 3)))
 (aQ (iL Nt (xl nm.range (aI (bC) (aI (aE 1) (ba)))) (iD 4 cI.nd) (aQ (iL Nt (rm (bx (aE 0) (bC))) (qo (gK (iD 5 cI.nd) (gK (iD 6 cI.nd) (qp)))) (aQ (iL Nt (rm (d8 (aI (cn (aI (aE 5) (aI (aE 6) (ba)))) (aI (cn (aI (aE 6) (aI (aE 5) (ba)))) (ba))))) (qo (gK (iD 7 cI.nd) (gK (iD 8 cI.nd) (qp)))) (aQ (jm (sR (tq (bZ (nU hr.units) (bx (bx (aE 2) (aE 3)) (aE 7)) (kP (aE 4) (bC))) (og (bZ (DH) (bx (bx (aE 2) (aE 3)) (aE 8)) (Be))))) (aQ (v8 (aE 4) (v9 (bx (aE 2) (aE 3)) (aE 8)))) (iK)))))))))))
 (aQ (bK (aE 2)))))
theorem p6 (nm : Nm mg) {f : Addr} {fd : FuncData} (F : iJ K "_law_steps" "_law_steps" eG f fd) (hm : mg "_law_steps" = some (.ref f)) (d__law_far : d3 P w K mg base (dZ K w) 1 "_law_far" 1 iy) : d3 P w K mg base (dZ K w) 2 "_law_steps" 2 dq :=
 cP F eJ rfl hm (F.b2 (by rfl) fun _ _ _ _ _ _ _ _ => by rfl) fun cdv A outer s H E hr =>
 aM (bW 2 eJ.nd (aS d__law_far (hr.mono (by decide)) (aI (aE 0) (ba))))
 (aM (bW 3 eJ.nd (d8 (ba)))
 (aM (iL Nt (lF nm.range (aI (bx (aE 0) (bC)) (ba))) (iD 4 eJ.nd) (aQ (bW 3 eJ.nd (bD (aE 3) (fx (bB (N := ["_law_web", "_law_k", "_law_far_here", "_law_ties", "_law_one"]) (sc := ar eG) (Nc := ["_law_b", "_law_one", "_law_k", "_law_far_here"]) (cap := [none, some 4, some 1, some 2]) rfl rfl (by decide +kernel)) (xl nm.range (aI (bD (aE 4) (bC)) (aI (bx (aE 0) (bC)) (ba)))) (fun _ _ _ _ _ => iD 0 nE) (fun _ _ _ _ _ => lI (sR (tq (bZ (zF) (bx (bx (aE 3) (aE 1)) (aE 0)) (Be)) (og (bZ (jZ (op := .LtE) hr.units) (bx (bx (aE 3) (aE 1)) (aE 0)) (aE 2)))))) (fun _ _ _ _ _ => cn (aI (aE 1) (aI (aE 0) (ba)))))))))
 (aQ (bK (cn (aI (bx (aE 0) (bC)) (aI (bu jx nm.tuple (aI (aE 3) (ba))) (ba))))))))
theorem ml (nm : Nm mg) {f : Addr} {fd : FuncData} (F : iJ K "_law_sparse_by" "_law_sparse_by" aZ f fd) (hm : mg "_law_sparse_by" = some (.ref f)) (d__law_draw : d3 P w K mg base (dZ K w) 2 "_law_draw" 2 aL) (d__law_named : d3 P w K mg base (dZ K w) 1 "_law_named" 2 fI) (d__law_names_by : d3 P w K mg base (dZ K w) 3 "_law_names_by" 2 cg) : d3 P w K mg base (dZ K w) 4 "_law_sparse_by" 1 bQ :=
 cP F aV rfl hm (F.b1 (by rfl) fun _ _ _ _ _ _ _ => by rfl) fun cdv A outer s H E hr =>
 aM (bW 1 aV.nd (aS d__law_draw (hr.mono (by decide)) (aI (aE 0) (aI (bC) (ba)))))
 (aM (bW 2 aV.nd (bD (bC) (aS d__law_draw (hr.mono (by decide)) (aI (aE 0) (aI (bC) (ba))))))
 (aM (bW 3 aV.nd (d8 (ba)))
 (aM (iL Nt (lF nm.range (aI (aE 2) (ba))) (iD 4 aV.nd) (aQ (bW 3 aV.nd (bD (aE 3) (fx (bB (N := ["_law_pen", "_law_way", "_law_many", "_law_every", "_law_other", "_law_ties"]) (sc := ar aZ) (Nc := ["_law_one", "_law_other"]) (cap := [none, some 4]) rfl rfl (by decide +kernel)) (lF nm.range (aI (aE 4) (ba))) (fun _ _ _ _ _ => iD 0 kL) (fun _ _ _ _ _ => gy) (fun _ _ _ _ _ => cn (aI (aE 0) (aI (aE 1) (ba)))))))))
 (aM (jm (bZ (nU hr.units) (aE 1) (bC)) (aQ (iV 5 aV.nd (bB (N := ["_law_pen", "_law_way", "_law_many", "_law_every", "_law_other", "_law_ties"]) (sc := ar aZ) (Nc := ["_law_pair", "_law_pen"]) (cap := [none, some 0]) rfl rfl (by decide +kernel)) (rm (aE 3)) (fun _ _ _ _ _ => iD 0 kK) (fun _ _ _ _ _ => lI (bZ (nU hr.units) (aS d__law_draw (hr.mono (by decide)) (aI (aE 1) (aI (bC) (ba)))) (bC))) (fun _ _ _ _ _ => aE 0))) (aQ (jm (bZ (nU hr.units) (aE 1) (bC)) (aQ (iV 5 aV.nd (bB (N := ["_law_pen", "_law_way", "_law_many", "_law_every", "_law_other", "_law_ties"]) (sc := ar aZ) (Nc := ["_law_pair", "_law_pen"]) (cap := [none, some 0]) rfl rfl (by decide +kernel)) (rm (aE 3)) (fun _ _ _ _ _ => iD 0 kI) (fun _ _ _ _ _ => lI (bZ (nU hr.units) (aS d__law_draw (hr.mono (by decide)) (aI (aE 1) (aI (bC) (ba)))) (bC))) (fun _ _ _ _ _ => aE 0))) (aQ (jm (bZ (nU hr.units) (aE 1) (bC)) (aQ (bW 5 aV.nd (bD (fx (bB (N := ["_law_pen", "_law_way", "_law_many", "_law_every", "_law_other", "_law_ties"]) (sc := ar aZ) (Nc := ["_law_place"]) (cap := [none]) rfl rfl (by decide +kernel)) (lF nm.range (aI (kP (aE 2) (bC)) (ba))) (fun _ _ _ _ _ => iD 0 kH) (fun _ _ _ _ _ => gy) (fun _ _ _ _ _ => cn (aI (aE 0) (aI (bD (aE 0) (bC)) (ba))))) (v7 (d8 (aI (cn (aI (bC) (aI (kP (aE 2) (bC)) (ba)))) (ba))) (bu DL nm.int (aI (tp (jZ (op := .Gt) hr.units) (aE 2) (bC)) (ba))))))) (aQ (jm (bZ (nU hr.units) (aE 1) (bC)) (aQ (iV 5 aV.nd (bB (N := ["_law_pen", "_law_way", "_law_many", "_law_every", "_law_other", "_law_ties"]) (sc := ar aZ) (Nc := ["_law_place"]) (cap := [none]) rfl rfl (by decide +kernel)) (lF nm.range (aI (kP (aE 2) (bC)) (ba))) (fun _ _ _ _ _ => iD 0 kG) (fun _ _ _ _ _ => gy) (fun _ _ _ _ _ => cn (aI (aE 0) (aI (bD (aE 0) (bC)) (ba)))))) (aQ (jm (bZ (nU hr.units) (aE 1) (bC)) (aQ (iV 5 aV.nd (bB (N := ["_law_pen", "_law_way", "_law_many", "_law_every", "_law_other", "_law_ties"]) (sc := ar aZ) (Nc := ["_law_place"]) (cap := [none]) rfl rfl (by decide +kernel)) (xl nm.range (aI (bC) (aI (aE 2) (ba)))) (fun _ _ _ _ _ => iD 0 kF) (fun _ _ _ _ _ => gy) (fun _ _ _ _ _ => cn (aI (bC) (aI (aE 0) (ba)))))) (aQ (iV 5 aV.nd (bB (N := ["_law_pen", "_law_way", "_law_many", "_law_every", "_law_other", "_law_ties"]) (sc := ar aZ) (Nc := ["_law_place", "_law_pen"]) (cap := [none, some 0]) rfl rfl (by decide +kernel)) (xl nm.range (aI (bC) (aI (aE 2) (ba)))) (fun _ _ _ _ _ => iD 0 kE) (fun _ _ _ _ _ => gy) (fun _ _ _ _ _ => cn (aI (aS d__law_draw (hr.mono (by decide)) (aI (aE 1) (aI (aE 0) (ba)))) (aI (aE 0) (ba)))))))))))))))
 (aQ (bK (aS d__law_named (hr.mono (by decide)) (aI (cn (aI (aE 2) (aI (bu jx nm.tuple (aI (aE 5) (ba))) (ba)))) (aI (aS d__law_names_by (hr.mono (by decide)) (aI (aE 0) (aI (aE 2) (ba)))) (ba))))))))))
theorem pH (nm : Nm mg) {f : Addr} {fd : FuncData} (F : iJ K "_law_web_by" "_law_web_by" fM f fd) (hm : mg "_law_web_by" = some (.ref f)) (d__law_sparse_by : d3 P w K mg base (dZ K w) 4 "_law_sparse_by" 1 bQ) (d__law_draw : d3 P w K mg base (dZ K w) 2 "_law_draw" 2 aL) (d__law_steps : d3 P w K mg base (dZ K w) 2 "_law_steps" 2 dq) : d3 P w K mg base (dZ K w) 5 "_law_web_by" 1 eO :=
 cP F cx rfl hm (F.b1 (by rfl) fun _ _ _ _ _ _ _ => by rfl) fun cdv A outer s H E hr =>
 aM (bW 1 cx.nd (aS d__law_sparse_by (hr.mono (by decide)) (aI (aE 0) (ba))))
 (aM (bW 2 cx.nd (aS d__law_draw (hr.mono (by decide)) (aI (aE 0) (aI (bC) (ba)))))
 (aM (jm (bZ (jZ (op := .Lt) hr.units) (aE 2) (bC)) (aQ (bW 1 cx.nd (aS d__law_steps (hr.mono (by decide)) (aI (aE 1) (aI (bC) (ba)))))) (iK))
 (aM (jm (sR (tq (bZ (nU hr.units) (aE 2) (bC)) (og (bZ (Bs hr.units) (bx (aE 1) (bC)) (cn (ba)))))) (aM (bW 3 cx.nd (aS d__law_draw (hr.mono (by decide)) (aI (aE 0) (aI (bu j3 nm.len (aI (bx (aE 1) (bC)) (ba))) (ba)))))
 (aQ (bK (cn (aI (bx (aE 1) (bC)) (aI (bD (lD (bx (aE 1) (bC)) (d4) (dj (aE 3))) (lD (bx (aE 1) (bC)) (dj (bD (aE 3) (bC))) (d4))) (ba))))))) (iK))
 (aM (jm (sR (tq (bZ (nU hr.units) (aE 2) (bC)) (og (bZ (jZ (op := .Gt) hr.units) (bx (aE 1) (bC)) (bC))))) (aM (bW 4 cx.nd (aS d__law_draw (hr.mono (by decide)) (aI (aE 0) (aI (bx (aE 1) (bC)) (ba)))))
 (aM (bW 5 cx.nd (bu jx nm.tuple (aI (bu lV nm.sorted (aI (cn (aI (aE 4) (aI (ql (bD (bD (aE 4) (bC)) (aS d__law_draw (hr.mono (by decide)) (aI (aE 0) (aI (kP (bx (aE 1) (bC)) (bC)) (ba))))) (bx (aE 1) (bC))) (ba)))) (ba))) (ba))))
 (aQ (bK (cn (aI (bx (aE 1) (bC)) (aI (bu jx nm.tuple (aI (bu lV nm.sorted (aI (bu (wc hr.units) nm.set (aI (bD (bx (aE 1) (bC)) (cn (aI (aE 5) (ba)))) (ba))) (ba))) (ba))) (ba)))))))) (iK))
 (aQ (bK (aE 1)))))))
theorem mV (nm : Nm mg) {f : Addr} {fd : FuncData} (F : iJ K "_law_rings_of" "_law_rings_of" cu f fd) (hm : mg "_law_rings_of" = some (.ref f)) : d3 P w K mg base (dZ K w) 1 "_law_rings_of" 2 bg :=
 cP F bP rfl hm (F.b2 (by rfl) fun _ _ _ _ _ _ _ _ => by rfl) fun cdv A outer s H E hr =>
 aM (iV 2 bP.nd (bB (N := ["_law_web", "_law_size", "_law_found", "_law_turn", "_law_longer", "_law_way", "_law_place"]) (sc := ar cu) (Nc := ["_law_place"]) (cap := [none]) rfl rfl (by decide +kernel)) (lF nm.range (aI (bx (aE 0) (bC)) (ba))) (fun _ _ _ _ _ => iD 0 lz) (fun _ _ _ _ _ => gy) (fun _ _ _ _ _ => cn (aI (aE 0) (ba))))
 (aM (iL Nt (lF nm.range (aI (kP (aE 1) (bC)) (ba))) (iD 3 bP.nd) (aM (bW 4 bP.nd (d8 (ba)))
 (aM (iL Nt (rm (aE 2)) (iD 5 bP.nd) (aQ (iL Nt (lF nm.range (aI (bx (aE 0) (bC)) (ba))) (iD 6 bP.nd) (aQ (jm (sR (tq (bZ (DF hr.units) (aE 6) (aE 5)) (og (bZ (u3 hr.units) (cn (aI (bu wd nm.min (aI (bx (aE 5) (lJ (bC))) (aI (aE 6) (ba)))) (aI (bu tM nm.max (aI (bx (aE 5) (lJ (bC))) (aI (aE 6) (ba)))) (ba)))) (bx (aE 0) (bC)))))) (aQ (zv (GO (aE 4) (aI (bD (aE 5) (cn (aI (aE 6) (ba)))) (ba))))) (iK))))))
 (aQ (bW 2 bP.nd (aE 4))))))
 (aQ (bK (fx (bB (N := ["_law_web", "_law_size", "_law_found", "_law_turn", "_law_longer", "_law_way", "_law_place"]) (sc := ar cu) (Nc := ["_law_way", "_law_web"]) (cap := [none, some 0]) rfl rfl (by decide +kernel)) (rm (aE 2)) (fun _ _ _ _ _ => iD 0 ly) (fun _ _ _ _ _ => lI (bZ (u3 hr.units) (cn (aI (bu wd nm.min (aI (bx (aE 0) (bC)) (aI (bx (aE 0) (lJ (bC))) (ba)))) (aI (bu tM nm.max (aI (bx (aE 0) (bC)) (aI (bx (aE 0) (lJ (bC))) (ba)))) (ba)))) (bx (aE 1) (bC)))) (fun _ _ _ _ _ => aE 0)))))
theorem p8 (nm : Nm mg) {f : Addr} {fd : FuncData} (F : iJ K "_law_least" "_law_least" eH f fd) (hm : mg "_law_least" = some (.ref f)) (d__law_rings_of : d3 P w K mg base (dZ K w) 1 "_law_rings_of" 2 bg) : d3 P w K mg base (dZ K w) 2 "_law_least" 1 fJ :=
 cP F kX rfl hm (F.b1 (by rfl) fun _ _ _ _ _ _ _ => by rfl) fun cdv A outer s H E hr =>
 aM (iV 1 kX.nd (bB (N := ["_law_web", "_law_sizes"]) (sc := ar eH) (Nc := ["_law_size", "_law_web"]) (cap := [none, some 0]) rfl rfl (by decide +kernel)) (xl nm.range (aI (bC) (aI (bD (bx (aE 0) (bC)) (bC)) (ba)))) (fun _ _ _ _ _ => iD 0 nG) (fun _ _ _ _ _ => lI (bZ (Bs hr.units) (aS d__law_rings_of (hr.mono (by decide)) (aI (aE 1) (aI (aE 0) (ba)))) (d8 (ba)))) (fun _ _ _ _ _ => aE 0))
 (aQ (bK (bx (bD (aE 1) (d8 (aI (Be) (ba)))) (bC))))
theorem sF (nm : Nm mg) {f : Addr} {fd : FuncData} (F : iJ K "_law_good" "_law_good" fE f fd) (hm : mg "_law_good" = some (.ref f)) (d__law_whole : d3 P w K mg base (dZ K w) 1 "_law_whole" 1 fH) (d__law_rings_of : d3 P w K mg base (dZ K w) 1 "_law_rings_of" 2 bg) : d3 P w K mg base (dZ K w) 2 "_law_good" 2 cq :=
 cP F sy rfl hm (F.b2 (by rfl) fun _ _ _ _ _ _ _ _ => by rfl) fun cdv A outer s H E hr =>
 aM (jm (sR (yL (tf (Ga (nZ (T := "tuple") (by decide) uz (by decide) (by decide) nm.isinstance nm.tuple (aE 1)))) (yL (bZ (jZ (op := .Lt) hr.units) (bu j3 nm.len (aI (aE 1) (ba))) (bC)) (yY (tf (Ga (bu zl nm.all (aI (fx (bB (N := ["_law_web", "_law_thing"]) (sc := ar fE) (Nc := ["_law_one"]) (cap := [none]) rfl rfl (by decide +kernel)) (rm (aE 1)) (fun _ _ _ _ _ => iD 0 pK) (fun _ _ _ _ _ => gy) (fun _ _ _ _ _ => aS d__law_whole (hr.mono (by decide)) (aI (aE 0) (ba)))) (ba))))))))) (aQ (bK (DO))) (iK))
 (aQ (bK (tj (tp (jZ (op := .LtE) hr.units) (bu j3 nm.len (aI (aE 1) (ba))) (bx (aE 0) (bC))) (tm (tp (u3 hr.units) (aE 1) (aS d__law_rings_of (hr.mono (by decide)) (aI (aE 0) (aI (bu j3 nm.len (aI (aE 1) (ba))) (ba)))))))))
theorem sH (nm : Nm mg) {f : Addr} {fd : FuncData} (F : iJ K "_law_bent" "_law_bent" g9 f fd) (hm : mg "_law_bent" = some (.ref f)) (d__law_draw : d3 P w K mg base (dZ K w) 2 "_law_draw" 2 aL) : d3 P w K mg base (dZ K w) 3 "_law_bent" 3 fv :=
 cP F fF rfl hm (F.b3 (by rfl) fun _ _ _ _ _ _ _ _ _ => by rfl) fun cdv A outer s H E hr =>
 aM (bW 3 fF.nd (aS d__law_draw (hr.mono (by decide)) (aI (aE 2) (aI (bD (bu j3 nm.len (aI (aE 0) (ba))) (bC)) (ba)))))
 (aM (bW 4 fF.nd (bx (d8 (aI (aS d__law_draw (hr.mono (by decide)) (aI (aE 2) (aI (aE 1) (ba)))) (aI (aE 1) (aI (lJ (bC)) (aI (DO) (aI (Be) (aI (IU) (aI (cn (aI (bC) (ba))) (ba))))))))) (aS d__law_draw (hr.mono (by decide)) (aI (aE 2) (aI (bC) (ba))))))
 (aM (bW 5 fF.nd (d8 (aI (bD (bD (lD (aE 0) (d4) (dj (aE 3))) (cn (aI (aE 4) (ba)))) (lD (aE 0) (dj (bD (aE 3) (bC))) (d4))) (aI (bD (bD (lD (aE 0) (d4) (dj (aE 3))) (cn (aI (aE 4) (ba)))) (lD (aE 0) (dj (aE 3)) (d4))) (aI (bD (lD (aE 0) (d4) (dj (aE 3))) (lD (aE 0) (dj (bD (aE 3) (bC))) (d4))) (ba))))))
 (aM (bW 5 fF.nd (bD (aE 5) (d8 (aI (bD (lD (aE 0) (dj (aE 3)) (d4)) (lD (aE 0) (d4) (dj (aE 3)))) (aI (GK (aE 0) (lJ (bC))) (aI (bu F8 nm.list (aI (aE 0) (ba))) (aI (cn (aI (aE 0) (ba))) (aI (bD (aE 0) (lD (aE 0) (d4) (dj (bC)))) (ba)))))))))
 (aQ (bK (bx (bD (aE 5) (d8 (aI (Be) (aI (bC) (ba))))) (aS d__law_draw (hr.mono (by decide)) (aI (aE 2) (aI (bC) (ba))))))))))
theorem FV (nm : Nm mg) {f : Addr} {fd : FuncData} (F : iJ K "law" "law" j5 f fd) (d__law_cell_at : d3 P w K mg base (dZ K w) 1 "_law_cell_at" 2 dX) (d__law_pen_of : d3 P w K mg base (dZ K w) 1 "_law_pen_of" 1 eP) (d__law_web_by : d3 P w K mg base (dZ K w) 5 "_law_web_by" 1 eO) (d__law_sparse_by : d3 P w K mg base (dZ K w) 4 "_law_sparse_by" 1 bQ) (d__law_least : d3 P w K mg base (dZ K w) 2 "_law_least" 1 fJ) (d_least_ring : d3 P w K mg base (dZ K w) 9 "least_ring" 1 fG) (d__law_rings_of : d3 P w K mg base (dZ K w) 1 "_law_rings_of" 2 bg) (d_first_ring : d3 P w K mg base (dZ K w) 8 "first_ring" 1 dm) (d__law_names_by : d3 P w K mg base (dZ K w) 3 "_law_names_by" 2 cg) (d__law_bent : d3 P w K mg base (dZ K w) 3 "_law_bent" 3 fv) (d_ring_good : d3 P w K mg base (dZ K w) 5 "ring_good" 2 de) (d__law_good : d3 P w K mg base (dZ K w) 2 "_law_good" 2 cq) : pU P w K mg base yJ 10 f fd ["_law_script"] (DQ (dZ K w) 1 tN) :=
 Hs F iU rfl fun cdv A outer s H E hr =>
 aM (iL Nt (rm (bD (d8 (aI (aS d__law_cell_at (hr.mono (by decide)) (aI (aE 0) (aI (bC) (ba)))) (ba))) (lD (aE 0) (dj (bC)) (dj (bC))))) (iD 1 iU.nd) (aM (bW 2 iU.nd (aS d__law_pen_of (hr.mono (by decide)) (aI (aE 1) (ba))))
 (aQ (iL Nt (rm (d8 (aI (aS d__law_web_by (hr.mono (by decide)) (aI (aE 2) (ba))) (aI (aS d__law_sparse_by (hr.mono (by decide)) (aI (aE 2) (ba))) (ba))))) (iD 3 iU.nd) (aM (bW 4 iU.nd (aS d__law_least (hr.mono (by decide)) (aI (aE 3) (ba))))
 (aM (jm (bZ (DG) (bu (nN hr) nm.repr (aI (aS d_least_ring (hr.mono (by decide)) (aI (aE 3) (ba))) (ba))) (bu (nN hr) nm.repr (aI (aE 4) (ba)))) (aQ (bK (DO))) (iK))
 (aM (bW 5 iU.nd (Gj (bZ (zF) (aE 4) (Be)) (aS d__law_rings_of (hr.mono (by decide)) (aI (aE 3) (aI (aE 4) (ba)))) (d8 (ba))))
 (aM (jm (bZ (DG) (bu (nN hr) nm.repr (aI (aS d_first_ring (hr.mono (by decide)) (aI (aE 3) (ba))) (ba))) (bu (nN hr) nm.repr (aI (bx (bD (aE 5) (d8 (aI (Be) (ba)))) (bC)) (ba)))) (aQ (bK (DO))) (iK))
 (aM (bW 6 iU.nd (aS d__law_rings_of (hr.mono (by decide)) (aI (aE 3) (aI (bx (aE 3) (bC)) (ba)))))
 (aM (bW 7 iU.nd (bD (bD (lD (aE 5) (d4) (dj (bC))) (lD (aE 6) (dj (lJ (bC))) (d4))) (d8 (aI (aS d__law_names_by (hr.mono (by decide)) (aI (aE 2) (aI (bx (aE 3) (bC)) (ba)))) (aI (cn (aI (bC) (aI (bC) (aI (bC) (ba))))) (ba))))))
 (aQ (iL Nt (rm (bD (bD (aE 7) (fx (bB (N := ["_law_script", "_law_cell", "_law_pen", "_law_web", "_law_least_here", "_law_rings", "_law_longest", "_law_things", "_law_thing", "_law_found"]) (sc := ar j5) (Nc := ["_law_one", "_law_pen", "_law_web"]) (cap := [none, some 2, some 3]) rfl rfl (by decide +kernel)) (rm (aE 7)) (fun _ _ _ _ _ => iD 0 AM) (fun _ _ _ _ _ => gy) (fun _ _ _ _ _ => aS d__law_bent (hr.mono (by decide)) (aI (aE 0) (aI (bx (aE 2) (bC)) (aI (aE 1) (ba))))))) (d8 (aI (cn (ba)) (aI (GJ) (ba)))))) (iD 8 iU.nd) (aM (bW 9 iU.nd (aS d_ring_good (hr.mono (by decide)) (aI (aE 3) (aI (aE 8) (ba)))))
 (aQ (jm (sR (yL (tf (Ga (nZ (T := "bool") (by decide) se (by decide) (by decide) nm.isinstance nm.bool (aE 9)))) (yY (bZ (Bs hr.units) (aE 9) (aS d__law_good (hr.mono (by decide)) (aI (aE 3) (aI (aE 8) (ba)))))))) (aQ (bK (DO))) (iK))))))))))))))))
 (aQ (bK (DO)))
end
end Lw
namespace Lv
variable {adj : Int -> Int -> Prop} {p : Int}
def R (adj : Int -> Int -> Prop) (p : Int) : Nat -> Int -> Prop
 | 0, q => q = p
 | n + 1, q => R adj p n q \/ ∃ r, adj r q /\ R adj p n r
def rq (adj : Int -> Int -> Prop) (p : Int) : Nat -> Int -> Prop
 | 0, q => q = p
 | n + 1, q => R adj p (n + 1) q /\ ¬ R adj p n q
theorem R.up {n : Nat} {q : Int} (h : R adj p n q) : R adj p (n + 1) q := .inl h
theorem R.mono {n m : Nat} {q : Int} (h : R adj p n q) (hm : n <= m) : R adj p m q := by
 induction hm with
 | refl => exact h
 | step _ ih => exact ih.up
theorem rq.r {n : Nat} {q : Int} (h : rq adj p n q) : R adj p n q := by
 cases n with
 | zero => exact h
 | succ n => exact h.1
theorem R.lev {n : Nat} {q : Int} (h : R adj p n q) : ∃ j, j <= n /\ rq adj p j q := by
 induction n with
 | zero => exact ⟨0, JV _, h⟩
 | succ n ih =>
  by_cases hr : R adj p n q
  ·obtain ⟨j, hj, hl⟩ := ih hr
   exact ⟨j, by omega, hl⟩
  ·exact ⟨n + 1, JV _, h, hr⟩
theorem rq.low {n j : Nat} {q : Int} (h : rq adj p n q) (hj : j < n) : ¬ R adj p j q := by
 cases n with
 | zero => omega
 | succ n => exact fun hr => h.2 (hr.mono (by omega))
theorem rq.one {n m : Nat} {q : Int} (h : rq adj p n q) (h' : rq adj p m q) : n = m := by
 rcases Nat.lt_trichotomy n m with z | z | z
 ·exact absurd h.r (h'.low z)
 ·exact z
 ·exact absurd h'.r (h.low z)
theorem j9 {n : Nat} {q : Int} : rq adj p (n + 1) q ↔ ¬ R adj p n q /\ ∃ r, adj r q /\ rq adj p n r := by
 constructor
 ·rintro ⟨h1, h2⟩
  refine ⟨h2, ?_⟩
  rcases h1 with h1 | ⟨r, ha, hr⟩
  ·exact absurd h1 h2
  ·refine ⟨r, ha, ?_⟩
   cases n with
   | zero => exact hr
   | succ n => exact ⟨hr, fun z => h2 (.inr ⟨r, ha, z⟩)⟩
 ·rintro ⟨h1, r, ha, hr⟩
  exact ⟨.inr ⟨r, ha, hr.r⟩, h1⟩
def Up (adj : Int -> Int -> Prop) (p : Int) (D : Int -> Prop) (n : Nat) (f : Int -> Option Nat) : Prop := ∀ q, D q -> ∀ j, f q = some j ↔ (j <= n /\ rq adj p j q)
theorem Up.none {D : Int -> Prop} {n : Nat} {f : Int -> Option Nat} (h : Up adj p D n f) {q : Int} (hq : D q) : f q = none ↔ ¬ R adj p n q := by
 constructor
 ·intro e hr
  obtain ⟨j, hj, hl⟩ := hr.lev
  have := (h q hq j).mpr ⟨hj, hl⟩
  rw [e] at this; cases this
 ·intro hr
  cases e : f q with
  | none => rfl
  | some j =>
   obtain ⟨hj, hl⟩ := (h q hq j).mp e
   exact absurd (hl.r.mono hj) hr
theorem Dn {D : Int -> Prop} {f : Int -> Option Nat} (h : ∀ q, D q -> f q = if q = p then some 0 else Option.none) : Up adj p D 0 f := fun q hq j => by
 rw [h q hq]
 by_cases e : q = p
 ·rw [Jl e]
  constructor
  ·intro z; cases z; exact ⟨JV _, e⟩
  ·rintro ⟨h1, _⟩
   have : j = 0 := by omega
   rw [this]
 ·rw [Jm e]
  constructor
  ·intro z; cases z
  ·rintro ⟨h1, h2⟩
   have : j = 0 := by omega
   subst this
   exact absurd h2 e
theorem Up.next {D : Int -> Prop} {n : Nat} {f f' : Int -> Option Nat} (h : Up adj p D n f) (hD : ∀ a b, adj a b -> D a) (e : ∀ q, D q -> ∀ j, f' q = some j ↔ (f q = some j \/ (f q = Option.none /\ j = n + 1 /\ ∃ r, adj r q /\ f r = some n))) : Up adj p D (n + 1) f' := fun q hq j => by
 rw [e q hq j]
 constructor
 ·rintro (z | ⟨z1, z2, r, z3, z4⟩)
  ·obtain ⟨hj, hl⟩ := (h q hq j).mp z
   exact ⟨by omega, hl⟩
  ·subst z2
   refine ⟨JV _, j9.mpr ⟨(h.none hq).mp z1, r, z3, ?_⟩⟩
   exact ((h r (hD r q z3) n).mp z4).2
 ·rintro ⟨hj, hl⟩
  by_cases hn : j <= n
  ·exact .inl ((h q hq j).mpr ⟨hn, hl⟩)
  ·have : j = n + 1 := by omega
   subst this
   obtain ⟨h1, r, ha, hr⟩ := j9.mp hl
   exact .inr ⟨(h.none hq).mpr h1, rfl, r, ha, (h r (hD r q ha) n).mpr ⟨JV _, hr⟩⟩
def yU (adj : Int -> Int -> Prop) (p : Int) (D : Int -> Prop) (f : Int -> Option Nat) : Prop := ∀ q, D q -> ∀ j, f q = some j ↔ rq adj p j q
theorem rq.below {n : Nat} : ∀ {q : Int}, rq adj p n q -> ∀ j, j <= n -> ∃ r, rq adj p j r := by
 induction n with
 | zero => intro q h j hj; exact ⟨q, by have : j = 0 := by omega
                                        subst this; exact h⟩
 | succ n ih =>
  intro q h j hj
  by_cases e : j = n + 1
  ·subst e; exact ⟨q, h⟩
  ·obtain ⟨_, r, _, hr⟩ := j9.mp h
   exact ih hr j (by omega)
theorem Up.full {D : Int -> Prop} {n : Nat} {f : Int -> Option Nat} (h : Up adj p D n f) (hD : ∀ a b, adj a b -> D b) (e : ∀ q, D q -> ¬ rq adj p (n + 1) q) : yU adj p D f := fun q hq j => by
 rw [h q hq j]
 constructor
 ·exact fun z => z.2
 ·intro hl
  refine ⟨?_, hl⟩
  apply Nat.le_of_not_lt
  intro hj
  obtain ⟨r, hr⟩ := hl.below (n + 1) (by omega)
  obtain ⟨_, s, hs, _⟩ := j9.mp hr
  exact e r (hD s r hs) hr
theorem FD {m : Nat} (hp : 0 <= p /\ p < m) (hD : ∀ a b, adj a b -> 0 <= b /\ b < m) {n : Nat} {q : Int} (h : rq adj p n q) : n < m := by
 have hr : ∀ j, ∃ r, j <= n -> rq adj p j r := fun j => by
  by_cases hj : j <= n
  ·obtain ⟨r, hr⟩ := h.below j hj; exact ⟨r, fun _ => hr⟩
  ·exact ⟨0, fun z => absurd z hj⟩
 let r : Nat -> Int := fun j => (hr j).choose
 have hr' : ∀ j, j <= n -> rq adj p j (r j) := fun j hj => (hr j).choose_spec hj
 have rng : ∀ j, j <= n -> 0 <= r j /\ r j < m := fun j hj => by
  have := hr' j hj
  cases j with
  | zero => rw [show r 0 = p from this]; exact hp
  | succ j =>
   obtain ⟨_, s, hs, _⟩ := j9.mp this
   exact hD s _ hs
 have nd : ((List.range (n + 1)).map fun j => (r j).toNat).Nodup := by
  rw [List.Nodup, Mx]
  refine List.Pairwise.imp_of_mem (R := (· < ·)) ?_ LR
  intro a b ha hb hab e
  rw [Jt] at ha hb
  have r1 := rng a (by omega)
  have r2 := rng b (by omega)
  have e' : r a = r b := by omega
  have h1 := hr' a (by omega)
  have h2 := hr' b (by omega)
  rw [e'] at h1
  have := h1.one h2
  omega
 have sub : ((List.range (n + 1)).map fun j => (r j).toNat) ⊆ List.range m := fun x hx => by
  obtain ⟨j, hj, rfl⟩ := Ly.mp hx
  rw [Jt] at hj ⊢
  have := rng j (by omega)
  omega
 have := nd.length_le_of_subset sub
 rw [Kh, Lp, Lp] at this; omega
end Lv
namespace Lv
def uX (f : Int -> Option Nat) (r : Int) (v : Nat) : Int -> Option Nat := fun q => if q = r then some v else f q
def yF (n : Nat) (f : Int -> Option Nat) (qr : Int × Int) : Int -> Option Nat := if f qr.1 = some n /\ f qr.2 = none then uX f qr.2 (n + 1) else f
theorem BJ {n : Nat} {f0 f : Int -> Option Nat} {done : List (Int × Int)} {qr : Int × Int}
  (h : ∀ q j, f q = some j ↔ (f0 q = some j \/ (f0 q = none /\ j = n + 1 /\ ∃ r, (r, q) ∈ done /\ f0 r = some n))) :
  ∀ q j, yF n f qr q = some j ↔ (f0 q = some j \/ (f0 q = none /\ j = n + 1 /\ ∃ r, (r, q) ∈ done ++ [qr] /\ f0 r = some n)) := by
 intro q j
 have hn : ∀ r, f r = some n ↔ f0 r = some n := fun r => by
  rw [h r n]
  constructor
  ·rintro (z | ⟨_, z, _⟩)
   ·exact z
   ·omega
  ·exact .inl
 have h0 : ∀ r, f r = none -> f0 r = none := fun r e => by
  cases e0 : f0 r with
  | none => rfl
  | some i =>
   have := (h r i).mpr (.inl e0)
   rw [e] at this; cases this
 obtain ⟨a, b⟩ := qr
 unfold yF
 dsimp only
 by_cases c : f a = some n /\ f b = none
 ·rw [Jl c]
  unfold uX
  by_cases e : q = b
  ·subst e
   rw [Jl rfl]
   have z := h0 q c.2
   constructor
   ·intro e; cases e
    exact .inr ⟨z, rfl, a, by simp, (hn a).mp c.1⟩
   ·rintro (y | ⟨_, y, _⟩)
    ·rw [z] at y; cases y
    ·rw [y]
  ·rw [Jm e, h q j]
   constructor
   ·rintro (y | ⟨y1, y2, r, y3, y4⟩)
    ·exact .inl y
    ·exact .inr ⟨y1, y2, r, JC _ y3, y4⟩
   ·rintro (y | ⟨y1, y2, r, y3, y4⟩)
    ·exact .inl y
    ·rcases JB.mp y3 with y3 | y3
     ·exact .inr ⟨y1, y2, r, y3, y4⟩
     ·simp at y3; exact absurd y3.2 e
 ·rw [Jm c, h q j]
  constructor
  ·rintro (y | ⟨y1, y2, r, y3, y4⟩)
   ·exact .inl y
   ·exact .inr ⟨y1, y2, r, JC _ y3, y4⟩
  ·rintro (y | ⟨y1, y2, r, y3, y4⟩)
   ·exact .inl y
   ·rcases JB.mp y3 with y3 | y3
    ·exact .inr ⟨y1, y2, r, y3, y4⟩
    ·simp at y3
     obtain ⟨rfl, rfl⟩ := y3
     have c2 : f q ≠ none := fun z => c ⟨(hn r).mpr y4, z⟩
     cases e : f q with
     | none => exact absurd e c2
     | some i =>
      have := (h q i).mp e
      rcases this with w | ⟨w1, w2, w3⟩
      ·rw [y1] at w; cases w
      ·exact .inr ⟨y1, y2, w3⟩
theorem uq {n : Nat} {f0 : Int -> Option Nat} : ∀ (qs done : List (Int × Int)) (f : Int -> Option Nat),
  (∀ q j, f q = some j ↔ (f0 q = some j \/ (f0 q = none /\ j = n + 1 /\ ∃ r, (r, q) ∈ done /\ f0 r = some n))) ->
  ∀ q j, qs.foldl (yF n) f q = some j ↔ (f0 q = some j \/ (f0 q = none /\ j = n + 1 /\ ∃ r, (r, q) ∈ done ++ qs /\ f0 r = some n))
 | [], done, f, h => by simpa using h
 | qr :: qs, done, f, h => by
  have := uq qs (done ++ [qr]) (yF n f qr) (BJ h)
  simpa [KQ] using this
theorem Ap {adj : Int -> Int -> Prop} {p : Int} {D : Int -> Prop} {n : Nat} {f : Int -> Option Nat} {qs : List (Int × Int)} (h : Up adj p D n f) (hD : ∀ a b, adj a b -> D a) (ha : ∀ a b, adj a b ↔ (a, b) ∈ qs) : Up adj p D (n + 1) (qs.foldl (yF n) f) := by
 refine h.next hD fun q hq j => ?_
 have := uq (n := n) (f0 := f) qs [] f (fun q j => by simp) q j
 rw [this]
 simp only [KW, ha]
def iR (ks : List (List Int)) (a b : Int) : Bool := decide ([min a b, max a b] ∈ ks)
def rg (m : Nat) : List Int := (List.range m).map Int.ofNat
def cc (w : List Int) : Int := w.getLast?.getD 0
def DR (w : List Int) : Int := w.head?.getD 0
def n6 (m : Nat) (ks : List (List Int)) (w : List Int) : List Int := (rg m).filter fun p => !decide (p ∈ w) && iR ks (cc w) p
def iG (m : Nat) (ks : List (List Int)) (w : List Int) : List (List Int) := (n6 m ks w).map fun p => w ++ [p]
def cQ (m : Nat) (ks : List (List Int)) : Nat -> List (List Int)
 | 0 => (rg m).map fun p => [p]
 | k + 1 => (cQ m ks k).flatMap (iG m ks)
def iW (ks : List (List Int)) (w : List Int) : Bool := iR ks (DR w) (cc w)
def bY (m : Nat) (ks : List (List Int)) (size : Nat) : List (List Int) := (cQ m ks (size - 1)).filter (iW ks)
def d9 (m : Nat) (ks : List (List Int)) (p : Int) : List Int := (rg m).filter fun q => decide (q = p) || iR ks p q
theorem jq {m : Nat} {p : Int} : p ∈ rg m ↔ 0 <= p /\ p < m := by
 unfold rg
 rw [Ly]
 constructor
 ·rintro ⟨i, hi, rfl⟩
  have := Jt.mp hi
  exact ⟨Int.natCast_nonneg _, by simpa using this⟩
 ·rintro ⟨h0, h1⟩
  exact ⟨p.toNat, Jt.mpr (by omega), by simp; omega⟩
theorem mz {m : Nat} : (rg m).length = m := by simp [rg]
theorem y6 {m : Nat} : (rg m).Pairwise (· < ·) := by
 unfold rg
 rw [Mx]
 exact LR.imp fun h => by simpa using h
theorem oV {w : List Int} {p : Int} : cc (w ++ [p]) = p := by simp [cc]
theorem kC {w : List Int} (h : w ≠ []) : cc w ∈ w := by
 unfold cc
 rw [List.getLast?_eq_getLast h]
 exact List.getLast_mem h
theorem C9 {w : List Int} (h : w ≠ []) : DR w ∈ w := by
 cases w with
 | nil => exact absurd rfl h
 | cons a r => exact Jx
structure DT (m k : Nat) (w : List Int) : Prop where
 len : w.length = k + 1
 nd : w.Nodup
 rng : ∀ p ∈ w, 0 <= p /\ p < (m : Int)
theorem DT.ne {m k : Nat} {w : List Int} (h : DT m k w) : w ≠ [] := fun e => by have := h.len; rw [e] at this; simp at this
theorem eQ {m : Nat} {ks : List (List Int)} : ∀ {k : Nat} {w : List Int}, w ∈ cQ m ks k -> DT m k w
 | 0, w, h => by
  obtain ⟨p, hp, rfl⟩ := Ly.mp h
  exact ⟨rfl, by simp, fun q hq => by simp at hq; subst hq; exact jq.mp hp⟩
 | k + 1, w, h => by
  obtain ⟨v, hv, h2⟩ := Nu.mp h
  obtain ⟨p, hp, rfl⟩ := Ly.mp h2
  have ih := eQ hv
  obtain ⟨h3, h4⟩ := Js.mp hp
  simp only [KC, Nn, decide_eq_false_iff_not] at h4
  refine ⟨by simp [ih.len], ?_, fun q hq => ?_⟩
  ·rw [L4]
   exact ⟨ih.nd, by simp, fun a ha b hb => by simp at hb; subst hb; exact fun e => h4.1 (e ▸ ha)⟩
  ·rcases JB.mp hq with z | z
   ·exact ih.rng q z
   ·simp at z; subst z; exact jq.mp h3
theorem Dd {m : Nat} {ks : List (List Int)} {w : List Int} : (iG m ks w).length <= m := by
 unfold iG n6
 rw [Kh]
 exact Ju (Nv _ _) (by rw [mz]; exact JV _)
theorem kb {m : Nat} {f : List Int -> List (List Int)} (h : ∀ w, (f w).length <= m) : ∀ l : List (List Int), (l.flatMap f).length <= l.length * m
 | [] => by simp
 | w :: l => by
  rw [Nw, Kg, K2, Nat.succ_mul]
  have := h w; have := kb h l; omega
theorem tO {m : Nat} (hm : m <= 6) {ks : List (List Int)} : ∀ k, (cQ m ks k).length <= 6 ^ (k + 1)
 | 0 => by simp [cQ, mz]; omega
 | k + 1 => by
  have h := kb (m := 6) (fun w => Ju (Dd (m := m) (ks := ks) (w := w)) hm) (cQ m ks k)
  have := tO hm (ks := ks) k
  show ((cQ m ks k).flatMap (iG m ks)).length <= _
  rw [Nat.pow_succ]
  exact Ju h (Nat.mul_le_mul_right 6 this)
theorem ir {m : Nat} (hm : m <= 6) {ks : List (List Int)} {k : Nat} (hk : k <= 5) : (cQ m ks k).length <= 46656 :=
 Ju (tO hm k) (Nat.pow_le_pow_right (n := 6) (by decide) (show k + 1 <= 6 by omega))
def eU (ks : List (List Int)) : List Int -> Bool
 | a :: b :: r => iR ks a b && eU ks (b :: r)
 | _ => true
theorem kf {ks : List (List Int)} {p : Int} : ∀ {w : List Int}, w ≠ [] -> eU ks (w ++ [p]) = (eU ks w && iR ks (cc w) p)
 | [], h => absurd rfl h
 | [a], _ => by simp [eU, cc]
 | a :: b :: r, _ => by
  have ih := kf (ks := ks) (p := p) (w := b :: r) (by simp)
  show (iR ks a b && eU ks (b :: r ++ [p])) = _
  rw [ih]
  show _ = ((iR ks a b && eU ks (b :: r)) && iR ks (cc (a :: b :: r)) p)
  rw [show cc (a :: b :: r) = cc (b :: r) from by simp [cc, List.getLast?_cons_cons], Bool.and_assoc]
theorem rP {m : Nat} {ks : List (List Int)} : ∀ {k : Nat} {w : List Int}, w ∈ cQ m ks k ↔ DT m k w /\ eU ks w = true
 | 0, w => by
  constructor
  ·intro h
   have hw := eQ h
   obtain ⟨p, hp, rfl⟩ := Ly.mp h
   exact ⟨hw, rfl⟩
  ·rintro ⟨h, _⟩
   have hl := h.len
   cases w with
   | nil => simp at hl
   | cons a r =>
    cases r with
    | nil => exact Ly.mpr ⟨a, jq.mpr (h.rng a (by simp)), rfl⟩
    | cons b r => simp at hl
 | k + 1, w => by
  constructor
  ·intro h
   refine ⟨eQ h, ?_⟩
   obtain ⟨v, hv, h2⟩ := Nu.mp h
   obtain ⟨p, hp, rfl⟩ := Ly.mp h2
   obtain ⟨h3, h4⟩ := Js.mp hp
   simp only [KC] at h4
   have ih := rP.mp hv
   rw [kf ih.1.ne, ih.2, h4.2]; rfl
  ·rintro ⟨h, hl⟩
   obtain ⟨v, p, rfl⟩ : ∃ v p, w = v ++ [p] := ⟨w.dropLast, w.getLast h.ne, (Nx h.ne).symm⟩
   have l1 : v.length = k + 1 := by have := h.len; simp at this; omega
   have vn : v ≠ [] := fun e => by rw [e] at l1; simp at l1
   rw [kf vn, KC] at hl
   have nd := L4.mp h.nd
   refine Nu.mpr ⟨v, rP.mpr ⟨⟨l1, nd.1, fun q hq => h.rng q (JC _ hq)⟩, hl.1⟩, Ly.mpr ⟨p, Js.mpr ⟨jq.mpr (h.rng p (by simp)), ?_⟩, rfl⟩⟩
   rw [hl.2, Bool.and_true, Nn, decide_eq_false_iff_not]
   exact fun hp => nd.2.2 p hp p (by simp) rfl
def iE : List Int -> List Int -> Bool
 | [], [] => false
 | [], _ :: _ => true
 | _ :: _, [] => false
 | a :: as, b :: bs => if a = b then iE as bs else decide (a < b)
theorem wK : ∀ w, iE w w = false
 | [] => rfl
 | a :: r => by simp [iE, wK r]
theorem uf : ∀ {v w : List Int}, iE v w = true -> iE w v = false
 | [], [], h => by cases h
 | [], _ :: _, _ => rfl
 | _ :: _, [], h => by cases h
 | a :: v, b :: w, h => by
  unfold iE at h ⊢
  by_cases e : a = b
  ·subst e; simp only [Kq] at h ⊢; exact uf h
  ·rw [Jm e] at h
   rw [Jm (fun z => e z.symm)]
   have := Ny h
   exact Ji (by omega)
theorem wL : ∀ {v w : List Int} {a b : Int}, v.length = w.length -> iE v w = true -> iE (v ++ [a]) (w ++ [b]) = true
 | [], [], _, _, _, h => by cases h
 | [], _ :: _, _, _, l, _ => by simp at l
 | _ :: _, [], _, _, l, _ => by simp at l
 | x :: v, y :: w, a, b, l, h => by
  show iE (x :: (v ++ [a])) (y :: (w ++ [b])) = true
  unfold iE at h ⊢
  by_cases e : x = y
  ·rw [Jl e] at h ⊢; exact wL (by simpa using l) h
  ·rw [Jm e] at h ⊢; exact h
theorem oG : ∀ {w : List Int} {a b : Int}, a < b -> iE (w ++ [a]) (w ++ [b]) = true
 | [], a, b, h => by
  show iE [a] [b] = true
  unfold iE
  rw [Jm (by omega)]; exact KY h
 | x :: w, a, b, h => by
  show iE (x :: (w ++ [a])) (x :: (w ++ [b])) = true
  unfold iE
  rw [Jl rfl]; exact oG h
theorem we {m : Nat} {ks : List (List Int)} : ∀ k, (cQ m ks k).Pairwise fun v w => iE v w = true
 | 0 => by
  show ((rg m).map fun p => [p]).Pairwise _
  rw [Mx]
  exact y6.imp fun {a b} h => oG (w := []) h
 | k + 1 => by
  show ((cQ m ks k).flatMap (iG m ks)).Pairwise _
  rw [List.pairwise_flatMap]
  refine ⟨fun w hw => ?_, (List.Pairwise.and_mem.mp (we k)).imp fun {v w} ⟨hv, hw, h⟩ x hx y hy => ?_⟩
  ·unfold iG
   rw [Mx]
   exact (y6.filter _).imp fun {a b} h => oG h
  ·obtain ⟨a, _, rfl⟩ := Ly.mp hx
   obtain ⟨b, _, rfl⟩ := Ly.mp hy
   exact wL (by rw [(eQ hv).len, (eQ hw).len]) h
theorem vz {m : Nat} {ks : List (List Int)} {s : Nat} {x : List Int} {r : List (List Int)} (h : bY m ks s = x :: r) : ∀ y ∈ x :: r, iE y x = false := by
 have hp : (bY m ks s).Pairwise fun v w => iE v w = true := (we _).filter _
 rw [h, LF] at hp
 intro y hy
 rcases Jz.mp hy with rfl | z
 ·exact wK _
 ·exact uf (hp.1 y z)
theorem xr {m : Nat} {ks : List (List Int)} {w : List Int} (h : w ≠ []) : (d9 m ks (cc w)).filter (fun p => !decide (p ∈ w)) = n6 m ks w := by
 unfold d9 n6
 rw [List.filter_filter]
 apply List.filter_congr
 intro p hp
 by_cases e : p ∈ w
 ·simp [e]
 ·have : p ≠ cc w := fun z => e (z ▸ kC h)
  simp [e, this]
theorem vF {w : List Int} (h : w.Nodup) (l : 2 <= w.length) : DR w ≠ cc w := by
 cases w with
 | nil => simp at l
 | cons a r =>
  cases r with
  | nil => simp at l
  | cons b r =>
   intro e
   have : cc (a :: b :: r) = cc (b :: r) := by simp [cc, List.getLast?_cons_cons]
   rw [this] at e
   have hm := kC (w := b :: r) (by simp)
   rw [<- e] at hm
   exact (J7.mp h).1 hm
theorem vR {m : Nat} {ks : List (List Int)} {k : Nat} {w : List Int} (hw : DT m k w) (hk : 1 <= k) : decide (DR w ∈ d9 m ks (cc w)) = iW ks w := by
 have h1 := vF hw.nd (by rw [hw.len]; omega)
 have h2 := jq.mpr (hw.rng _ (C9 hw.ne))
 unfold iW d9
 apply J0.mpr
 rw [Nb, Js]
 simp only [h2, true_and, Nj, Nb, h1, false_or]
 unfold iR
 rw [Int.min_comm, Int.max_comm]
end Lv
namespace Lw
open PySem L2 RS
theorem br : 1000 <= sizeLine := by decide
theorem wt {μ : aB} (s : Int) : ∃ r : Int, fu [.int s] μ = .ok (.int r) μ := by
 have h0 : 0 <= (s + 7919) % 2147483647 := Nz _ (by decide)
 have h1 : (s + 7919) % 2147483647 < 2147483647 := NA _ (by decide)
 generalize ht : (s + 7919) % 2147483647 = t at h0 h1
 refine ⟨(t * t + 48271 * t + 12345) % 2147483629, ?_⟩
 have c1 : sZ t t := .inl ⟨by omega, by omega⟩
 have c2 : sZ 48271 t := .inl ⟨by omega, by omega⟩
 unfold fu
 rw [gL]
 simp [nt, ht, c1, c2]
 exact bU (by simp)
def aP (a b c : Int) : O := .lst [.int a, .int b, .int c]
theorem nJ {n : Nat} {a b c : Int} : (aP a b c).low n := by simp [aP, O.low]
theorem Es {μ : aB} (x : Int) : ∃ a b c : Int, eP [.int x] μ = .ok (.obj μ.length) (μ ++ [aP a b c]) := by
 have e : ∀ i j : Int, nV [.int i, .int j] μ = .ok (.int (if j > i then j else i)) μ := fun _ _ => rfl
 have p1 : D6 10 18 := ⟨by decide, by decide, by decide⟩
 have ib : ∀ k : Bool, ∀ μ, m4 [.bl k] μ = .ok (.int (if k then 1 else 0)) μ := fun _ _ => rfl
 refine ⟨(if 0 - x > x then 0 - x else x), (if cY .GtE (if 0 - x > x then 0 - x else x) (10 ^ (18 : Int).toNat) then 1 else 0), (if 0 - x > x then 0 - x else x) % 1000003, ?_⟩
 unfold eP
 rw [gL]
 have l3 : (3 : Nat) <= sizeLine := by decide
 simp only [k9, aN, bc, aG, au, ax, af, aj, az, aX, aa, ab, Hu, e, bH, aH, bo, cL, List.set, List.replicate, NB, NC]
 have pw : DZ (.int 10) (.int 18) μ = .ok (.int (10 ^ (18 : Int).toNat)) μ := mE p1
 have md : ∀ x, pS (.int x) (.int 1000003) μ = .ok (.int (x % 1000003)) μ := fun x => mE (show (0:Int) < 1000003 by decide)
 simp only [pw, md, aa, dE, ib, K2, Lq, Jl l3, ab, aK]
 rw [n8 (by simp)]
 rfl
theorem wu {μ : aB} {i : Nat} {a b c m : Int} (hp : μ[i]? = some (aP a b c)) (h0 : 0 < m) (h1 : m < 1000) :
  ∃ r a' b' c' : Int, 0 <= r /\ r < m /\ aL [.obj i, .int m] μ = .ok (.int r) (μ.set i (aP a' b' c')) := by
 have hi : i < μ.length := (JD.mp hp).1
 have hp' : μ[i]? = some (.lst [.int a, .int b, .int c]) := hp
 have md : ∀ {x : Int} {μ : aB}, pS (.int x) (.int m) μ = .ok (.int (x % m)) μ := fun {x μ} => mE (show (fun _ j => (0:Int) < j) x m from h0)
 have fd : ∀ {x : Int} {μ : aB}, tK (.int x) (.int m) μ = .ok (.int (x / m)) μ := fun {x μ} => mE (show BA x m from ⟨h0, by omega⟩)
 have f64 : ∀ {x : Int} {μ : aB}, tK (.int x) (.int 64) μ = .ok (.int (x / 64)) μ := fun {x μ} => mE (show BA x 64 from ⟨by decide, by decide⟩)
 unfold aL
 rw [dB]
 by_cases hb : b = 1
 ·subst hb
  refine ⟨a % m, a / m, 1, c, Nz _ (by omega), NA _ h0, ?_⟩
  simp only [kj, aN, bI, bR, az, af, aj, aX, aa]
  rw [fy hp' zo]
  simp only [aa, dQ, K0, Kq, aW, ab, aN, bc, az, af, aj, aX]
  simp only [K1, Ko, Kq, aN, bc, az, af, aj, aX, aa]
  rw [fy hp' m7]
  simp only [aa, md, ab, bH, aH, List.replicate, NB, NC, af, aj, aX, az, bc, aN]
  rw [fy hp' m7]
  simp only [aa, fd, ab, nL, af, aj, aX]
  rw [r8 hp' (rL (by decide) (by simp))]
  simp only [aa, ab, aH, bo, af, aj, gI, aK]
  exact wZ (by simp only [C1]) (nJ (a := a / m) (b := 1) (c := c))
 ·obtain ⟨s1, e1⟩ := wt (μ := μ) c
  obtain ⟨s2, e2⟩ := wt (μ := μ) (s1 + 7)
  refine ⟨s2 / 64 % m, a, b, s2, Nz _ (by omega), NA _ h0, ?_⟩
  have hb' : (b == 1) = false := by simpa using hb
  simp only [kj, aN, bI, bR, az, af, aj, aX, aa]
  rw [fy hp' zo]
  simp only [aa, dQ, hb', aW, ab, K1, Ko, cF, aH, aN, bc, aG, au, ax, az, af, aj, aX]
  rw [fy hp' DM]
  simp only [aa, e1, fB, e2, ab, nL, af, aj, aX]
  rw [r8 hp' (rL (by decide) (by simp))]
  have hg : (μ.set i (.lst ([D.int a, D.int b, D.int c].set (2 : Int).toNat (.int s2))))[i]? = some (.lst [D.int a, D.int b, D.int s2]) := by rw [JF hi]; rfl
  simp only [aa, ab, aH, bo, az, af, aj, aX]
  rw [fy hg DM]
  simp only [aa, f64, md, ab, aK]
  exact wZ (by simp) (nJ (a := a) (b := b) (c := s2))
theorem aC {μ g : aB} {i : Nat} {o : O} (h : μ[i]? = some o) : (μ ++ g)[i]? = some o := by
 rw [Kd (JD.mp h).1]; exact h
theorem jr {μ g : aB} {i : Nat} {o : O} (h : i < μ.length) : (μ ++ g).set i o = μ.set i o ++ g := by
 rw [List.set_append_left _ _ h]
theorem js {μ : aB} {i : Nat} {o : O} (h : i < μ.length) : (μ.set i o)[i]? = some o := JF h
theorem qU {β γ : Type} {f : β -> γ} : ∀ {l : List β} {i : Nat}, (l.map f).eraseIdx i = (l.eraseIdx i).map f
 | [], _ => rfl
 | _ :: _, 0 => rfl
 | x :: r, i + 1 => by simp [qU (l := r) (i := i)]
theorem CT {μ : aB} {i : Nat} {a b c : Int} {L : List Int} {ys : List D} {x : D} (hi : i < μ.length) (hL : 0 < L.length) (hL2 : L.length < 1000) :
  ∃ (r : Nat) (y : Int) (a' b' c' : Int), L[r]? = some y /\ dM [some x, some (.obj μ.length), some (.obj i)] ((μ.set i (aP a b c) ++ [.lst (L.map D.int)]) ++ .lst ys :: []) =
   .ok (.int y) ((μ.set i (aP a' b' c') ++ [.lst ((L.eraseIdx r).map D.int)]) ++ .lst ys :: []) := by
 have hn : ((μ.set i (aP a b c) ++ [.lst (L.map D.int)]) ++ .lst ys :: [])[μ.length]? = some (.lst (L.map D.int)) := by
  have e : μ.length = (μ.set i (aP a b c)).length := by simp
  rw [KQ, e]
  exact ao
 have hp : ((μ.set i (aP a b c) ++ [.lst (L.map D.int)]) ++ .lst ys :: [])[i]? = some (aP a b c) := aC (aC (js hi))
 obtain ⟨r, a', b', c', h0, h1, e⟩ := wu (m := (L.length : Int)) hp (by omega) (by omega)
 have hr : r.toNat < L.length := by omega
 refine ⟨r.toNat, L[r.toNat], a', b', c', MN hr, ?_⟩
 have hset : ((μ.set i (aP a b c) ++ [O.lst (L.map D.int)]) ++ O.lst ys :: []).set i (aP a' b' c') = (μ.set i (aP a' b' c') ++ [O.lst (L.map D.int)]) ++ O.lst ys :: [] := by
  rw [jr (by simp; omega), jr (by simpa using hi), ND]
 have hn' : ((μ.set i (aP a' b' c') ++ [.lst (L.map D.int)]) ++ .lst ys :: [])[μ.length]? = some (.lst (L.map D.int)) := by
  have e : μ.length = (μ.set i (aP a' b' c')).length := by simp
  rw [KQ, e]
  exact ao
 have hl : Bk (.obj μ.length) ((μ.set i (aP a b c) ++ [.lst (L.map D.int)]) ++ .lst ys :: []) = true := by
  unfold Bk; simp only [hn]
 unfold dM
 simp only [DI, aj, af, aa, hl, Kq, au, ax, aG]
 rw [Df hn]
 simp only [aa, Kh]
 rw [e]
 simp only [aa, hset]
 unfold oq
 dsimp only
 rw [hn']
 dsimp only
 rw [rL h0 (by simpa using h1)]
 dsimp only
 rw [Ke, MN hr]
 dsimp only [Option.map_some]
 rw [Jl (by omega)]
 congr 1
 have e2 : μ.length = (μ.set i (aP a' b' c')).length := by simp
 rw [KQ, e2]
 show (μ.set i (aP a' b' c') ++ O.lst (L.map D.int) :: [O.lst ys]).set _ _ = _
 rw [i7, KQ]
 congr 2
 congr 1
 exact qU
theorem vB {L : List Int} {r : Nat} {y : Int} (h : L[r]? = some y) : L.Perm (y :: L.eraseIdx r) := by
 induction L generalizing r with
 | nil => simp at h
 | cons x l ih =>
  cases r with
  | zero => simp at h; subst h; exact List.Perm.refl _
  | succ r =>
   simp at h
   exact ((ih h).cons x).trans (List.Perm.swap y x _)
theorem tT {μ : aB} {i : Nat} {a b c m : Int} (hp : μ[i]? = some (aP a b c)) (h0 : 1 <= m) (h1 : m <= 6) :
  ∃ (ns : List Int) (a' b' c' : Int), ns.Nodup /\ (ns.length : Int) = m /\ (∀ n ∈ ns, 0 <= n /\ n < m) /\ cg [.obj i, .int m] μ = .ok (.tup (ns.map D.int)) (μ.set i (aP a' b' c')) := by
 have hi : i < μ.length := (JD.mp hp).1
 have h00 : μ = μ.set i (aP a b c) := by
  apply Mu
  intro j
  by_cases hj : i = j
  ·subst hj; rw [js hi]; exact hp
  ·rw [JG hj]
 let N0 : List Int := (List.range m.toNat).map fun (k : Nat) => (k : Int)
 have hN0 : bq 0 m.toNat = N0.map D.int := by
  simp only [bq, N0, Ln]
  apply Lo; intro k _; simp
 have run := gE (src := .fix (bq 0 m.toNat)) (g := ag 0) (t := bw) (e := dM) (n := μ.length + 1)
  (fun xs ys ρ μ1 s => s = [] /\ ∃ (o : Option D) (L ns : List Int) (a b c : Int), ρ = [o, some (.obj μ.length), some (.obj i)] /\ μ1 = μ.set i (aP a b c) ++ [.lst (L.map D.int)] /\ ys = ns.map D.int /\ (ns ++ L).Perm N0 /\ L.length = xs.length /\ xs.length <= 6)
  (fun ys ρ μ1 s ⟨_, o, L, ns, a, b, c, _, e, _⟩ => ⟨by rw [e]; simp, trivial⟩)
  (fun x r ys ρ μ1 s hJJ => by
   obtain ⟨es, o, L, ns, a, b, c, e1, e2, e3, e4, e5, e6⟩ := hJJ
   subst es
   refine ⟨by rw [e2]; simp, trivial, [some x, some (.obj μ.length), some (.obj i)], μ1, [], true, μ1, [], by rw [e1]; rfl, rfl, fun _ => ?_, fun z => by cases z⟩
   simp only [K2] at e5 e6
   obtain ⟨j, y, a', b', c', hj, e⟩ := CT (a := a) (b := b) (c := c) (L := L) (ys := ys) (x := x) hi (by omega) (by omega)
   rw [e2]
   refine ⟨.int y, _, [], e, ?_, by simp, rfl, some x, L.eraseIdx j, ns ++ [y], a', b', c', rfl, rfl, by rw [e3]; simp, ?_, ?_, by omega⟩
   ·rw [e3, Kh]
    have := e4.length_eq
    have hN : N0.length = m.toNat := by simp [N0]
    rw [Kg, hN] at this
    exact Jp (show ns.length < 1000 by omega) br
   ·rw [KQ]
    exact (List.Perm.append_left ns (vB hj).symm).trans e4
   ·have hlt := (JD.mp hj).1
    rw [List.length_eraseIdx, Jl hlt]; omega)
  (xs := bq 0 m.toNat) (ys := []) (ρ := [none, some (.obj μ.length), some (.obj i)]) (μ1 := μ ++ [.lst (bq 0 m.toNat)]) (s := [])
  ⟨rfl, none, N0, [], a, b, c, rfl, by rw [<- h00, hN0], rfl, by simp, by simp [N0, bq], by simp [bq]; omega⟩
 obtain ⟨ys', ρ', μ1', s', ⟨es, o, L, ns, a', b', c', f1, f2, f3, f4, f5, _⟩, run⟩ := run
 have hLn : L = [] := Nd (by simpa using f5)
 subst hLn es
 rw [J4] at f4
 refine ⟨ns, a', b', c', ?_, ?_, fun n hn => ?_, ?_⟩
 ·rw [f4.nodup_iff]
  simp only [N0]
  rw [List.nodup_iff_pairwise_ne, Mx]
  exact (LA (n := m.toNat)).imp fun h e => h (by omega)
 ·have := f4.length_eq
  rw [this]; simp [N0]; omega
 ·have := f4.mem_iff.mp hn
  simp only [N0, Ly, Jt] at this
  obtain ⟨k, hk, rfl⟩ := this
  omega
 ·unfold cg
  rw [dB]
  have lr : mF [.int m] μ = .ok (.obj μ.length) (μ ++ [.lst (bq 0 m.toNat)]) := by
   unfold mF; dsimp only; rw [Jl (by omega)]
  simp only [jU, aN, bc, aG, au, ax, aj, af, aa, lr, ab, bH, aH, bo, bE, bV]
  simp only [List.replicate, NB, NC, aj, af, aa]
  rw [dD (by omega) (by omega)]
  simp only [aa, aR, Kg, K2, Lq]
  rw [show eB [none, some 2, some 0] [some (D.obj i), some (D.int m), some (D.obj μ.length)] = [none, some (.obj μ.length), some (.obj i)] from rfl]
  rw [run]
  simp only [aa]
  have hl : (μ1' ++ [O.lst ys'])[μ.length + 1]? = some (.lst ys') := by
   have : μ1'.length = μ.length + 1 := by rw [f2]; simp
   rw [<- this]; exact ao
  rw [jt hl]
  simp only [ab, aK]
  rw [f2, f3, KQ]
  exact vc (gB.mpr (by simp)) nJ
def pQ (m : Int) (k : List Int) : Prop := ∃ a b : Int, k = [a, b] /\ 0 <= a /\ a < b /\ b < m
theorem pQ.prs {m : Int} {k : List Int} (h : pQ m k) (hm : m <= 6) : k ∈ prs := by
 obtain ⟨a, b, rfl, h1, h2, h3⟩ := h
 exact wB h1 h2 (by omega)
def bT (d : D) (m : Int) (ks : List (List Int)) : Prop := d = .tup [.int m, .tup (ks.map av)] /\ 1 <= m /\ m <= 6 /\ (ks.Pairwise fun a b => qj a < qj b) /\ ∀ k ∈ ks, pQ m k
theorem m9 {m : Int} {ks : List (List Int)} (h0 : 1 <= m) (h1 : m <= 6) (hk : ∀ k ∈ ks, pQ m k) : bT (.tup [.int m, .tup ((jM ks).map av)]) m (jM ks) := by
 refine ⟨rfl, h0, h1, oS.filter _, fun k h => ?_⟩
 unfold jM at h
 rw [Js, Nb] at h
 exact hk k h.2
theorem oJ {m : Int} {ks : List (List Int)} {d : D} (h : bT d m ks) : ks.length <= 15 := by
 obtain ⟨_, _, hm, hp, hk⟩ := h
 have hn : ks.Nodup := hp.imp fun h e => by subst e; omega
 have hs : ks ⊆ prs := fun k h => (hk k h).prs hm
 have := hn.length_le_of_subset hs
 rw [wC] at this
 exact this
def df (p : Int × Int) : D := .tup [.int p.1, .int p.2]
theorem l2 : (2 : Nat) <= sizeLine := by decide
theorem Io {u v : Int} {μ : aB} : rD [.tup [.int u, .int v]] μ = .ok (.int (min u v)) μ := rfl
theorem Ip {u v : Int} {μ : aB} : nV [.tup [.int u, .int v]] μ = .ok (.int (max u v)) μ := rfl
theorem z7 {μ : aB} {m : Int} {ps : List (Int × Int)} {ns : List Int} (h0 : 1 <= m) (h1 : m <= 6) (hps : ∀ p ∈ ps, 0 <= p.1 /\ p.1 < m /\ 0 <= p.2 /\ p.2 < m /\ p.1 ≠ p.2) (hl : ps.length < 1000)
  (hn : ns.Nodup) (hnl : (ns.length : Int) = m) (hnr : ∀ n ∈ ns, 0 <= n /\ n < m) :
  ∃ d ks, bT d m ks /\ fI [.tup [.int m, .tup (ps.map df)], .tup (ns.map D.int)] μ = .ok d μ := by
 let nm : Int -> Int := fun k => ns.getD k.toNat 0
 have nmD : ∀ k, 0 <= k -> k < m -> atI (ns.map D.int) k = some (.int (nm k)) := fun k k0 k1 => by
  have hk : k.toNat < ns.length := by omega
  refine mH k0 ?_
  rw [Ke, MN hk]
  simp [nm, Mt, MN hk]
 have nmR : ∀ k, 0 <= k -> k < m -> 0 <= nm k /\ nm k < m := fun k k0 k1 => by
  have hk : k.toNat < ns.length := by omega
  have : nm k = ns[k.toNat] := by simp [nm, Mt, MN hk]
  rw [this]; exact hnr _ (MM hk)
 have nmI : ∀ j k, 0 <= j -> j < m -> 0 <= k -> k < m -> j ≠ k -> nm j ≠ nm k := fun j k j0 j1 k0 k1 hjk e => by
  have hj : j.toNat < ns.length := by omega
  have hk : k.toNat < ns.length := by omega
  have e1 : nm j = ns[j.toNat] := by simp [nm, Mt, MN hj]
  have e2 : nm k = ns[k.toNat] := by simp [nm, Mt, MN hk]
  rw [e1, e2] at e
  have := (JE hn).mp e
  omega
 let qs : List (Int × Int) := ps.map fun p => (nm p.1, nm p.2)
 let ks : List (List Int) := qs.map fun p => [min p.1 p.2, max p.1 p.2]
 have hks : ∀ k ∈ ks, pQ m k := fun k hk => by
  simp only [ks, qs, Ln, Ly, Function.comp_apply] at hk
  obtain ⟨p, hp, rfl⟩ := hk
  obtain ⟨a1, a2, a3, a4, a5⟩ := hps p hp
  have b1 := nmR p.1 a1 a2
  have b2 := nmR p.2 a3 a4
  have b3 := nmI p.1 p.2 a1 a2 a3 a4 a5
  exact ⟨_, _, rfl, by omega, by omega, by omega⟩
 refine ⟨_, _, m9 h0 h1 hks, ?_⟩
 have c1 : compLoop (.fix (ps.map df)) μ.length (gQ 2 (bF (ag 0) (bF (ag 1) gR))) bw fR (ps.map df) [none, none, some (.tup (ns.map D.int))] (μ ++ [.lst []]) = .ok (.obj μ.length) (μ ++ [.lst (qs.map df)]) := by
  have := fm (src := .fix (ps.map df)) (g := gQ 2 (bF (ag 0) (bF (ag 1) gR))) (t := bw) (e := fR) (μ1 := μ) (q := fun _ => true)
   (h := fun d => match d with | .tup [.int a, .int b] => df (nm a, nm b) | _ => .non) (fun ρ => ∃ o1 o2, ρ = [o1, o2, some (.tup (ns.map D.int))]) (fun _ => trivial) (xs := ps.map df) (acc := []) (ρ := [none, none, some (.tup (ns.map D.int))]) ⟨none, none, rfl⟩
   (by rw [Kh, Lq]; exact Ju (by omega) br)
   (fun x hx a ρ hJJ => by
    obtain ⟨o1, o2, ho⟩ := hJJ
    obtain ⟨p, hp, rfl⟩ := Ly.mp hx
    obtain ⟨a1, a2, a3, a4, a5⟩ := hps p hp
    refine ⟨[some (.int p.1), some (.int p.2), some (.tup (ns.map D.int))], ⟨_, _, rfl⟩, by subst ho; rfl, rfl, fun _ => ?_⟩
    unfold fR
    simp only [bM, au, ax, az, aj, af, aa]
    rw [mD (nmD p.1 a1 a2)]
    simp only [aa]
    rw [mD (nmD p.2 a3 a4)]
    simp only [aa, K2, Lq, Jl l2]
    rfl)
  rw [this, NF.mpr (fun _ _ => rfl)]
  simp only [KW, Ln, qs]
  rfl
 have c2 : compLoop (.own μ.length (qs.map df)) (μ ++ [O.lst (qs.map df)]).length (ag 0) bw fQ (qs.map df) [none] ((μ ++ [O.lst (qs.map df)]) ++ [.lst []]) = .ok (.obj (μ ++ [O.lst (qs.map df)]).length) ((μ ++ [O.lst (qs.map df)]) ++ [.lst (ks.map av)]) := by
  have := fm (src := .own μ.length (qs.map df)) (g := ag 0) (t := bw) (e := fQ) (μ1 := μ ++ [O.lst (qs.map df)]) (q := fun _ => true)
   (h := fun d => match d with | .tup [.int a, .int b] => av [min a b, max a b] | _ => .non) (fun ρ => ∃ o1, ρ = [o1]) (fun a => aC ao) (xs := qs.map df) (acc := []) (ρ := [none]) ⟨none, rfl⟩
   (by rw [Kh, Lq]; simp only [qs, Kh]; exact Ju (by omega) br)
   (fun x hx a ρ hJJ => by
    obtain ⟨o1, ho⟩ := hJJ
    obtain ⟨p, hp, rfl⟩ := Ly.mp hx
    refine ⟨[some (df p)], ⟨_, rfl⟩, by subst ho; rfl, rfl, fun _ => ?_⟩
    unfold fQ df
    simp only [bM, au, ax, aG, af, aa, Io, Ip, K2, Lq, Jl l2]
    rfl)
  rw [this, NF.mpr (fun _ _ => rfl)]
  simp only [KW, Ln, ks]
  rfl
 have kd : kQ (ks.map av) = some ks := oH fun k hk => (hks k hk).prs h1
 unfold fI
 rw [dB]
 simp only [mh, aN, bc, bE, cy, az, af, aj, aX, aa, gX, ju, aR]
 rw [show eB [none, none, some 1] (some (D.tup [D.int m, D.tup (List.map df ps)]) :: some (D.tup (List.map D.int ns)) :: List.replicate (3 - 2) none) = [none, none, some (.tup (ns.map D.int))] from rfl, c1]
 simp only [ab, bH, aH, bo, bM, au, ax, aG, az, af, aj, aX, aa, List.replicate, NB, NC, bO, bE, cy]
 rw [eR ao]
 simp only [aa, cA]
 rw [show eB [none] _ = [none] from rfl, c2]
 simp only [aa]
 have s1 : lb [.obj (μ ++ [O.lst (qs.map df)]).length] (μ ++ [O.lst (qs.map df)] ++ [O.lst (ks.map av)]) = .ok (.obj (μ ++ [O.lst (qs.map df)] ++ [O.lst (ks.map av)]).length) ((μ ++ [O.lst (qs.map df)] ++ [O.lst (ks.map av)]) ++ [.set (eV ks)]) := by
  unfold lb; dsimp only; rw [ao]; dsimp only; unfold m3; rw [kd]
 rw [s1]
 simp only [aa]
 have s2 : ∀ M : aB, dk [.obj M.length] (M ++ [.set (eV ks)]) = .ok (.obj (M ++ [O.set (eV ks)]).length) ((M ++ [.set (eV ks)]) ++ [.lst ((jM ks).map av)]) := fun M => by
  unfold dk; dsimp only; rw [ao]; dsimp only; rw [nc]
 rw [s2]
 simp only [aa]
 rw [jt ao]
 simp only [aa, K2, Lq, Jl l2, ab, aK]
 rw [KQ, KQ, KQ]
 exact gJ (by simp; exact gB.mpr (fun x hx => by obtain ⟨k, _, rfl⟩ := Ly.mp hx; simp [av]; exact gB.mpr (by simp)))
theorem um {n : Nat} {d : D} {m : Int} {ks : List (List Int)} (h : bT d m ks) : d.low n := by
 obtain ⟨rfl, _⟩ := h
 simp
 exact gB.mpr fun x hx => by
  obtain ⟨k, _, rfl⟩ := Ly.mp hx
  simp [av]
  exact gB.mpr (by simp)
theorem h9 {lo : Int} {n : Nat} : bq lo (n + 1) = .int lo :: bq (lo + 1) n := by
 unfold bq
 rw [Lm, KF, Ln]
 congr 1
 ·simp
 ·apply Lo
  intro i _
  simp only [Function.comp_apply]
  congr 1
  omega
theorem jb {lo : Int} : bq lo 0 = [] := rfl
theorem lS {lo : Int} {n : Nat} (h : bq lo n = []) : n = 0 := by
 cases n with
 | zero => rfl
 | succ n => rw [h9] at h; cases h
theorem ur {x : D} : ∀ k : Nat, (List.replicate k [x]).flatten = List.replicate k x
 | 0 => rfl
 | k + 1 => by rw [KM, KN, ur k]; rfl
theorem l1 : (1 : Nat) <= sizeLine := by decide
theorem IA {M : aB} {m : Nat} {x : D} (hm : m <= 6) : fK [some x, some (.int m)] M = .ok (.obj (M.length + 1)) (M ++ [.lst [.non], .lst (List.replicate m .non)]) := by
 unfold fK
 simp only [az, cL, au, ax, aX, aa, K2, Lq, Jl l1, aj, af]
 unfold mx
 dsimp only
 rw [ao]
 dsimp only
 have hz : (6 : Nat) <= sizeLine := by decide
 rw [Jl (by refine ⟨by omega, by omega, ?_⟩; simp only [K2, Lq]; omega)]
 simp only [Km, ur, Kg, K2, Lq, KQ, Ls, KW]
end Lw
namespace Lw
open PySem L2 RS Lv
def rB : Option Nat -> D
 | none => .non
 | some n => .int n
theorem xQ (o : Option Nat) : rB o = .non \/ ∃ i, rB o = .int i := by
 cases o with
 | none => exact .inl rfl
 | some n => exact .inr ⟨n, rfl⟩
def nS (m : Nat) (f : Int -> Option Nat) : List D := (List.range m).map fun q : Nat => rB (f q)
theorem Ao {m : Nat} {f : Int -> Option Nat} {q : Int} (q0 : 0 <= q) (q1 : q < m) : atI (nS m f) q = some (rB (f q)) := by
 refine mH q0 ?_
 unfold nS
 rw [Ke, Mv (by omega)]
 simp only [Option.map_some, LW q0]
theorem An {m : Nat} {f : Int -> Option Nat} {q : Int} {v : Nat} (q0 : 0 <= q) (q1 : q < m) : (nS m f).set q.toNat (.int v) = nS m (uX f q v) := by
 unfold nS
 apply Mu
 intro i
 rw [List.getElem?_set, Kh, Lp, Ke, Ke]
 by_cases e : q.toNat = i
 ·rw [Jl e, Jl (by omega), Mv (by omega), <- e]
  simp only [Option.map_some, LW q0, uX, Jl rfl]
  rfl
 ·rw [Jm e]
  by_cases hi : i < m
  ·rw [Mv hi]
   simp only [Option.map_some, uX]
   rw [Jm (by omega)]
  ·rw [Mw (by rw [Lp]; omega)]
   rfl
def iS (T : Int -> Int -> Option Nat) (p : Int) (f : Int -> Option Nat) : Int -> Int -> Option Nat := fun p' => if p' = p then f else T p'
theorem mL {T : Int -> Int -> Option Nat} {p : Int} {f : Int -> Option Nat} : iS T p f p = f := Jl rfl
theorem tW {T : Int -> Int -> Option Nat} {p : Int} {f g : Int -> Option Nat} : iS (iS T p f) p g = iS T p g := by
 funext p'
 unfold iS
 by_cases e : p' = p
 ·rw [Jl e, Jl e]
 ·rw [Jm e, Jm e, Jm e]
def FT (μ0 : aB) (m a : Nat) (T : Int -> Int -> Option Nat) (μ : aB) : Prop := μ0.length <= a /\ (∀ i, i < μ0.length -> μ[i]? = μ0[i]?) /\ ∃ bs : List Nat, bs.Nodup /\ μ[a]? = some (.lst (bs.map D.obj)) /\ bs.length = m /\
 ∀ (p b : Nat), bs[p]? = some b -> μ0.length <= b /\ b ≠ a /\ μ[b]? = some (.lst (nS m (T p)))
theorem FT.app {μ0 μ g : aB} {m a : Nat} {T : Int -> Int -> Option Nat} (h : FT μ0 m a T μ) : FT μ0 m a T (μ ++ g) := by
 obtain ⟨h1, h2, bs, h0, h3, h4, h5⟩ := h
 have hl : μ0.length <= μ.length := Ju h1 (Jv (JD.mp h3).1)
 refine ⟨h1, fun i hi => ?_, bs, h0, aC h3, h4, fun p b hb => ?_⟩
 ·rw [Kd (by omega)]; exact h2 i hi
 ·obtain ⟨g1, g2, g3⟩ := h5 p b hb
  exact ⟨g1, g2, aC g3⟩
theorem FT.pre {μ0 μ : aB} {m a : Nat} {T : Int -> Int -> Option Nat} (h : FT μ0 m a T μ) : ∃ g, μ = μ0 ++ g := by
 obtain ⟨h1, h2, bs, h0, h3, h4, h5⟩ := h
 refine ⟨μ.drop μ0.length, ?_⟩
 apply Mu
 intro i
 by_cases hi : i < μ0.length
 ·rw [Kd hi, h2 i hi]
 ·rw [Kc (by omega), List.getElem?_drop]
  congr 1; omega
theorem FT.get {μ0 μ : aB} {m a : Nat} {T : Int -> Int -> Option Nat} {p : Int} (h : FT μ0 m a T μ) (p0 : 0 <= p) (p1 : p < m) : ∃ b, cO (.obj a) (.int p) μ = .ok (.obj b) μ /\ (∀ q : Int, 0 <= q -> q < m -> cO (.obj b) (.int q) μ = .ok (rB (T p q)) μ) /\
  ∀ (q : Int) (v : Nat), 0 <= q -> q < m -> ∃ μ', uZ (.obj b) (.int q) (.int v) μ = .ok () μ' /\ (∀ (n : Nat) xs t, μ[n]? = some (.lst xs) -> D.tup t ∈ xs -> μ'[n]? = some (.lst xs)) /\ FT μ0 m a (iS T p (uX (T p) q v)) μ' := by
 obtain ⟨h1, h2, bs, h0, h3, h4, h5⟩ := h
 have hp : p.toNat < bs.length := by omega
 have hpe : ((p.toNat : Nat) : Int) = p := LW p0
 obtain ⟨g1, g2, g3⟩ := h5 p.toNat bs[p.toNat] (MN hp)
 rw [hpe] at g3
 refine ⟨bs[p.toNat], fy h3 (mH p0 (by rw [Ke, MN hp]; rfl)), fun q q0 q1 => fy g3 (Ao q0 q1), fun q v q0 q1 => ?_⟩
 have hlen : (nS m (T p)).length = m := by unfold nS; rw [Kh, Lp]
 refine ⟨_, r8 g3 (rL q0 (by rw [hlen]; exact q1)), fun n xs t hn ht => ?_, h1, fun i hi => ?_, bs, h0, ?_, h4, fun p' b hb => ?_⟩
 ·by_cases e : bs[p.toNat] = n
  ·subst e
   rw [g3] at hn
   cases hn
   unfold nS at ht
   obtain ⟨j, _, hj⟩ := Ly.mp ht
   rcases xQ (T p j) with z | ⟨i, z⟩ <;> (rw [z] at hj; cases hj)
  ·rw [JG e]; exact hn
 ·rw [JG (by omega)]; exact h2 i hi
 ·rw [JG (by omega)]; exact h3
 ·obtain ⟨k1, k2, k3⟩ := h5 p' b hb
  obtain ⟨hp', hbe⟩ := JD.mp hb
  refine ⟨k1, k2, ?_⟩
  by_cases e : p' = p.toNat
  ·subst e
   rw [hbe, js (JD.mp (hbe ▸ g3)).1, An q0 q1, hpe, mL]
  ·have hne : bs[p.toNat] ≠ b := fun z => e ((JE h0).mp (hbe.trans z.symm))
   rw [JG hne, k3]
   unfold iS
   rw [Jm (by omega)]
def sT (ks : List (List Int)) : List (Int × Int) := ks.flatMap fun k => match k with
 | [u, v] => [(u, v), (v, u)]
 | _ => []
def Bj (ks : List (List Int)) (a b : Int) : Prop := (a, b) ∈ sT ks
theorem FZ {μ : aB} {o : Option Nat} {n : Nat} : jV false (rB o) (.int ((n : Int) + 1 - 1)) μ = .ok (.bl (decide (o = some n))) μ := by
 cases o with
 | none => rfl
 | some k =>
  show jV false (.int k) (.int ((n : Int) + 1 - 1)) μ = _
  rw [dQ]
  simp only [K1, Ko]
  congr 2
  by_cases e : k = n
  ·subst e; simp
  ·have : ¬ (k : Int) = (n : Int) + 1 - 1 := by omega
   rw [Ji (show ¬ some k = some n by simp [e])]
   exact Jj.mpr this
theorem qL {o : Option Nat} : (rB o).isNon = decide (o = none) := by
 cases o <;> rfl
section
variable {μ0 μ : aB} {m a : Nat} {web : D} {M p u v q r : Int} {n : Nat} {T : Int -> Int -> Option Nat} {f : Int -> Option Nat}
theorem IM (h : FT μ0 m a (iS T p f) μ) (p0 : 0 <= p) (p1 : p < m) (q0 : 0 <= q) (q1 : q < m) (r0 : 0 <= r) (r1 : r < m) :
  ∃ μ', jF [some web, some (.int M), some (.obj a), some (.int p), some (.int ((n : Int) + 1)), some (.int u), some (.int v), some (.int q), some (.int r)] μ = .next [some web, some (.int M), some (.obj a), some (.int p), some (.int ((n : Int) + 1)), some (.int u), some (.int v), some (.int q), some (.int r)] μ' /\
   (∀ (n : Nat) xs t, μ[n]? = some (.lst xs) -> D.tup t ∈ xs -> μ'[n]? = some (.lst xs)) /\ FT μ0 m a (iS T p (yF n f (q, r))) μ' := by
 obtain ⟨b, e1, e2, k⟩ := h.get p0 p1
 rw [mL] at k e2
 have sub1 : ∀ x : Int, iH (.int x) (.int 1) μ = .ok (.int (x - 1)) μ := fun _ => rfl
 unfold jF
 simp only [bI, gY, bR, az, aj, af, aX, aa, e1, e2 q q0 q1, sub1, FZ, aW]
 unfold yF
 dsimp only
 by_cases c1 : f q = some n
 ·simp only [KY c1, Kq, e1, e2 r r0 r1, aa, rN, qL, K1, Ko, aW, ab]
  by_cases c2 : f r = none
  ·obtain ⟨μ', g1, g2, g3⟩ := k r (n + 1) r0 r1
   rw [tW] at g3
   rw [show ((n + 1 : Nat) : Int) = (n : Int) + 1 by push_cast; rfl] at g1
   simp only [KY c2, Kq, bc, aj, af, ab, nL, az, aa, e1, g1]
   rw [Jl ⟨c1, c2⟩]
   exact ⟨μ', rfl, g2, g3⟩
  ·simp only [Ji c2, K1, Ko, cF]
   rw [Jm fun z => c2 z.2]
   exact ⟨μ, rfl, fun _ _ _ h _ => h, h⟩
 ·simp only [Ji c1, K1, Ko, ab, cF]
  rw [Jm fun z => c1 z.1]
  exact ⟨μ, rfl, fun _ _ _ h _ => h, h⟩
theorem fr3 (h : FT μ0 m a (iS T p f) μ) (p0 : 0 <= p) (p1 : p < m) (u0 : 0 <= u) (u1 : u < m) (v0 : 0 <= v) (v1 : v < m) {o7 o8 : Option D} :
  ∃ o7' o8' μ', h7 [some web, some (.int M), some (.obj a), some (.int p), some (.int ((n : Int) + 1)), some (.int u), some (.int v), o7, o8] μ = .next [some web, some (.int M), some (.obj a), some (.int p), some (.int ((n : Int) + 1)), some (.int u), some (.int v), o7', o8'] μ' /\ FT μ0 m a (iS T p (yF n (yF n f (u, v)) (v, u))) μ' := by
 unfold h7
 simp only [fA, cy, cL, au, ax, bM, aj, af, aa, K2, Lq, Jl l2]
 rw [eR ao]
 simp only [ab, cA]
 have hn : (μ ++ [O.lst [.tup [.int u, .int v], .tup [.int v, .int u]]])[μ.length]? = some (.lst [.tup [.int u, .int v], .tup [.int v, .int u]]) := ao
 obtain ⟨μ1, e1, e2, e3⟩ := IM (web := web) (M := M) (n := n) (u := u) (v := v) (h.app (g := [O.lst [.tup [.int u, .int v], .tup [.int v, .int u]]])) p0 p1 u0 u1 v0 v1
 have hn1 := e2 _ _ _ hn Jx
 obtain ⟨μ2, f1, f2, f3⟩ := IM (web := web) (M := M) (n := n) (u := u) (v := v) e3 p0 p1 v0 v1 u0 u1
 have hn2 := f2 _ _ _ hn1 Jx
 refine ⟨some (.int v), some (.int u), μ2, ?_, f3⟩
 have g1 : gQ 2 (bF (ag 7) (bF (ag 8) gR)) (.tup [.int u, .int v]) [some web, some (.int M), some (.obj a), some (.int p), some (.int ((n : Int) + 1)), some (.int u), some (.int v), o7, o8] (μ ++ [O.lst [.tup [.int u, .int v], .tup [.int v, .int u]]]) = .ok [some web, some (.int M), some (.obj a), some (.int p), some (.int ((n : Int) + 1)), some (.int u), some (.int v), some (.int u), some (.int v)] (μ ++ [O.lst [.tup [.int u, .int v], .tup [.int v, .int u]]]) := rfl
 have g2 : gQ 2 (bF (ag 7) (bF (ag 8) gR)) (.tup [.int v, .int u]) [some web, some (.int M), some (.obj a), some (.int p), some (.int ((n : Int) + 1)), some (.int u), some (.int v), some (.int u), some (.int v)] μ1 = .ok [some web, some (.int M), some (.obj a), some (.int p), some (.int ((n : Int) + 1)), some (.int u), some (.int v), some (.int v), some (.int u)] μ1 := rfl
 unfold iF
 rw [Jl (show cZ (.own μ.length _) _ from hn), g1, ab, e1, wJ]
 unfold iF
 rw [Jl (show cZ (.own μ.length _) _ from hn1), g2, ab, f1, wJ]
 unfold iF
 rw [Jl (show cZ (.own μ.length _) _ from hn2)]
theorem Jc {ks : List (List Int)} (hk : ∀ k ∈ ks, pQ m k) (h : FT μ0 m a (iS T p f) μ) (p0 : 0 <= p) (p1 : p < m) {o5 o6 o7 o8 : Option D} :
  ∃ o5' o6' o7' o8' μ', hZ [some (.tup [.int M, .tup (ks.map av)]), some (.int M), some (.obj a), some (.int p), some (.int ((n : Int) + 1)), o5, o6, o7, o8] μ = .next [some (.tup [.int M, .tup (ks.map av)]), some (.int M), some (.obj a), some (.int p), some (.int ((n : Int) + 1)), o5', o6', o7', o8'] μ' /\ FT μ0 m a (iS T p ((sT ks).foldl (yF n) f)) μ' := by
 unfold hZ
 simp only [fA, cy, az, af, aX, aa, gX, ju, ab, aR]
 have run := d5 (src := .fix (ks.map av)) (g := gQ 2 (bF (ag 5) (bF (ag 6) gR))) (fb := h7)
  (fun xs ρ μ1 => ∃ ys zs : List (List Int), xs = zs.map av /\ ks = ys ++ zs /\ FT μ0 m a (iS T p ((sT ys).foldl (yF n) f)) μ1 /\ ∃ o5 o6 o7 o8, ρ = [some (.tup [.int M, .tup (ks.map av)]), some (.int M), some (.obj a), some (.int p), some (.int ((n : Int) + 1)), o5, o6, o7, o8])
  (fun _ _ _ => trivial)
  (fun x xs ρ μ1 hJJ => by
   obtain ⟨ys, zs, hx, hks, hF, o5, o6, o7, o8, e⟩ := hJJ
   subst e
   cases zs with
   | nil => cases hx
   | cons k zs =>
    injection hx with hx1 hx2
    subst hx1 hx2
    obtain ⟨u, v, rfl, u0, uv, v1⟩ := hk k (by rw [hks]; simp)
    obtain ⟨o7', o8', μ3, e1, e3⟩ := fr3 (web := .tup [.int M, .tup (ks.map av)]) (M := M) (n := n) (u := u) (v := v) (o7 := o7) (o8 := o8) hF p0 p1 u0 (by omega) (by omega) v1
    refine ⟨trivial, _, μ1, _, μ3, rfl, e1, ys ++ [[u, v]], zs, rfl, by rw [hks]; simp, ?_, _, _, _, _, rfl⟩
    have : sT (ys ++ [[u, v]]) = sT ys ++ [(u, v), (v, u)] := by simp [sT]
    rw [this, Mb]
    exact e3)
  (xs := ks.map av) (ρ := [some (.tup [.int M, .tup (ks.map av)]), some (.int M), some (.obj a), some (.int p), some (.int ((n : Int) + 1)), o5, o6, o7, o8]) (μ := μ)
  ⟨[], ks, rfl, rfl, h, o5, o6, o7, o8, rfl⟩
 obtain ⟨ρ', μ', ⟨ys, zs, hx, hks, hF, o5', o6', o7', o8', e⟩, run⟩ := run
 subst e
 have hz : zs = [] := by cases zs with
  | nil => rfl
  | cons => cases hx
 subst hz
 rw [J4] at hks
 subst hks
 exact ⟨o5', o6', o7', o8', μ', run, hF⟩
theorem r9 {ks : List (List Int)} (hk : ∀ k ∈ ks, pQ m k) {x y : Int} (h : Bj ks x y) : (0 <= x /\ x < m) /\ (0 <= y /\ y < m) := by
 unfold Bj sT at h
 obtain ⟨k, hk', hm⟩ := Nu.mp h
 obtain ⟨u, v, rfl, u0, uv, v1⟩ := hk k hk'
 simp at hm
 omega
theorem fr5 {ks : List (List Int)} (hk : ∀ k ∈ ks, pQ m k) (h : FT μ0 m a (iS T p fun _ => none) μ) (p0 : 0 <= p) (p1 : p < m) (hm : m <= 6) {o4 o5 o6 o7 o8 : Option D} :
  ∃ o4' o5' o6' o7' o8' μ' f, hX [some (.tup [.int m, .tup (ks.map av)]), some (.int m), some (.obj a), some (.int p), o4, o5, o6, o7, o8] μ = .next [some (.tup [.int m, .tup (ks.map av)]), some (.int m), some (.obj a), some (.int p), o4', o5', o6', o7', o8'] μ' /\ FT μ0 m a (iS T p f) μ' /\ yU (Bj ks) p (fun q => 0 <= q /\ q < m) f := by
 obtain ⟨b, e1, _, k⟩ := h.get p0 p1
 obtain ⟨μ1, e3, _, h1⟩ := k p 0 p0 p1
 rw [tW, mL] at h1
 unfold hX
 simp only [aN, bc, aX, ab, nL, az, aj, af, aa, e1]
 rw [show (D.int 0) = .int ((0 : Nat) : Int) from rfl, e3]
 simp only [aa, ab, aH, fA, bV, au, ax, aX, aj, af]
 rw [lQ (by omega) (by omega) (by omega) (by omega)]
 simp only [ab, aR]
 have run := d5 (src := .fix (bq 1 ((m : Int) - 1).toNat)) (g := ag 4) (fb := hZ)
  (fun xs ρ μ1 => ∃ (n c : Nat) (f : Int -> Option Nat), xs = bq ((n : Int) + 1) c /\ n + 1 + c = m /\ FT μ0 m a (iS T p f) μ1 /\ Up (Bj ks) p (fun q => 0 <= q /\ q < m) n f /\ ∃ o4 o5 o6 o7 o8, ρ = [some (.tup [.int m, .tup (ks.map av)]), some (.int m), some (.obj a), some (.int p), o4, o5, o6, o7, o8])
  (fun _ _ _ => trivial)
  (fun x xs ρ μ1 hJJ => by
   obtain ⟨n, c, f, hx, hc, hF, hU, o4, o5, o6, o7, o8, e⟩ := hJJ
   subst e
   cases c with
   | zero => rw [jb] at hx; cases hx
   | succ c =>
    rw [h9] at hx
    injection hx with hx1 hx2
    subst hx1 hx2
    obtain ⟨o5', o6', o7', o8', μ3, e1, e3⟩ := Jc (M := m) (n := n) (o5 := o5) (o6 := o6) (o7 := o7) (o8 := o8) hk hF p0 p1
    exact ⟨trivial, _, μ1, _, μ3, rfl, e1, n + 1, c, _, by push_cast; rfl, by omega, e3, Ap hU (fun a b h => (r9 hk h).1) (fun a b => Iff.rfl), _, _, _, _, _, rfl⟩)
  (xs := bq 1 ((m : Int) - 1).toNat) (ρ := [some (.tup [.int m, .tup (ks.map av)]), some (.int m), some (.obj a), some (.int p), o4, o5, o6, o7, o8]) (μ := μ1)
  ⟨0, m - 1, _, by rw [show ((m : Int) - 1).toNat = m - 1 by omega]; rfl, by omega, h1, Dn (fun q _ => by unfold uX; rfl), o4, o5, o6, o7, o8, rfl⟩
 obtain ⟨ρ', μ', ⟨n, c, f, hx, hc, hF, hU, o4', o5', o6', o7', o8', e⟩, run⟩ := run
 subst e
 have hz := lS hx.symm
 subst hz
 refine ⟨o4', o5', o6', o7', o8', μ', f, run, hF, hU.full (fun a b h => (r9 hk h).2) fun q hq hl => ?_⟩
 have := FD (m := m) ⟨p0, p1⟩ (fun a b h => (r9 hk h).2) hl
 omega
end
theorem xI {m : Nat} : nS m (fun _ => none) = List.replicate m .non := by
 unfold nS rB
 rw [List.map_const', Lp]
theorem Dc {μ : aB} {m : Nat} (hm : m <= 6) : ∃ (bs : List Nat) (s : aB), compLoop (.fix (bq 0 m)) μ.length (ag 0) bw fK (bq 0 m) [none, some (.int m)] (μ ++ [.lst []]) = .ok (.obj μ.length) (μ ++ .lst (bs.map D.obj) :: s) /\ bs.length = m /\ bs.Nodup /\ ∀ b ∈ bs, ∃ j, b = μ.length + 1 + j /\ s[j]? = some (.lst (List.replicate m .non)) := by
 have run := gE (src := .fix (bq 0 m)) (g := ag 0) (t := bw) (e := fK) (n := μ.length)
  (fun xs ys ρ μ1 s => μ1 = μ /\ (∃ o, ρ = [o, some (.int m)]) /\ ∃ bs : List Nat, ys = bs.map D.obj /\ bs.length + xs.length = m /\ bs.Nodup /\ ∀ b ∈ bs, ∃ j, b = μ.length + 1 + j /\ s[j]? = some (.lst (List.replicate m .non)))
  (fun ys ρ μ1 s ⟨e, _⟩ => ⟨by rw [e], trivial⟩)
  (fun x r ys ρ μ1 s hJJ => by
   obtain ⟨e1, ⟨o, e2⟩, bs, e3, e4, e6, e5⟩ := hJJ
   subst e1 e2
   refine ⟨rfl, trivial, [some x, some (.int m)], _, s, true, _, s, rfl, rfl, fun _ => ?_, fun z => by cases z⟩
   have e := IA (M := μ1 ++ .lst ys :: s) (x := x) hm
   simp only [K2] at e4
   refine ⟨.obj ((μ1 ++ O.lst ys :: s).length + 1), μ1, s ++ [.lst [.non], .lst (List.replicate m .non)], by rw [e]; simp, ?_, rfl, rfl, ⟨_, rfl⟩, bs ++ [(μ1 ++ O.lst ys :: s).length + 1], by rw [e3]; simp, by simp; omega, ?_, fun b hb => ?_⟩
   ·rw [e3, Kh]
    exact Jp (show bs.length < 1000 by omega) br
   ·rw [L4]
    refine ⟨e6, by simp, fun b hb c hc => ?_⟩
    obtain ⟨j, f1, f2⟩ := e5 b hb
    have := (JD.mp f2).1
    simp only [Lc, Kg, K2] at hc
    omega
   ·rcases JB.mp hb with z | z
    ·obtain ⟨j, f1, f2⟩ := e5 b z
     exact ⟨j, f1, aC f2⟩
    ·refine ⟨s.length + 1, ?_, ?_⟩
     ·simp only [Lc, Kg, K2] at z; omega
     ·rw [Kc (by omega)]; simp)
  (xs := bq 0 m) (ys := []) (ρ := [none, some (.int m)]) (μ1 := μ) (s := [])
  ⟨rfl, ⟨_, rfl⟩, [], rfl, by simp [bq], by simp, by simp⟩
 obtain ⟨ys', ρ', μ1', s', ⟨e1, _, bs, e3, e4, e6, e5⟩, run⟩ := run
 subst e1 e3
 exact ⟨bs, s', run, by simpa using e4, e6, e5⟩
theorem BQ {μ : aB} {k : Nat} {ks : List (List Int)} (h : bT (.tup [.int k, .tup (ks.map av)]) k ks) : ∃ a μ' T, iy [.tup [.int k, .tup (ks.map av)]] μ = .ok (.obj a) μ' /\ FT μ k a T μ' /\ ∀ p : Int, 0 <= p -> p < k -> yU (Bj ks) p (fun q => 0 <= q /\ q < k) (T p) := by
 obtain ⟨_, h0, h1, hp, hk⟩ := h
 have hk6 : k <= 6 := by omega
 obtain ⟨bs, s, e1, e2, e4, e3⟩ := Dc (μ := μ) hk6
 have F0 : FT μ k μ.length (fun _ _ => none) (μ ++ .lst (bs.map D.obj) :: s) := by
  refine ⟨JV _, fun i hi => by rw [Kd hi], bs, e4, ao, e2, fun p b hb => ?_⟩
  obtain ⟨j, rfl, f⟩ := e3 b (Kf hb)
  refine ⟨by omega, by omega, ?_⟩
  rw [Kc (by omega), show μ.length + 1 + j - μ.length = j + 1 by omega, xI]
  exact f
 have run := d5 (src := .fix (bq 0 k)) (g := ag 3) (fb := hX)
  (fun xs ρ μ1 => ∃ (n c : Nat) (T : Int -> Int -> Option Nat), xs = bq n c /\ n + c = k /\ FT μ k μ.length T μ1 /\ (∀ p : Int, (n : Int) <= p -> T p = fun _ => none) /\ (∀ p : Int, 0 <= p -> p < n -> yU (Bj ks) p (fun q => 0 <= q /\ q < k) (T p)) /\ ∃ o3 o4 o5 o6 o7 o8, ρ = [some (.tup [.int k, .tup (ks.map av)]), some (.int k), some (.obj μ.length), o3, o4, o5, o6, o7, o8])
  (fun _ _ _ => trivial)
  (fun x xs ρ μ1 hJJ => by
   obtain ⟨n, c, T, hx, hc, hF, hN, hU, o3, o4, o5, o6, o7, o8, e⟩ := hJJ
   subst e
   cases c with
   | zero => rw [jb] at hx; cases hx
   | succ c =>
    rw [h9] at hx
    injection hx with hx1 hx2
    subst hx1 hx2
    have hT : iS T n (fun _ => none) = T := by
     funext p'
     unfold iS
     by_cases e : p' = (n : Int)
     ·rw [Jl e, e, hN n (Int.le_refl _)]
     ·rw [Jm e]
    obtain ⟨o4', o5', o6', o7', o8', μ3, f, g1, g3, g4⟩ := fr5 (T := T) (p := (n : Int)) (o4 := o4) (o5 := o5) (o6 := o6) (o7 := o7) (o8 := o8) hk (by rw [hT]; exact hF) (by omega) (by omega) hk6
    refine ⟨trivial, _, μ1, _, μ3, rfl, g1, n + 1, c, _, by push_cast; rfl, by omega, g3, fun p hp => ?_, fun p p0 p1 => ?_, _, _, _, _, _, _, rfl⟩
    ·unfold iS
     rw [Jm (by omega)]
     exact hN p (by omega)
    ·unfold iS
     by_cases e : p = (n : Int)
     ·rw [Jl e, e]; exact g4
     ·rw [Jm e]; exact hU p p0 (by omega))
  (xs := bq 0 k) (ρ := [some (.tup [.int k, .tup (ks.map av)]), some (.int k), some (.obj μ.length), none, none, none, none, none, none]) (μ := μ ++ .lst (bs.map D.obj) :: s)
  ⟨0, k, _, rfl, by omega, F0, fun _ _ => rfl, fun p p0 p1 => by omega, _, _, _, _, _, _, rfl⟩
 obtain ⟨ρ', μ', ⟨n, c, T, hx, hc, hF, hN, hU, o3, o4, o5, o6, o7, o8, e⟩, run⟩ := run
 subst e
 have hz := lS hx.symm
 subst hz
 have hnk : n = k := by omega
 subst hnk
 refine ⟨μ.length, μ', T, ?_, hF, hU⟩
 unfold iy
 rw [gL]
 simp only [pC, aN, bc, az, af, aX, aa, bO, ab, bH, aH, bE, bV, au, ax]
 simp only [List.replicate, NB, NC, aj, af, aa]
 rw [dD (by omega) (by omega)]
 simp only [aa, aR, Km]
 rw [show eB [none, some 1] [some (D.tup [D.int n, D.tup (List.map av ks)]), some (D.int n), none, none, none, none, none, none, none] = [none, some (.int n)] from rfl, e1]
 simp only [ab, bH, aH, aN, fA, bV, au, ax, NB, NC, aj, af, aa]
 rw [dD (by omega) (by omega)]
 simp only [ab, aR, Km]
 rw [run]
 simp only [aH, bo, aj, af, ab, aK]
 exact n8 (by simp)
def HE (k : Int) : Option Nat -> Bool
 | some j => decide ((j : Int) <= k)
 | none => false
def la (T : Int -> Int -> Option Nat) (k p lo : Int) (c : Nat) : List (List Int) := (((List.range c).map fun i : Nat => lo + (i : Int)).filter fun q => HE k (T p q)).map fun q => [p, q]
def DP (m : Nat) (T : Int -> Int -> Option Nat) (k : Int) : List (List Int) := (List.range m).flatMap fun p : Nat => la T k p ((p : Int) + 1) (m - (p + 1))
theorem tX {T : Int -> Int -> Option Nat} {k p lo : Int} {c : Nat} : (la T k p lo c).length <= c := by
 unfold la
 rw [Kh]
 refine Ju (Nv _ _) ?_
 rw [Kh, Lp]
 exact JV _
theorem oB {T : Int -> Int -> Option Nat} {k p lo : Int} {c : Nat} {x : List Int} (h : x ∈ la T k p lo c) : ∃ q : Int, x = [p, q] /\ lo <= q /\ q < lo + c := by
 unfold la at h
 obtain ⟨q, hq, rfl⟩ := Ly.mp h
 obtain ⟨hq, _⟩ := Js.mp hq
 obtain ⟨i, hi, rfl⟩ := Ly.mp hq
 rw [Jt] at hi
 exact ⟨_, rfl, by omega, by omega⟩
theorem Ca {T : Int -> Int -> Option Nat} {k p lo : Int} {c : Nat} : (la T k p lo c).Pairwise fun a b => qj a < qj b := by
 unfold la
 rw [Mx]
 apply List.Pairwise.filter
 rw [Mx]
 exact LR.imp fun {a b} h => by show p * 6 + (lo + (a : Int)) < p * 6 + (lo + (b : Int)); omega
theorem tR {m : Nat} {T : Int -> Int -> Option Nat} {k : Int} (h0 : 1 <= m) (h1 : m <= 6) : bT (.tup [.int m, .tup ((DP m T k).map av)]) m (DP m T k) := by
 refine ⟨rfl, by omega, by omega, ?_, fun x hx => ?_⟩
 ·unfold DP
  rw [List.pairwise_flatMap]
  refine ⟨fun p _ => Ca, ?_⟩
  refine List.Pairwise.imp_of_mem (R := (· < ·)) ?_ LR
  intro a b ha hb hab x hx y hy
  rw [Jt] at ha hb
  obtain ⟨q, rfl, q0, q1⟩ := oB hx
  obtain ⟨r, rfl, r0, r1⟩ := oB hy
  show (a : Int) * 6 + q < (b : Int) * 6 + r
  omega
 ·unfold DP at hx
  obtain ⟨p, hp, hx⟩ := Nu.mp hx
  rw [Jt] at hp
  obtain ⟨q, rfl, q0, q1⟩ := oB hx
  exact ⟨_, _, rfl, by omega, by omega, by omega⟩
theorem Am {T : Int -> Int -> Option Nat} {k p lo : Int} {c : Nat} : ((bq lo c).filter fun d => match d with | .int q => HE k (T p q) | _ => false).map (fun d => match d with | .int q => av [p, q] | _ => .non) = (la T k p lo c).map av := by
 unfold bq la
 rw [List.filter_map, Ln, List.filter_map, Ln, Ln]
 rfl
section
variable {μ0 μ : aB} {m a : Nat} {p q : Int} {k : Int} {T : Int -> Int -> Option Nat}
theorem zS (h : FT μ0 m a T μ) (p0 : 0 <= p) (p1 : p < m) (q0 : 0 <= q) (q1 : q < m) : dW [some (.int q), some (.int p), some (.int k), some (.obj a)] μ = .ok (HE k (T p q)) μ := by
 obtain ⟨b, e1, e2, _⟩ := h.get p0 p1
 unfold dW
 simp only [gY, bR, az, aj, af, aX, aa, e1, e2 q q0 q1, rN, qL, aW]
 cases e : T p q with
 | none => rfl
 | some j =>
  simp only [Ji (show ¬ some j = none by simp), L9, Kq, dE, aa, aW, rB]
  rfl
theorem zT (h : FT μ0 m a T μ) (hm : m <= 6) (p0 : 0 <= p) (p1 : p < m) :
  compLoop (.fix (bq (p + 1) ((m : Int) - (p + 1)).toNat)) μ.length (ag 0) dW fP (bq (p + 1) ((m : Int) - (p + 1)).toNat) [none, some (.int p), some (.int k), some (.obj a)] (μ ++ [.lst []]) = .ok (.obj μ.length) (μ ++ [.lst ((la T k p (p + 1) ((m : Int) - (p + 1)).toNat).map av)]) := by
 have := fm (src := .fix (bq (p + 1) ((m : Int) - (p + 1)).toNat)) (g := ag 0) (t := dW) (e := fP) (μ1 := μ) (q := fun d => match d with | .int q => HE k (T p q) | _ => false)
  (h := fun d => match d with | .int q => av [p, q] | _ => .non) (fun ρ => ∃ o, ρ = [o, some (.int p), some (.int k), some (.obj a)]) (fun _ => trivial) (xs := bq (p + 1) ((m : Int) - (p + 1)).toNat) (acc := []) (ρ := [none, some (.int p), some (.int k), some (.obj a)]) ⟨none, rfl⟩
  (by unfold bq; rw [Kh, Lq, Lp]; exact Ju (by omega) br)
  (fun x hx acc ρ hJJ => by
   obtain ⟨o, ho⟩ := hJJ
   unfold bq at hx
   obtain ⟨i, hi, rfl⟩ := Ly.mp hx
   rw [Jt] at hi
   subst ho
   refine ⟨[some (.int (p + 1 + (i : Int))), some (.int p), some (.int k), some (.obj a)], ⟨_, rfl⟩, rfl, zS (h.app) p0 p1 (by omega) (by omega), fun _ => ?_⟩
   unfold fP
   simp only [bM, au, ax, aj, af, aa, K2, Lq, Jl l2]
   rfl)
 rw [this, Am]
 rfl
end
theorem kb {m : Nat} {T : Int -> Int -> Option Nat} {k : Int} (h : m <= 6) : ∀ n, ((List.range n).flatMap fun p : Nat => la T k p ((p : Int) + 1) (m - (p + 1))).length <= 6 * n
 | 0 => by simp
 | n + 1 => by
  rw [List.range_succ, NG, Kg]
  have := kb (T := T) (k := k) h n
  have h2 := tX (T := T) (k := k) (p := n) (lo := (n : Int) + 1) (c := m - (n + 1))
  simp only [Nw, NH, J4]
  omega
theorem xt {μ : aB} {m : Nat} {k : Int} {ks : List (List Int)} (h : bT (.tup [.int m, .tup (ks.map av)]) m ks) : ∃ T, (∀ p : Int, 0 <= p -> p < m -> yU (Bj ks) p (fun q => 0 <= q /\ q < m) (T p)) /\
  dq [.tup [.int m, .tup (ks.map av)], .int k] μ = .ok (.tup [.int m, .tup ((DP m T k).map av)]) μ := by
 obtain ⟨a, μf, T, ef, hF, hT⟩ := BQ (μ := μ) h
 obtain ⟨_, h0, h1, hp, hk⟩ := h
 have hm6 : m <= 6 := by omega
 refine ⟨T, hT, ?_⟩
 have run := d5 (src := .fix (bq 0 m)) (g := ag 4) (fb := fO)
  (fun xs ρ μ1 => ∃ (n c t : Nat) (o4 : Option D), xs = bq n c /\ n + c = m /\ ρ = [some (.tup [.int m, .tup (ks.map av)]), some (.int k), some (.obj a), some (.obj t), o4] /\ FT μ m a T μ1 /\ μ1[t]? = some (.lst (((List.range n).flatMap fun p : Nat => la T k p ((p : Int) + 1) (m - (p + 1))).map av)))
  (fun _ _ _ => trivial)
  (fun x r ρ μ1 hJJ => by
   obtain ⟨n, c, t, o4, e1, e3, e4, e5, e6⟩ := hJJ
   subst e4
   cases c with
   | zero => rw [jb] at e1; cases e1
   | succ c =>
    rw [h9] at e1
    injection e1 with ex er
    subst ex er
    have q3 := zT (k := k) (p := (n : Int)) e5 hm6 (by omega) (by omega)
    rw [show ((m : Int) - ((n : Int) + 1)).toNat = m - (n + 1) by omega] at q3
    have hlen := kb (T := T) (k := k) hm6 n
    have hrow := tX (T := T) (k := k) (p := n) (lo := (n : Int) + 1) (c := m - (n + 1))
    refine ⟨trivial, _, μ1, [some (.tup [.int m, .tup (ks.map av)]), some (.int k), some (.obj a), some (.obj (μ1.length + 1)), some (.int n)], (μ1 ++ [O.lst ((la T k n ((n : Int) + 1) (m - (n + 1))).map av)]) ++ [O.lst (((List.range (n + 1)).flatMap fun p : Nat => la T k p ((p : Int) + 1) (m - (p + 1))).map av)], rfl, ?_, n + 1, c, μ1.length + 1, some (.int n), by push_cast; rfl, by omega, rfl, (e5.app).app, ?_⟩
    ·show fO [some (.tup [.int m, .tup (ks.map av)]), some (.int k), some (.obj a), some (.obj t), some (.int n)] μ1 = _
     unfold fO
     simp only [bc, az, aj, af, aa, bE, bV, au, ax, aX, fB, bO]
     rw [lQ (by omega) (by omega) (by omega) (by omega)]
     simp only [aa, aR]
     rw [show ((m : Int) - ((n : Int) + 1)).toNat = m - (n + 1) by omega]
     rw [show eB [none, some 4, some 1, some 2] [some (D.tup [D.int ↑m, D.tup (List.map av ks)]), some (D.int k), some (D.obj a), some (D.obj t), some (D.int n)] = [none, some (.int n), some (.int k), some (.obj a)] from rfl, q3]
     simp only [aa]
     unfold bf
     dsimp only
     rw [aC e6, ao]
     dsimp only
     rw [Jl (by
      rw [Kh, Kh]
      exact Ju (show _ <= 1000 by omega) br)]
     simp only [ab, bH]
     simp only [Kg, K2, Lq, NB, NC, List.range_succ, NG, LG, Nw, NH, J4]
    ·have : μ1.length + 1 = (μ1 ++ [O.lst ((la T k n ((n : Int) + 1) (m - (n + 1))).map av)]).length := by simp
     rw [this]; exact ao)
  (xs := bq 0 m) (ρ := [some (.tup [.int m, .tup (ks.map av)]), some (.int k), some (.obj a), some (.obj μf.length), none]) (μ := μf ++ [.lst []])
  ⟨0, m, μf.length, none, rfl, by omega, rfl, hF.app, ao⟩
 obtain ⟨ρ', μ', ⟨n, c, t, o4, e1, e3, e4, e5, e6⟩, run⟩ := run
 subst e4
 have hz := lS e1.symm
 subst hz
 have hnm : n = m := by omega
 subst hnm
 have hg : bT (.tup [.int n, .tup ((DP n T k).map av)]) n (DP n T k) := tR (by omega) hm6
 obtain ⟨g, hpre⟩ := e5.pre
 unfold dq
 rw [dB]
 simp only [mf, aN, bc, aG, au, ax, af, aa, ef, ab, bH, aH, cL]
 have l0 : (0 : Nat) <= sizeLine := Lb _
 simp only [Lq, Jl l0, ab, aH, List.replicate, NB, NC, aN, fA, bV, au, ax, az, af, aX, aa, bO]
 rw [dD (by omega) (by omega)]
 simp only [ab, aR, Km]
 rw [run]
 simp only [aH, bo, bM, au, ax, az, aG, aj, af, aX, aa, bO]
 rw [jt e6]
 simp only [aa, K2, Lq, Jl l2, ab, aK]
 rw [hpre]
 exact gJ (um hg)
theorem i9 {μ : aB} : ∀ fs : List Int, ig μ (fs.map D.int) = some (fs.map PyData.int)
 | [] => rfl
 | x :: fs => by simp only [KF, ig, i9 fs]; rfl
theorem iq : ∀ fs : List Int, PyData.canLayAll0 (fs.map PyData.int) = true /\ PyData.depthAll (fs.map PyData.int) = 0
 | [] => by simp [PyData.canLayAll0, PyData.depthAll]
 | x :: fs => by
  have := iq fs
  simp only [KF, PyData.canLayAll0, PyData.depthAll, PyData.canLay0, PyData.depth, this.1, this.2]
  exact ⟨rfl, rfl⟩
theorem wV {μ : aB} {F : Nat} {fs : List Int} {a : Int} (h : μ[F]? = some (.lst (fs.map D.int))) : pN false (.int a) (.obj F) μ = .ok (.bl (decide (a ∈ fs))) μ := by
 have e1 : kN μ (.int a) = some (.int a) := rfl
 have e2 : kN μ (.obj F) = some (.list (fs.map PyData.int)) := by
  unfold kN
  dsimp only
  rw [h]
  dsimp only
  rw [i9]
  rfl
 have f1 : dN (.int a) = true := rfl
 have f2 : dN (.list (fs.map PyData.int)) = true := by
  have := iq fs
  simp only [dN, PyData.canLay0, this.1, PyData.depth, this.2, NI]
  rfl
 unfold pN
 rw [e1, e2]
 dsimp only [oj]
 rw [Jl ⟨f1, f2⟩]
 simp only [K1, Ko]
 congr 2
 rw [NJ]
 apply J0.mpr
 rw [NK, Nb]
 constructor
 ·rintro ⟨x, hx, e⟩
  have : x = a := by simpa [PyData.eqv] using e
  subst this; exact hx
 ·intro hx
  exact ⟨a, hx, by simp [PyData.eqv]⟩
theorem nO {m : Int} {ks : List (List Int)} (hk : ∀ k ∈ ks, pQ m k) {a b : Int} : Bj ks a b ↔ ([a, b] ∈ ks \/ [b, a] ∈ ks) := by
 unfold Bj sT
 rw [Nu]
 constructor
 ·rintro ⟨k, hk', hm⟩
  obtain ⟨u, v, rfl, _⟩ := hk k hk'
  simp at hm
  rcases hm with ⟨rfl, rfl⟩ | ⟨rfl, rfl⟩
  ·exact .inl hk'
  ·exact .inr hk'
 ·rintro (h | h)
  ·exact ⟨_, h, by simp⟩
  ·exact ⟨_, h, by simp⟩
theorem mO {m : Int} {t e : List Int -> Int} : ∀ {ks : List (List Int)}, (∀ k ∈ ks, pQ m k) -> ∀ (P : Int -> Bool), ∃ l : List Int,
  ((ks.map av).filter (fun d => match d with | .tup [.int a, .int b] => P (t [a, b]) | _ => false)).map (fun d => match d with | .tup [.int a, .int b] => .int (e [a, b]) | _ => .non) = l.map D.int /\ l.length <= ks.length /\ ∀ x, x ∈ l ↔ ∃ k ∈ ks, P (t k) = true /\ x = e k
 | [], _, P => ⟨[], rfl, JV _, by simp⟩
 | k :: ks, h, P => by
  obtain ⟨l, e1, e2, e3⟩ := mO (t := t) (e := e) (ks := ks) (fun x hx => h x (Jy _ hx)) P
  obtain ⟨a, b, rfl, _⟩ := h k Jx
  rw [KF, Nl]
  show ∃ l : List Int, List.map _ (if P (t [a, b]) = true then _ else _) = _ /\ _
  by_cases c : P (t [a, b]) = true
  ·rw [Jl c, KF, e1]
   refine ⟨e [a, b] :: l, rfl, by simp; omega, fun x => ?_⟩
   simp only [Jz, e3]
   constructor
   ·rintro (rfl | ⟨k, hk, z⟩)
    ·exact ⟨[a, b], .inl rfl, c, rfl⟩
    ·exact ⟨k, .inr hk, z⟩
   ·rintro ⟨k, rfl | hk, z1, z2⟩
    ·exact .inl z2
    ·exact .inr ⟨k, hk, z1, z2⟩
  ·rw [Jm c, e1]
   refine ⟨l, rfl, by simp; omega, fun x => ?_⟩
   simp only [Jz, e3]
   constructor
   ·rintro ⟨k, hk, z⟩; exact ⟨k, .inr hk, z⟩
   ·rintro ⟨k, rfl | hk, z1, z2⟩
    ·exact absurd z1 c
    ·exact ⟨k, hk, z1, z2⟩
def Bu : List Int -> Int
 | [a, _] => a
 | _ => 0
def Bp : List Int -> Int
 | [_, b] => b
 | _ => 0
theorem z6 {μ : aB} {m : Int} {F : Nat} {fs : List Int} {ks : List (List Int)} (hk : ∀ k ∈ ks, pQ m k) (hl : ks.length <= 15) (h : μ[F]? = some (.lst (fs.map D.int))) :
  ∃ (t : Nat) (g : aB) (ns : List Int), eK [.tup (ks.map av), .obj F] μ = .ok (.obj t) (μ ++ g) /\ (μ ++ g)[t]? = some (.lst (ns.map D.int)) /\ ns.length <= 30 /\ μ.length <= t /\ ∀ q, q ∈ ns ↔ ∃ r ∈ fs, Bj ks r q := by
 obtain ⟨l1, a1, a2, a3⟩ := mO (t := Bu) (e := Bp) hk fun x => decide (x ∈ fs)
 obtain ⟨l2', b1, b2, b3⟩ := mO (t := Bp) (e := Bu) hk fun x => decide (x ∈ fs)
 have c1 := fm (src := .fix (ks.map av)) (g := gQ 2 (bF (ag 0) (bF (ag 1) (gR)))) (t := gO) (e := jR) (μ1 := μ)
  (q := fun d => match d with | .tup [.int a, .int b] => decide (Bu [a, b] ∈ fs) | _ => false) (h := fun d => match d with | .tup [.int a, .int b] => .int (Bp [a, b]) | _ => .non)
  (fun ρ => ∃ o1 o2, ρ = [o1, o2, some (.obj F)]) (fun _ => trivial) (xs := ks.map av) (acc := []) (ρ := [none, none, some (.obj F)]) ⟨_, _, rfl⟩
  (by rw [Kh, Lq]; exact Ju (by omega) br)
  (fun x hx a ρ hJJ => by
   obtain ⟨o1, o2, ho⟩ := hJJ
   obtain ⟨k, hk', rfl⟩ := Ly.mp hx
   obtain ⟨u, v, rfl, _⟩ := hk k hk'
   subst ho
   refine ⟨[some (.int u), some (.int v), some (.obj F)], ⟨_, _, rfl⟩, rfl, ?_, fun _ => rfl⟩
   unfold gO
   simp only [bR, az, aj, af, aa]
   rw [wV (aC h)]
   rfl)
 have c2 := fun M : aB => fun hM : M[F]? = some (.lst (fs.map D.int)) => fm (src := .fix (ks.map av)) (g := gQ 2 (bF (ag 0) (bF (ag 1) (gR)))) (t := gN) (e := jQ) (μ1 := M)
  (q := fun d => match d with | .tup [.int a, .int b] => decide (Bp [a, b] ∈ fs) | _ => false) (h := fun d => match d with | .tup [.int a, .int b] => .int (Bu [a, b]) | _ => .non)
  (fun ρ => ∃ o1 o2, ρ = [o1, o2, some (.obj F)]) (fun _ => trivial) (xs := ks.map av) (acc := []) (ρ := [none, none, some (.obj F)]) ⟨_, _, rfl⟩
  (by rw [Kh, Lq]; exact Ju (by omega) br)
  (fun x hx a ρ hJJ => by
   obtain ⟨o1, o2, ho⟩ := hJJ
   obtain ⟨k, hk', rfl⟩ := Ly.mp hx
   obtain ⟨u, v, rfl, _⟩ := hk k hk'
   subst ho
   refine ⟨[some (.int u), some (.int v), some (.obj F)], ⟨_, _, rfl⟩, rfl, ?_, fun _ => rfl⟩
   unfold gN
   simp only [bR, az, aj, af, aa]
   rw [wV (aC hM)]
   rfl)
 rw [KW, a1] at c1
 have c2' := c2 (μ ++ [O.lst (l1.map D.int)]) (aC h)
 rw [KW, b1] at c2'
 refine ⟨((μ ++ [O.lst (l1.map D.int)]) ++ [O.lst (l2'.map D.int)]).length, ([O.lst (l1.map D.int)] ++ [O.lst (l2'.map D.int)]) ++ [O.lst ((l1 ++ l2').map D.int)], l1 ++ l2', ?_, ?_, by rw [Kg]; omega, by simp, fun q => ?_⟩
 ·unfold eK
  rw [dB]
  simp only [k7, bo, az, bE, cy, af, aa, ju, aR, List.replicate]
  rw [show eB [none, none, some 1] (some (D.tup (List.map av ks)) :: some (D.obj F) :: List.replicate (2 - 2) none) = [none, none, some (.obj F)] from rfl, c1]
  simp only [aa]
  rw [c2']
  simp only [aa]
  have ad : bf (.obj μ.length) (.obj (μ ++ [O.lst (l1.map D.int)]).length) ((μ ++ [O.lst (l1.map D.int)]) ++ [O.lst (l2'.map D.int)]) = .ok (.obj ((μ ++ [O.lst (l1.map D.int)]) ++ [O.lst (l2'.map D.int)]).length) (((μ ++ [O.lst (l1.map D.int)]) ++ [O.lst (l2'.map D.int)]) ++ [O.lst ((l1 ++ l2').map D.int)]) := by
   unfold bf
   dsimp only
   rw [ao, aC ao]
   dsimp only
   rw [Jl, LG]
   rw [Kh, Kh]
   exact Ju (show _ <= 1000 by omega) br
  rw [ad, ab, aK, n8 (by simp)]
  simp only [KQ]
 ·rw [<- KQ, <- KQ]; exact ao
 ·rw [JB, a3, b3]
  constructor
  ·rintro (⟨k, hk', z1, z2⟩ | ⟨k, hk', z1, z2⟩)
   ·obtain ⟨u, v, rfl, _⟩ := hk k hk'
    subst z2
    exact ⟨u, Ny z1, (nO hk).mpr (.inl hk')⟩
   ·obtain ⟨u, v, rfl, _⟩ := hk k hk'
    subst z2
    exact ⟨v, Ny z1, (nO hk).mpr (.inr hk')⟩
  ·rintro ⟨r, hr, ha⟩
   rcases (nO hk).mp ha with z | z
   ·exact .inl ⟨_, z, KY hr, rfl⟩
   ·exact .inr ⟨_, z, KY hr, rfl⟩
theorem dR {μ : aB} {i j : Nat} {o o' : O} (h : μ[j]? = some o') (ne : i ≠ j) : (μ.set i o)[j]? = some o' := by rw [JG ne]; exact h
def lM (k : List Int) : PyData := .tuple (k.map PyData.int)
theorem mM {μ : aB} {m : Int} : ∀ {ks : List (List Int)}, (∀ k ∈ ks, pQ m k) -> ig μ (ks.map av) = some (ks.map lM)
 | [], _ => rfl
 | k :: ks, h => by
  obtain ⟨a, b, rfl, _⟩ := h k Jx
  have ih := mM (μ := μ) fun x hx => h x (Jy _ hx)
  simp only [KF, ig, ih]
  rfl
theorem qF {m : Int} : ∀ {ks : List (List Int)}, (∀ k ∈ ks, pQ m k) -> PyData.canLayAll0 (ks.map lM) = true /\ PyData.depthAll (ks.map lM) <= 1
 | [], _ => by simp [PyData.canLayAll0, PyData.depthAll]
 | k :: ks, h => by
  obtain ⟨a, b, rfl, _⟩ := h k Jx
  have ih := qF fun x hx => h x (Jy _ hx)
  simp only [KF, PyData.canLayAll0, PyData.depthAll, ih.1, lM, KE, PyData.canLay0, PyData.depth]
  refine ⟨rfl, ?_⟩
  have := ih.2
  omega
end Lw
namespace Lw
open PySem L2 RS
def Pn (μ0 : aB) (i : Nat) (μ : aB) : Prop := ∃ a b c g, μ = μ0.set i (aP a b c) ++ g
theorem Pn.app {μ0 μ g : aB} {i : Nat} (h : Pn μ0 i μ) : Pn μ0 i (μ ++ g) := by
 obtain ⟨a, b, c, g', rfl⟩ := h
 exact ⟨a, b, c, g' ++ g, by rw [KQ]⟩
theorem Pn.get {μ0 μ : aB} {i : Nat} (h : Pn μ0 i μ) (hi : i < μ0.length) : ∃ a b c, μ[i]? = some (aP a b c) := by
 obtain ⟨a, b, c, g', rfl⟩ := h
 exact ⟨a, b, c, aC (js hi)⟩
theorem Pn.set {μ0 μ : aB} {i : Nat} {a b c : Int} (h : Pn μ0 i μ) (hi : i < μ0.length) : Pn μ0 i (μ.set i (aP a b c)) := by
 obtain ⟨a', b', c', g', rfl⟩ := h
 exact ⟨a, b, c, g', by rw [jr (by simpa using hi), ND]⟩
theorem Pn.len {μ0 μ : aB} {i : Nat} (h : Pn μ0 i μ) : μ0.length <= μ.length := by
 obtain ⟨a', b', c', g', rfl⟩ := h
 simp
theorem Pn.self {μ0 : aB} {i : Nat} {a b c : Int} (h : μ0[i]? = some (aP a b c)) : Pn μ0 i μ0 := by
 refine ⟨a, b, c, [], ?_⟩
 rw [J4]
 apply Mu
 intro j
 by_cases e : i = j
 ·subst e; rw [js (JD.mp h).1, h]
 ·rw [JG e]
theorem Pn.draw {μ0 μ : aB} {i : Nat} {m : Int} (h : Pn μ0 i μ) (hi : i < μ0.length) (h0 : 0 < m) (h1 : m < 1000) :
  ∃ r a b c : Int, 0 <= r /\ r < m /\ aL [.obj i, .int m] μ = .ok (.int r) (μ.set i (aP a b c)) /\ Pn μ0 i (μ.set i (aP a b c)) := by
 obtain ⟨a, b, c, hp⟩ := h.get hi
 obtain ⟨r, a', b', c', r0, r1, e⟩ := wu hp h0 h1
 exact ⟨r, a', b', c', r0, r1, e, h.set hi⟩
theorem Pn.gc {μ0 μ : aB} {i : Nat} {d : D} (h : Pn μ0 i μ) (hd : d.low μ0.length) : ∃ a b c, qi μ0 (.ok d μ) = .ok d (μ0.set i (aP a b c)) := by
 obtain ⟨a, b, c, g', rfl⟩ := h
 exact ⟨a, b, c, vc hd nJ⟩
theorem lU {μ1 : aB} {e : ME} {rest : Ro} {f : Int -> Int × Int} {lo : Int} {n : Nat} (hn : n < 1000) (he : ∀ v a, e (some (.int v) :: rest) (μ1 ++ [.lst a]) = .ok (df (f v)) (μ1 ++ [.lst a])) :
  compLoop (.fix (bq lo n)) μ1.length (ag 0) bw e (bq lo n) (none :: rest) (μ1 ++ [.lst []]) = .ok (.obj μ1.length) (μ1 ++ [.lst (((List.range n).map fun k : Nat => f (lo + (k : Int))).map df)]) := by
 have := fm (src := .fix (bq lo n)) (g := ag 0) (t := bw) (e := e) (μ1 := μ1) (q := fun _ => true)
  (h := fun d => match d with | .int a => df (f a) | _ => .non) (fun ρ => ∃ o, ρ = o :: rest) (fun _ => trivial) (xs := bq lo n) (acc := []) (ρ := none :: rest) ⟨none, rfl⟩
  (by unfold bq; rw [Kh, Lq, Lp]; exact Ju (by omega) br)
  (fun x hx a ρ hJJ => by
   obtain ⟨o, ho⟩ := hJJ
   unfold bq at hx
   obtain ⟨k, hk, rfl⟩ := Ly.mp hx
   exact ⟨_, ⟨_, rfl⟩, by subst ho; rfl, rfl, fun _ => he _ _⟩)
 rw [this, NF.mpr (fun _ _ => rfl)]
 unfold bq
 simp only [KW, Ln]
 rfl
def Gi (m : Int) (ps : List (Int × Int)) : Prop := ps.length <= 40 /\ ∀ p ∈ ps, 0 <= p.1 /\ p.1 < m /\ 0 <= p.2 /\ p.2 < m /\ p.1 ≠ p.2
theorem oZ {μ0 μ1 : aB} {i t : Nat} {m : Int} {k : Int} {ps : List (Int × Int)} (hi : i < μ0.length) (ht : μ0.length <= t) (h : Pn μ0 i μ1) (hl : μ1[t]? = some (.lst (ps.map df))) (hps : Gi m ps) (k0 : 0 < k) (k1 : k < 1000) :
  ∃ qs μ2, Gi m qs /\ Pn μ0 i μ2 /\ μ2.length = μ1.length /\ compLoop (.own t (ps.map df)) μ1.length (ag 0) (gP (aw (jV false) (aA aL (ae (ah 1) (ae (cC (.int k)) (ay)))) (cC (.int 0)))) (ah 0) (ps.map df) [none, some (.obj i)] (μ1 ++ [.lst []]) = .ok (.obj μ1.length) (μ2 ++ [.lst (qs.map df)]) := by
 have run := gE (src := .own t (ps.map df)) (g := ag 0) (t := (gP (aw (jV false) (aA aL (ae (ah 1) (ae (cC (.int k)) (ay)))) (cC (.int 0))))) (e := ah 0) (n := μ1.length)
  (fun xs ys ρ μ2 s => s = [] /\ μ2.length = μ1.length /\ Pn μ0 i μ2 /\ μ2[t]? = some (.lst (ps.map df)) /\ (∃ o, ρ = [o, some (.obj i)]) /\ ∃ rs qs : List (Int × Int), xs = rs.map df /\ ys = qs.map df /\ qs.length + rs.length <= 40 /\ (∀ p ∈ rs, 0 <= p.1 /\ p.1 < m /\ 0 <= p.2 /\ p.2 < m /\ p.1 ≠ p.2) /\ (∀ p ∈ qs, 0 <= p.1 /\ p.1 < m /\ 0 <= p.2 /\ p.2 < m /\ p.1 ≠ p.2))
  (fun ys ρ μ2 s ⟨_, e1, _, e2, _⟩ => ⟨e1, aC e2⟩)
  (fun x r ys ρ μ2 s hJJ => by
   obtain ⟨es, e1, e2, e3, ⟨o, e4⟩, rs, qs, e5, e6, e7, e8, e9⟩ := hJJ
   subst es e4 e6
   cases rs with
   | nil => cases e5
   | cons p rs =>
    injection e5 with ex er
    subst ex er
    obtain ⟨v, a, b, c, v0, v1, ed, hp⟩ := (e2.app (g := [.lst (qs.map df)])).draw hi k0 k1
    have i2 : i < μ2.length := Jp hi e2.len
    rw [jr i2] at ed
    refine ⟨e1, aC e3, [some (df p), some (.obj i)], μ2, [], v == 0, μ2.set i (aP a b c), [], rfl, ?_, fun hc => ?_, fun hc => ?_⟩
    ·simp only [bR, az, aG, au, ax, aj, af, aX, aa, ed, dQ, K1, Ko, aW]
    ·refine ⟨df p, μ2.set i (aP a b c), [], by rw [af], ?_, by simpa using e1, rfl, by simpa using e1, e2.set hi, dR e3 (by omega), ⟨_, rfl⟩, rs, qs ++ [p], rfl, by simp, by simp at e7 ⊢; omega, fun q hq => e8 q (Jy _ hq), fun q hq => ?_⟩
     ·rw [Kh]
      simp only [K2] at e7
      exact Jp (show qs.length < 1000 by omega) br
     ·rcases JB.mp hq with z | z
      ·exact e9 q z
      ·simp at z; subst z; exact e8 _ Jx
    ·exact ⟨rfl, by simpa using e1, e2.set hi, dR e3 (by omega), ⟨_, rfl⟩, rs, qs, rfl, rfl, by simp at e7 ⊢; omega, fun q hq => e8 q (Jy _ hq), e9⟩)
  (xs := ps.map df) (ys := []) (ρ := [none, some (.obj i)]) (μ1 := μ1) (s := [])
  ⟨rfl, rfl, h, hl, ⟨_, rfl⟩, ps, [], rfl, rfl, by have := hps.1; simpa using this, hps.2, by simp⟩
 obtain ⟨ys', ρ', μ2, s', ⟨es, e1, e2, e3, ⟨o, e4⟩, rs, qs, e5, e6, e7, e8, e9⟩, run⟩ := run
 subst es e6
 exact ⟨qs, μ2, ⟨by omega, e9⟩, e2, e1, run⟩
theorem vN {μ0 μ1 : aB} {i : Nat} {m : Int} (hi : i < μ0.length) (h : Pn μ0 i μ1) (m0 : 1 <= m) (m1 : m <= 6) :
  ∃ qs μ2, Gi m qs /\ Pn μ0 i μ2 /\ μ2.length = μ1.length /\ compLoop (.fix (bq 1 (m - 1).toNat)) μ1.length (ag 0) bw ck (bq 1 (m - 1).toNat) [none, some (.obj i)] (μ1 ++ [.lst []]) = .ok (.obj μ1.length) (μ2 ++ [.lst (qs.map df)]) := by
 have run := gE (src := .fix (bq 1 (m - 1).toNat)) (g := ag 0) (t := bw) (e := ck) (n := μ1.length)
  (fun xs ys ρ μ2 s => s = [] /\ μ2.length = μ1.length /\ Pn μ0 i μ2 /\ (∃ o, ρ = [o, some (.obj i)]) /\ ∃ (lo : Int) (n : Nat) (qs : List (Int × Int)), xs = bq lo n /\ 1 <= lo /\ lo + n = m /\ ys = qs.map df /\ qs.length + n <= 40 /\ (∀ p ∈ qs, 0 <= p.1 /\ p.1 < m /\ 0 <= p.2 /\ p.2 < m /\ p.1 ≠ p.2))
  (fun ys ρ μ2 s ⟨_, e1, _⟩ => ⟨e1, trivial⟩)
  (fun x r ys ρ μ2 s hJJ => by
   obtain ⟨es, e1, e2, ⟨o, e4⟩, lo, n, qs, e5, e6, e7, e8, e9, e10⟩ := hJJ
   subst es e4 e8
   cases n with
   | zero => rw [jb] at e5; cases e5
   | succ n =>
    rw [h9] at e5
    injection e5 with ex er
    subst ex er
    obtain ⟨v, a, b, c, v0, v1, ed, hp⟩ := (e2.app (g := [.lst (qs.map df)])).draw (m := lo) hi (by omega) (by omega)
    have i2 : i < μ2.length := Jp hi e2.len
    rw [jr i2] at ed
    refine ⟨e1, trivial, [some (.int lo), some (.obj i)], μ2, [], true, μ2, [], rfl, rfl, fun hc => ?_, fun hc => nomatch hc⟩
    refine ⟨df (v, lo), μ2.set i (aP a b c), [], ?_, ?_, by simpa using e1, rfl, by simpa using e1, e2.set hi, ⟨_, rfl⟩, lo + 1, n, qs ++ [(v, lo)], rfl, by omega, by omega, by simp, by simp; omega, fun q hq => ?_⟩
    ·unfold ck
     simp only [bM, aG, au, ax, aj, af, aX, aa, ed, K2, Lq, Jl l2]
     rfl
    ·rw [Kh]
     exact Jp (show qs.length < 1000 by omega) br
    ·rcases JB.mp hq with z | z
     ·exact e10 q z
     ·simp at z; subst z; exact ⟨v0, by omega, by omega, by omega, by dsimp only; omega⟩)
  (xs := bq 1 (m - 1).toNat) (ys := []) (ρ := [none, some (.obj i)]) (μ1 := μ1) (s := [])
  ⟨rfl, rfl, h, ⟨_, rfl⟩, 1, _, [], rfl, by omega, by omega, rfl, by simp; omega, by simp⟩
 obtain ⟨ys', ρ', μ2, s', ⟨es, e1, e2, ⟨o, e4⟩, lo, n, qs, e5, e6, e7, e8, e9, e10⟩, run⟩ := run
 subst es e8
 exact ⟨qs, μ2, ⟨by omega, e10⟩, e2, e1, run⟩
noncomputable def gk : MS := (mq (gP (aw (jV false) (ah 1) (cC (.int 0)))) (bz (bS (gG (ah 3)) [none, some 0] (ag 0) (fe) (fj)) (ag 5)) (mq (gP (aw (jV false) (ah 1) (cC (.int 1)))) (bz (bS (gG (ah 3)) [none, some 0] (ag 0) (eZ) (fg)) (ag 5)) (mq (gP (aw (jV false) (ah 1) (cC (.int 2)))) (bz (aw bf (bS (eA fX (ae (aw iH (ah 2) (cC (.int 1))) (ay))) [none] (ag 0) (bw) (dv)) (aw mx (fY (ae (dA (ae (cC (.int 0)) (ae (aw iH (ah 2) (cC (.int 1))) (ay)))) (ay))) (aA m4 (ae (aw (jW .Gt) (ah 2) (cC (.int 2))) (ay))))) (ag 5)) (mq (gP (aw (jV false) (ah 1) (cC (.int 3)))) (bz (bS (eA fX (ae (aw iH (ah 2) (cC (.int 1))) (ay))) [none] (ag 0) (bw) (ff)) (ag 5)) (mq (gP (aw (jV false) (ah 1) (cC (.int 4)))) (bz (bS (eA lE (ae (cC (.int 1)) (ae (ah 2) (ay)))) [none] (ag 0) (bw) (du)) (ag 5)) (bz (bS (eA lE (ae (cC (.int 1)) (ae (ah 2) (ay)))) [none, some 0] (ag 0) (bw) (ck)) (ag 5)))))))
theorem B6 {μ0 μ1 : aB} {i t : Nat} {m w : Int} {ps : List (Int × Int)} {o4 : Option D} (hi : i < μ0.length) (ht : μ0.length <= t) (h : Pn μ0 i μ1) (hl : μ1[t]? = some (.lst (ps.map df))) (hps : Gi m ps) (m0 : 1 <= m) (m1 : m <= 6) :
  ∃ (o : Nat) (qs : List (Int × Int)) (μ2 : aB), Gi m qs /\ Pn μ0 i μ2 /\ μ2[o]? = some (.lst (qs.map df)) /\ gk [some (.obj i), some (.int w), some (.int m), some (.obj t), o4, none] μ1 = .next [some (.obj i), some (.int w), some (.int m), some (.obj t), o4, some (.obj o)] μ2 := by
 unfold gk
 have r1 : ∀ n a, dv (some (.int n) :: []) (μ1 ++ [.lst a]) = .ok (df (n, n + 1)) (μ1 ++ [.lst a]) := fun n a => by
  unfold dv
  simp only [bM, au, ax, az, af, aX, aa, fB, K2, Lq, Jl l2]
  rfl
 have r2 : ∀ n a, ff (some (.int n) :: []) (μ1 ++ [.lst a]) = .ok (df (n, n + 1)) (μ1 ++ [.lst a]) := r1
 have r3 : ∀ n a, du (some (.int n) :: []) (μ1 ++ [.lst a]) = .ok (df (0, n)) (μ1 ++ [.lst a]) := fun n a => by
  unfold du
  simp only [bM, au, ax, az, af, aX, aa, fB, K2, Lq, Jl l2]
  rfl
 have sb : iH (.int m) (.int 1) μ1 = .ok (.int (m - 1)) μ1 := rfl
 have rn : (List.range (m - 1).toNat).length <= 5 := by rw [Lp]; omega
 have pth : ∀ p ∈ (List.range (m - 1).toNat).map (fun k : Nat => (((0 : Int) + (k : Int)), (0 : Int) + (k : Int) + 1)), 0 <= p.1 /\ p.1 < m /\ 0 <= p.2 /\ p.2 < m /\ p.1 ≠ p.2 := fun p hp => by
  obtain ⟨k, hk, rfl⟩ := Ly.mp hp
  rw [Jt] at hk
  dsimp only
  omega
 by_cases w0 : w = 0
 ·subst w0
  obtain ⟨qs, μ2, q1, q2, q3, q4⟩ := oZ (k := 2) hi ht h hl hps (by decide) (by decide)
  refine ⟨μ1.length, qs, μ2 ++ [.lst (qs.map df)], q1, q2.app, by rw [<- q3]; exact ao, ?_⟩
  simp only [bI, bR, az, aj, af, aX, aa, dQ, K0, aW, ab, K1, Ko, Kq, bc, bE, cy]
  rw [eR hl]
  simp only [aa, cA]
  rw [show eB [none, some 0] [some (D.obj i), some (.int 0), some (.int m), some (.obj t), o4, none] = [none, some (.obj i)] from rfl]
  unfold fe fj
  rw [q4]
  rfl
 have w0' : (w == 0) = false := by simpa using w0
 by_cases w1 : w = 1
 ·subst w1
  obtain ⟨qs, μ2, q1, q2, q3, q4⟩ := oZ (k := 3) hi ht h hl hps (by decide) (by decide)
  refine ⟨μ1.length, qs, μ2 ++ [.lst (qs.map df)], q1, q2.app, by rw [<- q3]; exact ao, ?_⟩
  simp only [bI, bR, az, aj, af, aX, aa, dQ, w0', K0, aW, ab, K1, Ko, Kq, bc, bE, cy]
  rw [eR hl]
  simp only [aa, cA]
  rw [show eB [none, some 0] [some (D.obj i), some (.int 1), some (.int m), some (.obj t), o4, none] = [none, some (.obj i)] from rfl]
  unfold eZ fg
  rw [q4]
  rfl
 have w1' : (w == 1) = false := by simpa using w1
 by_cases w2 : w = 2
 ·subst w2
  let ps1 : List (Int × Int) := (List.range (m - 1).toNat).map (fun k : Nat => (((0 : Int) + (k : Int)), (0 : Int) + (k : Int) + 1))
  let ps2 : List (Int × Int) := (List.replicate (if cY .Gt m 2 then (1 : Int) else 0).toNat [((0 : Int), m - 1)]).flatten
  have hb : ps2 = if cY .Gt m 2 then [((0 : Int), m - 1)] else [] := by
   simp only [ps2]
   cases cY .Gt m 2 <;> rfl
  have hb2 : ps2.length <= 1 /\ ∀ p ∈ ps2, p = (0, m - 1) /\ 2 < m := by
   rw [hb]
   by_cases z : cY .Gt m 2 = true
   ·rw [Jl z]
    have : 2 < m := by simpa [cY] using z
    simp [this]
   ·rw [Jm z]; simp
  refine ⟨_, ps1 ++ ps2, ((μ1 ++ [O.lst (ps1.map df)] ++ [O.lst [df (0, m - 1)]]) ++ [O.lst (ps2.map df)]) ++ [O.lst ((ps1 ++ ps2).map df)], ⟨?_, fun p hp => ?_⟩, ((h.app).app.app).app, ao, ?_⟩
  ·rw [Kg]
   have : ps1.length <= 5 := by simp only [ps1, Kh]; exact rn
   omega
  ·rcases JB.mp hp with z | z
   ·exact pth p z
   ·obtain ⟨rfl, z2⟩ := hb2.2 p z
    dsimp only
    omega
  ·simp only [bI, bR, az, aj, af, aX, aa, dQ, w0', w1', K0, aW, ab, K1, Ko, Kq, bc, bE, bV, au, ax, sb]
   rw [dD (by omega) (by omega)]
   simp only [aa, aR]
   rw [show eB [none] _ = [none] from rfl, lU (f := fun v => (v, v + 1)) (by omega) r1]
   have l1 : (1 : Nat) <= sizeLine := by decide
   have sb' : ∀ μ, iH (.int m) (.int 1) μ = .ok (.int (m - 1)) μ := fun _ => rfl
   have ib : ∀ k : Bool, ∀ μ, m4 [.bl k] μ = .ok (.int (if k then 1 else 0)) μ := fun _ _ => rfl
   simp only [aa, cL, bM, au, ax, az, aj, af, aX, sb', K2, Lq, Jl l2, Jl l1, aG, dE, ib]
   have mu : ∀ M : aB, mx (.obj M.length) (.int (if cY .Gt m 2 = true then 1 else 0)) (M ++ [O.lst [df (0, m - 1)]]) = .ok (.obj (M ++ [O.lst [df (0, m - 1)]]).length) ((M ++ [O.lst [df (0, m - 1)]]) ++ [O.lst (ps2.map df)]) := fun M => by
    unfold mx
    dsimp only
    rw [ao]
    dsimp only
    have : (List.replicate (if cY .Gt m 2 = true then (1 : Int) else 0).toNat [df (0, m - 1)]).flatten = ps2.map df := by
     simp only [ps2]
     cases cY .Gt m 2 <;> rfl
    rw [this, Jl]
    have l1' : (1 : Nat) <= sizeLine := by decide
    cases cY .Gt m 2
    ·exact ⟨by decide, by decide, Lb _⟩
    ·exact ⟨by decide, by decide, l1'⟩
   rw [show (D.tup [D.int 0, D.int (m - 1)]) = df (0, m - 1) from rfl, mu]
   simp only [aa]
   have ad : bf (.obj μ1.length) (.obj (μ1 ++ [O.lst (ps1.map df)] ++ [O.lst [df (0, m - 1)]]).length) ((μ1 ++ [O.lst (ps1.map df)] ++ [O.lst [df (0, m - 1)]]) ++ [O.lst (ps2.map df)]) = .ok (.obj ((μ1 ++ [O.lst (ps1.map df)] ++ [O.lst [df (0, m - 1)]]) ++ [O.lst (ps2.map df)]).length) (((μ1 ++ [O.lst (ps1.map df)] ++ [O.lst [df (0, m - 1)]]) ++ [O.lst (ps2.map df)]) ++ [O.lst ((ps1 ++ ps2).map df)]) := by
    unfold bf
    dsimp only
    rw [ao, aC (aC ao)]
    dsimp only
    rw [Jl, LG]
    have e1 : ((List.range (m - 1).toNat).map (fun k : Nat => (((0 : Int) + (k : Int)), (0 : Int) + (k : Int) + 1))).length <= 5 := by rw [Kh]; exact rn
    have e2 : ((ps1.map df).length : Nat) <= 5 := by rw [Kh]; exact e1
    have e3 : ((ps2.map df).length : Nat) <= 1 := by rw [Kh]; exact hb2.1
    exact Ju (show _ <= 1000 by omega) br
   rw [ad]
   rfl
 have w2' : (w == 2) = false := by simpa using w2
 by_cases w3 : w = 3
 ·subst w3
  refine ⟨μ1.length, (List.range (m - 1).toNat).map (fun k : Nat => (((0 : Int) + (k : Int)), (0 : Int) + (k : Int) + 1)), μ1 ++ [.lst _], ⟨by rw [Kh]; omega, pth⟩, h.app, ao, ?_⟩
  simp only [bI, bR, az, aj, af, aX, aa, dQ, w0', w1', w2', K0, aW, ab, K1, Ko, Kq, bc, bE, bV, au, ax, sb]
  rw [dD (by omega) (by omega)]
  simp only [aa, aR]
  rw [show eB [none] _ = [none] from rfl, lU (f := fun v => (v, v + 1)) (by omega) r2]
  rfl
 have w3' : (w == 3) = false := by simpa using w3
 by_cases w4 : w = 4
 ·subst w4
  refine ⟨μ1.length, (List.range (m - 1).toNat).map (fun k : Nat => ((0 : Int), (1 : Int) + (k : Int))), μ1 ++ [.lst _], ⟨by rw [Kh]; omega, fun p hp => ?_⟩, h.app, ao, ?_⟩
  ·obtain ⟨k, hk, rfl⟩ := Ly.mp hp
   rw [Jt] at hk
   dsimp only
   omega
  simp only [bI, bR, az, aj, af, aX, aa, dQ, w0', w1', w2', w3', K0, aW, ab, K1, Ko, Kq, bc, bE, bV, au, ax, sb]
  rw [lQ (by omega) (by omega) (by omega) (by omega)]
  simp only [aa, aR]
  rw [show eB [none] _ = [none] from rfl, lU (f := fun v => (0, v)) (by omega) r3]
  rfl
 have w4' : (w == 4) = false := by simpa using w4
 obtain ⟨qs, μ2, q1, q2, q3, q4⟩ := vN hi h m0 m1
 refine ⟨μ1.length, qs, μ2 ++ [.lst (qs.map df)], q1, q2.app, by rw [<- q3]; exact ao, ?_⟩
 simp only [bI, bR, az, aj, af, aX, aa, dQ, w0', w1', w2', w3', w4', aW, ab, K1, Ko, bc, bE, bV, au, ax]
 rw [lQ (by omega) (by omega) (by omega) (by omega)]
 simp only [aa, aR]
 rw [show eB [none, some 0] [some (D.obj i), some (.int w), some (.int m), some (.obj t), o4, none] = [none, some (.obj i)] from rfl, q4]
 rfl
theorem jc {n : Nat} {d : D} {m : Int} {ks : List (List Int)} (h : bT d m ks) : d.low n := um h
theorem qy {μ : aB} {i : Nat} {a b c : Int} (hp : μ[i]? = some (aP a b c)) : ∃ d m ks a' b' c', bT d m ks /\ bQ [.obj i] μ = .ok d (μ.set i (aP a' b' c')) := by
 have hi : i < μ.length := (JD.mp hp).1
 have P0 : Pn μ i μ := Pn.self hp
 obtain ⟨w, a1, b1, c1, w0, w1, ew, P1⟩ := P0.draw (m := 7) hi (by decide) (by decide)
 generalize hM1 : μ.set i (aP a1 b1 c1) = M1 at ew P1
 obtain ⟨m', a2, b2, c2, m0, m1, em, P2⟩ := P1.draw (m := 6) hi (by decide) (by decide)
 generalize hM2 : M1.set i (aP a2 b2 c2) = M2 at em P2
 have run := d5 (src := .fix (bq 0 (1 + m').toNat)) (g := ag 4) (fb := dr)
  (fun xs ρ μ1 => ∃ (lo : Int) (n : Nat) (t : Nat) (ps : List (Int × Int)) (o4 : Option D), xs = bq lo n /\ 0 <= lo /\ lo + n = 1 + m' /\ ρ = [some (.obj i), some (.int w), some (.int (1 + m')), some (.obj t), o4, none] /\ Pn μ i μ1 /\ μ.length <= t /\ μ1[t]? = some (.lst (ps.map df)) /\
   (ps.length : Int) <= 6 * lo /\ (∀ p ∈ ps, 0 <= p.1 /\ p.1 < p.2 /\ p.2 < lo))
  (fun _ _ _ => trivial)
  (fun x r ρ μ1 hJJ => by
   obtain ⟨lo, n, t, ps, o4, e1, e2, e3, e4, e5, e6, e7, e8, e9⟩ := hJJ
   subst e4
   cases n with
   | zero => rw [jb] at e1; cases e1
   | succ n =>
    rw [h9] at e1
    injection e1 with ex er
    subst ex er
    let qs : List (Int × Int) := (List.range lo.toNat).map fun k : Nat => ((0 : Int) + (k : Int), lo)
    have hq : (qs.length : Int) = lo := by simp only [qs, Kh, Lp]; omega
    refine ⟨trivial, _, μ1, [some (.obj i), some (.int w), some (.int (1 + m')), some (.obj (μ1.length + 1)), some (.int lo), none], (μ1 ++ [O.lst (qs.map df)]) ++ [O.lst ((ps ++ qs).map df)], rfl, ?_, lo + 1, n, μ1.length + 1, ps ++ qs, some (.int lo), rfl, by omega, by omega, rfl, e5.app.app, ?_, ?_, ?_, fun p hp => ?_⟩
    ·show dr [some (.obj i), some (.int w), some (.int (1 + m')), some (.obj t), some (.int lo), none] μ1 = _
     unfold dr
     simp only [bc, az, aj, af, aa, bE, bV, au, ax]
     rw [dD (by omega) (by omega)]
     simp only [aa, aR]
     rw [show eB [none, some 4] [some (D.obj i), some (.int w), some (.int (1 + m')), some (.obj t), some (.int lo), none] = [none, some (.int lo)] from rfl,
      lU (f := fun v => (v, lo)) (by omega) (fun v a => by
       unfold iC
       simp only [bM, au, ax, aj, af, aa, K2, Lq, Jl l2]
       rfl)]
     simp only [aa]
     unfold bf
     dsimp only
     rw [aC e7, ao]
     dsimp only
     rw [Jl (by
      rw [Kh, Kh]
      have : qs.length = ((List.range lo.toNat).map fun k : Nat => ((0 : Int) + (k : Int), lo)).length := rfl
      rw [<- this]
      exact Ju (show _ <= 1000 by omega) br)]
     simp only [ab, bH]
     simp only [Kg, K2, Lq, NB, NC, LG]
     rfl
    ·have := e5.len
     omega
    ·have : μ1.length + 1 = (μ1 ++ [O.lst (qs.map df)]).length := by simp
     rw [this]; exact ao
    ·rw [Kg]; push_cast; omega
    ·rcases JB.mp hp with z | z
     ·have := e9 p z; omega
     ·simp only [qs] at z
      obtain ⟨k, hk, rfl⟩ := Ly.mp z
      rw [Jt] at hk
      dsimp only
      omega)
  (xs := bq 0 (1 + m').toNat) (ρ := [some (.obj i), some (.int w), some (.int (1 + m')), some (.obj M2.length), none, none]) (μ := M2 ++ [.lst []])
  ⟨0, (1 + m').toNat, M2.length, [], none, rfl, by omega, by omega, rfl, P2.app, P2.len, ao, by simp, by simp⟩
 obtain ⟨ρ', M3, ⟨lo, n, t, ps, o4, e1, e2, e3, e4, e5, e6, e7, e8, e9⟩, run⟩ := run
 subst e4
 have hn := lS e1.symm
 subst hn
 obtain ⟨o, qs, M4, q1, q2, q3, q4⟩ := B6 (m := 1 + m') (w := w) (o4 := o4) hi e6 e5 e7 ⟨by omega, fun p hp => by have := e9 p hp; omega⟩ (by omega) (by omega)
 obtain ⟨a5, b5, c5, hp4⟩ := q2.get hi
 obtain ⟨ns, a6, b6, c6, n1, n2, n3, n4⟩ := tT hp4 (m := 1 + m') (by omega) (by omega)
 obtain ⟨d, ks, g1, g2⟩ := z7 (μ := M4.set i (aP a6 b6 c6)) (m := 1 + m') (by omega) (by omega) q1.2 (by have := q1.1; omega) n1 n2 n3
 obtain ⟨a7, b7, c7, hg⟩ := (q2.set (a := a6) (b := b6) (c := c6) hi).gc (jc g1)
 refine ⟨d, 1 + m', ks, a7, b7, c7, g1, ?_⟩
 unfold bQ
 rw [gL]
 simp only [jk, aN, bc, aG, au, ax, af, aX, aa, ew, ab, bH, aH, List.replicate, NB, NC, az, hM1, em, hM2, fB, cL, Lq, Jl (Lb sizeLine), fA, bV, aj]
 rw [dD (by omega) (by omega)]
 simp only [ab, aR]
 rw [run]
 simp only [aH, aN]
 have hW := q4
 unfold gk at hW
 rw [hW]
 simp only [aH, bo, aG, au, ax, aj, af, bM, aa]
 rw [jt q3]
 simp only [aa, K2, Lq, Jl l2, n4, g2, ab, aK]
 exact hg
theorem zY {μ : aB} {d : D} {m k : Int} {ks : List (List Int)} (h : bT d m ks) : ∃ d' ks', bT d' m ks' /\ dq [d, .int k] μ = .ok d' μ := by
 have hd := h.1
 have hm : 1 <= m /\ m <= 6 := ⟨h.2.1, h.2.2.1⟩
 subst hd
 obtain ⟨n, rfl⟩ : ∃ n : Nat, m = (n : Int) := ⟨m.toNat, by omega⟩
 obtain ⟨T, _, e⟩ := xt (μ := μ) (k := k) h
 exact ⟨_, _, tR (by omega) (by omega), e⟩
theorem qG {m : Int} {ks : List (List Int)} (h : ∀ k ∈ ks, pQ m k) : dN (.tuple (ks.map lM)) = true := by
 have := qF h
 simp only [dN, PyData.canLay0, this.1, PyData.depth, NI]
 exact KY (by omega)
theorem wG {μ : aB} {m : Int} {ks : List (List Int)} (h : ∀ k ∈ ks, pQ m k) : jV true (.tup (ks.map av)) (.tup []) μ = .ok (.bl (!ks.isEmpty)) μ := by
 have e1 : kN μ (.tup (ks.map av)) = some (.tuple (ks.map lM)) := by
  simp only [kN, mM h, Option.map_some]
 have e2 : kN μ (.tup []) = some (.tuple []) := rfl
 unfold jV
 rw [e1, e2]
 dsimp only
 rw [Jl ⟨qG h, by decide⟩]
 congr 2
 cases ks with
 | nil => rfl
 | cons k ks => simp [PyData.eqv, PyData.eqvAll]
theorem A0 {m : Int} {ks ks' : List (List Int)} {d : D} (h : bT d m ks) (hs : ks'.Sublist ks) : bT (.tup [.int m, .tup (ks'.map av)]) m ks' := by
 obtain ⟨_, h0, h1, hp, hk⟩ := h
 exact ⟨rfl, h0, h1, hp.sublist hs, fun k hk' => hk k (hs.subset hk')⟩
theorem F6 {β : Type} {xs : List β} {r : Nat} (h : r <= xs.length) : gb xs none (some (r : Int)) = xs.take r := by
 unfold gb
 rw [HT.sIx_none, HT.sIx_nat]
 simp [Nat.min_eq_left h]
theorem A7 {β : Type} {xs : List β} {r : Nat} (h : r <= xs.length) : gb xs (some (r : Int)) none = xs.drop r := by
 unfold gb
 rw [HT.sIx_none, HT.sIx_nat, Nat.min_eq_left h]
 exact Lx (by rw [Kt]; exact JV _)
theorem G2 {a b : Int} {μ : aB} : dk [.tup [.int a, .int b]] μ = .ok (.obj μ.length) (μ ++ [.lst [.int (min a b), .int (max a b)]]) := by
 have e : [min a b, max a b] = lK [a, b] := by
  refine oz ?_ (by simp; omega)
  by_cases h : a <= b
  ·rw [NL h, NM h]
  ·rw [NN (by omega), NO (by omega)]
   exact List.Perm.swap a b []
 have e2 : i6 [.int a, .int b] = some [a, b] := rfl
 unfold dk
 dsimp only
 rw [e2]
 dsimp only
 rw [Jl (show [a, b].length < 64 from (by decide : 2 < 64)), <- e]
 rfl
theorem zX {μ : aB} {i : Nat} {a b c : Int} (hp : μ[i]? = some (aP a b c)) : ∃ d m ks a' b' c', bT d m ks /\ eO [.obj i] μ = .ok d (μ.set i (aP a' b' c')) := by
 have hi : i < μ.length := (JD.mp hp).1
 obtain ⟨d0, m, ks0, a0, b0, c0, g0, e0⟩ := qy hp
 have P0 : Pn μ i (μ.set i (aP a0 b0 c0)) := ⟨a0, b0, c0, [], by simp⟩
 generalize hM0 : μ.set i (aP a0 b0 c0) = M0 at e0 P0
 obtain ⟨w, a1, b1, c1, w0, w1, ew, P1⟩ := P0.draw (m := 6) hi (by decide) (by decide)
 generalize hM1 : M0.set i (aP a1 b1 c1) = M1 at ew P1
 have cmpw : cY .Lt w 3 = decide (w < 3) := rfl
 have st : ∃ d ks, bT d m ks /\ mq (gP (aw (jW .Lt) (ah 2) (cC (.int 3)))) (bz (aA dq (ae (ah 1) (ae (cC (.int 2)) (ay)))) (ag 1)) (fZ) [some (.obj i), some d0, some (.int w), none, none, none] M1 = .next [some (.obj i), some d, some (.int w), none, none, none] M1 := by
  obtain ⟨d', ks', g', e'⟩ := zY (μ := M1) (k := 2) g0
  by_cases hw : w < 3
  ·refine ⟨d', ks', g', ?_⟩
   simp only [bI, bR, az, aj, af, aX, aa, dE, cmpw, KY hw, aW, ab, Kq, bc, aG, au, ax, e', bH, NB, NC]
  ·refine ⟨d0, ks0, g0, ?_⟩
   simp only [bI, bR, az, aj, af, aX, aa, dE, cmpw, Ji hw, aW, ab, K1, Ko, cF]
 obtain ⟨d, ks, g, es⟩ := st
 have hlow := fun n => jc (n := n) g
 have hg := g
 obtain ⟨rfl, h0, h1, hpw, hk⟩ := hg
 unfold eO
 rw [gL]
 have sub1 : ∀ x y : Int, ∀ μ, iH (.int x) (.int y) μ = .ok (.int (x - y)) μ := fun _ _ _ => rfl
 by_cases z0 : w = 0 /\ ks ≠ []
 ·obtain ⟨rfl, hne⟩ := z0
  have hlen := oJ g
  have hpos : 0 < ks.length := Ni.mpr hne
  have hem : ks.isEmpty = false := by simpa using hne
  obtain ⟨r, a2, b2, c2, r0, r1, er, P2⟩ := P1.draw (m := (ks.length : Int)) hi (by omega) (by omega)
  generalize hM2 : M1.set i (aP a2 b2 c2) = M2 at er P2
  obtain ⟨rn, rfl⟩ : ∃ rn : Nat, r = (rn : Int) := ⟨r.toNat, by omega⟩
  have gs : bT (.tup [.int m, .tup ((ks.take rn ++ ks.drop (rn + 1)).map av)]) m (ks.take rn ++ ks.drop (rn + 1)) := by
   refine A0 g ?_
   have := List.Sublist.append (List.Sublist.refl (ks.take rn)) (List.drop_sublist 1 (ks.drop rn))
   rwa [LD, List.drop_drop] at this
  obtain ⟨a7, b7, c7, hgc⟩ := P2.gc (jc gs)
  refine ⟨_, m, _, a7, b7, c7, gs, ?_⟩
  simp only [gv, aN, bc, aG, au, ax, af, aj, aX, aa, e0, hM0, ab, bH, aH, List.replicate, NB, NC, ew, hM1]
  rw [es]
  simp only [aH, aN, bI, gY, bR, az, aj, af, aX, aa, dQ, K0, K1, Ko, Kq, aW, gX, bM, ax, Lq, Jl (Lb sizeLine), wG hk, hem, L9, ab, bc, aG, au, jw, Kh, er, hM2, bH, NB, NC, bo, bO, tF, rM, ke, oo, fB]
  have s1 : ∀ μ, sN (.tup (ks.map av)) none (some (rn : Int)) μ = .ok (.tup ((ks.map av).take rn)) μ := fun μ => by
   unfold sN; dsimp only; rw [F6 (by rw [Kh]; omega)]
  have s2 : ∀ μ, sN (.tup (ks.map av)) (some ((rn : Int) + 1)) none μ = .ok (.tup ((ks.map av).drop (rn + 1))) μ := fun μ => by
   unfold sN; dsimp only; rw [show ((rn : Int) + 1) = ((rn + 1 : Nat) : Int) by push_cast; rfl, A7 (by rw [Kh]; omega)]
  simp only [s1, s2, aa]
  have s3 : ∀ μ, bf (.tup ((ks.map av).take rn)) (.tup ((ks.map av).drop (rn + 1))) μ = .ok (.tup ((ks.take rn ++ ks.drop (rn + 1)).map av)) μ := fun μ => by
   unfold bf
   dsimp only
   rw [Jl, LG, LH, LI]
   rw [Ka, Kt, Kh]
   exact Ju (show _ <= 1000 by omega) br
  simp only [s3, aa, K2, Lq, Jl l2, ab, gI, aK]
  exact hgc
 ·
  have t0 : kR (gP (aw (jV false) (ah 2) (cC (.int 0)))) (gP (aw (jV true) (aw cO (ah 1) (cC (.int 1))) (dA (ay)))) [some (.obj i), some (.tup [.int m, .tup (ks.map av)]), some (.int w), none, none, none] M1 = .ok false M1 := by
   by_cases hw : w = 0
   ·subst hw
    have hem : ks.isEmpty = true := by
     cases ks with
     | nil => rfl
     | cons x y => exact absurd ⟨rfl, by simp⟩ z0
    simp only [gY, bR, az, aj, af, aX, aa, dQ, K0, K1, Ko, Kq, aW, gX, bM, ax, Lq, Jl (Lb sizeLine), wG hk, hem, LX]
   ·have hw' : (w == 0) = false := by simpa using hw
    simp only [gY, bR, az, aj, af, aX, aa, dQ, hw', K1, Ko, aW]
  by_cases z1 : w = 1 /\ 1 < m
  ·obtain ⟨rfl, hm⟩ := z1
   obtain ⟨u, a2, b2, c2, u0, u1, eu, P2⟩ := P1.draw (m := m) hi (by omega) (by omega)
   generalize hM2 : M1.set i (aP a2 b2 c2) = M2 at eu P2
   obtain ⟨v, a3, b3, c3, v0, v1, ev, P3⟩ := P2.draw (m := m - 1) hi (by omega) (by omega)
   generalize hM3 : M2.set i (aP a3 b3 c3) = M3 at ev P3
   have hx0 : 0 <= (u + 1 + v) % m := Nz _ (by omega)
   have hx1 : (u + 1 + v) % m < m := NA _ (by omega)
   have hxne : (u + 1 + v) % m ≠ u := by
    by_cases hh : u + 1 + v < m
    ·rw [Int.emod_eq_of_lt (by omega) hh]; omega
    ·rw [show u + 1 + v = (u + 1 + v - m) + m by omega, Int.add_emod_right, Int.emod_eq_of_lt (by omega) (by omega)]; omega
   have md : ∀ x μ, pS (.int x) (.int m) μ = .ok (.int (x % m)) μ := fun x μ => mE (show (fun _ j => (0:Int) < j) x m by show 0 < m; omega)
   generalize hx : (u + 1 + v) % m = x at hx0 hx1 hxne
   have hks : ∀ k ∈ ks ++ [[min u x, max u x]], pQ m k := fun k hk' => by
    rcases JB.mp hk' with z | z
    ·exact hk k z
    ·simp at z; subst z; exact ⟨_, _, rfl, by omega, by omega, by omega⟩
   have gs := m9 h0 h1 hks
   have kd : kQ ((ks ++ [[min u x, max u x]]).map av) = some (ks ++ [[min u x, max u x]]) := oH fun k hk => (hks k hk).prs h1
   obtain ⟨a7, b7, c7, hgc⟩ := (((P3.app (g := [.lst [.int (min u x), .int (max u x)]])).app (g := [.set (eV (ks ++ [[min u x, max u x]]))])).app (g := [.lst ((jM (ks ++ [[min u x, max u x]])).map av)])).gc (jc gs)
   refine ⟨_, m, _, a7, b7, c7, gs, ?_⟩
   have cm : cY .Gt m 1 = true := by simpa [cY] using hm
   have l1 : (1 : Nat) <= sizeLine := by decide
   have s3 : ∀ μ, bf (.tup (ks.map av)) (.tup [.tup [.int (min u x), .int (max u x)]]) μ = .ok (.tup ((ks ++ [[min u x, max u x]]).map av)) μ := fun μ => by
    unfold bf
    dsimp only
    rw [Jl, LG]
    ·rfl
    ·have := oJ g
     rw [Kh]
     simp only [K2, Lq]
     exact Ju (show _ <= 1000 by omega) br
   have s4 : ∀ μ, lb [.tup ((ks ++ [[min u x, max u x]]).map av)] μ = .ok (.obj μ.length) (μ ++ [.set (eV (ks ++ [[min u x, max u x]]))]) := fun μ => by
    unfold lb; dsimp only; unfold m3; rw [kd]
   have s5 : ∀ M : aB, dk [.obj M.length] (M ++ [.set (eV (ks ++ [[min u x, max u x]]))]) = .ok (.obj (M ++ [O.set (eV (ks ++ [[min u x, max u x]]))]).length) ((M ++ [.set (eV (ks ++ [[min u x, max u x]]))]) ++ [.lst ((jM (ks ++ [[min u x, max u x]])).map av)]) := fun M => by
    unfold dk; dsimp only; rw [ao]; dsimp only; rw [nc]
   simp only [gv, aN, bc, aG, au, ax, af, aj, aX, aa, e0, hM0, ab, bH, aH, List.replicate, NB, NC, ew, hM1]
   rw [es]
   simp only [aH]
   rw [aN, bI, t0]
   simp only [ab, K1, Ko, cF, aH, aN, bI, gY, bR, az, aj, af, aX, aa, dQ, K0, Kq, aW, bO, dE, cm, bc, aG, au, ax, eu, hM2, bH, NB, NC, bM, sub1, ev, hM3, fB, md, hx, K2, Lq, Jl l2, Jl l1, G2]
   rw [jt ao]
   simp only [aa, ab, bH, NB, NC, aH, bo, bM, au, ax, az, aG, aj, af, aX, bO, gX, K2, Lq, Jl l2, Jl l1, s3, s4, s5]
   rw [jt ao]
   simp only [aa, ab, K2, Lq, Jl l2, gI, aK]
   exact hgc
  ·have t1 : kR (gP (aw (jV false) (ah 2) (cC (.int 1)))) (gP (aw (jW .Gt) (aw cO (ah 1) (cC (.int 0))) (cC (.int 1)))) [some (.obj i), some (.tup [.int m, .tup (ks.map av)]), some (.int w), none, none, none] M1 = .ok false M1 := by
    by_cases hw : w = 1
    ·subst hw
     have cm : cY .Gt m 1 = false := by
      have : ¬ 1 < m := fun h => z1 ⟨rfl, h⟩
      simpa [cY] using this
     simp only [gY, bR, az, aj, af, aX, aa, dQ, K0, K1, Ko, Kq, aW, bO, dE, cm]
    ·have hw' : (w == 1) = false := by simpa using hw
     simp only [gY, bR, az, aj, af, aX, aa, dQ, hw', K1, Ko, aW]
   obtain ⟨a7, b7, c7, hgc⟩ := P1.gc (jc g)
   refine ⟨_, m, _, a7, b7, c7, g, ?_⟩
   simp only [gv, aN, bc, aG, au, ax, af, aj, aX, aa, e0, hM0, ab, bH, aH, List.replicate, NB, NC, ew, hM1]
   rw [es]
   simp only [aH]
   rw [aN, bI, t0]
   simp only [ab, K1, Ko, cF, aH]
   rw [aN, bI, t1]
   simp only [ab, K1, Ko, cF, aH, bo, aj, af, aK]
   exact hgc
end Lw
namespace Lw
open PySem L2 RS Lv
theorem eF {U : Type} {en : U -> D} {src : mZ} {g : MG} {t : MT} {e : ME} {μ1 : aB} {q : U -> Bool} {h : U -> D} (R : Ro -> Prop) (ho : ∀ a, cZ src (μ1 ++ [.lst a])) :
  ∀ {us : List U} {acc : List D} {ρ : Ro}, R ρ -> acc.length + us.length <= sizeLine -> (∀ x ∈ us, ∀ a ρ, R ρ -> ∃ ρ1, R ρ1 /\ g (en x) ρ (μ1 ++ [.lst a]) = .ok ρ1 (μ1 ++ [.lst a]) /\ t ρ1 (μ1 ++ [.lst a]) = .ok (q x) (μ1 ++ [.lst a]) /\ (q x = true -> e ρ1 (μ1 ++ [.lst a]) = .ok (h x) (μ1 ++ [.lst a]))) ->
   compLoop src μ1.length g t e (us.map en) ρ (μ1 ++ [.lst acc]) = .ok (.obj μ1.length) (μ1 ++ [.lst (acc ++ (us.filter q).map h)])
 | [], acc, ρ, hr, hl, he => by
  rw [KE]
  unfold compLoop
  rw [Jl (ho acc)]
  simp
 | x :: xs, acc, ρ, hr, hl, he => by
  obtain ⟨ρ1, r1, e1, e2, e3⟩ := he x Jx acc ρ hr
  rw [KF]
  unfold compLoop
  rw [Jl (ho acc), e1]
  simp only [bJ, aa]
  rw [e2]
  simp only [bJ, aa]
  have he' := fun y hy => he y (Jy _ hy)
  simp only [K2] at hl
  cases hq : q x with
  | false =>
   rw [Jm J1, eF R ho r1 (by omega) he', Nl, hq]
   rfl
  | true =>
   rw [Jl rfl, e3 hq]
   simp only [bJ, aa]
   rw [kB (by omega)]
   simp only [aa]
   rw [eF R ho r1 (by simp; omega) he', Nl, hq]
   simp
theorem lT {U : Type} {en : U -> D} {src : mZ} {g : MG} {t : MT} {fb : MB} {μ1 : aB} {q : U -> Bool} {k : U -> List D} (R : Ro -> Prop) (ho : ∀ a, cZ src (μ1 ++ [.lst a])) :
  ∀ {us : List U} {acc : List D} {ρ : Ro}, R ρ -> acc.length + ((us.filter q).flatMap k).length <= sizeLine -> (∀ x ∈ us, ∀ a ρ, R ρ -> ∃ ρ1, g (en x) ρ (μ1 ++ [.lst a]) = .ok ρ1 (μ1 ++ [.lst a]) /\ t ρ1 (μ1 ++ [.lst a]) = .ok (q x) (μ1 ++ [.lst a]) /\ (q x = false -> R ρ1) /\ (q x = true -> a.length + (k x).length <= sizeLine -> ∃ ρ2, R ρ2 /\ fb μ1.length ρ1 (μ1 ++ [.lst a]) = .ok ρ2 (μ1 ++ [.lst (a ++ k x)]))) ->
   ∃ ρ', R ρ' /\ jN src μ1.length g t fb (us.map en) ρ (μ1 ++ [.lst acc]) = .ok ρ' (μ1 ++ [.lst (acc ++ (us.filter q).flatMap k)])
 | [], acc, ρ, hr, hl, he => by
  refine ⟨ρ, hr, ?_⟩
  rw [KE]
  unfold jN
  rw [Jl (ho acc)]
  simp
 | x :: xs, acc, ρ, hr, hl, he => by
  obtain ⟨ρ1, e1, e2, e4, e3⟩ := he x Jx acc ρ hr
  rw [KF]
  unfold jN
  rw [Jl (ho acc), e1]
  simp only [bJ, aa]
  rw [e2]
  simp only [bJ, aa]
  have he' := fun y hy => he y (Jy _ hy)
  cases hq : q x with
  | false =>
   rw [Nl, hq] at hl
   rw [Jm J1, Nl, hq]
   exact lT R ho (e4 hq) hl he'
  | true =>
   rw [Nl, hq, Jl rfl, Nw, Kg] at hl
   obtain ⟨ρ2, r2, e5⟩ := e3 hq (by omega)
   rw [Jl rfl, e5]
   simp only [bJ, aa]
   obtain ⟨ρ', r', e6⟩ := lT R ho r2 (acc := acc ++ k x) (by rw [Kg]; omega) he'
   refine ⟨ρ', r', ?_⟩
   rw [e6, Nl, hq, Jl rfl, Nw, KQ]
theorem gC {U : Type} : ∀ {us : List U}, us.filter (fun _ => true) = us
 | [] => rfl
 | _ :: us => by rw [Nl, Jl rfl, gC]
theorem A6 {e : ME} {ρ : Ro} {μ1 : aB} {a : List D} {y : D} (h : e ρ (μ1 ++ [.lst a]) = .ok y (μ1 ++ [.lst a])) (hl : a.length + 1 <= sizeLine) : oa e μ1.length ρ (μ1 ++ [.lst a]) = .ok ρ (μ1 ++ [.lst (a ++ [y])]) := by
 unfold oa
 rw [h]
 simp only [bJ, aa]
 rw [kB (by omega)]
 rfl
def uU : D -> Bool
 | .int _ => true
 | _ => false
def yD (m : Nat) : D -> Bool
 | .int i => decide (0 <= i /\ i < (m : Int))
 | _ => false
def pM (μ : aB) (d : D) : Prop := Bf μ d ≠ none
theorem rW {μ : aB} {n : Nat} (h : pM μ (.obj n)) : (∃ xs, μ[n]? = some (.lst xs)) \/ μ[n]? = some .dic := by
 unfold pM Bf at h
 dsimp only at h
 split at h
 ·rename_i xs e; exact .inl ⟨xs, e⟩
 ·rename_i e; exact .inr e
 ·exact absurd rfl h
theorem wO {μ : aB} {d : D} (h : pM μ d) : ∃ b, jn "int" d μ = .ok (.bl b) μ /\ (b = true -> ∃ c, jn "bool" d μ = .ok (.bl c) μ /\ (!c) = uU d) /\ (b = false -> uU d = false) := by
 cases d with
 | non => exact ⟨false, rfl, nofun, fun _ => rfl⟩
 | bl b => exact ⟨true, rfl, fun _ => ⟨true, rfl, rfl⟩, nofun⟩
 | int i => exact ⟨true, rfl, fun _ => ⟨false, rfl, rfl⟩, nofun⟩
 | str x => exact ⟨false, rfl, nofun, fun _ => rfl⟩
 | tup xs => exact ⟨false, rfl, nofun, fun _ => rfl⟩
 | frz xs => exact ⟨false, rfl, nofun, fun _ => rfl⟩
 | obj n =>
  refine ⟨false, ?_, nofun, fun _ => rfl⟩
  unfold jn Bf
  rcases rW h with ⟨xs, e⟩ | e <;> simp only [e] <;> rfl
theorem zW {μ : aB} {d : D} (h : pM μ d) : iw [d] μ = .ok (.bl (uU d)) μ := by
 obtain ⟨b, h1, h2, h3⟩ := wO h
 unfold iw
 rw [gL]
 simp only [pA, List.replicate, bo, ku, w6, gS, af, aa, h1, aW]
 cases b with
 | false =>
  rw [Jm J1, ab, aK, h3 rfl]
  exact bU (by simp)
 | true =>
  obtain ⟨c, c1, c2⟩ := h2 rfl
  rw [Jl rfl, c1]
  simp only [aa, aW, ab, aK, c2]
  exact bU (by simp)
theorem xu {μ : aB} {d : D} (h : pM μ d) : fH [d] μ = .ok (.bl (uU d)) μ := by
 obtain ⟨b, h1, h2, h3⟩ := wO h
 unfold fH
 rw [gL]
 simp only [me, List.replicate, bo, ku, w6, gS, af, aa, h1, aW]
 cases b with
 | false =>
  rw [Jm J1, ab, aK, h3 rfl]
  exact bU (by simp)
 | true =>
  obtain ⟨c, c1, c2⟩ := h2 rfl
  rw [Jl rfl, c1]
  simp only [aa, aW, ab, aK, c2]
  exact bU (by simp)
theorem tS {μ : aB} {m : Nat} {d : D} (h : pM μ d) : eY [.int m, d] μ = .ok (.bl (yD m d)) μ := by
 have hw : dw [d, .int 0, .int ((m : Int) - 1)] μ = .ok (.bl (yD m d)) μ := by
  unfold dw
  rw [vd]
  simp only [jS, List.replicate, bo, ku, aG, au, ax, af, aj, aa, zW h, aW, A2]
  cases d with
  | int i =>
   rw [show uU (.int i) = true from rfl, Jl rfl]
   simp only [dE, aa, aW]
   by_cases c : cY .LtE 0 i = true
   ·rw [Jl c, ab, aK]
    rw [show cY .LtE i ((m : Int) - 1) = yD m (.int i) from by
     have c' : (0 : Int) <= i := Ny c
     show decide (i <= (m : Int) - 1) = decide (0 <= i /\ i < (m : Int))
     exact Ms.mpr ⟨fun z => ⟨c', by omega⟩, fun z => by omega⟩]
    exact bU (by simp)
   ·rw [Jm c, ab, aK]
    rw [show yD m (.int i) = false from by
     have c' : ¬ (0 : Int) <= i := fun z => c (KY z)
     exact Ji (fun z => c' z.1)]
    exact bU (by simp)
  | _ =>
   rw [show uU _ = false from rfl, Jm J1, ab, aK]
   exact bU (by simp)
 unfold eY
 rw [dB]
 simp only [pB, List.replicate, bo, aG, au, ax, af, aj, aX, az, aa]
 rw [show iH (.int m) (.int 1) μ = .ok (.int ((m : Int) - 1)) μ from rfl]
 simp only [aa, hw, ab, aK]
 exact bU (by simp)
theorem t8 {μ g : aB} {d : D} (h : pM μ d) : pM (μ ++ g) d := by
 cases d with
 | obj n =>
  unfold pM Bf
  rcases rW h with ⟨xs, e⟩ | e <;> simp only [aC e] <;> exact nofun
 | _ => exact h
theorem rH : 100000 <= sizeLine := by decide
theorem oO {μ : aB} {m : Nat} {xs : List D} (h : ∀ x ∈ xs, pM μ x) (hl : xs.length <= 1000) : cK [.int m, .tup xs] μ = .ok (.bl (xs.all (yD m))) μ := by
 have c := eF (U := D) (en := fun x => x) (src := .fix xs) (g := ag 0) (t := bw) (e := iY) (μ1 := μ) (q := fun _ => true) (h := fun x => .bl (yD m x)) (fun ρ => ∃ o, ρ = [o, some (.int m)]) (fun _ => trivial) (us := xs) (acc := []) (ρ := [none, some (.int m)]) ⟨_, rfl⟩
  (by rw [Lq]; exact Ju (by omega) br)
  (fun x hx a ρ hJJ => by
   obtain ⟨o, e⟩ := hJJ
   subst e
   refine ⟨[some x, some (.int m)], ⟨_, rfl⟩, rfl, rfl, fun _ => ?_⟩
   unfold iY
   simp only [aG, au, ax, aj, af, aa, tS (t8 (h x hx))])
 rw [List.map_id', KW, gC] at c
 unfold cK
 rw [dB]
 simp only [ki, List.replicate, bo, ku, gS, aj, af, aa]
 rw [show jn "tuple" (.tup xs) μ = .ok (.bl true) μ from rfl]
 simp only [aa, aW, Kq, aG, au, ax, bE, cy, aj, af, ju, aR]
 rw [show eB [none, some 0] _ = [none, some (.int m)] from rfl, c]
 simp only [aa]
 rw [nM (bs := xs.map (yD m)) (by rw [ao, Ln]; rfl)]
 simp only [ab, aK]
 rw [show (xs.map (yD m)).all id = xs.all (yD m) from by rw [Ng]; rfl]
 exact gJ (by simp)
def Gh : D -> Bool
 | .tup _ => true
 | _ => false
theorem wN {μ : aB} {d : D} (h : pM μ d) : jn "tuple" d μ = .ok (.bl (Gh d)) μ := by
 cases d with
 | obj n =>
  unfold jn Bf
  rcases rW h with ⟨xs, e⟩ | e <;> simp only [e] <;> rfl
 | _ => rfl
theorem vq {μ : aB} {m : Nat} {d : D} (h : pM μ d) (hn : Gh d = false) : cK [.int m, d] μ = .ok (.bl false) μ := by
 unfold cK
 rw [dB]
 simp only [ki, List.replicate, bo, ku, gS, aj, af, aa, wN h, hn, aW, K1, Ko, ab, aK]
 exact bU (by simp)
theorem Aa {μ : aB} {m : Nat} {x : D} {p : Int} (h : 0 <= p /\ p < (m : Int)) : eM [.tup [.int m, x], .int p] μ = .ok .non μ := by
 unfold eM
 rw [dB]
 simp only [k8, List.replicate, bI, jv, j7, aG, au, ax, az, af, aj, aX, aa, bO]
 rw [tS (show pM μ (.int p) from nofun), show yD m (.int p) = true from KY h]
 simp only [aa, gU, LX, ab, K1, Ko, cF, AG]
 exact bU (by simp)
theorem oI {μ : aB} {m : Int} {ks : List (List Int)} {a b : Int} (hk : ∀ k ∈ ks, pQ m k) : pN false (.tup [.int a, .int b]) (.tup (ks.map av)) μ = .ok (.bl (decide ([a, b] ∈ ks))) μ := by
 have e1 : kN μ (.tup [.int a, .int b]) = some (.tuple [.int a, .int b]) := rfl
 have e2 : kN μ (.tup (ks.map av)) = some (.tuple (ks.map lM)) := by
  simp only [kN, mM hk, Option.map_some]
 unfold pN
 rw [e1, e2]
 dsimp only [oj]
 rw [Jl ⟨rfl, qG hk⟩]
 simp only [K1, Ko]
 congr 2
 rw [NJ]
 apply J0.mpr
 rw [NK, Nb]
 constructor
 ·rintro ⟨k, hk', e⟩
  obtain ⟨u, v, rfl, _⟩ := hk k hk'
  have : u = a /\ v = b := by simpa [lM, PyData.eqv, PyData.eqvAll] using e
  rw [<- this.1, <- this.2]; exact hk'
 ·intro h
  exact ⟨_, h, by simp [lM, PyData.eqv, PyData.eqvAll]⟩
theorem zf {μ : aB} {a b : Int} : rD [.int a, .int b] μ = .ok (.int (min a b)) μ := by
 show ak.ok (D.int (if b < a then b else a)) μ = _
 congr 2
 split <;> omega
theorem zg {μ : aB} {a b : Int} : nV [.int a, .int b] μ = .ok (.int (max a b)) μ := by
 show ak.ok (D.int (if b > a then b else a)) μ = _
 congr 2
 split <;> omega
theorem BN {μ : aB} {m : Nat} {ks : List (List Int)} {a b : Int} (hk : ∀ k ∈ ks, pQ m k) : jg [.tup [.int m, .tup (ks.map av)], .int a, .int b] μ = .ok (.bl (iR ks a b)) μ := by
 unfold jg
 rw [vd]
 simp only [rl, List.replicate, bo, az, bM, au, ax, aG, af, aj, aX, aa, zf, zg, K2, Lq, Jl l2, gX]
 rw [oI hk]
 simp only [ab, aK]
 exact bU (by simp)
abbrev bj (w : List Int) : D := .tup (w.map D.int)
theorem jC : ∀ (l acc : List Int), acc.Nodup -> (l.foldl (fun acc k => if k ∈ acc then acc else acc ++ [k]) acc).Nodup /\ ∀ x, x ∈ l.foldl (fun acc k => if k ∈ acc then acc else acc ++ [k]) acc ↔ x ∈ acc \/ x ∈ l
 | [], acc, h => ⟨h, fun x => by simp⟩
 | y :: l, acc, h => by
  rw [KR]
  by_cases c : y ∈ acc
  ·rw [Jl c]
   have ih := jC l acc h
   refine ⟨ih.1, fun x => ?_⟩
   rw [ih.2 x, Jz]
   constructor
   ·rintro (z | z)
    ·exact .inl z
    ·exact .inr (.inr z)
   ·rintro (z | rfl | z)
    ·exact .inl z
    ·exact .inl c
    ·exact .inr z
  ·rw [Jm c]
   have ih := jC l (acc ++ [y]) (by rw [L4]; exact ⟨h, by simp, fun a ha b hb => by simp at hb; subst hb; exact fun e => c (e ▸ ha)⟩)
   refine ⟨ih.1, fun x => ?_⟩
   rw [ih.2 x, Jz, JB, Lc, or_assoc]
theorem xB {m : Nat} {ks : List (List Int)} {p : Int} {ns : List Int} (h : ∀ q, q ∈ ns ↔ q ∈ d9 m ks p) : lK (cS ns) = d9 m ks p := by
 have d := jC ns [] LO
 have up : (d9 m ks p).Pairwise (· < ·) := y6.filter _
 refine (oz ?_ (up.imp fun {a b} h => Int.le_of_lt h)).symm
 refine (LS (up.imp fun {a b} h => by omega) d.1).mpr fun q => ?_
 rw [d.2 q, <- h q]
 simp
theorem zP {m : Int} {ks : List (List Int)} (hk : ∀ k ∈ ks, pQ m k) {p q : Int} : iR ks p q = true ↔ [p, q] ∈ ks \/ [q, p] ∈ ks := by
 unfold iR
 rw [Nb]
 have asc : ∀ {a b : Int}, [a, b] ∈ ks -> a < b := fun h => by
  obtain ⟨u, v, e, _, h2, _⟩ := hk _ h
  simp at e; rw [e.1, e.2]; exact h2
 constructor
 ·intro h
  have := asc h
  by_cases c : p <= q
  ·left; rw [NL c, NM c] at h; exact h
  ·right; rw [NN (by omega), NO (by omega)] at h; exact h
 ·rintro (h | h)
  ·have := asc h
   rw [NL (by omega), NM (by omega)]; exact h
  ·have := asc h
   rw [NN (by omega), NO (by omega)]; exact h
theorem uk : ∀ {ns : List Int}, i6 (ns.map D.int) = some ns
 | [] => rfl
 | n :: ns => by simp [i6, uk (ns := ns)]
theorem wU {ns : List Int} (h : ∀ n ∈ ns, 0 <= n /\ n < 6) : yQ (ns.map D.int) = some ns := by
 unfold yQ
 rw [uk]
 dsimp only
 rw [Jl (LV.mpr fun n hn => KY (h n hn))]
theorem BO {μ : aB} {m : Nat} {ks : List (List Int)} {p : Int} (h : bT (.tup [.int m, .tup (ks.map av)]) m ks) (hp : 0 <= p /\ p < (m : Int)) : jf [.tup [.int m, .tup (ks.map av)], .int p] μ = .ok (bj (d9 m ks p)) μ := by
 have hl := oJ h
 obtain ⟨_, h0, h1, _, hk⟩ := h
 have eN : (μ ++ [O.lst [.int p]] ++ [O.lst [.int p]])[(μ ++ [O.lst [.int p]]).length]? = some (.lst ([p].map D.int)) := ao
 obtain ⟨t, g, ns, e1, e2, e3, e4, e5⟩ := z6 (μ := μ ++ [O.lst [.int p]] ++ [O.lst [.int p]]) hk hl eN
 have mem : ∀ q, q ∈ p :: ns ↔ q ∈ d9 m ks p := fun q => by
  unfold d9
  rw [Jz, e5 q, Js, jq]
  simp only [Lc, exists_eq_left, Nj, Nb, nO hk, zP hk]
  constructor
  ·rintro (rfl | z)
   ·exact ⟨hp, .inl rfl⟩
   ·refine ⟨?_, .inr z⟩
    rcases z with z | z <;> (obtain ⟨u, v, e, h3, h4, h5⟩ := hk _ z; simp at e; obtain ⟨ea, eb⟩ := e; subst ea eb; exact ⟨by omega, by omega⟩)
  ·rintro ⟨_, z | z⟩
   ·exact .inl z
   ·exact .inr z
 have rng : ∀ n ∈ p :: ns, 0 <= n /\ n < 6 := fun n hn => by
  have := jq.mp (Js.mp ((mem n).mp hn)).1
  omega
 unfold jf
 rw [dB]
 have l1 : ([D.int p] : List D).length <= sizeLine := Ju (by simp) br
 simp only [rk, List.replicate, aN, w9, aG, au, ax, af, aj, aa, Aa hp, ab, aH, bo, az, cL, Jl l1, aX, gX, e1]
 have ad : bf (.obj μ.length) (.obj t) (μ ++ [O.lst [.int p]] ++ [O.lst [.int p]] ++ g) = .ok (.obj (μ ++ [O.lst [.int p]] ++ [O.lst [.int p]] ++ g).length) ((μ ++ [O.lst [.int p]] ++ [O.lst [.int p]] ++ g) ++ [O.lst ((p :: ns).map D.int)]) := by
  unfold bf
  dsimp only
  rw [e2, aC (aC ao)]
  dsimp only
  rw [Jl]
  ·rfl
  ·rw [Kh]
   exact Ju (show _ <= 1000 by simp; omega) br
 rw [ad]
 simp only [aa]
 have st : ∀ M : aB, lb [.obj M.length] (M ++ [O.lst ((p :: ns).map D.int)]) = .ok (.obj (M ++ [O.lst ((p :: ns).map D.int)]).length) ((M ++ [O.lst ((p :: ns).map D.int)]) ++ [O.iset (cS (p :: ns))]) := fun M => by
  unfold lb
  dsimp only
  rw [ao]
  dsimp only
  unfold m3
  rw [show kQ ((p :: ns).map D.int) = none from rfl, wU rng]
 rw [st]
 simp only [aa]
 have so : ∀ M : aB, dk [.obj M.length] (M ++ [O.iset (cS (p :: ns))]) = .ok (.obj (M ++ [O.iset (cS (p :: ns))]).length) ((M ++ [O.iset (cS (p :: ns))]) ++ [.lst ((d9 m ks p).map D.int)]) := fun M => by
  unfold dk
  dsimp only
  rw [ao]
  dsimp only
  rw [xB mem]
 rw [so]
 simp only [aa]
 rw [jt ao]
 simp only [ab, aK]
 simp only [KQ]
 exact gJ (by simp only [wI]; exact gB.mpr fun x hx => by obtain ⟨k, _, rfl⟩ := Ly.mp hx; simp)
theorem FB {n : Nat} {w : List Int} : (bj w).low n := by simp only [wI]; exact gB.mpr fun x hx => by obtain ⟨k, _, rfl⟩ := Ly.mp hx; simp
theorem zh {μ : aB} {neg : Bool} {w : List Int} {a : Int} : pN neg (.int a) (bj w) μ = .ok (.bl (if neg then !decide (a ∈ w) else decide (a ∈ w))) μ := by
 have e2 : kN μ (bj w) = some (.tuple (w.map PyData.int)) := by
  simp only [kN, i9, Option.map_some]
 have f2 : dN (.tuple (w.map PyData.int)) = true := by
  have := iq w
  simp only [dN, PyData.canLay0, this.1, PyData.depth, this.2, NI]
  rfl
 unfold pN
 rw [show kN μ (.int a) = some (.int a) from rfl, e2]
 dsimp only [oj]
 rw [Jl ⟨rfl, f2⟩]
 have : (w.map PyData.int).any (fun y => PyData.eqv y (.int a)) = decide (a ∈ w) := by
  rw [NJ]
  apply J0.mpr
  rw [NK, Nb]
  constructor
  ·rintro ⟨x, hx, e⟩
   have : x = a := by simpa [PyData.eqv] using e
   subst this; exact hx
  ·intro hx
   exact ⟨a, hx, by simp [PyData.eqv]⟩
 rw [this]
theorem zM {μ : aB} {w : List Int} {p : Int} (h : w.length <= 100) : bf (bj w) (.tup [.int p]) μ = .ok (bj (w ++ [p])) μ := by
 unfold bf
 dsimp only
 rw [Jl]
 ·show _ = ak.ok (D.tup ((w ++ [p]).map D.int)) μ
  rw [LG]; rfl
 ·rw [Kh]; exact Ju (by simp; omega) br
theorem nK {μ : aB} {w : List Int} (h : w ≠ []) : cO (bj w) (.int (-1)) μ = .ok (.int (cc w)) μ := by
 obtain ⟨v, p, rfl⟩ : ∃ v p, w = v ++ [p] := ⟨w.dropLast, w.getLast h, (Nx h).symm⟩
 rw [oV]
 refine mD ?_
 unfold atI uT
 simp only [LG, KF, KE, Kg, Kh, K2, Lq]
 rw [Jm (by omega), Jl (by omega)]
 rw [show ((-1 : Int) + ((v.length + (0 + 1) : Nat) : Int)).toNat = (v.map D.int).length from by rw [Kh]; omega]
 show (v.map D.int ++ [D.int p])[(v.map D.int).length]? = _
 rw [Kc (JV _), LP]
 rfl
theorem wX {μ : aB} {w : List Int} (h : w ≠ []) : cO (bj w) (.int 0) μ = .ok (.int (DR w)) μ := by
 cases w with
 | nil => exact absurd rfl h
 | cons a r => exact bO
theorem rJ {m : Nat} : bq 0 ((m : Int)).toNat = (rg m).map D.int := by
 unfold bq rg
 rw [Ln]
 simp
theorem xf {m : Nat} {f : Int -> D} {p : Int} (h : 0 <= p /\ p < (m : Int)) : atI ((rg m).map f) p = some (f p) := by
 refine mH h.1 ?_
 rw [Ke]
 unfold rg
 rw [Ke, Mv (by omega)]
 simp only [Option.map_some]
 congr 2
 exact LW h.1
theorem ub {m k : Nat} {ks : List (List Int)} {w : List Int} (hw : DT m k w) : ((d9 m ks (cc w)).filter fun p => !decide (p ∈ w)).flatMap (fun p => [bj (w ++ [p])]) = (iG m ks w).map bj := by
 rw [xr hw.ne]
 unfold iG
 rw [Ln]
 generalize n6 m ks w = l
 induction l with
 | nil => rfl
 | cons a l ih => rw [Nw, ih]; rfl
theorem uu {m : Nat} {ks : List (List Int)} : ∀ l : List (List Int), l.flatMap (fun w => (iG m ks w).map bj) = (l.flatMap (iG m ks)).map bj
 | [] => rfl
 | w :: l => by rw [Nw, Nw, LG, uu l]
theorem Iv {M : aB} {m k A B : Nat} {ks : List (List Int)} (hm : m <= 6) (hk : k + 1 <= 5) (hA : M[A]? = some (.lst ((rg m).map fun p => bj (d9 m ks p)))) (hB : M[B]? = some (.lst ((cQ m ks k).map bj))) {o0 o1 o2 o5 : Option D} :
  hV [o0, o1, o2, some (.obj A), some (.obj B), o5] M = .next [o0, o1, o2, some (.obj A), some (.obj M.length), o5] (M ++ [.lst ((cQ m ks (k + 1)).map bj)]) := by
 have fl : ((cQ m ks k).filter fun _ => true).flatMap (fun w => (iG m ks w).map bj) = (cQ m ks (k + 1)).map bj := by
  rw [gC, uu]; rfl
 have szA := ir hm (ks := ks) hk
 obtain ⟨ρ', r', run⟩ := lT (U := List Int) (en := bj) (src := .own B ((cQ m ks k).map bj)) (g := ag 0) (t := bw) (fb := hG) (μ1 := M) (q := fun _ => true) (k := fun w => (iG m ks w).map bj)
  (fun ρ => ∃ a b, ρ = [a, b, some (.obj A)]) (fun a => aC hB) (us := cQ m ks k) (acc := []) (ρ := [none, none, some (.obj A)]) ⟨_, _, rfl⟩
  (by rw [fl, Kh, Lq]; exact Ju (by omega) rH)
  (fun w hw a ρ hJJ => by
   obtain ⟨x, y, e⟩ := hJJ
   subst e
   have Hw := eQ hw
   have hlast := Hw.rng _ (kC Hw.ne)
   refine ⟨[some (bj w), y, some (.obj A)], rfl, rfl, fun z => ⟨_, _, rfl⟩, fun _ hsz => ?_⟩
   obtain ⟨ρ2, ⟨y2, e2⟩, run2⟩ := lT (U := Int) (en := D.int) (src := .fix ((d9 m ks (cc w)).map D.int)) (g := ag 1) (t := jE) (fb := oa jH) (μ1 := M) (q := fun p => !decide (p ∈ w)) (k := fun p => [bj (w ++ [p])])
    (fun ρ => ∃ b, ρ = [some (bj w), b, some (.obj A)]) (fun _ => trivial) (us := d9 m ks (cc w)) (acc := a) (ρ := [some (bj w), y, some (.obj A)]) ⟨_, rfl⟩
    (by rw [ub Hw]; exact hsz)
    (fun p hp b ρ hJJ => by
     obtain ⟨y, e⟩ := hJJ
     subst e
     refine ⟨[some (bj w), some (.int p), some (.obj A)], rfl, ?_, fun _ => ⟨_, rfl⟩, fun _ hb => ⟨_, ⟨_, rfl⟩, A6 ?_ (by simpa using hb)⟩⟩
     ·unfold jE
      simp only [bR, az, aj, af, aa, zh, Kq, aW]
     ·unfold jH
      have l1 : ([D.int p] : List D).length <= sizeLine := Ju (by simp) br
      simp only [az, aj, af, aa, bM, au, ax, Jl l1, zM (show w.length <= 100 by rw [Hw.len]; omega)])
   rw [ub Hw] at run2
   refine ⟨ρ2, ⟨_, _, e2⟩, ?_⟩
   unfold hG om
   simp only [cy, az, gS, aj, af, aX, aa, lj, nK Hw.ne]
   rw [fy (aC hA) (xf hlast)]
   simp only [aa, ju, bJ, aR]
   exact run2)
 rw [fl, KW] at run
 unfold hV
 simp only [bc]
 have cN : mG (gG (ah 4)) [none, none, some 3] (ag 0) bw hG [o0, o1, o2, some (.obj A), some (.obj B), o5] M = .ok (.obj M.length) (M ++ [.lst ((cQ m ks (k + 1)).map bj)]) := by
  unfold mG
  simp only [cy, aj, af, aa]
  rw [eR hB]
  simp only [aa, cA]
  rw [show eB [none, none, some 3] _ = [none, none, some (.obj A)] from rfl, run]
  rfl
 rw [cN]
 simp only [ab, bH, NB, NC]
theorem z5 {μ : aB} {m s : Nat} {ks : List (List Int)} (h : bT (.tup [.int m, .tup (ks.map av)]) m ks) (s0 : 2 <= s) (s1 : s <= 6) :
  ∃ (t : Nat) (g : aB), iu [.tup [.int m, .tup (ks.map av)], .int s] μ = .ok (.obj t) (μ ++ g) /\ (μ ++ g)[t]? = some (.lst ((bY m ks s).map bj)) /\ μ.length <= t := by
 have hm6 : m <= 6 := by have := h.2.2.1; omega
 have hm1 : 1 <= m := by have := h.2.1; omega
 let W : D := .tup [.int m, .tup (ks.map av)]
 have c1 := eF (U := Int) (en := D.int) (src := .fix ((rg m).map D.int)) (g := ag 0) (t := bw) (e := jJ) (μ1 := μ) (q := fun _ => true) (h := fun p => bj (d9 m ks p))
  (fun ρ => ∃ o, ρ = [o, some W]) (fun _ => trivial) (us := rg m) (acc := []) (ρ := [none, some W]) ⟨_, rfl⟩
  (by rw [Lq, mz]; exact Ju (by omega) br)
  (fun p hp a ρ hJJ => by
   obtain ⟨o, e⟩ := hJJ
   subst e
   refine ⟨[some (.int p), some W], ⟨_, rfl⟩, rfl, rfl, fun _ => ?_⟩
   unfold jJ
   simp only [aG, au, ax, aj, af, aa]
   exact BO h (jq.mp hp))
 rw [gC, KW] at c1
 let M1 := μ ++ [O.lst ((rg m).map fun p => bj (d9 m ks p))]
 have c2 := eF (U := Int) (en := D.int) (src := .fix ((rg m).map D.int)) (g := ag 0) (t := bw) (e := jI) (μ1 := M1) (q := fun _ => true) (h := fun p => bj [p])
  (fun ρ => ∃ o, ρ = [o]) (fun _ => trivial) (us := rg m) (acc := []) (ρ := [none]) ⟨_, rfl⟩
  (by rw [Lq, mz]; exact Ju (by omega) br)
  (fun p hp a ρ hJJ => by
   obtain ⟨o, e⟩ := hJJ
   subst e
   refine ⟨[some (.int p)], ⟨_, rfl⟩, rfl, rfl, fun _ => ?_⟩
   unfold jI
   have l1 : ([D.int p] : List D).length <= sizeLine := Ju (by simp) br
   simp only [bM, au, ax, af, aa, Jl l1]
   rfl)
 rw [gC, KW] at c2
 have w0 : (rg m).map (fun p => bj [p]) = (cQ m ks 0).map bj := by
  show _ = ((rg m).map fun p => [p]).map bj
  rw [Ln]; rfl
 rw [w0] at c2
 let A := μ.length
 obtain ⟨ρ', μ', ⟨k, B, g, o5, e1, e2, e3, e4⟩, run⟩ := d5 (src := .fix (bq 0 (s - 1))) (g := ag 5) (fb := hV)
  (fun xs ρ M => ∃ (k B : Nat) (g : aB) (o5 : Option D), xs.length + k = s - 1 /\ M = M1 ++ g /\ M[B]? = some (.lst ((cQ m ks k).map bj)) /\ ρ = [some W, some (.int s), some (.int m), some (.obj A), some (.obj B), o5])
  (fun _ _ _ => trivial)
  (fun x xs ρ M hJJ => by
   obtain ⟨k, B, g, o5, e1, e2, e3, e4⟩ := hJJ
   subst e4
   have hA : M[A]? = some (.lst ((rg m).map fun p => bj (d9 m ks p))) := by rw [e2]; exact aC ao
   refine ⟨trivial, _, M, _, _, rfl, Iv (k := k) hm6 (by simp at e1; omega) hA e3, k + 1, M.length, g ++ [.lst ((cQ m ks (k + 1)).map bj)], some x, by simp at e1 ⊢; omega, by rw [e2, KQ], ao, rfl⟩)
  (xs := bq 0 (s - 1)) (ρ := [some W, some (.int s), some (.int m), some (.obj A), some (.obj M1.length), none]) (μ := M1 ++ [O.lst ((cQ m ks 0).map bj)])
  ⟨0, M1.length, _, none, by simp [bq], rfl, ao, rfl⟩
 have ek : k = s - 1 := by simpa using e1
 subst ek e4
 have hA : μ'[A]? = some (.lst ((rg m).map fun p => bj (d9 m ks p))) := by rw [e2]; exact aC ao
 have c3 := eF (U := List Int) (en := bj) (src := .own B ((cQ m ks (s - 1)).map bj)) (g := ag 0) (t := jD) (e := jG) (μ1 := μ') (q := iW ks) (h := bj)
  (fun ρ => ∃ o, ρ = [o, some (.obj A)]) (fun _ => aC e3) (us := cQ m ks (s - 1)) (acc := []) (ρ := [none, some (.obj A)]) ⟨_, rfl⟩
  (by rw [Lq]; exact Ju (by have := ir hm6 (ks := ks) (show s - 1 <= 5 by omega); omega) rH)
  (fun w hw a ρ hJJ => by
   obtain ⟨o, e⟩ := hJJ
   subst e
   have Hw := eQ hw
   refine ⟨[some (bj w), some (.obj A)], ⟨_, rfl⟩, rfl, ?_, fun _ => by unfold jG; rw [af]⟩
   unfold jD
   simp only [bR, az, gS, aj, af, aX, aa, lj, nK Hw.ne, wX Hw.ne]
   rw [fy (aC hA) (xf (Hw.rng _ (kC Hw.ne)))]
   simp only [aa, zh, K1, Ko, aW]
   rw [vR Hw (by omega)])
 rw [KW] at c3
 refine ⟨μ'.length, [O.lst ((rg m).map fun p => bj (d9 m ks p))] ++ g ++ [.lst ((bY m ks s).map bj)], ?_, ?_, ?_⟩
 ·unfold iu
  rw [dB]
  have hr : fX [.int (m : Int)] μ = .ok (.fix ((rg m).map D.int)) μ := by rw [dD (by omega) (by omega), rJ]
  have hr2 : fX [.int (m : Int)] M1 = .ok (.fix ((rg m).map D.int)) M1 := by rw [dD (by omega) (by omega), rJ]
  have hr3 : fX [.int ((s : Int) - 1)] (M1 ++ [O.lst ((cQ m ks 0).map bj)]) = .ok (.fix (bq 0 (s - 1))) (M1 ++ [O.lst ((cQ m ks 0).map bj)]) := by
   rw [dD (by omega) (by omega), show ((s : Int) - 1).toNat = s - 1 from by omega]
  simp only [pq, List.replicate, aN, bc, az, af, aj, aX, aa, bO, ab, bH, NB, NC, aH, bE, bV, au, ax, hr, aR]
  rw [show eB [none, some 0] _ = [none, some W] from rfl, c1]
  simp only [aN, bc, bE, bV, au, ax, ab, bH, NB, NC, aH, aj, af, aa]
  rw [show fX [.int (m : Int)] (μ ++ [O.lst ((rg m).map fun p => bj (d9 m ks p))]) = _ from hr2]
  simp only [aa, aR]
  rw [show eB [none] _ = [none] from rfl, c2]
  simp only [aN, ab, bH, NB, NC, aH, fA, bV, au, ax, az, aj, af, aX, aa]
  rw [show iH (.int (s : Int)) (.int 1) _ = .ok (.int ((s : Int) - 1)) _ from rfl]
  simp only [aa, hr3, ab, aR]
  rw [run]
  simp only [aH, bo, bE, cy, aj, af, aa]
  rw [eR e3]
  simp only [aa, cA]
  rw [show eB [none, some 3] _ = [none, some (.obj A)] from rfl, c3]
  simp only [ab, aK]
  rw [n8 (by rw [e2]; simp [M1])]
  rw [e2]
  simp only [M1, KQ]
  rfl
 ·rw [show μ ++ ([O.lst ((rg m).map fun p => bj (d9 m ks p))] ++ g ++ [.lst ((bY m ks s).map bj)]) = μ' ++ [.lst ((bY m ks s).map bj)] from by rw [e2]; simp only [M1, KQ]]
  exact ao
 ·rw [e2]; simp only [M1, Kg]; omega
theorem As {M : aB} {a : List D} {y : D} (h : a.length < sizeLine) : kv (.obj M.length) [y] (M ++ [.lst a]) = .ok .non (M ++ [.lst (a ++ [y])]) := by
 unfold kv
 dsimp only
 rw [ao]
 dsimp only
 rw [Jl h, i7]
theorem AW {M : aB} {a : List D} : Bk (.obj M.length) (M ++ [.lst a]) = true := by
 unfold Bk
 dsimp only
 rw [ao]
theorem FC {M : aB} {m k : Nat} {ks : List (List Int)} {w : List Int} {a0 : List D} (hm : m <= 6) (hk : ∀ k ∈ ks, pQ m k) (Hw : DT m k w) (hk5 : k <= 5) (ha : a0.length + (iG m ks w).length <= 100000) {o1 o2 o3 o6 : Option D} :
  ∃ o6', dH [some (.tup [.int m, .tup (ks.map av)]), o1, o2, o3, some (.obj M.length), some (bj w), o6] (M ++ [.lst a0]) = .next [some (.tup [.int m, .tup (ks.map av)]), o1, o2, o3, some (.obj M.length), some (bj w), o6'] (M ++ [.lst (a0 ++ (iG m ks w).map bj)]) := by
 let q : Int -> Bool := fun p => !decide (p ∈ w) && iR ks (cc w) p
 obtain ⟨ρ', μ', ⟨dn, rs, o6', e1, e2, e3, e4⟩, run⟩ := d5 (src := .fix ((rg m).map D.int)) (g := ag 6) (fb := dJ)
  (fun xs ρ μ1 => ∃ (dn rs : List Int) (o6 : Option D), rg m = dn ++ rs /\ xs = rs.map D.int /\ μ1 = M ++ [.lst (a0 ++ ((dn.filter q).map fun p => bj (w ++ [p])))] /\ ρ = [some (.tup [.int m, .tup (ks.map av)]), o1, o2, o3, some (.obj M.length), some (bj w), o6])
  (fun _ _ _ => trivial)
  (fun x xs ρ μ1 hJJ => by
   obtain ⟨dn, rs, o6, e1, e2, e3, e4⟩ := hJJ
   subst e3 e4
   cases rs with
   | nil => cases e2
   | cons p rs =>
    rw [KF] at e2
    injection e2 with h1 h2
    subst h1 h2
    have l1 : ([D.int p] : List D).length <= sizeLine := Ju (by simp) br
    refine ⟨trivial, _, _, [some (.tup [.int m, .tup (ks.map av)]), o1, o2, o3, some (.obj M.length), some (bj w), some (.int p)], M ++ [.lst (a0 ++ (((dn ++ [p]).filter q).map fun p => bj (w ++ [p])))], rfl, ?_, dn ++ [p], rs, some (.int p), by rw [e1, KQ]; rfl, rfl, rfl, rfl⟩
    show dJ [some (.tup [.int m, .tup (ks.map av)]), o1, o2, o3, some (.obj M.length), some (bj w), some (.int p)] _ = _
    unfold dJ
    simp only [bI, gY, bR, az, gS, aj, af, aa, zh, Kq, aW]
    rw [NP, Nl, List.filter_nil]
    by_cases c : p ∈ w
    ·rw [show q p = false from by simp [q, c], KY c]
     simp only [LX, K1, Ko, ab, cF, J4]
    ·rw [Ji c]
     simp only [L9, Kq, bM, au, ax, aG, az, gS, aj, af, aX, aa, lj, nK Hw.ne, zf, zg, K2, Lq, Jl l2, gX]
     rw [oI hk]
     simp only [aa, aW, ab]
     have qe : q p = decide ([min (cc w) p, max (cc w) p] ∈ ks) := by simp only [q, Ji c, L9, NI]; rfl
     rw [qe]
     by_cases t : [min (cc w) p, max (cc w) p] ∈ ks
     ·rw [KY t]
      simp only [Kq, w9, DI, aj, af, aa, AW, au, ax, az, bM, Jl l1]
      rw [zM (show w.length <= 100 by rw [Hw.len]; omega)]
      simp only [aa]
      rw [As, ab, LG, KQ]
      ·rfl
      ·have pf : ((dn ++ [p]).filter q).length <= (iG m ks w).length := by
        unfold iG n6
        rw [Kh, e1, show dn ++ p :: rs = (dn ++ [p]) ++ rs from by simp, NP (dn ++ [p])]
        rw [Kg]
        exact Mp _ _
       rw [NP, Nl, qe, KY t] at pf
       simp only [Kq, List.filter_nil, Kg, K2, Lq] at pf
       rw [Kg, Kh]
       exact Jp (by omega) rH
     ·rw [Ji t]
      simp only [K1, Ko, cF, J4])
  (xs := (rg m).map D.int) (ρ := [some (.tup [.int m, .tup (ks.map av)]), o1, o2, o3, some (.obj M.length), some (bj w), o6]) (μ := M ++ [.lst a0])
  ⟨[], rg m, o6, rfl, rfl, by simp, rfl⟩
 have hr : rs = [] := by cases rs with
  | nil => rfl
  | cons => cases e2
 subst hr e3 e4
 rw [J4] at e1
 refine ⟨o6', ?_⟩
 unfold dH
 have hr : ∀ μ, fX [.int (m : Int)] μ = .ok (.fix ((rg m).map D.int)) μ := fun μ => by rw [dD (by omega) (by omega), rJ]
 simp only [fA, bV, au, ax, az, af, aX, aa, bO, hr, ab, aR]
 rw [run, <- e1]
 show _ = SO.next _ (M ++ [.lst (a0 ++ (iG m ks w).map bj)])
 unfold iG n6
 rw [Ln]
 rfl
theorem A1 {m k : Nat} {ks dn rs : List (List Int)} (hm : m <= 6) (hk : k + 1 <= 5) (h : cQ m ks k = dn ++ rs) : (dn.flatMap (iG m ks)).length <= 46656 := by
 have := ir hm (ks := ks) hk
 rw [show cQ m ks (k + 1) = (dn ++ rs).flatMap (iG m ks) from by rw [<- h]; rfl, NG, Kg] at this
 omega
theorem Hm {M : aB} {m k B : Nat} {ks : List (List Int)} (hm : m <= 6) (hk : ∀ k ∈ ks, pQ m k) (hk5 : k + 1 <= 5) (hB : M[B]? = some (.lst ((cQ m ks k).map bj))) {o1 o3 o4 o5 o6 : Option D} :
  ∃ o5' o6', dG [some (.tup [.int m, .tup (ks.map av)]), o1, some (.obj B), o3, o4, o5, o6] M = .next [some (.tup [.int m, .tup (ks.map av)]), o1, some (.obj M.length), o3, some (.obj M.length), o5', o6'] (M ++ [.lst ((cQ m ks (k + 1)).map bj)]) := by
 obtain ⟨ρ', μ', ⟨dn, rs, o5', o6', e1, e2, e3, e4⟩, run⟩ := d5 (src := .own B ((cQ m ks k).map bj)) (g := ag 5) (fb := dH)
  (fun xs ρ μ1 => ∃ (dn rs : List (List Int)) (o5 o6 : Option D), cQ m ks k = dn ++ rs /\ xs = rs.map bj /\ μ1 = M ++ [.lst ((dn.flatMap (iG m ks)).map bj)] /\ ρ = [some (.tup [.int m, .tup (ks.map av)]), o1, some (.obj B), o3, some (.obj M.length), o5, o6])
  (fun ρ μ1 ⟨_, _, _, _, _, _, e3, _⟩ => by rw [e3]; exact aC hB)
  (fun x xs ρ μ1 hJJ => by
   obtain ⟨dn, rs, o5, o6, e1, e2, e3, e4⟩ := hJJ
   subst e3 e4
   cases rs with
   | nil => cases e2
   | cons w rs =>
    rw [KF] at e2
    injection e2 with h1 h2
    subst h1 h2
    have e1' : cQ m ks k = (dn ++ [w]) ++ rs := by rw [e1]; simp
    have Hw := eQ (m := m) (ks := ks) (k := k) (w := w) (by rw [e1]; simp)
    have hz := A1 hm hk5 e1'
    rw [NG, Kg] at hz
    obtain ⟨o6', eg⟩ := FC (M := M) (a0 := (dn.flatMap (iG m ks)).map bj) hm hk Hw (by omega) (by rw [Kh]; rw [Nw, NH, J4] at hz; omega) (o1 := o1) (o2 := some (.obj B)) (o3 := o3) (o6 := o6)
    refine ⟨aC hB, _, _, _, _, rfl, eg, dn ++ [w], rs, some (bj w), o6', e1', rfl, ?_, rfl⟩
    rw [NG, LG]
    simp)
  (xs := (cQ m ks k).map bj) (ρ := [some (.tup [.int m, .tup (ks.map av)]), o1, some (.obj B), o3, some (.obj M.length), o5, o6]) (μ := M ++ [.lst []])
  ⟨[], _, o5, o6, rfl, rfl, by simp, rfl⟩
 have hr : rs = [] := by cases rs with
  | nil => rfl
  | cons => cases e2
 subst hr e3 e4
 rw [J4] at e1
 refine ⟨o5', o6', ?_⟩
 have l0 : ([] : List D).length <= sizeLine := Lb _
 unfold dG
 simp only [aN, bc, cL, ax, aa, Jl l0, ab, bH, NB, NC, aH, fA, cy, aj, af]
 rw [eR (aC hB)]
 simp only [ab, cA]
 rw [run]
 simp only [aH, aj, af, ab, bH, NB, NC]
 rw [<- e1]
 rfl
theorem kA {μ : aB} {m s : Nat} {ks : List (List Int)} (h : bT (.tup [.int m, .tup (ks.map av)]) m ks) (s0 : 1 <= s) (s1 : s <= 6) :
  ∃ (t : Nat) (g : aB), bg [.tup [.int m, .tup (ks.map av)], .int s] μ = .ok (.obj t) (μ ++ g) /\ (μ ++ g)[t]? = some (.lst ((bY m ks s).map bj)) /\ μ.length <= t := by
 have hm6 : m <= 6 := by have := h.2.2.1; omega
 have hm1 : 1 <= m := by have := h.2.1; omega
 have hk := h.2.2.2.2
 let W : D := .tup [.int m, .tup (ks.map av)]
 have c2 := eF (U := Int) (en := D.int) (src := .fix ((rg m).map D.int)) (g := ag 0) (t := bw) (e := fV) (μ1 := μ) (q := fun _ => true) (h := fun p => bj [p])
  (fun ρ => ∃ o, ρ = [o]) (fun _ => trivial) (us := rg m) (acc := []) (ρ := [none]) ⟨_, rfl⟩
  (by rw [Lq, mz]; exact Ju (by omega) br)
  (fun p hp a ρ hJJ => by
   obtain ⟨o, e⟩ := hJJ
   subst e
   refine ⟨[some (.int p)], ⟨_, rfl⟩, rfl, rfl, fun _ => ?_⟩
   unfold fV
   have l1 : ([D.int p] : List D).length <= sizeLine := Ju (by simp) br
   simp only [bM, au, ax, af, aa, Jl l1]
   rfl)
 rw [gC, KW] at c2
 have w0 : (rg m).map (fun p => bj [p]) = (cQ m ks 0).map bj := by
  show _ = ((rg m).map fun p => [p]).map bj
  rw [Ln]; rfl
 rw [w0] at c2
 obtain ⟨ρ', μ', ⟨k, B, g, o3, o4, o5, o6, e1, e2, e3, e4, e5⟩, run⟩ := d5 (src := .fix (bq 0 (s - 1))) (g := ag 3) (fb := dG)
  (fun xs ρ M => ∃ (k B : Nat) (g : aB) (o3 o4 o5 o6 : Option D), xs.length + k = s - 1 /\ M = μ ++ g /\ M[B]? = some (.lst ((cQ m ks k).map bj)) /\ μ.length <= B /\ ρ = [some W, some (.int s), some (.obj B), o3, o4, o5, o6])
  (fun _ _ _ => trivial)
  (fun x xs ρ M hJJ => by
   obtain ⟨k, B, g, o3, o4, o5, o6, e1, e2, e3, e4, e5⟩ := hJJ
   subst e5
   obtain ⟨o5', o6', eg⟩ := Hm (M := M) (k := k) (o1 := some (.int s)) (o3 := some x) (o4 := o4) (o5 := o5) (o6 := o6) hm6 hk (by simp at e1; omega) e3
   exact ⟨trivial, _, M, _, _, rfl, eg, k + 1, M.length, g ++ [.lst ((cQ m ks (k + 1)).map bj)], some x, _, _, _, by simp at e1 ⊢; omega, by rw [e2, KQ], ao, by rw [e2, Kg]; omega, rfl⟩)
  (xs := bq 0 (s - 1)) (ρ := [some W, some (.int s), some (.obj μ.length), none, none, none, none]) (μ := μ ++ [O.lst ((cQ m ks 0).map bj)])
  ⟨0, μ.length, _, none, none, none, none, by simp [bq], rfl, ao, JV _, rfl⟩
 have ek : k = s - 1 := by simpa using e1
 subst ek e5
 have c3 := eF (U := List Int) (en := bj) (src := .own B ((cQ m ks (s - 1)).map bj)) (g := ag 0) (t := fT) (e := fU) (μ1 := μ') (q := iW ks) (h := bj)
  (fun ρ => ∃ o, ρ = [o, some W]) (fun _ => aC e3) (us := cQ m ks (s - 1)) (acc := []) (ρ := [none, some W]) ⟨_, rfl⟩
  (by rw [Lq]; exact Ju (by have := ir hm6 (ks := ks) (show s - 1 <= 5 by omega); omega) rH)
  (fun w hw a ρ hJJ => by
   obtain ⟨o, e⟩ := hJJ
   subst e
   have Hw := eQ hw
   refine ⟨[some (bj w), some W], ⟨_, rfl⟩, rfl, ?_, fun _ => by unfold fU; rw [af]⟩
   unfold fT
   simp only [W, bR, az, gS, bM, aG, au, ax, aj, af, aX, aa, lj, nK Hw.ne, wX Hw.ne, zf, zg, K2, Lq, Jl l2, gX]
   rw [oI hk]
   simp only [aa, aW]
   rfl)
 rw [KW] at c3
 refine ⟨μ'.length, g ++ [.lst ((bY m ks s).map bj)], ?_, ?_, ?_⟩
 ·unfold bg
  rw [dB]
  have hr : fX [.int (m : Int)] μ = .ok (.fix ((rg m).map D.int)) μ := by rw [dD (by omega) (by omega), rJ]
  have hr3 : fX [.int ((s : Int) - 1)] (μ ++ [O.lst ((cQ m ks 0).map bj)]) = .ok (.fix (bq 0 (s - 1))) (μ ++ [O.lst ((cQ m ks 0).map bj)]) := by
   rw [dD (by omega) (by omega), show ((s : Int) - 1).toNat = s - 1 from by omega]
  simp only [jT, List.replicate, aN, bc, az, af, aj, aX, aa, bO, ab, bH, NB, NC, aH, bE, bV, au, ax, hr, aR]
  rw [show eB [none] _ = [none] from rfl, c2]
  simp only [aN, ab, bH, NB, NC, aH, fA, bV, au, ax, az, aj, af, aX, aa]
  rw [show iH (.int (s : Int)) (.int 1) _ = .ok (.int ((s : Int) - 1)) _ from rfl]
  simp only [aa, hr3, ab, aR]
  rw [run]
  simp only [aH, bo, bE, cy, aj, af, aa]
  rw [eR e3]
  simp only [aa, cA]
  rw [show eB [none, some 0] _ = [none, some W] from rfl, c3]
  simp only [ab, aK]
  rw [n8 (by rw [e2]; simp), e2, KQ]
  rfl
 ·rw [<- KQ, <- e2]
  exact ao
 ·rw [e2, Kg]; omega
def nv (w : List Int) : PyData := .tuple (w.map PyData.int)
theorem ui {μ : aB} : ∀ fs : List Int, toPs μ (fs.map D.int) = some (fs.map PyData.int)
 | [] => rfl
 | x :: fs => by simp only [KF, toPs, ui fs]; rfl
theorem wj {μ : aB} : ∀ {rs : List (List Int)}, ig μ (rs.map bj) = some (rs.map nv)
 | [] => rfl
 | w :: rs => by
  have ih := wj (μ := μ) (rs := rs)
  simp only [KF, ig, ih, yK, xg, ui, Option.map_some]
  rfl
theorem wk : ∀ {rs : List (List Int)}, PyData.canLayAll0 (rs.map nv) = true /\ PyData.depthAll (rs.map nv) <= 1
 | [] => by simp [PyData.canLayAll0, PyData.depthAll]
 | w :: rs => by
  have ih := wk (rs := rs)
  have hw := iq w
  simp only [KF, PyData.canLayAll0, PyData.depthAll, ih.1, nv, PyData.canLay0, PyData.depth, hw.1, hw.2]
  refine ⟨rfl, ?_⟩
  have := ih.2
  omega
theorem rR {rs : List (List Int)} : dN (.list (rs.map nv)) = true := by
 have := wk (rs := rs)
 simp only [dN, PyData.canLay0, this.1, PyData.depth, NI]
 exact KY (by omega)
theorem oF {μ : aB} {t : Nat} {rs : List (List Int)} (h : μ[t]? = some (.lst (rs.map bj))) : kN μ (.obj t) = some (.list (rs.map nv)) := by
 unfold kN
 dsimp only
 rw [h]
 dsimp only
 rw [wj]
 rfl
theorem A3 {μ : aB} {t u : Nat} {rs : List (List Int)} (h : μ[t]? = some (.lst (rs.map bj))) (k : μ[u]? = some (.lst [])) : jV true (.obj t) (.obj u) μ = .ok (.bl (!rs.isEmpty)) μ := by
 unfold jV
 rw [oF h, oF (rs := []) k]
 dsimp only
 rw [Jl ⟨rR, rR⟩]
 congr 2
 cases rs with
 | nil => rfl
 | cons w rs => simp [PyData.eqv, PyData.eqvAll]
def ny (m : Nat) : List Nat := (List.range (m - 2)).map (· + 3)
def i4 (m : Nat) (ks : List (List Int)) (s : Nat) : Bool := !(bY m ks s).isEmpty
def ik (m : Nat) (ks : List (List Int)) : Option Nat := (ny m).find? (i4 m ks)
def cv (m : Nat) (ks : List (List Int)) : List (List Int) := match ik m ks with
 | some s => bY m ks s
 | none => []
def sD (s : Nat) : D := .int (s : Int)
theorem lg {m s : Nat} (hm : m <= 6) (h : s ∈ ny m) : 3 <= s /\ s <= 6 := by
 obtain ⟨i, hi, rfl⟩ := Ly.mp h
 have := Jt.mp hi
 omega
theorem wy {m : Nat} {μ : aB} (hm : m <= 6) : lE [.int 3, .int ((m : Int) + 1)] μ = .ok (.fix ((ny m).map sD)) μ := by
 rw [lQ (by omega) (by omega) (by omega) (by omega)]
 congr 2
 unfold bq ny
 rw [Ln, show ((m : Int) + 1 - 3).toNat = m - 2 from by omega]
 apply Lo
 intro i _
 show D.int _ = D.int _
 congr 1
 simp
 omega
theorem zO {μ : aB} {t : Nat} {xs : List D} (h : μ[t]? = some (.lst xs)) : uY (.obj t) μ = .ok (!xs.isEmpty) μ := by unfold uY; simp [h]
theorem oQ {μ : aB} {m : Nat} {ks : List (List Int)} (h : bT (.tup [.int m, .tup (ks.map av)]) m ks) {src : mZ} (hs : ∀ M, cZ src M) : ∀ (l : List Nat) (g : aB) (o1 o2 : Option D), (∀ s ∈ l, 3 <= s /\ s <= 6) ->
  (match l.find? (i4 m ks) with
   | some s => ∃ t g', iF src (ag 1) bt (l.map sD) [some (.tup [.int m, .tup (ks.map av)]), o1, o2] (μ ++ g) = .ret (.obj t) (μ ++ g') /\ (μ ++ g')[t]? = some (.lst ((bY m ks s).map bj)) /\ μ.length <= t
   | none => ∃ o1' o2' g', iF src (ag 1) bt (l.map sD) [some (.tup [.int m, .tup (ks.map av)]), o1, o2] (μ ++ g) = .next [some (.tup [.int m, .tup (ks.map av)]), o1', o2'] (μ ++ g'))
 | [], g, o1, o2, hl => ⟨o1, o2, g, by rw [KE]; unfold iF; rw [Jl (hs _)]⟩
 | s :: l, g, o1, o2, hl => by
  have hs2 := hl s Jx
  obtain ⟨t, g1, e1, e2, e3⟩ := z5 (μ := μ ++ g) h (show 2 <= s by omega) hs2.2
  rw [KQ] at e1 e2
  have body : bt [some (.tup [.int m, .tup (ks.map av)]), some (sD s), o2] (μ ++ g) = if i4 m ks s = true then .ret (.obj t) (μ ++ (g ++ g1)) else .next [some (.tup [.int m, .tup (ks.map av)]), some (sD s), some (.obj t)] (μ ++ (g ++ g1)) := by
   unfold bt sD
   simp only [aN, bc, aG, au, ax, aj, af, aa, e1, ab, bH, NB, NC, aH, bI, j7, zO e2]
   unfold i4
   rw [show ((bY m ks s).map bj).isEmpty = (bY m ks s).isEmpty from by cases bY m ks s <;> rfl]
   cases (bY m ks s).isEmpty with
   | true => simp only [LX, K1, Ko, cF]
   | false => simp only [L9, Kq, bo, aj, af, ab]
  rw [List.find?_cons]
  have step : iF src (ag 1) bt ((s :: l).map sD) [some (.tup [.int m, .tup (ks.map av)]), o1, o2] (μ ++ g) = (if i4 m ks s = true then .ret (.obj t) (μ ++ (g ++ g1)) else iF src (ag 1) bt (l.map sD) [some (.tup [.int m, .tup (ks.map av)]), some (sD s), some (.obj t)] (μ ++ (g ++ g1))) := by
   rw [KF]
   conv => lhs; unfold iF
   rw [Jl (hs _), bH]
   simp only [ab, NB, NC]
   rw [body]
   cases i4 m ks s <;> rfl
  rw [step]
  cases hr : i4 m ks s with
  | true =>
   exact ⟨t, g ++ g1, by rw [Jl rfl], e2, by rw [Kg] at e3; omega⟩
  | false =>
   simp only [K1, Ko]
   exact oQ h hs l (g ++ g1) _ _ fun s hs' => hl s (Jy _ hs')
theorem zZ {μ : aB} {m : Nat} {ks : List (List Int)} (h : bT (.tup [.int m, .tup (ks.map av)]) m ks) : ∃ t g, cX [.tup [.int m, .tup (ks.map av)]] μ = .ok (.obj t) (μ ++ g) /\ (μ ++ g)[t]? = some (.lst ((cv m ks).map bj)) /\ μ.length <= t := by
 have hm6 : m <= 6 := by have := h.2.2.1; omega
 have L := oQ (μ := μ) h (src := .fix ((ny m).map sD)) (fun _ => trivial) (ny m) [] none none (fun s hs => lg hm6 hs)
 rw [J4] at L
 unfold cX
 rw [gL]
 have ex : gm [some (.tup [.int m, .tup (ks.map av)]), none, none] μ = (iF (.fix ((ny m).map sD)) (ag 1) bt ((ny m).map sD) [some (.tup [.int m, .tup (ks.map av)]), none, none] μ).bind (cR (fY ay)) := by
  unfold gm
  simp only [aN, fA, bV, au, ax, az, af, aX, aa, bO, fB, wy hm6, ab, aR]
 simp only [List.replicate]
 rw [ex]
 unfold cv ik
 cases e : (ny m).find? (i4 m ks) with
 | some s =>
  rw [e] at L
  obtain ⟨t, g', e1, e2, e3⟩ := L
  refine ⟨t, g', ?_, e2, e3⟩
  rw [e1, gI, aK]
  exact n8 (by simp; omega)
 | none =>
  rw [e] at L
  obtain ⟨o1, o2, g', e1⟩ := L
  refine ⟨(μ ++ g').length, g' ++ [.lst []], ?_, by rw [<- KQ]; exact ao, by simp⟩
  have l0 : ([] : List D).length <= sizeLine := Lb _
  rw [e1]
  simp only [aH, bo, cL, ax, aa, Jl l0, ab, aK]
  rw [n8 (by simp), KQ]
theorem ux : ∀ {v w : List Int}, cmpPs .Lt (v.map PyData.int) (w.map PyData.int) = some (iE v w)
 | [], [] => rfl
 | [], _ :: w => by
  simp only [KE, KF, cmpPs, iE, K2, Lq, cY]
  congr 1
  exact KY (by omega)
 | _ :: _, [] => rfl
 | a :: v, b :: w => by
  have ih := ux (v := v) (w := w)
  show (if PyData.eqv (.int a) (.int b) = true then cmpPs .Lt (v.map PyData.int) (w.map PyData.int) else gx .Lt (.int a) (.int b)) = some (if a = b then iE v w else decide (a < b))
  have e0 : PyData.eqv (.int a) (.int b) = decide (a = b) := by by_cases e : a = b <;> simp [PyData.eqv, e]
  rw [e0]
  by_cases e : a = b
  ·rw [KY e, Jl rfl, Jl e, ih]
  ·rw [Ji e, Jm J1, Jm e]
   rfl
theorem Hl {μ : aB} {v w : List Int} (h : iE v w = false) : Br μ (bj v) (bj w) = true := by
 have e : ∀ w : List Int, kN μ (bj w) = some (nv w) := fun w => by simp only [kN, i9, Option.map_some]; rfl
 have f : ∀ w : List Int, dN (nv w) = true := fun w => by
  have := iq w
  simp only [nv, dN, PyData.canLay0, this.1, PyData.depth, this.2, NI]
  rfl
 unfold Br
 rw [e v, e w]
 dsimp only
 rw [f v, f w, KY]
 ·rfl
 ·show cmpPs .Lt (v.map PyData.int) (w.map PyData.int) = some false
  rw [ux, h]
def pR (m : Nat) (ks : List (List Int)) : D := match cv m ks with
 | x :: _ => bj x
 | [] => .non
def nz (m : Nat) (ks : List (List Int)) : D := match ik m ks with
 | some s => .int s
 | none => .non
theorem oA {m s : Nat} {ks : List (List Int)} (h : ik m ks = some s) : cv m ks = bY m ks s /\ ∃ x r, bY m ks s = x :: r := by
 refine ⟨by unfold cv; rw [h], ?_⟩
 have := List.find?_some h
 unfold i4 at this
 cases e : bY m ks s with
 | nil => rw [e] at this; cases this
 | cons x r => exact ⟨x, r, rfl⟩
theorem tU {μ : aB} {m : Nat} {ks : List (List Int)} (h : bT (.tup [.int m, .tup (ks.map av)]) m ks) : dm [.tup [.int m, .tup (ks.map av)]] μ = .ok (pR m ks) μ := by
 obtain ⟨t, g, e1, e2, e3⟩ := zZ (μ := μ) h
 have lw : (pR m ks).low μ.length := by
  unfold pR
  split
  ·exact FB
  ·simp
 unfold dm
 rw [gL]
 simp only [ma, List.replicate, bo, aG, au, ax, af, aa, e1]
 have md : qt [.obj t] (μ ++ g) = .ok (pR m ks) (μ ++ g) := by
  unfold qt pR
  dsimp only
  rw [e2]
  cases e : ik m ks with
  | none =>
   rw [show cv m ks = [] from by unfold cv; rw [e]]
   rfl
  | some s =>
   obtain ⟨h1, x, r, h2⟩ := oA e
   rw [h1, h2]
   simp only [KF]
   rw [Jl]
   rw [<- KF (f := bj)]
   refine LV.mpr fun y hy => ?_
   obtain ⟨v, hv, rfl⟩ := Ly.mp hy
   exact Hl (vz h2 v hv)
 rw [md]
 simp only [ab, aK]
 exact gJ lw
theorem z8 {μ : aB} {m : Nat} {ks : List (List Int)} (h : bT (.tup [.int m, .tup (ks.map av)]) m ks) : fG [.tup [.int m, .tup (ks.map av)]] μ = .ok (nz m ks) μ := by
 have hm6 : m <= 6 := by have := h.2.2.1; omega
 unfold fG
 rw [gL]
 simp only [l9, List.replicate, aN, bc, aG, au, ax, af, aa, tU h, ab, bH, NB, NC, aH, bo, DJ, bR, az, aj, aX, rN, aW, K1, Ko]
 unfold pR nz
 cases e : ik m ks with
 | none =>
  rw [show cv m ks = [] from by unfold cv; rw [e]]
  simp only [D.isNon, Kq, ab, aK]
  exact bU (by simp)
 | some s =>
  obtain ⟨h1, x, r, h2⟩ := oA e
  rw [h1, h2]
  have hs := lg hm6 (NQ e)
  have hx : x ∈ bY m ks s := by rw [h2]; exact Jx
  have hl := (eQ (Js.mp hx).1).len
  simp only [D.isNon, K1, Ko, jw, Kh, hl, ab, aK]
  rw [show ((s - 1 + 1 : Nat) : Int) = (s : Int) from by omega]
  exact bU (by simp)
theorem xv {μ : aB} {m : Nat} {ks : List (List Int)} (h : bT (.tup [.int m, .tup (ks.map av)]) m ks) : fJ [.tup [.int m, .tup (ks.map av)]] μ = .ok (nz m ks) μ := by
 have hm6 : m <= 6 := by have := h.2.2.1; omega
 let W : D := .tup [.int m, .tup (ks.map av)]
 have hz : (ny m).length <= 4 := by simp [ny]; omega
 obtain ⟨ys, ρ', μ1, s', ⟨dn, rs, o, e1, e2, e3, e4, e5⟩, run⟩ := gE (src := .fix ((ny m).map sD)) (g := ag 0) (t := iz) (e := iA) (n := μ.length)
  (fun xs ys ρ μ1 s => ∃ (dn rs : List Nat) (o : Option D), ny m = dn ++ rs /\ xs = rs.map sD /\ ys = (dn.filter (i4 m ks)).map sD /\ ρ = [o, some W] /\ μ1 = μ)
  (fun ys ρ μ1 s ⟨_, _, _, _, _, _, _, e⟩ => ⟨by rw [e], trivial⟩)
  (fun x r ys ρ μ1 s hJJ => by
   obtain ⟨dn, rs, o, e1, e2, e3, e4, e5⟩ := hJJ
   subst e5 e4
   cases rs with
   | nil => cases e2
   | cons z rs =>
    rw [KF] at e2
    injection e2 with h1 h2
    subst h1 h2
    have hzz := lg hm6 (show z ∈ ny m by rw [e1]; simp)
    obtain ⟨t, g, f1, f2, f3⟩ := kA (μ := μ1 ++ .lst ys :: s) h (show 1 <= z by omega) hzz.2
    have l0 : ([] : List D).length <= sizeLine := Lb _
    have ey : ys.length < sizeLine := by
     rw [e3, Kh]
     refine Nat.lt_of_le_of_lt (Nv _ _) (Jp ?_ br)
     have : dn.length <= (ny m).length := by rw [e1, Kg]; omega
     omega
    refine ⟨rfl, trivial, [some (sD z), some W], μ1, s, i4 m ks z, μ1, s ++ (g ++ [.lst []]), rfl, ?_, fun hb => ⟨sD z, μ1, s ++ (g ++ [.lst []]), ?_, ey, rfl, dn ++ [z], rs, some (sD z), by rw [e1]; simp, rfl, ?_, rfl, rfl⟩, fun hb => ⟨dn ++ [z], rs, some (sD z), by rw [e1]; simp, rfl, ?_, rfl, rfl⟩⟩
    ·unfold iz
     simp only [bR, az, aG, au, ax, aj, af, aa]
     rw [show bg [W, sD z] (μ1 ++ .lst ys :: s) = _ from f1]
     simp only [aa, cL, ax, Jl l0]
     rw [A3 (aC f2) ao]
     simp only [aa, aW]
     rw [show i4 m ks z = !(bY m ks z).isEmpty from rfl, show (μ1 ++ O.lst ys :: s ++ g) ++ [O.lst []] = μ1 ++ O.lst ys :: (s ++ (g ++ [O.lst []])) from by simp only [KQ, Ls]]
    ·unfold iA
     rw [af]
    ·rw [NP, Nl, hb, e3]; simp
    ·rw [NP, Nl, hb, e3]; simp)
  (xs := (ny m).map sD) (ys := []) (ρ := [none, some W]) (μ1 := μ) (s := [])
  ⟨[], ny m, none, rfl, rfl, rfl, rfl, rfl⟩
 have hr : rs = [] := by cases rs with
  | nil => rfl
  | cons => cases e2
 subst hr e5 e4
 rw [J4] at e1
 subst e3
 rw [<- e1] at run
 unfold fJ
 rw [gL]
 simp only [mi, List.replicate, aN, bc, bE, bV, au, ax, az, af, aX, aa, bO, fB, wy hm6, aR]
 rw [show eB [none, some 0] _ = [none, some W] from rfl, run]
 have l1 : ([D.non] : List D).length <= sizeLine := Ju (by simp) br
 simp only [ab, bH, NB, NC, aH, bo, az, aj, af, aa, cL, au, ax, aX, Jl l1]
 have ad : bf (.obj μ1.length) (.obj (μ1 ++ O.lst (((ny m).filter (i4 m ks)).map sD) :: s').length) (μ1 ++ O.lst (((ny m).filter (i4 m ks)).map sD) :: s' ++ [O.lst [.non]]) = .ok (.obj (μ1 ++ O.lst (((ny m).filter (i4 m ks)).map sD) :: s' ++ [O.lst [.non]]).length) ((μ1 ++ O.lst (((ny m).filter (i4 m ks)).map sD) :: s' ++ [O.lst [.non]]) ++ [O.lst (((ny m).filter (i4 m ks)).map sD ++ [.non])]) := by
  unfold bf
  dsimp only
  rw [ao, aC ao]
  dsimp only
  rw [Jl]
  rw [Kh]
  have := Nv (i4 m ks) (ny m)
  exact Ju (show _ <= 1000 by simp; omega) br
 rw [ad]
 simp only [aa]
 have ix : atI (((ny m).filter (i4 m ks)).map sD ++ [.non]) 0 = some (nz m ks) := by
  unfold nz ik
  rw [<- List.head?_filter]
  cases (ny m).filter (i4 m ks) with
  | nil => exact m7
  | cons a r => exact m7
 rw [fy ao ix]
 simp only [ab, aK, KQ]
 exact gJ (by unfold nz; split <;> simp)
end Lw
namespace Lv
theorem oU {ks : List (List Int)} : ∀ {w : List Int}, eU ks w = true ↔ ∀ i, i + 1 < w.length -> iR ks (w.getD i 0) (w.getD (i + 1) 0) = true
 | [] => by simp [eU]
 | [a] => by simp [eU]
 | a :: b :: r => by
  have ih := oU (ks := ks) (w := b :: r)
  rw [show eU ks (a :: b :: r) = (iR ks a b && eU ks (b :: r)) from rfl, KC, ih]
  constructor
  ·rintro ⟨h1, h2⟩ i hi
   cases i with
   | zero => exact h1
   | succ i => exact h2 i (by simpa using hi)
  ·intro h
   exact ⟨h 0 (by simp), fun i hi => h (i + 1) (by simpa using hi)⟩
theorem Dk {ks : List (List Int)} {w : List Int} (h : w ≠ []) : ((List.range w.length).all fun i => iR ks (if i = 0 then cc w else w.getD (i - 1) 0) (w.getD i 0)) = (iW ks w && eU ks w) := by
 apply J0.mpr
 rw [LV, KC, oU]
 have h0 : w.getD 0 0 = DR w := by cases w <;> rfl
 have pos : 0 < w.length := Ni.mpr h
 have cm : iR ks (cc w) (DR w) = iW ks w := by unfold iW iR; rw [Int.min_comm, Int.max_comm]
 constructor
 ·intro z
  refine ⟨?_, fun i hi => ?_⟩
  ·have := z 0 (Jt.mpr pos)
   rw [Jl rfl, h0, cm] at this
   exact this
  ·have := z (i + 1) (Jt.mpr hi)
   rw [Jm (by omega)] at this
   exact this
 ·rintro ⟨z1, z2⟩ i hi
  cases i with
  | zero => rw [Jl rfl, h0, cm]; exact z1
  | succ i => rw [Jm (by omega)]; exact z2 i (Jt.mp hi)
def lL (m : Nat) (ks : List (List Int)) (w : List Int) : Bool := decide (3 <= w.length) && (w.all (fun p => decide (0 <= p /\ p < (m : Int))) && (decide w.Nodup && (iW ks w && eU ks w)))
theorem AX {m : Nat} {ks : List (List Int)} {w : List Int} (h : 3 <= w.length) : (decide (w.length <= m) && decide (w ∈ bY m ks w.length)) = lL m ks w := by
 apply J0.mpr
 unfold lL bY
 simp only [KC, Nb, Js, rP, LV, h, true_and]
 constructor
 ·rintro ⟨_, ⟨hw, hl⟩, hc⟩
  exact ⟨hw.rng, hw.nd, hc, hl⟩
 ·rintro ⟨hr, hn, hc, hl⟩
  refine ⟨?_, ⟨⟨by omega, hn, hr⟩, hl⟩, hc⟩
  have := hn.length_le_of_subset (show w ⊆ rg m from fun p hp => jq.mpr (hr p hp))
  rw [mz] at this
  exact this
end Lv
namespace Lw
open PySem L2 RS Lv
theorem ye {w : List Int} : ij 0 (w.map D.int) = (List.range w.length).map fun i => .tup [.int (i : Nat), .int (w.getD i 0)] := by
 have gen : ∀ (w : List Int) (k : Nat), ij k (w.map D.int) = (List.range w.length).map fun i => .tup [.int ((k + i : Nat) : Int), .int (w.getD i 0)] := by
  intro w
  induction w with
  | nil => intro k; rfl
  | cons a r ih =>
   intro k
   rw [KF, K2, Lm, KF, Ln]
   show D.tup [.int (k : Nat), .int a] :: ij (k + 1) (r.map D.int) = _
   rw [ih (k + 1)]
   congr 1
   apply Lo
   intro i _
   show D.tup [.int _, .int _] = D.tup [.int _, .int _]
   congr 3
   simp only [Nat.succ_eq_add_one]
   omega
 have := gen w 0
 simp only [LQ] at this
 exact this
theorem lp : ∀ (l acc : List Int), acc.Nodup -> (l.foldl (fun acc k => if k ∈ acc then acc else acc ++ [k]) acc).length <= acc.length + l.length /\ ((l.foldl (fun acc k => if k ∈ acc then acc else acc ++ [k]) acc).length = acc.length + l.length -> (acc ++ l).Nodup)
 | [], acc, h => ⟨JV _, fun _ => by simpa using h⟩
 | y :: l, acc, h => by
  rw [KR]
  by_cases c : y ∈ acc
  ·rw [Jl c]
   have ih := (lp l acc h).1
   exact ⟨by rw [K2]; omega, fun e => by rw [K2] at e; omega⟩
  ·rw [Jm c]
   have ih := lp l (acc ++ [y]) (by rw [L4]; exact ⟨h, by simp, fun a ha b hb => by simp at hb; subst hb; exact fun e => c (e ▸ ha)⟩)
   rw [Kg, K2, Lq] at ih
   refine ⟨by rw [K2]; omega, fun e => ?_⟩
   rw [K2] at e
   have := ih.2 (by omega)
   rw [KQ] at this
   exact this
theorem yh {ns : List Int} : decide ((cS ns).length = ns.length) = decide ns.Nodup := by
 have d := jC ns [] LO
 have mem : ∀ x, x ∈ cS ns ↔ x ∈ ns := fun x => by rw [show cS ns = ns.foldl (fun acc k => if k ∈ acc then acc else acc ++ [k]) [] from rfl, d.2 x]; simp
 have nd : (cS ns).Nodup := d.1
 apply Ms.mpr
 constructor
 ·intro e
  have := (lp ns [] LO).2 (by rw [Lq, LQ]; exact e)
  simpa using this
 ·intro h
  exact ((LS nd h).mpr mem).length_eq
end Lw
namespace Lw
open PySem L2 RS Lv
theorem wR : ∀ xs : List D, (∃ ns : List Int, xs = ns.map D.int) \/ xs.all uU = false
 | [] => .inl ⟨[], rfl⟩
 | x :: xs => by
  cases x with
  | int i =>
   rcases wR xs with ⟨ns, e⟩ | h
   ·exact .inl ⟨i :: ns, by rw [e]; rfl⟩
   ·exact .inr (by rw [Nf, h]; rfl)
  | _ => exact .inr (by rw [Nf]; rfl)
theorem wW {m : Nat} : ∀ {xs : List D}, xs.all uU = false -> xs.all (yD m) = false
 | [], h => by cases h
 | x :: xs, h => by
  rw [Nf] at h ⊢
  cases x with
  | int i => rw [wW (by simpa [uU] using h), Ma]
  | _ => rfl
theorem AY {m : Nat} {ns : List Int} : (ns.map D.int).all (yD m) = ns.all fun p => decide (0 <= p /\ p < (m : Int)) := by
 rw [Ng]; rfl
structure qu (μ : aB) (d : D) : Prop where
 ok : pM μ d
 el : ∀ xs, d = .tup xs -> (∀ x ∈ xs, pM μ x) /\ xs.length <= 1000
theorem rZ {μ : aB} {m : Nat} {d : D} {x : D} (h : cK [.int m, d] μ = .ok (.bl false) μ) : de [.tup [.int m, x], d] μ = .ok (.bl false) μ := by
 unfold de
 rw [dB]
 simp only [kh, List.replicate, aN, bI, mC, jv, j7, aG, au, ax, az, af, aj, aX, aa, bO, h, gU, L9, Kq, ab, bo, gI, aK]
 exact bU (by simp)
theorem Hx {w : List Int} {i : Nat} (hi : i < w.length) : atI (w.map D.int) ((i : Int) - 1) = some (.int (if i = 0 then cc w else w.getD (i - 1) 0)) := by
 cases i with
 | zero =>
  have hn : w ≠ [] := fun e => by rw [e] at hi; simp at hi
  obtain ⟨v, p, rfl⟩ : ∃ v p, w = v ++ [p] := ⟨w.dropLast, w.getLast hn, (Nx hn).symm⟩
  rw [Jl rfl, oV]
  unfold atI uT
  simp only [LG, KF, KE, Kg, Kh, K2, Lq]
  rw [Jm (by omega), Jl (by omega)]
  rw [show (((0 : Nat) : Int) - 1 + ((v.length + (0 + 1) : Nat) : Int)).toNat = (v.map D.int).length from by rw [Kh]; omega]
  show (v.map D.int ++ [D.int p])[(v.map D.int).length]? = _
  rw [Kc (JV _), LP]
  rfl
 | succ i =>
  rw [Jm (by omega)]
  refine mH (by omega) ?_
  rw [show (((i + 1 : Nat) : Int) - 1).toNat = i from by omega, Ke, MN (by omega)]
  simp only [Option.map_some, Nat.add_sub_cancel]
  rw [Mt, MN (by omega)]
  rfl
theorem z9 {μ : aB} {m : Nat} {ks : List (List Int)} {w : List Int} (h : bT (.tup [.int m, .tup (ks.map av)]) m ks) (hl : w.length <= 1000) : de [.tup [.int m, .tup (ks.map av)], bj w] μ = .ok (.bl (lL m ks w)) μ := by
 have hk := h.2.2.2.2
 have hm6 : m <= 6 := by have := h.2.2.1; omega
 have pl : cK [.int m, bj w] μ = .ok (.bl (w.all fun p => decide (0 <= p /\ p < (m : Int)))) μ := by
  rw [show bj w = .tup (w.map D.int) from rfl, oO (fun x hx => by obtain ⟨i, _, rfl⟩ := Ly.mp hx; exact nofun) (by rw [Kh]; exact hl), AY]
 cases ha : w.all fun p => decide (0 <= p /\ p < (m : Int)) with
 | false =>
  rw [ha] at pl
  rw [rZ pl]
  unfold lL
  rw [ha, JS, Ma]
 | true =>
  rw [ha] at pl
  have rng : ∀ p ∈ w, 0 <= p /\ p < (m : Int) := fun p hp => Ny (LV.mp ha p hp)
  unfold de
  rw [dB]
  simp only [kh, List.replicate, aN, bI, mC, jv, j7, aG, au, ax, az, af, aj, aX, aa, bO, pl, gU, LX, K1, Ko, bR, jw, Kh, dE, aW]
  by_cases c3 : 3 <= w.length
  ·rw [show cY .Lt (w.length : Int) 3 = false from Ji (by omega)]
   have hne : w ≠ [] := fun e => by rw [e] at c3; simp at c3
   have st : lb [bj w] μ = .ok (.obj μ.length) (μ ++ [O.iset (cS w)]) := by
    unfold lb
    dsimp only
    unfold m3
    rw [show kQ (w.map D.int) = none from by cases w with
     | nil => exact absurd rfl hne
     | cons a r => rfl, wU (fun n hn => by have := rng n hn; omega)]
   simp only [K1, Ko, st, aa]
   rw [De ao]
   simp only [aa, dQ, Kq, aW, ab]
   rw [show (((cS w).length : Int) == (w.length : Int)) = decide w.Nodup from by
    rw [<- yh]
    apply J0.mpr
    rw [beq_iff_eq, Nb]
    omega]
   by_cases nd : w.Nodup
   ·rw [KY nd]
    have c := eF (U := Nat) (en := fun i => .tup [.int (i : Nat), .int (w.getD i 0)]) (src := .fix (ij 0 (w.map D.int))) (g := gQ 2 (bF (ag 0) (bF (ag 1) gR))) (t := bw) (e := iX) (μ1 := μ ++ [O.iset (cS w)]) (q := fun _ => true) (h := fun i => .bl (iR ks (if i = 0 then cc w else w.getD (i - 1) 0) (w.getD i 0)))
     (fun ρ => ∃ a b, ρ = [a, b, some (.tup [.int m, .tup (ks.map av)]), some (bj w)]) (fun _ => trivial) (us := List.range w.length) (acc := []) (ρ := [none, none, some (.tup [.int m, .tup (ks.map av)]), some (bj w)]) ⟨_, _, rfl⟩
     (by rw [Lq, Lp]; exact Ju (by omega) br)
     (fun i hi a ρ hJJ => by
      obtain ⟨x, y, e⟩ := hJJ
      subst e
      refine ⟨[some (.int (i : Nat)), some (.int (w.getD i 0)), some (.tup [.int m, .tup (ks.map av)]), some (bj w)], ⟨_, _, rfl⟩, rfl, rfl, fun _ => ?_⟩
      unfold iX
      simp only [aG, au, ax, az, aj, af, aX, aa]
      rw [show iH (.int (i : Nat)) (.int 1) _ = .ok (.int ((i : Int) - 1)) _ from rfl]
      simp only [aa]
      rw [mD (Hx (Jt.mp hi))]
      simp only [aa, BN hk])
    rw [gC, KW, <- ye] at c
    simp only [LX, K1, Ko, cF, aH, bo, aG, au, ax, bE, bV, aj, af, aa]
    rw [show tG [bj w] (μ ++ [O.iset (cS w)]) = .ok (.fix (ij 0 (w.map D.int))) (μ ++ [O.iset (cS w)]) from rfl]
    simp only [aa, aR]
    rw [show eB [none, none, some 0, some 1] _ = [none, none, some (.tup [.int m, .tup (ks.map av)]), some (bj w)] from rfl, c]
    simp only [aa]
    rw [nM (bs := (List.range w.length).map fun i => iR ks (if i = 0 then cc w else w.getD (i - 1) 0) (w.getD i 0)) (by rw [ao, Ln]; rfl)]
    simp only [ab, aK]
    rw [show ((List.range w.length).map fun i => iR ks (if i = 0 then cc w else w.getD (i - 1) 0) (w.getD i 0)).all id = (iW ks w && eU ks w) from by rw [Ng, <- Dk hne]; rfl]
    unfold lL
    rw [KY c3, ha, KY nd, NI, NI, NI, KQ]
    exact gJ (by simp)
   ·rw [Ji nd]
    simp only [L9, Kq, bo, aX, ab, gI, aK]
    unfold lL
    rw [Ji nd, JS, Ma, Ma]
    exact gJ (by simp)
  ·rw [show cY .Lt (w.length : Int) 3 = true from KY (by omega)]
   simp only [Kq, ab, bo, aX, gI, aK]
   unfold lL
   rw [Ji c3, JS]
   exact bU (by simp)
theorem FP {μ : aB} {t : Nat} {rs : List (List Int)} {w : List Int} (h : μ[t]? = some (.lst (rs.map bj))) : pN false (bj w) (.obj t) μ = .ok (.bl (decide (w ∈ rs))) μ := by
 have e : kN μ (bj w) = some (nv w) := by simp only [kN, i9, Option.map_some]; rfl
 have f : dN (nv w) = true := by
  have := iq w
  simp only [nv, dN, PyData.canLay0, this.1, PyData.depth, this.2, NI]
  rfl
 have eqt : ∀ u v : List Int, PyData.eqv (nv u) (nv v) = decide (u = v) := by
  intro u
  induction u with
  | nil => intro v; cases v <;> simp [nv, PyData.eqv, PyData.eqvAll]
  | cons a u ih =>
   intro v
   cases v with
   | nil => simp [nv, PyData.eqv, PyData.eqvAll]
   | cons b v =>
    have := ih v
    simp only [nv, PyData.eqv] at this
    simp only [nv, KF, PyData.eqv, PyData.eqvAll, this]
    apply J0.mpr
    simp
 unfold pN
 rw [e, oF h]
 dsimp only [oj]
 rw [Jl ⟨f, rR⟩]
 simp only [K1, Ko]
 congr 2
 rw [NJ]
 apply J0.mpr
 rw [NK, Nb]
 constructor
 ·rintro ⟨x, hx, e⟩
  have e' := e
  simp only [Function.comp] at e'
  rw [eqt, Nb] at e'
  subst e'; exact hx
 ·intro hx
  exact ⟨w, hx, by simp only [Function.comp]; rw [eqt]; exact KY rfl⟩
theorem wH {μ : aB} {xs : List D} (h : ∀ x ∈ xs, pM μ x) (hl : xs.length <= 1000) : compLoop (.fix xs) μ.length (ag 0) bw gu xs [none] (μ ++ [.lst []]) = .ok (.obj μ.length) (μ ++ [.lst ((xs.map uU).map D.bl)]) := by
 have c := eF (U := D) (en := fun x => x) (src := .fix xs) (g := ag 0) (t := bw) (e := gu) (μ1 := μ) (q := fun _ => true) (h := fun x => .bl (uU x)) (fun ρ => ∃ o, ρ = [o]) (fun _ => trivial) (us := xs) (acc := []) (ρ := [none]) ⟨_, rfl⟩
  (by rw [Lq]; exact Ju (by omega) br)
  (fun x hx a ρ hJJ => by
   obtain ⟨o, e⟩ := hJJ
   subst e
   refine ⟨[some x], ⟨_, rfl⟩, rfl, rfl, fun _ => ?_⟩
   unfold gu
   simp only [aG, au, ax, af, aa, xu (t8 (h x hx))])
 rw [List.map_id', KW, gC] at c
 rw [c, Ln]
 rfl
theorem xy {μ : aB} {m : Nat} {ks : List (List Int)} {w : List Int} (h : bT (.tup [.int m, .tup (ks.map av)]) m ks) (hl : w.length <= 1000) : cq [.tup [.int m, .tup (ks.map av)], bj w] μ = .ok (.bl (lL m ks w)) μ := by
 have hm6 : m <= 6 := by have := h.2.2.1; omega
 have lc := wH (μ := μ) (xs := w.map D.int) (fun x hx => by obtain ⟨i, _, rfl⟩ := Ly.mp hx; exact nofun) (by rw [Kh]; exact hl)
 have ai : ((w.map D.int).map uU).all id = true := by
  rw [Ng, Ng]
  exact LV.mpr fun _ _ => rfl
 unfold cq
 rw [dB]
 simp only [iQ, List.replicate, aN, bI, mC, jv, j7, gS, aG, au, ax, az, af, aj, aX, aa]
 rw [show jn "tuple" (bj w) μ = .ok (.bl true) μ from rfl]
 simp only [aa, gU, LX, K1, Ko, bR, az, aG, au, ax, af, aj, aX, jw, Kh, dE, aW]
 by_cases c3 : 3 <= w.length
 ·rw [show cY .Lt (w.length : Int) 3 = false from Ji (by omega)]
  simp only [K1, Ko, bE, cy, aj, af, aa, ju, aR]
  rw [show eB [none] _ = [none] from rfl, lc]
  simp only [aa]
  rw [nM ao, ai]
  simp only [aa, gU, LX, ab, K1, Ko, cF, aH, bo, ku, az, aG, au, ax, af, aj, aX, jw, Kh, bO, dE, aW]
  rw [<- AX c3]
  by_cases cm : w.length <= m
  ·rw [show cY .LtE (w.length : Int) (m : Int) = true from KY (by omega), KY cm]
   obtain ⟨t, g, e1, e2, e3⟩ := kA (μ := μ ++ [.lst (((w.map D.int).map uU).map D.bl)]) h (show 1 <= w.length by omega) (by omega)
   simp only [Kq, e1, aa]
   rw [FP e2]
   simp only [ab, aK, NI]
   rw [KQ]
   exact gJ (by simp)
  ·rw [show cY .LtE (w.length : Int) (m : Int) = false from Ji (by omega), Ji cm]
   simp only [K1, Ko, ab, aK, JS]
   exact gJ (by simp)
 ·rw [show cY .Lt (w.length : Int) 3 = true from KY (by omega)]
  simp only [Kq, ab, bo, aX, gI, aK]
  unfold lL
  rw [Ji c3, JS]
  exact bU (by simp)
theorem xZ {μ : aB} {W d : D} (h : pM μ d) (hn : Gh d = false) : cq [W, d] μ = .ok (.bl false) μ := by
 unfold cq
 rw [dB]
 simp only [iQ, List.replicate, aN, bI, mC, jv, j7, gS, af, aj, aa, wN h, hn, gU, L9, Kq, ab, bo, aX, gI, aK]
 exact bU (by simp)
theorem x5 {μ : aB} {W : D} {xs : List D} (h : ∀ x ∈ xs, pM μ x) (hl : xs.length <= 1000) (hn : xs.all uU = false) : cq [W, .tup xs] μ = .ok (.bl false) μ := by
 unfold cq
 rw [dB]
 simp only [iQ, List.replicate, aN, bI, mC, jv, j7, gS, af, aj, aa]
 rw [show jn "tuple" (.tup xs) μ = .ok (.bl true) μ from rfl]
 simp only [aa, gU, LX, K1, Ko, bR, az, aG, au, ax, af, aj, aX, jw, dE, aW]
 cases cY .Lt (xs.length : Int) 3 with
 | true =>
  simp only [Kq, ab, bo, aX, gI, aK]
  exact bU (by simp)
 | false =>
  simp only [K1, Ko, bE, cy, aj, af, aa, ju, aR]
  rw [show eB [none] _ = [none] from rfl, wH h hl]
  simp only [aa]
  rw [nM ao, show (xs.map uU).all id = false from by rw [Ng]; exact hn]
  simp only [aa, gU, L9, ab, Kq, bo, aX, gI, aK]
  exact gJ (by simp)
theorem BP {μ : aB} {m : Nat} {ks : List (List Int)} {d : D} (h : bT (.tup [.int m, .tup (ks.map av)]) m ks) (hd : qu μ d) : ∃ b, de [.tup [.int m, .tup (ks.map av)], d] μ = .ok (.bl b) μ /\ cq [.tup [.int m, .tup (ks.map av)], d] μ = .ok (.bl b) μ := by
 by_cases hT : Gh d = true
 ·cases d with
  | tup xs =>
   obtain ⟨h1, h2⟩ := hd.el xs rfl
   rcases wR xs with ⟨ns, rfl⟩ | hn
   ·rw [Kh] at h2
    exact ⟨_, z9 h h2, xy h h2⟩
   ·refine ⟨false, rZ ?_, x5 h1 h2 hn⟩
    rw [oO h1 h2, wW hn]
  | _ => cases hT
 ·have hT' : Gh d = false := by simpa using hT
  exact ⟨false, rZ (vq hd.ok hT'), xZ hd.ok hT'⟩
def Gb (d : D) : Prop := ∀ n, d ≠ .obj n
theorem zD {μ : aB} {d : D} (h : Gb d) : pM μ d := by
 cases d with
 | obj n => exact absurd rfl (h n)
 | _ => exact nofun
def Pu (d : D) : Prop := Gb d /\ ∀ xs, d = .tup xs -> (∀ x ∈ xs, Gb x) /\ xs.length <= 1000
theorem Pu.thing {μ : aB} {d : D} (h : Pu d) : qu μ d := ⟨zD h.1, fun xs e => ⟨fun x hx => zD ((h.2 xs e).1 x hx), (h.2 xs e).2⟩⟩
theorem vH {μ : aB} {t : Nat} {xs : List D} (h : μ[t]? = some (.lst xs)) : qu μ (.obj t) := ⟨by unfold pM Bf; simp [h], nofun⟩
def Tu (n : Nat) (xs : List D) : Prop := (∀ x ∈ xs, Gb x) /\ xs.length <= n
theorem Tu.pu {n : Nat} {xs : List D} (h : Tu n xs) (hn : n <= 1000) : Pu (.tup xs) := ⟨nofun, fun ys e => by cases e; exact ⟨h.1, Ju h.2 hn⟩⟩
theorem kx {β : Type} {xs : List β} {lo hi : Option Int} : (∀ x ∈ gb xs lo hi, x ∈ xs) /\ (gb xs lo hi).length <= xs.length := by
 unfold gb
 refine ⟨fun x hx => LM (LL hx), ?_⟩
 rw [Ka, Kt]
 omega
theorem Tu.cut {n : Nat} {xs : List D} {lo hi : Option Int} (h : Tu n xs) : Tu n (gb xs lo hi) := ⟨fun x hx => h.1 x (kx.1 x hx), Ju kx.2 h.2⟩
theorem Tu.app {n k : Nat} {xs ys : List D} (h : Tu n xs) (g : Tu k ys) : Tu (n + k) (xs ++ ys) := ⟨fun x hx => by rcases JB.mp hx with z | z; exact h.1 x z; exact g.1 x z, by rw [Kg]; have := h.2; have := g.2; omega⟩
theorem Tu.one {x : D} (h : Gb x) : Tu 1 [x] := ⟨fun y hy => by simp at hy; subst hy; exact h, JV _⟩
theorem Tu.ints {w : List Int} {n : Nat} (h : w.length <= n) : Tu n (w.map D.int) := ⟨fun x hx => by obtain ⟨i, _, rfl⟩ := Ly.mp hx; exact nofun, by rw [Kh]; exact h⟩
theorem mI {μ : aB} {n k : Nat} {xs ys : List D} (h : Tu n xs) (g : Tu k ys) (hn : n + k <= 1000) : bf (.tup xs) (.tup ys) μ = .ok (.tup (xs ++ ys)) μ := by
 unfold bf
 dsimp only
 rw [Jl]
 have := h.2; have := g.2
 exact Ju (by omega) br
theorem zN {μ : aB} {a b : Nat} {xs ys : List D} (h : μ[a]? = some (.lst xs)) (g : μ[b]? = some (.lst ys)) (hn : xs.length + ys.length <= 1000) : bf (.obj a) (.obj b) μ = .ok (.obj μ.length) (μ ++ [.lst (xs ++ ys)]) := by
 unfold bf
 dsimp only
 rw [h, g]
 dsimp only
 rw [Jl (Ju hn br)]
theorem xc {xs : List D} {r : Int} (h0 : 0 <= r) (h1 : r < xs.length) : ∃ d, atI xs r = some d /\ d ∈ xs := by
 have : r.toNat < xs.length := by omega
 exact ⟨xs[r.toNat], mH h0 (MN this), MM this⟩
theorem yG {n : Nat} {xs : List D} (h : xs.length = n) (hn : n <= 1000 := by decide) : xs.length <= sizeLine := by rw [h]; exact Ju hn br
def GI (μ : aB) (n : Nat) (d : D) : Prop := Pu d \/ ∃ t xs, d = .obj t /\ n <= t /\ μ[t]? = some (.lst xs)
theorem BS {μ : aB} {i m : Nat} {a b c : Int} {w : List Int} (hp : μ[i]? = some (aP a b c)) (hw : w.length <= 6) (m0 : 1 <= m) (m1 : m <= 6) : ∃ d a' b' c' g, fv [bj w, .int m, .obj i] μ = .ok d (μ.set i (aP a' b' c') ++ g) /\ GI (μ.set i (aP a' b' c') ++ g) μ.length d := by
 have hi : i < μ.length := (JD.mp hp).1
 have P0 : Pn μ i μ := Pn.self hp
 obtain ⟨s, a1, b1, c1, s0, s1, es, P1⟩ := P0.draw (m := (w.length : Int) + 1) hi (by omega) (by omega)
 generalize hM1 : μ.set i (aP a1 b1 c1) = M1 at es P1
 obtain ⟨u, a2, b2, c2, u0, u1, eu, P2⟩ := P1.draw (m := (m : Int)) hi (by omega) (by omega)
 generalize hM2 : M1.set i (aP a2 b2 c2) = M2 at eu P2
 let L7 : List D := [.int u, .int m, .int (-1), .bl true, .non, .str "0", .tup [.int 0]]
 obtain ⟨v, a3, b3, c3, v0, v1, ev, P3⟩ := (P2.app (g := [O.lst L7])).draw (m := 7) hi (by decide) (by decide)
 generalize hM3 : (M2 ++ [O.lst L7]).set i (aP a3 b3 c3) = M3 at ev P3
 have g7 : M3[M2.length]? = some (.lst L7) := by
  rw [<- hM3]
  exact dR ao (by have := P2.len; omega)
 obtain ⟨odd, eo, ho⟩ := xc (xs := L7) v0 (by simpa [L7] using v1)
 have no : Gb odd := by
  simp only [L7, Jz, Lj, Lk] at ho
  rcases ho with rfl | rfl | rfl | rfl | rfl | rfl | rfl <;> exact nofun
 have tw : Tu 6 (w.map D.int) := Tu.ints hw
 have t1 : Tu 1 [odd] := Tu.one no
 let x1 := gb (w.map D.int) none (some s)
 let x2 := gb (w.map D.int) (some (s + 1)) none
 let x3 := gb (w.map D.int) (some s) none
 let x4 := gb (w.map D.int) none (some 1)
 have q1 : Tu 6 x1 := tw.cut
 have q2 : Tu 6 x2 := tw.cut
 have q3 : Tu 6 x3 := tw.cut
 have q4 : Tu 6 x4 := tw.cut
 have f1 : ∀ μ, bf (.tup x1) (.tup [odd]) μ = .ok (.tup (x1 ++ [odd])) μ := fun μ => mI q1 t1 (by decide)
 have f2 : ∀ μ, bf (.tup (x1 ++ [odd])) (.tup x2) μ = .ok (.tup (x1 ++ [odd] ++ x2)) μ := fun μ => mI (q1.app t1) q2 (by decide)
 have f3 : ∀ μ, bf (.tup (x1 ++ [odd])) (.tup x3) μ = .ok (.tup (x1 ++ [odd] ++ x3)) μ := fun μ => mI (q1.app t1) q3 (by decide)
 have f4 : ∀ μ, bf (.tup x1) (.tup x2) μ = .ok (.tup (x1 ++ x2)) μ := fun μ => mI q1 q2 (by decide)
 have f5 : ∀ μ, bf (.tup x3) (.tup x1) μ = .ok (.tup (x3 ++ x1)) μ := fun μ => mI q3 q1 (by decide)
 have f6 : ∀ μ, bf (bj w) (.tup x4) μ = .ok (.tup (w.map D.int ++ x4)) μ := fun μ => mI tw q4 (by decide)
 have k1 : ∀ μ, sN (bj w) none (some s) μ = .ok (.tup x1) μ := fun μ => rfl
 have k2 : ∀ μ, sN (bj w) (some (s + 1)) none μ = .ok (.tup x2) μ := fun μ => rfl
 have k3 : ∀ μ, sN (bj w) (some s) none μ = .ok (.tup x3) μ := fun μ => rfl
 have k4 : ∀ μ, sN (bj w) none (some 1) μ = .ok (.tup x4) μ := fun μ => rfl
 have k5 : ∀ μ, yS (bj w) (.int (-1)) μ = .ok (.tup (w.map D.int).reverse) μ := fun μ => rfl
 have k6 : ∀ μ, tI [bj w] μ = .ok (.obj μ.length) (μ ++ [.lst (w.map D.int)]) := fun μ => rfl
 let L3 : List D := [.tup (x1 ++ [odd] ++ x2), .tup (x1 ++ [odd] ++ x3), .tup (x1 ++ x2)]
 let L5 : List D := [.tup (x3 ++ x1), .tup (w.map D.int).reverse, .obj (M3 ++ [O.lst L3]).length, .tup [bj w], .tup (w.map D.int ++ x4)]
 let M4 := M3 ++ [O.lst L3]
 let M5 := M4 ++ [O.lst (w.map D.int)] ++ [O.lst L5]
 let M6 := M5 ++ [O.lst (L3 ++ L5)]
 let M7 := M6 ++ [O.lst [.non, .int 0]]
 let M8 := M7 ++ [O.lst (L3 ++ L5 ++ [.non, .int 0])]
 have P8 : Pn μ i M8 := by
  show Pn μ i (M3 ++ [O.lst L3] ++ [O.lst (w.map D.int)] ++ [O.lst L5] ++ [O.lst (L3 ++ L5)] ++ [O.lst [.non, .int 0]] ++ [O.lst (L3 ++ L5 ++ [.non, .int 0])])
  exact (((((P3.app).app).app).app).app).app
 obtain ⟨z, a4, b4, c4, z0, z1, ez, P9⟩ := P8.draw (m := 10) hi (by decide) (by decide)
 obtain ⟨d, ed, hd⟩ := xc (xs := L3 ++ L5 ++ [.non, .int 0]) z0 (by simpa [L3, L5] using z1)
 have g3 : M3.length ≥ μ.length := P3.len
 have g10 : (M8.set i (aP a4 b4 c4))[M7.length]? = some (.lst (L3 ++ L5 ++ [.non, .int 0])) := by
  refine dR ao ?_
  have : μ.length <= M7.length := by
   show _ <= (M3 ++ [O.lst L3] ++ [O.lst (w.map D.int)] ++ [O.lst L5] ++ [O.lst (L3 ++ L5)] ++ [O.lst [.non, .int 0]]).length
   simp only [Kg]; omega
  omega
 have gW : (M8.set i (aP a4 b4 c4))[M4.length]? = some (.lst (w.map D.int)) := by
  refine dR ?_ ?_
  ·show (M4 ++ [O.lst (w.map D.int)] ++ [O.lst L5] ++ [O.lst (L3 ++ L5)] ++ [O.lst [.non, .int 0]] ++ [O.lst (L3 ++ L5 ++ [.non, .int 0])])[M4.length]? = _
   exact aC (aC (aC (aC ao)))
  ·have : μ.length <= M4.length := by show _ <= (M3 ++ [O.lst L3]).length; rw [Kg]; omega
   omega
 have hB : GI (M8.set i (aP a4 b4 c4)) μ.length d := by
  simp only [L3, L5, JB, Jz, Lj, Lk] at hd
  rcases hd with (((rfl | rfl | rfl) | (rfl | rfl | rfl | rfl | rfl)) | (rfl | rfl))
  ·exact .inl (((q1.app t1).app q2).pu (by decide))
  ·exact .inl (((q1.app t1).app q3).pu (by decide))
  ·exact .inl ((q1.app q2).pu (by decide))
  ·exact .inl ((q3.app q1).pu (by decide))
  ·exact .inl (Tu.pu (n := 6) ⟨fun x hx => tw.1 x (List.mem_reverse.mp hx), by rw [List.length_reverse]; exact tw.2⟩ (by decide))
  ·exact .inr ⟨M4.length, w.map D.int, rfl, by show _ <= (M3 ++ [O.lst L3]).length; rw [Kg]; omega, gW⟩
  ·exact .inl (Tu.pu (n := 1) (Tu.one nofun) (by decide))
  ·exact .inl ((tw.app q4).pu (by decide))
  ·exact .inl ⟨nofun, nofun⟩
  ·exact .inl ⟨nofun, nofun⟩
 have run : fv [bj w, .int m, .obj i] μ = qi μ (.ok d (M8.set i (aP a4 b4 c4))) := by
  unfold fv
  rw [vd]
  have n7 : L7.length <= sizeLine := yG (n := 7) rfl
  have n1 : ∀ x : D, ([x] : List D).length <= sizeLine := fun x => yG (n := 1) rfl
  have n3 : L3.length <= sizeLine := yG (n := 3) rfl
  have n5 : L5.length <= sizeLine := yG (n := 5) rfl
  have n2 : ([.non, .int 0] : List D).length <= sizeLine := yG (n := 2) rfl
  simp only [nu, List.replicate, aN, bc, aG, au, ax, af, aj, aX, az, jw, Kh, fB, aa, es, hM1, ab, bH, NB, NC, aH, cL, eu, hM2, gS, lj, bM, Jl (n1 _)]
  rw [Jl n7]
  simp only [aa]
  rw [show aL [.obj i, .int 7] (M2 ++ [O.lst L7]) = _ from ev]
  simp only [aa, hM3]
  rw [fy g7 eo]
  simp only [ab, bH, NB, NC, aH, aN, bc, cL, au, ax, az, tF, rM, ke, aj, af, aX, aa, oo, fB, k1, k2, k3, bM, Jl (n1 _), f1, f2, f3, f4]
  rw [Jl n3]
  simp only [ab, bH, NB, NC, aH, aN, bc, cL, au, ax, az, gS, lj, aG, tF, rM, ke, aj, af, aX, aa, oo, k1, k3, k4, k5, k6, f5, f6, bM, Jl (n1 _)]
  rw [Jl n5]
  simp only [aa]
  rw [show bf (.obj M3.length) (.obj (M4 ++ [O.lst (w.map D.int)]).length) M5 = .ok (.obj M5.length) M6 from zN (aC (aC ao)) ao (show (8 : Nat) <= 1000 by decide)]
  simp only [ab, bH, NB, NC, aH, bo, az, aj, af, aa, cL, au, ax, aX]
  rw [Jl n2]
  simp only [aa]
  rw [show bf (.obj M5.length) (.obj M6.length) M7 = .ok (.obj M7.length) M8 from zN (aC ao) ao (show (10 : Nat) <= 1000 by decide)]
  simp only [aa, aG, au, ax, aj, af, aX]
  rw [ez]
  simp only [aa]
  rw [fy g10 ed]
  simp only [ab, aK]
 obtain ⟨a', b', c', g', hP⟩ := P9
 have hl : (μ.set i (aP a' b' c')).length = μ.length := KJ
 rcases zH (μ := μ) (d := d) (μ' := M8.set i (aP a4 b4 c4)) with e | ⟨e, lo⟩
 ·exact ⟨d, a', b', c', g', by rw [run, e, hP], by rw [<- hP]; exact hB⟩
 ·refine ⟨d, a', b', c', [], by rw [run, e, hP, J4, Nk (by rw [hl]; exact JV _), <- hl, Mq], ?_⟩
  rcases hB with h | ⟨t, xs, rfl, h1, h2⟩
  ·exact .inl h
  ·simp at lo; omega
theorem xC {a : Int} (h0 : 0 <= a) (h1 : a < 7) : PyData.showable (.int a) = true /\ PyData.leavesShort 8 (.int a) = true /\ PyData.weight (.int a) <= 3 := by
 have : a = 0 \/ a = 1 \/ a = 2 \/ a = 3 \/ a = 4 \/ a = 5 \/ a = 6 := by omega
 rcases this with rfl | rfl | rfl | rfl | rfl | rfl | rfl <;> decide +kernel
theorem xU {d : PyData} (h1 : d.showable = true) (h2 : d.canLay0 = true) (h3 : d.depth <= 60) (h4 : d.leavesShort 8 = true) (h5 : d.weight <= 1000) : rK d = true := by
 have hs := PyData.shown_le 8 (JV _) d h4
 have hz : (10008 : Nat) <= sizeLine := by decide
 unfold rK
 rw [h1, PyData.hasDict_of_canLay d h2, KY h3, KY (show d.shown.length <= sizeLine by omega)]
 rfl
theorem IP {μ : aB} {neg : Bool} {x : Str} : u5 neg (.str x) (.str x) μ = .ok (.bl (!neg)) μ := by
 unfold u5
 dsimp only
 rw [KY rfl]
 cases neg <;> rfl
theorem BR {μ : aB} {ns : List Int} : ∃ x : Int, dX [.frz (ns.map D.int), .int 0] μ = .ok (.int x) μ := by
 unfold dX
 rw [dB]
 cases ns with
 | nil =>
  refine ⟨0, ?_⟩
  simp only [iB, KE, List.replicate, aN, bI, bR, az, aj, af, aG, au, ax, w8, Lq, aa, dE]
  rw [show cY .Lt 0 ((0 : Nat) : Int) = false from rfl]
  simp only [aW, ab, K1, Ko, cF, aH, bo, aX, aK]
  exact bU (by simp)
 | cons x r =>
  refine ⟨x, ?_⟩
  simp only [iB, KF, List.replicate, aN, bI, bR, az, aj, af, aG, au, ax, w8, K2, aa, dE]
  rw [show cY .Lt 0 (((r.map D.int).length + 1 : Nat) : Int) = true from KY (by omega)]
  simp only [aW, ab, Kq, bo, az, aj, af, aa]
  rw [FW m7]
  simp only [ab, gI, aK]
  exact bU (by simp)
theorem Da {d : D} {m : Int} {ks : List (List Int)} (h : bT d m ks) : ∃ n : Nat, m = (n : Int) /\ d = .tup [.int n, .tup (ks.map av)] /\ bT (.tup [.int n, .tup (ks.map av)]) n ks := by
 obtain ⟨n, rfl⟩ : ∃ n : Nat, m = (n : Int) := ⟨m.toNat, by have := h.2.1; omega⟩
 have hd := h.1
 subst hd
 exact ⟨n, rfl, rfl, h⟩
theorem qM : ∀ {w : List Int}, (∀ p ∈ w, 0 <= p /\ p < 7) -> PyData.showableAll (w.map PyData.int) = true /\ PyData.leavesShortAll 8 (w.map PyData.int) = true /\ PyData.weightAll (w.map PyData.int) <= 4 * w.length
 | [], _ => by simp [PyData.showableAll, PyData.leavesShortAll, PyData.weightAll]
 | a :: w, h => by
  have ih := qM fun x hx => h x (Jy _ hx)
  have ha := xC (a := a) (h a Jx).1 (h a Jx).2
  simp only [KF, PyData.showableAll, PyData.leavesShortAll, PyData.weightAll] at ih ha ⊢
  refine ⟨by simp only [ha.1, ih.1, L0], by simp only [ha.2.1, ih.2.1, L0], ?_⟩
  simp only [K2]
  omega
theorem Cc {μ : aB} {w : List Int} (h : ∀ p ∈ w, 0 <= p /\ p < 7) (hl : w.length <= 100) : il [bj w] μ = .ok (.str (nv w).shown) μ := by
 have e : kN μ (bj w) = some (nv w) := by simp only [kN, i9, Option.map_some]; rfl
 have s := qM h
 have l := iq w
 show tH [bj w] μ = _
 unfold tH
 dsimp only
 rw [e]
 dsimp only
 rw [Jl ⟨rfl, xU (by simp only [nv, PyData.showable]; exact s.1) (by simp only [nv, PyData.canLay0]; exact l.1) (by simp only [nv, PyData.depth, l.2]; decide) (by simp only [nv, PyData.leavesShort]; exact s.2.1) (by simp only [nv, PyData.weight]; have := s.2.2; omega)⟩]
theorem xJ {m : Nat} {ks : List (List Int)} (hm : m <= 6) : ∃ x, ∀ μ, il [pR m ks] μ = .ok (.str x) μ := by
 unfold pR
 cases e : cv m ks with
 | nil => exact ⟨_, fun μ => rfl⟩
 | cons y r =>
  have hy : y ∈ cv m ks := by rw [e]; exact Jx
  have : ∃ s, y ∈ bY m ks s /\ s <= 6 := by
   unfold cv at hy
   cases es : ik m ks with
   | none => rw [es] at hy; cases hy
   | some s => rw [es] at hy; exact ⟨s, hy, (lg hm (NQ es)).2⟩
  obtain ⟨s, hs, h6⟩ := this
  have Hw := eQ (Js.mp hs).1
  exact ⟨_, fun μ => Cc (fun p hp => by have := Hw.rng p hp; omega) (by rw [Hw.len]; omega)⟩
theorem Ar {m : Nat} {ks : List (List Int)} (hm : m <= 6) : ∃ x, ∀ μ, il [nz m ks] μ = .ok (.str x) μ := by
 unfold nz
 cases e : ik m ks with
 | none => exact ⟨_, fun μ => rfl⟩
 | some s =>
  have h6 := (lg hm (NQ e)).2
  refine ⟨(toString ((s : Nat) : Int) : String), fun μ => ?_⟩
  unfold il
  dsimp only
  rw [Jl]
  have : s = 0 \/ s = 1 \/ s = 2 \/ s = 3 \/ s = 4 \/ s = 5 \/ s = 6 := by omega
  rcases this with rfl | rfl | rfl | rfl | rfl | rfl | rfl <;> decide
theorem zt : 1000000 <= sizeLine := by decide
theorem ky {μ : aB} {a b : Nat} {xs ys : List D} (h : μ[a]? = some (.lst xs)) (g : μ[b]? = some (.lst ys)) (hn : xs.length + ys.length <= 1000000) : bf (.obj a) (.obj b) μ = .ok (.obj μ.length) (μ ++ [.lst (xs ++ ys)]) := by
 unfold bf
 dsimp only
 rw [h, g]
 dsimp only
 rw [Jl (Ju hn zt)]
theorem Dl {α β : Type} {f : α -> β} {xs : List α} {lo hi : Option Int} : gb (xs.map f) lo hi = (gb xs lo hi).map f := by
 unfold gb
 rw [Kh, LH, LI]
theorem Ds {μ : aB} {a : Nat} {xs : List (List Int)} {lo hi : Option Int} (h : μ[a]? = some (.lst (xs.map bj))) : sN (.obj a) lo hi μ = .ok (.obj μ.length) (μ ++ [.lst ((gb xs lo hi).map bj)]) := by
 unfold sN
 dsimp only
 rw [h]
 dsimp only
 rw [Dl]
theorem qB {m s : Nat} {ks : List (List Int)} (hm : m <= 6) (hs : s <= 6) : (bY m ks s).length <= 46656 := Ju (Nv _ _) (ir hm (show s - 1 <= 5 by omega))
theorem wz {m s : Nat} {ks : List (List Int)} {w : List Int} (hs : s <= 6) (h : w ∈ bY m ks s) : w.length <= 6 := by
 have := (eQ (Js.mp h).1).len
 omega
theorem xF {m : Nat} {ks : List (List Int)} (hm : m <= 6) : (cv m ks).length <= 46656 /\ ∀ w ∈ cv m ks, w.length <= 6 := by
 unfold cv
 cases e : ik m ks with
 | none => exact ⟨by simp, nofun⟩
 | some s =>
  have h6 := (lg hm (NQ e)).2
  exact ⟨qB hm h6, fun w hw => wz h6 hw⟩
theorem xW {M : aB} {m : Nat} {ks : List (List Int)} {t : Nat} {xs : List D} (h : bT (.tup [.int m, .tup (ks.map av)]) m ks) (ht : M[t]? = some (.lst xs)) (hx : ∀ x ∈ xs, qu M x) {o0 o1 o2 o4 o5 o6 o7 o8 o9 : Option D} :
  ∃ o8' o9', iF (.own t xs) (ag 8) lR xs [o0, o1, o2, some (.tup [.int m, .tup (ks.map av)]), o4, o5, o6, o7, o8, o9] M = .next [o0, o1, o2, some (.tup [.int m, .tup (ks.map av)]), o4, o5, o6, o7, o8', o9'] M := by
 obtain ⟨ρ', μ', ⟨o8', o9', e1, e2, e3⟩, run⟩ := d5 (src := .own t xs) (g := ag 8) (fb := lR)
  (fun ys ρ μ1 => ∃ o8 o9 : Option D, (∀ y ∈ ys, qu M y) /\ μ1 = M /\ ρ = [o0, o1, o2, some (.tup [.int m, .tup (ks.map av)]), o4, o5, o6, o7, o8, o9])
  (fun ρ μ1 ⟨_, _, _, e, _⟩ => by rw [e]; exact ht)
  (fun y ys ρ μ1 hJJ => by
   obtain ⟨o8, o9, e1, e2, e3⟩ := hJJ
   subst e2 e3
   obtain ⟨b, g1, g2⟩ := BP h (e1 y Jx)
   refine ⟨ht, _, μ1, [o0, o1, o2, some (.tup [.int m, .tup (ks.map av)]), o4, o5, o6, o7, some y, some (.bl b)], μ1, rfl, ?_, some y, some (.bl b), fun z hz => e1 z (Jy _ hz), rfl, rfl⟩
   show lR [o0, o1, o2, some (.tup [.int m, .tup (ks.map av)]), o4, o5, o6, o7, some y, o9] μ1 = _
   unfold lR
   simp only [aN, bc, aG, au, ax, aj, af, aa, g1, ab, bH, NB, NC, aH, bI, mC, jv, j7, gS]
   rw [show jn "bool" (.bl b) μ1 = .ok (.bl true) μ1 from rfl]
   simp only [aa, gU, LX, K1, Ko, bR, az, aG, au, ax, aj, af, g2, FX, Kq, K0, aW, ab, cF])
  (xs := xs) (ρ := [o0, o1, o2, some (.tup [.int m, .tup (ks.map av)]), o4, o5, o6, o7, o8, o9]) (μ := M) ⟨o8, o9, hx, rfl, rfl⟩
 subst e2 e3
 exact ⟨o8', o9', run⟩
theorem AQ {M : aB} {i m T : Nat} {a b c : Int} {ks ws : List (List Int)} (h : bT (.tup [.int m, .tup (ks.map av)]) m ks) (hp : M[i]? = some (aP a b c)) (hT : M[T]? = some (.lst (ws.map bj))) (hne : i ≠ T) (hw : ∀ w ∈ ws, w.length <= 6) (hl : ws.length <= 200000) :
  ∃ ys a' b' c' s, compLoop (.own T (ws.map bj)) M.length (ag 0) bw nQ (ws.map bj) [none, some (.obj i), some (.tup [.int m, .tup (ks.map av)])] (M ++ [.lst []]) = .ok (.obj M.length) (M.set i (aP a' b' c') ++ .lst ys :: s) /\ ys.length <= 200000 /\
   ∀ y ∈ ys, Pu y \/ ∃ j xs, y = .obj (M.length + 1 + j) /\ s[j]? = some (.lst xs) := by
 have hi : i < M.length := (JD.mp hp).1
 have m1 : m <= 6 := by have := h.2.2.1; omega
 have m0 : 1 <= m := by have := h.2.1; omega
 have hM : M = M.set i (aP a b c) := by
  apply Mu
  intro j
  by_cases e : i = j
  ·subst e; rw [js hi, hp]
  ·rw [JG e]
 obtain ⟨ys, ρ', μ1, s, ⟨rs, a', b', c', o, e1, e2, e3, e4, e5, e6⟩, run⟩ := gE (src := .own T (ws.map bj)) (g := ag 0) (t := bw) (e := nQ) (n := M.length)
  (fun xs ys ρ μ1 s => ∃ (rs : List (List Int)) (a b c : Int) (o : Option D), xs = rs.map bj /\ (∀ w ∈ rs, w.length <= 6) /\ μ1 = M.set i (aP a b c) /\ ys.length + rs.length <= 200000 /\ ρ = [o, some (.obj i), some (.tup [.int m, .tup (ks.map av)])] /\ ∀ y ∈ ys, Pu y \/ ∃ j xs, y = .obj (M.length + 1 + j) /\ s[j]? = some (.lst xs))
  (fun ys ρ μ1 s hJJ => by
   obtain ⟨_, _, _, _, _, _, _, e, _⟩ := hJJ
   rw [e]
   exact ⟨KJ, by show (_ ++ _)[T]? = _; exact aC (dR hT hne)⟩)
  (fun x r ys ρ μ1 s hJJ => by
   obtain ⟨rs, a, b, c, o, e1, e2, e3, e4, e5, e6⟩ := hJJ
   subst e3 e5
   cases rs with
   | nil => cases e1
   | cons w rs =>
    rw [KF] at e1
    injection e1 with h1 h2
    subst h1 h2
    have ln : (M.set i (aP a b c)).length = M.length := KJ
    have gp : (M.set i (aP a b c) ++ .lst ys :: s)[i]? = some (aP a b c) := aC (js hi)
    obtain ⟨d, a2, b2, c2, g, eb, hb⟩ := BS gp (e2 w Jx) m0 m1
    have st : (M.set i (aP a b c) ++ O.lst ys :: s).set i (aP a2 b2 c2) ++ g = M.set i (aP a2 b2 c2) ++ O.lst ys :: (s ++ g) := by
     rw [jr (by rw [ln]; exact hi), ND, KQ]; rfl
    rw [st] at eb hb
    simp only [K2] at e4
    refine ⟨ln, by show (_ ++ _)[T]? = _; exact aC (dR hT hne), [some (bj w), some (.obj i), some (.tup [.int m, .tup (ks.map av)])], M.set i (aP a b c), s, true, M.set i (aP a b c), s, rfl, rfl, fun _ => ⟨d, M.set i (aP a2 b2 c2), s ++ g, ?_, Jp (by omega) zt, KJ, rs, a2, b2, c2, some (bj w), rfl, fun v hv => e2 v (Jy _ hv), rfl, by simp; omega, rfl, ?_⟩, nofun⟩
    ·unfold nQ
     simp only [aG, au, ax, az, aj, af, aX, aa, bO]
     exact eb
    ·intro y hy
     rcases JB.mp hy with z | z
     ·rcases e6 y z with z | ⟨j, xs, z1, z2⟩
      ·exact .inl z
      ·exact .inr ⟨j, xs, z1, aC z2⟩
     ·simp at z
      subst z
      rcases hb with z | ⟨t, xs, z1, z2, z3⟩
      ·exact .inl z
      ·refine .inr ⟨t - M.length - 1, xs, ?_, ?_⟩
       ·rw [z1]; congr 1
        simp only [Kg, K2, ln] at z2
        omega
       ·simp only [Kg, K2, ln] at z2
        rw [Kc (by rw [KJ]; omega), KJ] at z3
        rw [show t - M.length = (t - M.length - 1) + 1 from by omega, MY] at z3
        exact z3)
  (xs := ws.map bj) (ys := []) (ρ := [none, some (.obj i), some (.tup [.int m, .tup (ks.map av)])]) (μ1 := M) (s := [])
  ⟨ws, a, b, c, none, rfl, hw, hM, by simpa using hl, rfl, nofun⟩
 subst e3
 exact ⟨ys, a', b', c', s, run, by omega, e6⟩
theorem AO {M : aB} {m : Nat} {ks : List (List Int)} (h : bT (.tup [.int m, .tup (ks.map av)]) m ks) {o0 o1 o2 o5 o6 o7 o8 o9 : Option D} :
  ∃ t g, Gd (gP (aw (pT true) (ah 4) (cC .non))) (aA bg (ae (ah 3) (ae (ah 4) (ay)))) (fY (ay)) [o0, o1, o2, some (.tup [.int m, .tup (ks.map av)]), some (nz m ks), o5, o6, o7, o8, o9] M = .ok (.obj t) (M ++ g) /\ (M ++ g)[t]? = some (.lst ((cv m ks).map bj)) /\ M.length <= t := by
 have hm6 : m <= 6 := by have := h.2.2.1; omega
 have l0 : ([] : List D).length <= sizeLine := Lb _
 simp only [DJ, bR, az, aj, af, aX, aa, rN, Kq, aW]
 unfold nz
 cases e : ik m ks with
 | none =>
  refine ⟨M.length, [.lst []], ?_, ?_, JV _⟩
  ·simp only [D.isNon, LX, K1, Ko, cL, ax, aa, Jl l0]
  ·rw [show cv m ks = [] from by unfold cv; rw [e]]; exact ao
 | some s =>
  have hs := lg hm6 (NQ e)
  obtain ⟨t, g, e1, e2, e3⟩ := kA (μ := M) h (show 1 <= s by omega) hs.2
  refine ⟨t, g, ?_, by rw [(oA e).1]; exact e2, e3⟩
  simp only [D.isNon, L9, Kq, aG, au, ax, aj, af, aa]
  exact e1
theorem Fz {M : aB} {i m : Nat} {a b c : Int} {ks : List (List Int)} (h : bT (.tup [.int m, .tup (ks.map av)]) m ks) (hp : M[i]? = some (aP a b c)) {o0 o1 o4 o5 o6 o7 o8 o9 : Option D} :
  ∃ o4' o5' o6' o7' o8' o9' M', kz [o0, o1, some (.obj i), some (.tup [.int m, .tup (ks.map av)]), o4, o5, o6, o7, o8, o9] M = .next [o0, o1, some (.obj i), some (.tup [.int m, .tup (ks.map av)]), o4', o5', o6', o7', o8', o9'] M' /\ Pn M i M' := by
 have hm6 : m <= 6 := by have := h.2.2.1; omega
 have hm1 : 1 <= m := by have := h.2.1; omega
 have hi : i < M.length := (JD.mp hp).1
 obtain ⟨x1, hx1⟩ := Ar (ks := ks) hm6
 obtain ⟨x2, hx2⟩ := xJ (ks := ks) hm6
 obtain ⟨R, g1, r1, r2, r3⟩ := AO (M := M) h (o0 := o0) (o1 := o1) (o2 := some (.obj i)) (o5 := o5) (o6 := o6) (o7 := o7) (o8 := o8) (o9 := o9)
 have P1 : Pn M i (M ++ g1) := (Pn.self hp).app
 generalize hM1 : M ++ g1 = M1 at r1 r2 P1
 have sl := xF (ks := ks) hm6
 let M2 := M1 ++ [O.lst [.non]] ++ [O.lst ((cv m ks).map bj ++ [.non])]
 have P2 : Pn M i M2 := (P1.app).app
 have l1 : ([.non] : List D).length <= sizeLine := yG (n := 1) rfl
 have ad1 : bf (.obj R) (.obj M1.length) (M1 ++ [O.lst [.non]]) = .ok (.obj (M1 ++ [O.lst [.non]]).length) M2 := ky (aC r2) ao (by rw [Kh]; have := sl.1; simp; omega)
 have ix1 : cO (.obj (M1 ++ [O.lst [.non]]).length) (.int 0) M2 = .ok (pR m ks) M2 := by
  refine fy ao ?_
  unfold pR
  cases cv m ks with
  | nil => exact m7
  | cons y r => exact m7
 have r2' : M2[R]? = some (.lst ((cv m ks).map bj)) := aC (aC r2)
 obtain ⟨G, g3, q1, q2, q3⟩ := kA (μ := M2) h hm1 hm6
 have P3 : Pn M i (M2 ++ g3) := P2.app
 have r2'' : (M2 ++ g3)[R]? = some (.lst ((cv m ks).map bj)) := aC r2'
 generalize hM3 : M2 ++ g3 = M3 at q1 q2 P3 r2''
 let y1 := gb (cv m ks) none (some 2)
 let y2 := gb (bY m ks m) (some (-2)) none
 have w1 : y1.length <= 46656 /\ ∀ w ∈ y1, w.length <= 6 := ⟨Ju kx.2 sl.1, fun w hw => sl.2 w (kx.1 w hw)⟩
 have w2 : y2.length <= 46656 /\ ∀ w ∈ y2, w.length <= 6 := ⟨Ju kx.2 (qB hm6 hm6), fun w hw => wz hm6 (kx.1 w hw)⟩
 let M4 := M3 ++ [O.lst (y1.map bj)] ++ [O.lst (y2.map bj)]
 let M5 := M4 ++ [O.lst (y1.map bj ++ y2.map bj)]
 have s1 : sN (.obj R) none (some 2) M3 = .ok (.obj M3.length) (M3 ++ [O.lst (y1.map bj)]) := Ds r2''
 have s2 : sN (.obj G) (some (-2)) none (M3 ++ [O.lst (y1.map bj)]) = .ok (.obj (M3 ++ [O.lst (y1.map bj)]).length) M4 := Ds (aC q2)
 have ad2 : bf (.obj M3.length) (.obj (M3 ++ [O.lst (y1.map bj)]).length) M4 = .ok (.obj M4.length) M5 := ky (aC ao) ao (by rw [Kh, Kh]; omega)
 have P5 : Pn M i M5 := ((P3.app).app).app
 obtain ⟨a5, b5, c5, hp5⟩ := P5.get hi
 obtain ⟨ns, a6, b6, c6, n1, n2, n3, en⟩ := tT (m := (m : Int)) hp5 (by omega) (by omega)
 have P6 : Pn M i (M5.set i (aP a6 b6 c6)) := P5.set hi
 have iM4 : i ≠ M4.length := by
  have : M.length <= M4.length := Pn.len (((P3.app).app : Pn M i M4))
  omega
 have g5 : (M5.set i (aP a6 b6 c6))[M4.length]? = some (.lst (y1.map bj ++ y2.map bj)) := dR ao iM4
 generalize hM6 : M5.set i (aP a6 b6 c6) = M6 at en P6 g5
 let ws := y1 ++ y2 ++ [ns, [0, 1, 2]]
 let M7 := M6 ++ [O.lst [bj ns, bj [0, 1, 2]]]
 let M8 := M7 ++ [O.lst (ws.map bj)]
 have l2' : ([bj ns, bj [0, 1, 2]] : List D).length <= sizeLine := yG (n := 2) rfl
 have l3' : ([.int 0, .int 1, .int 2] : List D).length <= sizeLine := yG (n := 3) rfl
 have ad3 : bf (.obj M4.length) (.obj M6.length) M7 = .ok (.obj M7.length) M8 := by
  have := ky (μ := M7) (aC g5) ao (show (y1.map bj ++ y2.map bj).length + ([bj ns, bj [0, 1, 2]] : List D).length <= 1000000 by rw [Kg, Kh, Kh]; simp only [K2, Lq]; omega)
  have ewq : (y1.map bj ++ y2.map bj) ++ [bj ns, bj [0, 1, 2]] = ws.map bj := by
   simp only [ws, LG]
   rfl
  rw [ewq] at this
  exact this
 have P8 : Pn M i M8 := (P6.app).app
 have hws : ∀ w ∈ ws, w.length <= 6 := fun w hw => by
  simp only [ws, JB, Jz, Lj, Lk] at hw
  rcases hw with (z | z) | rfl | rfl
  ·exact w1.2 w z
  ·exact w2.2 w z
  ·omega
  ·decide
 have hwl : ws.length <= 200000 := by
  simp only [ws, Kg, K2, Lq]; omega
 have iM7 : i ≠ M7.length := by
  have : M.length <= M7.length := Pn.len (P6.app : Pn M i M7)
  omega
 have gT : M8[M7.length]? = some (.lst (ws.map bj)) := ao
 obtain ⟨a8, b8, c8, hp8⟩ := P8.get hi
 obtain ⟨ys, a9, b9, c9, s, cb, yl, hy⟩ := AQ h hp8 gT iM7 hws hwl
 have l8 : (M8.set i (aP a9 b9 c9)).length = M8.length := KJ
 let M9 := M8.set i (aP a9 b9 c9) ++ O.lst ys :: s
 have P9 : Pn M i M9 := by
  show Pn M i (M8.set i (aP a9 b9 c9) ++ O.lst ys :: s)
  exact (P8.set hi).app
 have gT9 : M9[M7.length]? = some (.lst (ws.map bj)) := aC (dR gT iM7)
 have gY9 : M9[M8.length]? = some (.lst ys) := by
  show (M8.set i (aP a9 b9 c9) ++ O.lst ys :: s)[M8.length]? = _
  rw [<- l8]; exact ao
 let MA := M9 ++ [O.lst (ws.map bj ++ ys)]
 have ad4 : bf (.obj M7.length) (.obj M8.length) M9 = .ok (.obj M9.length) MA := ky gT9 gY9 (by rw [Kh]; omega)
 let MB := MA ++ [O.dic]
 let MC := MB ++ [O.lst [.tup [], .obj MA.length]]
 let zs : List D := ws.map bj ++ ys ++ [.tup [], .obj MA.length]
 let MD := MC ++ [O.lst zs]
 have l4' : ([.tup [], .obj MA.length] : List D).length <= sizeLine := yG (n := 2) rfl
 have l0 : ([] : List D).length <= sizeLine := Lb _
 have ad5 : bf (.obj M9.length) (.obj MB.length) MC = .ok (.obj MC.length) MD := ky (aC (aC ao)) ao (by rw [Kg, Kh]; simp only [K2, Lq]; omega)
 have PD : Pn M i MD := ((((P9.app).app).app).app)
 have gD : MD[MC.length]? = some (.lst zs) := ao
 have hz : ∀ z ∈ zs, qu MD z := fun z hz => by
  simp only [zs, JB, Jz, Lj, Lk] at hz
  rcases hz with (z1 | z1) | rfl | rfl
  ·obtain ⟨w, hw, rfl⟩ := Ly.mp z1
   exact (Tu.pu (Tu.ints (hws w hw)) (by decide)).thing
  ·rcases hy z z1 with q | ⟨j, xs, rfl, q⟩
   ·exact q.thing
   ·refine vH (xs := xs) ?_
    show (M9 ++ [O.lst (ws.map bj ++ ys)] ++ [O.dic] ++ [O.lst [.tup [], .obj MA.length]] ++ [O.lst zs])[_]? = _
    refine aC (aC (aC (aC ?_)))
    show (M8.set i (aP a9 b9 c9) ++ O.lst ys :: s)[_]? = _
    rw [Kc (by rw [l8]; omega), l8, show M8.length + 1 + j - M8.length = j + 1 from by omega, MY]
    exact q
  ·exact (Tu.pu (n := 0) (xs := []) ⟨fun x hx => absurd hx Lj, JV _⟩ (by decide)).thing
  ·refine ⟨?_, nofun⟩
   have : MD[MA.length]? = some .dic := by
    show (MA ++ [O.dic] ++ [O.lst [.tup [], .obj MA.length]] ++ [O.lst zs])[MA.length]? = _
    exact aC (aC ao)
   unfold pM Bf
   simp [this]
 obtain ⟨o8', o9', run⟩ := xW h gD hz (o0 := o0) (o1 := o1) (o2 := some (.obj i)) (o4 := some (nz m ks)) (o5 := some (.obj R)) (o6 := some (.obj G)) (o7 := some (.obj M7.length)) (o8 := o8) (o9 := o9)
 refine ⟨some (nz m ks), some (.obj R), some (.obj G), some (.obj M7.length), o8', o9', MD, ?_, PD⟩
 unfold kz
 simp only [aN, bc, aG, au, ax, aj, af, aa, xv h, ab, bH, NB, NC, aH, bI, bR, az, z8 h, hx1, IP, LX, aW, K1, Ko, cF]
 rw [r1]
 simp only [aN, bI, bR, az, aG, ab, bH, NB, NC, aH, aj, af, aa, tU h, hx2, cL, au, ax, aX, Jl l1, ad1]
 rw [ix1]
 simp only [aN, bc, az, aG, au, ax, aa, hx2, IP, LX, aW, ab, K1, Ko, cF, aH, aj, af, aX, bO]
 rw [q1]
 simp only [ab, aH, bH, NB, NC, aN, bc, az, tF, rM, ke, gS, lj, oo, aj, af, aX, aa, s1]
 rw [s2]
 simp only [aa]
 rw [ad2]
 simp only [aa, cL, au, ax, aG, aj, af, az, aX, bO, en, bM, Jl l3']
 rw [Jl (show ([D.tup (List.map D.int ns), D.tup [D.int 0, D.int 1, D.int 2]] : List D).length <= sizeLine from l2')]
 simp only [aa]
 rw [show bf (.obj M4.length) (.obj M6.length) (M6 ++ [O.lst [D.tup (List.map D.int ns), D.tup [.int 0, .int 1, .int 2]]]) = _ from ad3]
 simp only [ab, bH, NB, NC, aH, fA, cy, az, aj, af, aa, bE]
 rw [eR gT]
 simp only [aa, cA]
 rw [show eB [none, some 2, some 3] _ = [none, some (.obj i), some (.tup [.int m, .tup (ks.map av)])] from rfl, cb]
 simp only [aa]
 rw [ad4]
 simp only [aa, cL, au, ax, bM, Jl l0, FY]
 rw [Jl l4']
 simp only [aa]
 rw [ad5]
 simp only [aa]
 rw [eR gD]
 simp only [ab, cA]
 exact run
theorem CZ {M : aB} {i : Nat} {a b c m : Int} {d : D} {ks : List (List Int)} (h : bT d m ks) (hp : M[i]? = some (aP a b c)) {o0 o1 o4 o5 o6 o7 o8 o9 : Option D} :
  ∃ o4' o5' o6' o7' o8' o9' M', kz [o0, o1, some (.obj i), some d, o4, o5, o6, o7, o8, o9] M = .next [o0, o1, some (.obj i), some d, o4', o5', o6', o7', o8', o9'] M' /\ Pn M i M' := by
 obtain ⟨n, rfl, rfl, h'⟩ := Da h
 exact Fz h' hp
theorem Pn.trans {M0 M1 M2 : aB} {i : Nat} (hi : i < M0.length) (h : Pn M0 i M1) (k : Pn M1 i M2) : Pn M0 i M2 := by
 obtain ⟨a, b, c, g, rfl⟩ := h
 obtain ⟨a', b', c', g', rfl⟩ := k
 exact ⟨a', b', c', g ++ g', by rw [jr (by simpa using hi), ND, KQ]⟩
theorem C0 {M : aB} {x : Int} {o0 o2 o3 o4 o5 o6 o7 o8 o9 : Option D} : ∃ o2' o3' o4' o5' o6' o7' o8' o9' g, nP [o0, some (.int x), o2, o3, o4, o5, o6, o7, o8, o9] M = .next [o0, some (.int x), o2', o3', o4', o5', o6', o7', o8', o9'] (M ++ g) := by
 obtain ⟨a, b, c, ep⟩ := Es (μ := M) x
 have hp : (M ++ [aP a b c])[M.length]? = some (aP a b c) := ao
 obtain ⟨d, m, ks, a', b', c', g, ew⟩ := zX hp
 have hs : (M ++ [aP a b c]).set M.length (aP a' b' c') = M ++ [aP a' b' c'] := i7
 rw [hs] at ew
 have hp' : (M ++ [aP a' b' c'])[M.length]? = some (aP a' b' c') := ao
 obtain ⟨d2, m2, ks2, a2, b2, c2, g2, ew2⟩ := qy hp'
 have hs2 : (M ++ [aP a' b' c']).set M.length (aP a2 b2 c2) = M ++ [aP a2 b2 c2] := i7
 rw [hs2] at ew2
 let M1 := M ++ [aP a2 b2 c2] ++ [O.lst [d, d2]]
 let T := (M ++ [aP a2 b2 c2]).length
 have hT : M1[T]? = some (.lst [d, d2]) := ao
 have iT : M.length ≠ T := by show M.length ≠ (M ++ [aP a2 b2 c2]).length; rw [Kg]; simp
 have hi : M.length < M1.length := by show _ < (M ++ [aP a2 b2 c2] ++ [O.lst [d, d2]]).length; simp only [Kg, K2, Lq]; omega
 have hp1 : M1[M.length]? = some (aP a2 b2 c2) := aC ao
 obtain ⟨ρ', μ', ⟨_, hP, o3', o4', o5', o6', o7', o8', o9', eρ⟩, run⟩ := d5 (src := .own T [d, d2]) (g := ag 3) (fb := kz)
  (fun xs ρ μ1 => (∀ y ∈ xs, ∃ m ks, bT y m ks) /\ Pn M1 M.length μ1 /\ ∃ o3 o4 o5 o6 o7 o8 o9, ρ = [o0, some (.int x), some (.obj M.length), o3, o4, o5, o6, o7, o8, o9])
  (fun ρ μ1 hJJ => by
   obtain ⟨_, hP, _⟩ := hJJ
   obtain ⟨a, b, c, g, rfl⟩ := hP
   show (_ ++ _)[T]? = _
   exact aC (dR hT iT))
  (fun y ys ρ μ1 hJJ => by
   obtain ⟨hy, hP, o3, o4, o5, o6, o7, o8, o9, e⟩ := hJJ
   subst e
   obtain ⟨m, ks, gw⟩ := hy y Jx
   obtain ⟨a, b, c, gp⟩ := hP.get hi
   obtain ⟨o4', o5', o6', o7', o8', o9', M', e1, P1⟩ := CZ gw gp (o0 := o0) (o1 := some (.int x)) (o4 := o4) (o5 := o5) (o6 := o6) (o7 := o7) (o8 := o8) (o9 := o9)
   refine ⟨?_, _, μ1, _, M', rfl, e1, fun z hz => hy z (Jy _ hz), Pn.trans hi hP P1, _, _, _, _, _, _, _, rfl⟩
   obtain ⟨a, b, c, g, rfl⟩ := hP
   show (_ ++ _)[T]? = _
   exact aC (dR hT iT))
  (xs := [d, d2]) (ρ := [o0, some (.int x), some (.obj M.length), o3, o4, o5, o6, o7, o8, o9]) (μ := M1)
  ⟨fun y hy => by
   simp only [Jz, Lj, Lk] at hy
   rcases hy with rfl | rfl
   ·exact ⟨_, _, g⟩
   ·exact ⟨_, _, g2⟩, Pn.self hp1, _, _, _, _, _, _, _, rfl⟩
 subst eρ
 obtain ⟨a3, b3, c3, g3, rfl⟩ := hP
 refine ⟨some (.obj M.length), o3', o4', o5', o6', o7', o8', o9', [aP a3 b3 c3] ++ [O.lst [d, d2]] ++ g3, ?_⟩
 unfold nP
 have l2' : ([d, d2] : List D).length <= sizeLine := yG (n := 2) rfl
 simp only [aN, bc, aG, au, ax, aj, af, aa, ep, ab, bH, NB, NC, aH, fA, cy, cL, ew, ew2, Jl l2']
 rw [eR hT]
 simp only [ab, cA]
 rw [show iF (mZ.own T [d, d2]) (ag 3) kz [d, d2] _ _ = _ from run]
 congr 1
 show (M ++ [aP a2 b2 c2] ++ [O.lst [d, d2]]).set M.length (aP a3 b3 c3) ++ g3 = _
 rw [KQ, KQ]
 show (M ++ aP a2 b2 c2 :: [O.lst [d, d2]]).set M.length (aP a3 b3 c3) ++ g3 = _
 rw [i7, KQ]
 rfl
theorem Et (ns : List Int) : ∃ μ', tN [.frz (ns.map D.int)] [] = .ok (.bl true) μ' := by
 obtain ⟨x0, ex0⟩ := BR (μ := []) (ns := ns)
 obtain ⟨xs, hxs, hxl⟩ : ∃ xs : List Int, gb (ns.map D.int) (some 1) (some 6) = xs.map D.int /\ xs.length <= 6 := by
  refine ⟨(ns.drop (HT.sIx ns.length 0 (some 1))).take (HT.sIx ns.length ns.length (some 6) - HT.sIx ns.length 0 (some 1)), ?_, ?_⟩
  ·unfold gb
   rw [Kh, LH, LI]
  ·rw [Ka]
   have h6 : HT.sIx ns.length ns.length (some 6) = min 6 ns.length := HT.sIx_nat _ _ 6
   omega
 obtain ⟨L, hL⟩ : ∃ L : List Int, L = x0 :: xs := ⟨_, rfl⟩
 let M5 : aB := ([O.lst [.int x0]] ++ [O.lst (xs.map D.int)]) ++ [O.lst (L.map D.int)]
 have h5 : M5[2]? = some (.lst (L.map D.int)) := rfl
 obtain ⟨ρ3, M6, _, run3⟩ := d5 (src := .own 2 (L.map D.int)) (g := ag 1) (fb := nP)
  (fun zs ρ μ => (∃ g, μ = M5 ++ g) /\ (∃ rs : List Int, zs = rs.map D.int) /\ ∃ o0 o1 o2 o3 o4 o5 o6 o7 o8 o9, ρ = [o0, o1, o2, o3, o4, o5, o6, o7, o8, o9])
  (fun ρ μ ⟨⟨g, e⟩, _⟩ => by rw [e]; exact aC h5)
  (fun x r ρ μ hJJ => by
   obtain ⟨⟨g, e⟩, ⟨rs, er⟩, o0, o1, o2, o3, o4, o5, o6, o7, o8, o9, eρ⟩ := hJJ
   subst eρ
   cases rs with
   | nil => cases er
   | cons y rs =>
    injection er with ex er
    subst ex er
    obtain ⟨o2', o3', o4', o5', o6', o7', o8', o9', g', e1⟩ := C0 (M := μ) (x := y) (o0 := o0) (o2 := o2) (o3 := o3) (o4 := o4) (o5 := o5) (o6 := o6) (o7 := o7) (o8 := o8) (o9 := o9)
    exact ⟨by rw [e]; exact aC h5, _, μ, _, _, rfl, e1, ⟨g ++ g', by rw [e, KQ]⟩, ⟨rs, rfl⟩, _, _, _, _, _, _, _, _, _, _, rfl⟩)
  (xs := L.map D.int) (ρ := [some (.frz (ns.map D.int)), none, none, none, none, none, none, none, none, none]) (μ := M5)
  ⟨⟨[], by rw [J4]⟩, ⟨L, rfl⟩, _, _, _, _, _, _, _, _, _, _, rfl⟩
 have hend : ∃ μ', qi [] (.ok (.bl true) M6) = .ok (.bl true) μ' := by
  rcases zH (μ := []) (d := .bl true) (μ' := M6) with e | ⟨e, _⟩ <;> exact ⟨_, e⟩
 obtain ⟨μ', hend⟩ := hend
 refine ⟨μ', ?_⟩
 unfold tN
 rw [gL]
 unfold DN
 have l1 : ([.int x0] : List D).length <= sizeLine := yG (n := 1) rfl
 have sl : ∀ μ, sN (.frz (ns.map D.int)) (some 1) (some 6) μ = .ok (.obj μ.length) (μ ++ [.lst (xs.map D.int)]) := fun μ => by
  unfold sN; dsimp only; rw [hxs]
 have ad : bf (.obj 0) (.obj 1) ([O.lst [.int x0]] ++ [O.lst (xs.map D.int)]) = .ok (.obj 2) M5 := by
  have := ky (μ := [O.lst [.int x0]] ++ [O.lst (xs.map D.int)]) (a := 0) (b := 1) rfl rfl (show ([.int x0] : List D).length + (xs.map D.int).length <= 1000000 by rw [Kh]; simp only [K2, Lq]; omega)
  rw [this]
  simp only [M5, hL]
  rfl
 simp only [List.replicate]
 rw [aN, fA, cy, az, cL, au, aG, au, af, aa, au, aX, aa, ax, aa, aa, aa, ex0, aa, ax, aa, aa]
 simp only [Jl l1, aa, tF, af, ke, aX, oo]
 rw [sl, aa]
 rw [show bf (.obj ([] : aB).length) (.obj (([] : aB) ++ [O.lst [.int x0]]).length) (([] : aB) ++ [O.lst [.int x0]] ++ [O.lst (xs.map D.int)]) = _ from ad]
 rw [aa, eR h5, ab, cA, run3, aH, bo, aX, ab, aK]
 exact hend
end Lw
namespace Lw
open PySem PySem.Spec PyProof.Rows L2 RS
theorem cD (P : Params) (f : Addr) (n m : Str) (t : Tok) (c : Addr) (st : Stmt) (l : (Kz P).lookup f = some (fo n st m t c)) (q : W.codeIn (Kz P) (.ref c) n = true) : iJ (Kz P) n n st f (W.fnOf n n (d6 st) (cG st) (ar st) .none .none .none (.str m t) none (.ref c) .none) := FS l q (by unfold W.keepIn; dsimp only; rw [l]; rfl)
theorem F9 {l : W.OpenLaw} {w : World} {h : Heap} {mg : Str -> Option Value} {fa : Addr} (X : (Kz w.params).In h) (G : h.Ns mainGlobals mg) (hfa : mg "law" = some (.ref fa)) :
  ∃ fd : FuncData, (∀ (s : Shared) (v : Value), BindsTo s fd ⟨[v], []⟩ [("_law_script", v)]) /\ ∀ base : Heap, (Kz w.params).In base -> base.Ns mainGlobals mg -> pU l.prog w (Kz w.params) mg base yJ 10 fa fd ["_law_script"] (DQ (dZ (Kz w.params) w) 1 tN) := by
 have e := hfa.symm.trans (W.mg_of X G (v := .ref 216) (by kernel_rfl))
 cases e
 have nm : Nm mg := ⟨W.mg_none_of X G (by kernel_rfl), W.mg_none_of X G (by kernel_rfl), W.mg_none_of X G (by kernel_rfl), W.mg_none_of X G (by kernel_rfl), W.mg_none_of X G (by kernel_rfl), W.mg_none_of X G (by kernel_rfl), W.mg_none_of X G (by kernel_rfl), W.mg_none_of X G (by kernel_rfl), W.mg_none_of X G (by kernel_rfl), W.mg_none_of X G (by kernel_rfl), W.mg_none_of X G (by kernel_rfl), W.mg_none_of X G (by kernel_rfl), W.mg_none_of X G (by kernel_rfl), W.mg_none_of X G (by kernel_rfl)⟩
 have c_LEAST_RING := W.mg_of X G (n := "LEAST_RING") (v := (.int 3 290)) (by kernel_rfl)
 have F := cD w.params 216 "law" "law_rootwebs_k49_rings" 328 215 j5 (by kernel_rfl) (by kernel_rfl)
 refine ⟨W.fnOf "law" "law" (d6 j5) (cG j5) (ar j5) .none .none .none (.str "law_rootwebs_k49_rings" 328) none (.ref 215) .none, fun s v => .of_eq rfl, fun base _ _ => ?_⟩
 have d_is_whole := uH (P := l.prog) (w := w) (base := base) nm (cD w.params 46 "is_whole" "rootwebs.kinds" 223 45 iN (by kernel_rfl) (by kernel_rfl)) (W.mg_of X G (by kernel_rfl))
 have d_is_whole_from := mU (P := l.prog) (w := w) (base := base) nm (cD w.params 53 "is_whole_from" "rootwebs.kinds" 223 52 d7 (by kernel_rfl) (by kernel_rfl)) (W.mg_of X G (by kernel_rfl)) d_is_whole
 have d_is_place := uI (P := l.prog) (w := w) (base := base) nm (cD w.params 60 "is_place" "rootwebs.kinds" 223 59 iO (by kernel_rfl) (by kernel_rfl)) (W.mg_of X G (by kernel_rfl)) d_is_whole_from
 have d_is_places := sC (P := l.prog) (w := w) (base := base) nm (cD w.params 65 "is_places" "rootwebs.kinds" 223 64 fD (by kernel_rfl) (by kernel_rfl)) (W.mg_of X G (by kernel_rfl)) d_is_place
 have d_check_place := pG (P := l.prog) (w := w) (base := base) nm (cD w.params 72 "check_place" "rootwebs.webs" 255 71 fL (by kernel_rfl) (by kernel_rfl)) (W.mg_of X G (by kernel_rfl)) d_is_place
 have d_is_tied := vE (P := l.prog) (w := w) (base := base) nm (cD w.params 79 "is_tied" "rootwebs.webs" 255 78 jz (by kernel_rfl) (by kernel_rfl)) (W.mg_of X G (by kernel_rfl))
 have d_next_places := pF (P := l.prog) (w := w) (base := base) nm (cD w.params 84 "next_places" "rootwebs.webs" 255 83 cV (by kernel_rfl) (by kernel_rfl)) (W.mg_of X G (by kernel_rfl))
 have d_star_of := vD (P := l.prog) (w := w) (base := base) nm (cD w.params 91 "star_of" "rootwebs.webs" 255 90 jy (by kernel_rfl) (by kernel_rfl)) (W.mg_of X G (by kernel_rfl)) d_check_place d_next_places
 have d_ring_good := sA (P := l.prog) (w := w) (base := base) nm (cD w.params 96 "ring_good" "rootwebs.rings" 288 95 fC (by kernel_rfl) (by kernel_rfl)) (W.mg_of X G (by kernel_rfl)) ⟨_, c_LEAST_RING⟩ d_is_places d_is_tied
 have d_rings_of := uG (P := l.prog) (w := w) (base := base) nm (cD w.params 101 "rings_of" "rootwebs.rings" 288 100 dc (by kernel_rfl) (by kernel_rfl)) (W.mg_of X G (by kernel_rfl)) d_star_of
 have d_shortest_rings := mj (P := l.prog) (w := w) (base := base) nm (cD w.params 108 "shortest_rings" "rootwebs.rings" 288 107 dF (by kernel_rfl) (by kernel_rfl)) (W.mg_of X G (by kernel_rfl)) ⟨_, c_LEAST_RING⟩ d_rings_of
 have d_first_ring := p4 (P := l.prog) (w := w) (base := base) nm (cD w.params 122 "first_ring" "rootwebs.rings" 288 121 gq (by kernel_rfl) (by kernel_rfl)) (W.mg_of X G (by kernel_rfl)) d_shortest_rings
 have d_least_ring := p3 (P := l.prog) (w := w) (base := base) nm (cD w.params 115 "least_ring" "rootwebs.rings" 288 114 gn (by kernel_rfl) (by kernel_rfl)) (W.mg_of X G (by kernel_rfl)) d_first_ring
 have d__law_cell_at := nD (P := l.prog) (w := w) (base := base) nm (cD w.params 129 "_law_cell_at" "law_rootwebs_k49_rings" 328 128 eS (by kernel_rfl) (by kernel_rfl)) (W.mg_of X G (by kernel_rfl))
 have d__law_next := sE (P := l.prog) (w := w) (base := base) nm (cD w.params 136 "_law_next" "law_rootwebs_k49_rings" 328 135 g6 (by kernel_rfl) (by kernel_rfl)) (W.mg_of X G (by kernel_rfl))
 have d__law_pen_of := pI (P := l.prog) (w := w) (base := base) nm (cD w.params 143 "_law_pen_of" "law_rootwebs_k49_rings" 328 142 fN (by kernel_rfl) (by kernel_rfl)) (W.mg_of X G (by kernel_rfl))
 have d__law_draw := sG (P := l.prog) (w := w) (base := base) nm (cD w.params 150 "_law_draw" "law_rootwebs_k49_rings" 328 149 g8 (by kernel_rfl) (by kernel_rfl)) (W.mg_of X G (by kernel_rfl)) d__law_next
 have d__law_whole := p5 (P := l.prog) (w := w) (base := base) nm (cD w.params 157 "_law_whole" "law_rootwebs_k49_rings" 328 156 gr (by kernel_rfl) (by kernel_rfl)) (W.mg_of X G (by kernel_rfl))
 have d__law_named := p7 (P := l.prog) (w := w) (base := base) nm (cD w.params 162 "_law_named" "law_rootwebs_k49_rings" 328 161 dz (by kernel_rfl) (by kernel_rfl)) (W.mg_of X G (by kernel_rfl))
 have d__law_names_by := mW (P := l.prog) (w := w) (base := base) nm (cD w.params 167 "_law_names_by" "law_rootwebs_k49_rings" 328 166 cW (by kernel_rfl) (by kernel_rfl)) (W.mg_of X G (by kernel_rfl)) d__law_draw
 have d__law_far := uJ (P := l.prog) (w := w) (base := base) nm (cD w.params 172 "_law_far" "law_rootwebs_k49_rings" 328 171 gF (by kernel_rfl) (by kernel_rfl)) (W.mg_of X G (by kernel_rfl))
 have d__law_steps := p6 (P := l.prog) (w := w) (base := base) nm (cD w.params 177 "_law_steps" "law_rootwebs_k49_rings" 328 176 eG (by kernel_rfl) (by kernel_rfl)) (W.mg_of X G (by kernel_rfl)) d__law_far
 have d__law_sparse_by := ml (P := l.prog) (w := w) (base := base) nm (cD w.params 182 "_law_sparse_by" "law_rootwebs_k49_rings" 328 181 aZ (by kernel_rfl) (by kernel_rfl)) (W.mg_of X G (by kernel_rfl)) d__law_draw d__law_named d__law_names_by
 have d__law_web_by := pH (P := l.prog) (w := w) (base := base) nm (cD w.params 189 "_law_web_by" "law_rootwebs_k49_rings" 328 188 fM (by kernel_rfl) (by kernel_rfl)) (W.mg_of X G (by kernel_rfl)) d__law_sparse_by d__law_draw d__law_steps
 have d__law_rings_of := mV (P := l.prog) (w := w) (base := base) nm (cD w.params 194 "_law_rings_of" "law_rootwebs_k49_rings" 328 193 cu (by kernel_rfl) (by kernel_rfl)) (W.mg_of X G (by kernel_rfl))
 have d__law_least := p8 (P := l.prog) (w := w) (base := base) nm (cD w.params 199 "_law_least" "law_rootwebs_k49_rings" 328 198 eH (by kernel_rfl) (by kernel_rfl)) (W.mg_of X G (by kernel_rfl)) d__law_rings_of
 have d__law_good := sF (P := l.prog) (w := w) (base := base) nm (cD w.params 204 "_law_good" "law_rootwebs_k49_rings" 328 203 fE (by kernel_rfl) (by kernel_rfl)) (W.mg_of X G (by kernel_rfl)) d__law_whole d__law_rings_of
 have d__law_bent := sH (P := l.prog) (w := w) (base := base) nm (cD w.params 211 "_law_bent" "law_rootwebs_k49_rings" 328 210 g9 (by kernel_rfl) (by kernel_rfl)) (W.mg_of X G (by kernel_rfl)) d__law_draw
 exact FV nm F d__law_cell_at d__law_pen_of d__law_web_by d__law_sparse_by d__law_least d_least_ring d__law_rings_of d_first_ring d__law_names_by d__law_bent d_ring_good d__law_good
theorem HW {l : W.OpenLaw} {q : Program} {loose : List Str} {XP : (Str -> Option Value) -> Heap -> Prop} {d : DefRec} (hn : l.most = some 63) (hdf : d.params.defaults = []) (hd : d.name = "law") :
  W.WalkO q loose XP (W.Hook.says Hz) l.row.toRowW d [] (fun f vs => PySem.call f vs) :=
 L2.walk_of (K := Kz) (n := 63) (k := 10) (x := "_law_script") (CX := fun _ => yJ) (sp := fun w => DQ (dZ (Kz w.params) w) 1 tN) hn (by decide) hdf ⟨rfl, by decide, by decide, rfl⟩ (fun _ _ Y => W.kIn_of Y) (fun _ _ _ _ X G e => F9 X G (hd ▸ e)) (fun w H a ns hl hO hS => AR (Et ns) hO hS) fun _ _ _ _ _ z => z
end Lw
open PySem PySem.W PyProof.Rows Lw
set_option maxRecDepth 100000 in
set_option maxHeartbeats 0 in
theorem PySem.Challenge.cw_rootwebs_k49_rings_holds : PySem.Challenge.rw_rootwebs_k49_rings.Holds := by
 w_on; refine holds_law D7 fun said => ?_
 exact holds_open (Xt := Xz) (XP := XL Qz []) (YP := Hook.says Hz) D8 (Hook.of Hz) (Hook.keeps Hz) (fun s e => xl_of s (Bool.and_eq_true_iff.mp e).1) XL.keeps (by rfl) (by rfl) (by rfl) (fun s e => recFacts_of (Bool.and_eq_true_iff.mp e).2) (by rfl) said (by decide +kernel) ⟨rfl, rfl, rfl, rfl, rfl, by decide +kernel⟩ (by w_witness2) (HW rfl rfl rfl)
