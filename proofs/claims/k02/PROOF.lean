import PyProof.Rows.All
import Wide.All
import OpenK.AllK
import Wide.FinOn
import PyProof.EqAt
import PyProof.EqKinds
import PyProof.TupleCall
import PyProof.P3In
import PyProof.NeData
import PyProof.ConsumeS
import PyProof.WalksMore
import PyProof.ReprRoads
import PyProof.ReprLen
import PyProof.Draws
import PyProof.EnumMake
import PyProof.EnumFor
import PyProof.CallFns
import PyProof.Rows.CallKwBuiltin
import Lean
import PyProof.ZipIter
import PySem.Challenge.RW_rootwebs_k02_webs_made
set_option Elab.async false
set_option linter.all false
set_option maxHeartbeats 1000000
set_option maxHeartbeats 2000000
set_option maxHeartbeats 400000
set_option maxHeartbeats 4000000
set_option maxRecDepth 100000
noncomputable section
abbrev Jv:=@Option.some.inj
abbrev Jw:=@PySem.Value.isInt_shape
abbrev Jx:=@decide_eq_false
abbrev Jy:=@PySem.wpAny_eqBool_int
abbrev Jz:=@if_pos
abbrev JA:=@if_neg
abbrev JB:=@PySem.Heap.lt_size
abbrev JC:=@Nat.lt_of_lt_of_le
abbrev JD:=@Nat.lt_irrefl
abbrev JE:=@Nat.ne_of_lt
abbrev JF:=@List.mem_filter
abbrev JG:=@List.mem_range
abbrev JH:=@Nat.le_trans
abbrev JI:=@Nat.le_of_lt
abbrev JJ:=@List.filterMap_cons
abbrev JK:=@List.mem_cons_self
abbrev JL:=@List.mem_cons_of_mem
abbrev JM:=@PySem.Heap.get?_none_of_le
abbrev JN:=@List.mem_cons
abbrev JO:=@Ne.symm
abbrev JP:=@List.mem_append
abbrev JQ:=@List.mem_append_left
abbrev JR:=@List.getElem?_eq_some_iff
abbrev JS:=@List.getElem_inj
abbrev JT:=@List.getElem?_set_self
abbrev JU:=@List.getElem?_set_ne
abbrev JV:=@PySem.wpAny_mono
abbrev JW:=@PySem.wpAny_truthy_bool
abbrev JX:=@Array.length_toList
abbrev JY:=@congrArg
abbrev JZ:=@PySem.wpAny_execs_nil
abbrev J0:=@PySem.wpAny_execs_cons
abbrev J1:=@PySem.wpAny_bind
abbrev J2:=@PySem.wpAny_holding
abbrev J3:=@PySem.wpAny_standAt
abbrev J4:=@PySem.wpAny_passesOwn
abbrev J6:=@Bool.false_ne_true
abbrev J7:=@Nat.ne_of_gt
abbrev J8:=@PySem.wpAny_pure
abbrev J9:=@PySem.wpAny_load
abbrev Ka:=@PySem.Heap.get?_push_of_some
abbrev Kb:=@PySem.Heap.get?_push_size
abbrev Kc:=@Nat.le_refl
abbrev Kd:=@PyProof.Rows.callWith_type1
abbrev Ke:=@List.mem_filterMap
abbrev Kf:=@List.mem_append_right
abbrev Kg:=@Bool.eq_iff_iff
abbrev Kh:=@PySem.sizeLine_eq
abbrev Ki:=@List.size_toArray
abbrev Kj:=@Array.mem_toList_iff
abbrev Kk:=@List.append_nil
abbrev Kl:=@PySem.wpAny_call
abbrev Km:=@PySem.codeAny_mono
abbrev Ko:=@PySem.wpAny_Call_Name_kw
abbrev Kr:=@List.nodup_cons
abbrev Ks:=@List.of_mem_zip
abbrev Kt:=@Option.isSome_iff_exists
abbrev Ku:=@List.length_take
abbrev Kv:=@PySem.mem_of_lookup
abbrev Kw:=@List.getElem?_append_right
abbrev Kx:=@List.getElem?_replicate
abbrev Ky:=@List.getElem?_append_left
abbrev KA:=@List.getElem?_map
abbrev KB:=@List.getElem?_take_of_lt
abbrev KC:=@List.mem_of_getElem?
abbrev KD:=@List.length_append
abbrev KE:=@List.length_map
abbrev KG:=@PySem.noFill_tuple_add
abbrev KH:=@PySem.F.slot_tuple_add
abbrev KJ:=@PySem.F.entry_tuple_add
abbrev KL:=@PySem.F.args_tuple_add_2
abbrev KM:=@Int.toNat_natCast
abbrev KN:=@if_false
abbrev KO:=@if_true
abbrev KQ:=@PyProof.Rows.slicePart_none
abbrev KR:=@PySem.wpAny_field
abbrev KS:=@List.filterMap_map
abbrev KU:=@List.length_drop
abbrev KW:=@PySem.wpAny_sequenceKey
abbrev KY:=@PySem.wpAny_callSpecial?_slot
abbrev KZ:=@PyProof.Rows.slot_tuple_getitem
abbrev K0:=@PySem.wpAny_call_entry
abbrev K1:=@PyProof.Rows.entry_tuple_getitem
abbrev K2:=@PyProof.Rows.args_tuple_getitem
abbrev K3:=@PySem.wpAny_typeOf
abbrev K4:=@Bool.and_eq_true
abbrev K5:=@PySem.wpAny_newObj_type
abbrev K6:=@List.map_nil
abbrev K7:=@List.map_cons
abbrev K8:=@PySem.Heap.IsSliceOf.new
abbrev K9:=@PySem.slot_list_getitem
abbrev La:=@PySem.Heap.get?_update_self
abbrev Lb:=@PySem.Heap.get?_update_other
abbrev Ld:=@List.all_cons
abbrev Le:=@List.reverse_cons
abbrev Lg:=@List.replicate_succ
abbrev Lh:=@List.flatten_cons
abbrev Li:=@Nat.le_succ
abbrev Lj:=@List.append_assoc
abbrev Lk:=@List.foldl_cons
abbrev Ll:=@PySem.call_meets
abbrev Lm:=@List.length_singleton
abbrev Ln:=@Array.getElem?_toList
abbrev Lo:=@List.nil_append
abbrev Lp:=@decide_eq_true
abbrev Lq:=@Nat.le_of_eq
abbrev Lr:=@List.lookup_cons
abbrev Ls:=@beq_self_eq_true
abbrev Lu:=@Bool.false_eq_true
abbrev Lx:=@List.length_cons
abbrev Ly:=@Nat.lt_succ_self
abbrev Lz:=@Nat.lt_succ_of_lt
abbrev LA:=@PySem.Heap.size_push
abbrev LB:=@PySem.pushCells_keeps
abbrev LC:=@PySem.codeAny_of_tree
abbrev LD:=@PySem.wpAny_askSetting
abbrev LF:=@PySem.wpAny_rule
abbrev LG:=@Nat.zero_le
abbrev LH:=@List.mem_singleton
abbrev LI:=@PySem.F.slot_tuple_iterator_next
abbrev LJ:=@PySem.F.entry_tuple_iterator_next
abbrev LK:=@PySem.F.args_tuple_iterator_next_1
abbrev LL:=@PySem.wpAny_seqItems
abbrev LM:=@PySem.wpAny_setField
abbrev LN:=@PySem.Heap.SameBut.update
abbrev LO:=@PySem.Obj.isFreed_of_fields
abbrev LP:=@PySem.Obj.data_mapFields
abbrev LQ:=@PySem.Obj.cls_mapFields
abbrev LR:=@PySem.wpAny_of_eq
abbrev LS:=@PySem.wpAny_pyIter_tuple
abbrev LU:=@List.not_mem_nil
abbrev LV:=@or_false
abbrev LW:=@PySem.Heap.get?_push_ne
abbrev LX:=@List.range_succ_eq_map
abbrev LY:=@List.map_map
abbrev LZ:=@List.map_congr_left
abbrev L6:=@List.length_range
abbrev L7:=@List.length_nil
abbrev L8:=@List.cons.inj
abbrev L9:=@List.cons_append
abbrev Ma:=@Array.getElem?_eq_some_iff
abbrev Mb:=@List.take_of_length_le
abbrev Mc:=@List.mem_map
abbrev Md:=@Classical.byContradiction
abbrev Me:=@List.nodup_range
abbrev Mf:=@List.getElem?_of_mem
abbrev Mg:=@List.mem_map_of_mem
abbrev Mh:=@List.take_append_drop
abbrev Mi:=@List.pairwise_cons
abbrev Mj:=@List.map_append
abbrev Ml:=@List.map_take
abbrev Mm:=@List.map_drop
abbrev Mn:=@Array.getD_eq_getD_getElem?
abbrev Mo:=@Option.getD_some
abbrev Mp:=@List.mem_of_mem_take
abbrev Mq:=@List.mem_of_mem_drop
abbrev Mr:=@Array.getElem?_eq_none_iff
abbrev Ms:=@List.nodup_nil
abbrev Mt:=@Nat.zero_add
abbrev Mu:=@List.pairwise_lt_range
abbrev Mv:=@Array.getElem?_eq_getElem
abbrev Mw:=@List.all_eq_true
abbrev Mx:=@Int.toNat_of_nonneg
abbrev My:=@Bool.not_true
abbrev Mz:=@PySem.wpAny_forIn_list
abbrev MC:=@PySem.wpAny_setState_of
abbrev MD:=@Bool.and_self
abbrev MF:=@List.nodup_append
abbrev MH:=@PySem.wpAny_storeSet_of
abbrev MJ:=@PySem.putSet_of
abbrev MK:=@Bool.not_false
abbrev ML:=@List.foldl_append
abbrev MM:=@PySem.codeAny_builtin
abbrev MN:=@PySem.Around.under_plainId
abbrev MP:=@PyProof.Rows.F.plain_set_update_loop
abbrev MQ:=@PySem.isSubtype_type
abbrev MR:=@PySem.F.called_set
abbrev MU:=@PySem.Code.quiet_builtin
abbrev MV:=@PySem.codeAny_call_builtin
abbrev MW:=@PySem.wpAny_pyIter_list
abbrev MX:=@PySem.wpAny_runValue
abbrev MY:=@List.take_add_one
abbrev MZ:=@List.take_length
abbrev M7:=@PySem.W.KasT.kasWp_bind
abbrev M9:=@decide_eq_decide
abbrev Na:=@List.getD_eq_getElem?_getD
abbrev Nb:=@List.ext_getElem?
abbrev Nd:=@List.getElem?_range
abbrev Nf:=@List.getElem?_eq_none
abbrev Ng:=@List.pairwise_map
abbrev Nh:=@PyProof.Rows.listUpdate_at
abbrev Ni:=@PyProof.Rows.get?_update_seq
abbrev Nj:=@PySem.wpAny_newList
abbrev Nk:=@PyProof.Rows.size_push'
abbrev Nl:=@PySem.Heap.size_update
abbrev Np:=@PySem.Heap.get?_update_ne
abbrev Nq:=@bne_self_eq_false
abbrev Nr:=@List.getElem_mem
abbrev Nt:=@List.getElem?_eq_getElem
abbrev Nu:=@PySem.wpAny_setEntries_of
abbrev Nv:=@PySem.wpAny_setField_rec
abbrev Nw:=@PySem.Calls.call_function_entry
abbrev Nx:=@PyProof.Rows.entry_list_sort
abbrev Ny:=@Array.getElem?_setIfInBounds_ne
abbrev Nz:=@PySem.wpAny_loadPart_at
abbrev NB:=@PySem.wpAny_Call_ofName
abbrev NC:=@PySem.W.looks_findIn
abbrev ND:=@PySem.F.attr_ValueError
abbrev NF:=@beq_iff_eq
abbrev NG:=@of_eq_true
abbrev NH:=@eq_self
abbrev NI:=@List.drop_eq_getElem_cons
abbrev NJ:=@List.drop_length
abbrev NK:=@decide_eq_true_eq
abbrev NL:=@List.zip_cons_cons
abbrev NM:=@List.eq_nil_of_length_eq_zero
abbrev NN:=@PyProof.Rows.boot_isinstance
abbrev NO:=@Int.le_antisymm
abbrev NP:=@List.length_pos_iff
abbrev NQ:=@List.contains_iff_mem
abbrev NR:=@List.getElem?_set
abbrev NS:=@PySem.PassesOwn.never
abbrev NT:=@Int.emod_nonneg
abbrev NU:=@Int.emod_lt_of_pos
abbrev NV:=@List.set_cons_succ
abbrev NW:=@List.set_cons_zero
abbrev NX:=@List.filter_eq_self
abbrev NY:=@List.flatMap_cons
abbrev NZ:=@Nat.min_eq_left
abbrev N5:=@Bool.and_eq_false_iff
namespace L2
open PySem PySem.Spec PyProof.Rows
def cX(s:Stmt):Arguments:=match s with
 |.FunctionDef _ a _ _ _ _ _ _ _ _=>a
 |_=>{posonlyargs:=[],args:=[],vararg:=none,kwonlyargs:=[],kw_defaults:=[],kwarg:=none,defaults:=[]}
def bC(s:Stmt):List Stmt:=match s with
 |.FunctionDef _ _ b _ _ _ _ _ _ _=>b
 |_=>[]
def au(s:Stmt):Scope:=match s with
 |.FunctionDef _ _ _ _ _ _ sc _ _ _=>sc
 |_=>{kind:=.function,names:=[],isGenerator:=false,isCoroutine:=false}
def HS(s:Stmt)(j:Nat):Stmt:=match s with
 |.ClassDef _ _ _ body _ _ _ _ _ _ _=>body.getD j s
 |s=>s
end L2
namespace Lw
open PySem PySem.Spec PyProof.Rows L2
def top(i:Nat):Stmt:=PySem.Challenge.pw_rootwebs_k02_webs_made.main.body.getD i (.Pass ⟨0,0,0,0⟩)
abbrev g9:Stmt:=top 11
abbrev dJ:Stmt:=top 12
abbrev hG:Stmt:=top 13
abbrev eU:Stmt:=top 14
abbrev iR:Stmt:=top 17
abbrev iQ:Stmt:=top 18
abbrev iz:Stmt:=top 19
abbrev d5:Stmt:=top 21
abbrev gv:Stmt:=top 22
abbrev eZ:Stmt:=top 23
abbrev gx:Stmt:=top 24
abbrev fN:Stmt:=top 25
abbrev d4:Stmt:=top 26
abbrev dk:Stmt:=top 27
abbrev cP:Stmt:=top 28
abbrev fY:Stmt:=top 29
abbrev dW:Stmt:=top 30
abbrev ba:Stmt:=top 31
abbrev eY:Stmt:=top 32
abbrev hV:Stmt:=top 33
abbrev fP:Stmt:=top 34
abbrev fO:Stmt:=top 35
abbrev dv:Stmt:=top 36
abbrev kv:Stmt:=top 37
def en(P:Params)(n:Str)(t:Tok)(v:Value):DictEntry:=⟨PyData.keyHash P n,.str n t,v⟩
def fo (n:Str) (st:Stmt) (m:Str) (t:Tok) (c:Addr):Obj:=⟨.type "function",none,.func (W.fnOf n n (cX st) (bC st) (au st) .none .none .none (.str m t) none (.ref c) .none),#[]⟩
def co (n:Str) (t:Tok) (l k i:Int) (a:Addr) (p:Bool) (u:Nat):Obj:=⟨.type "code",none,.fields #[.str n t,.str n (t+1),.str "/claim/cut.py" (t+2),.int l 0,.int k 0,.int 0 0,.int 0 0,.int 3 0,.ref a,.bool true,.int i 0,.ref (a+1),.none,bif p then .ref (a+2) else .none,bif p then .ref (a+3) else .none,.ref (bif p then a+4 else a+2),.int u 0,.int l 0,.str "/claim/cut.py" (u+1)],#[]⟩
def Im (n q:Str) (st:Stmt) (m:Str) (t:Tok) (c:Addr):Obj:=⟨.type "function",none,.func (W.fnOf n q (cX st) (bC st) (au st) .none .none .none (.str m t) none (.ref c) .none),#[]⟩
def Kz (P:Params):W.Frag:=[(3,⟨.type "dict",none,.dict #[en P "__name__" 165 (.str "law_rootwebs_k02_webs_made" 421),en P "__doc__" 166 .none,en P "__package__" 167 .none,en P "__loader__" 168 (.builtin "__main__.__loader__#opaque"),en P "__spec__" 169 .none,en P "__annotations__" 170 (.ref 6),en P "__builtins__" 171 (.ref 4),en P "__file__" 173 (.str "/claim/cut.py" 172),en P "__cached__" 174 .none,en P "RootError" 206 (.ref 24),en P "NoPlace" 222 (.ref 37),en P "NoNumber" 238 (.ref 49),en P "NoLine" 254 (.ref 61),en P "NoRoot" 270 (.ref 73),en P "NoTree" 286 (.ref 85),en P "NoWeb" 311 (.ref 104),en P "NoText" 336 (.ref 123),en P "TooGreat" 363 (.ref 142),en P "is_whole" 372 (.ref 151),en P "is_whole_from" 381 (.ref 158),en P "is_place" 389 (.ref 165),en P "is_places" 395 (.ref 170),en P "MOST_PLACES" 399 (.int 6 398),en P "is_many" 406 (.ref 177),en P "is_pair" 414 (.ref 184),en P "web_of" 420 (.ref 189),en P "_law_cell_at" 430 (.ref 196),en P "_law_next" 437 (.ref 203),en P "_law_pen_of" 445 (.ref 210),en P "_law_draw" 454 (.ref 217),en P "_law_whole" 461 (.ref 224),en P "_law_kind_of" 469 (.ref 231),en P "_law_named" 475 (.ref 236),en P "_law_names_by" 481 (.ref 241),en P "_law_far" 487 (.ref 246),en P "_law_steps" 493 (.ref 251),en P "_law_sparse_by" 499 (.ref 256),en P "_law_web_by" 511 (.ref 263),en P "_law_due" 522 (.ref 270),en P "_law_mixed" 533 (.ref 277),en P "_law_right" 547 (.ref 284),en P "_law_no_number" 555 (.ref 291),en P "law" 571 (.ref 298)] 43,#[]⟩),
 (23,⟨.type "dict",none,.dict #[en P "__module__" 196 (.str "rootwebs.errors" 187),en P "__firstlineno__" 200 (.int 2 199),en P "__static_attributes__" 201 (.ref 22),en P "__weakref__" 203 (.ref 25),en P "__doc__" 204 .none] 3,#[]⟩),
 (24,⟨.type "type",none,.cls ⟨"RootError",[(.type "ValueError")],[(.ref 24),(.type "ValueError"),(.type "Exception"),(.type "BaseException"),(.type "object")],23, "RootError",true,[],[(.ref 37),(.ref 49),(.ref 61),(.ref 73),(.ref 85),(.ref 104),(.ref 123),(.ref 142)],false,none,false⟩,#[some (.ref 15),none,some (.str "RootError" 189),some (.str "RootError" 197),some (.builtin "ValueError.__new__"),some (.bool true)]⟩),
 (36,⟨.type "dict",none,.dict #[en P "__module__" 214 (.str "rootwebs.errors" 187),en P "__firstlineno__" 218 (.int 4 217),en P "__static_attributes__" 219 (.ref 35),en P "__doc__" 220 .none] 2,#[]⟩),
 (37,⟨.type "type",none,.cls ⟨"NoPlace",[(.ref 24)],[(.ref 37),(.ref 24),(.type "ValueError"),(.type "Exception"),(.type "BaseException"),(.type "object")],36, "NoPlace",true,[],[],false,none,false⟩,#[some (.ref 28),none,some (.str "NoPlace" 207),some (.str "NoPlace" 215),some (.builtin "ValueError.__new__"),some (.bool true)]⟩),
 (48,⟨.type "dict",none,.dict #[en P "__module__" 230 (.str "rootwebs.errors" 187),en P "__firstlineno__" 234 (.int 6 233),en P "__static_attributes__" 235 (.ref 47),en P "__doc__" 236 .none] 2,#[]⟩),
 (49,⟨.type "type",none,.cls ⟨"NoNumber",[(.ref 24)],[(.ref 49),(.ref 24),(.type "ValueError"),(.type "Exception"),(.type "BaseException"),(.type "object")],48, "NoNumber",true,[],[],false,none,false⟩,#[some (.ref 40),none,some (.str "NoNumber" 223),some (.str "NoNumber" 231),some (.builtin "ValueError.__new__"),some (.bool true)]⟩),
 (60,⟨.type "dict",none,.dict #[en P "__module__" 246 (.str "rootwebs.errors" 187),en P "__firstlineno__" 250 (.int 8 249),en P "__static_attributes__" 251 (.ref 59),en P "__doc__" 252 .none] 2,#[]⟩),
 (61,⟨.type "type",none,.cls ⟨"NoLine",[(.ref 24)],[(.ref 61),(.ref 24),(.type "ValueError"),(.type "Exception"),(.type "BaseException"),(.type "object")],60, "NoLine",true,[],[],false,none,false⟩,#[some (.ref 52),none,some (.str "NoLine" 239),some (.str "NoLine" 247),some (.builtin "ValueError.__new__"),some (.bool true)]⟩),
 (72,⟨.type "dict",none,.dict #[en P "__module__" 262 (.str "rootwebs.errors" 187),en P "__firstlineno__" 266 (.int 10 265),en P "__static_attributes__" 267 (.ref 71),en P "__doc__" 268 .none] 2,#[]⟩),
 (73,⟨.type "type",none,.cls ⟨"NoRoot",[(.ref 24)],[(.ref 73),(.ref 24),(.type "ValueError"),(.type "Exception"),(.type "BaseException"),(.type "object")],72, "NoRoot",true,[],[],false,none,false⟩,#[some (.ref 64),none,some (.str "NoRoot" 255),some (.str "NoRoot" 263),some (.builtin "ValueError.__new__"),some (.bool true)]⟩),
 (84,⟨.type "dict",none,.dict #[en P "__module__" 278 (.str "rootwebs.errors" 187),en P "__firstlineno__" 282 (.int 12 281),en P "__static_attributes__" 283 (.ref 83),en P "__doc__" 284 .none] 2,#[]⟩),
 (85,⟨.type "type",none,.cls ⟨"NoTree",[(.ref 24)],[(.ref 85),(.ref 24),(.type "ValueError"),(.type "Exception"),(.type "BaseException"),(.type "object")],84, "NoTree",true,[],[],false,none,false⟩,#[some (.ref 76),none,some (.str "NoTree" 271),some (.str "NoTree" 279),some (.builtin "ValueError.__new__"),some (.bool true)]⟩),
 (100,⟨.type "code",none,.fields #[(.str "__init__" 299),(.str "NoWeb.__init__" 300),(.str "/claim/cut.py" 301),(.int 16 0),(.int 2 0),(.int 0 0),(.int 0 0),(.int 3 0),(.ref 95),(.bool true),(.int 181 0),(.ref 96),.none,(.ref 97),(.ref 98),(.ref 99),(.int 304 0),(.int 16 0),(.str "/claim/cut.py" 305)],#[]⟩),
 (101,Im "__init__" "NoWeb.__init__" (HS (top 7) 0) "rootwebs.errors" 187 100),
 (103,⟨.type "dict",none,.dict #[en P "__module__" 294 (.str "rootwebs.errors" 187),en P "__firstlineno__" 298 (.int 14 297),en P "__init__" 306 (.ref 101),en P "__static_attributes__" 308 (.ref 102),en P "__doc__" 309 .none] 2,#[]⟩),
 (104,⟨.type "type",none,.cls ⟨"NoWeb",[(.ref 24)],[(.ref 104),(.ref 24),(.type "ValueError"),(.type "Exception"),(.type "BaseException"),(.type "object")],103, "NoWeb",true,[],[],false,none,false⟩,#[some (.ref 88),none,some (.str "NoWeb" 287),some (.str "NoWeb" 295),some (.builtin "ValueError.__new__"),some (.bool true)]⟩),
 (122,⟨.type "dict",none,.dict #[en P "__module__" 319 (.str "rootwebs.errors" 187),en P "__firstlineno__" 323 (.int 18 322),en P "__init__" 331 (.ref 120),en P "__static_attributes__" 333 (.ref 121),en P "__doc__" 334 .none] 2,#[]⟩),
 (123,⟨.type "type",none,.cls ⟨"NoText",[(.ref 24)],[(.ref 123),(.ref 24),(.type "ValueError"),(.type "Exception"),(.type "BaseException"),(.type "object")],122, "NoText",true,[],[],false,none,false⟩,#[some (.ref 107),none,some (.str "NoText" 312),some (.str "NoText" 320),some (.builtin "ValueError.__new__"),some (.bool true)]⟩),
 (141,⟨.type "dict",none,.dict #[en P "__module__" 344 (.str "rootwebs.errors" 187),en P "__firstlineno__" 348 (.int 22 347),en P "__init__" 357 (.ref 139),en P "__static_attributes__" 360 (.ref 140),en P "__doc__" 361 .none] 2,#[]⟩),
 (142,⟨.type "type",none,.cls ⟨"TooGreat",[(.ref 24)],[(.ref 142),(.ref 24),(.type "ValueError"),(.type "Exception"),(.type "BaseException"),(.type "object")],141, "TooGreat",true,[],[],false,none,false⟩,#[some (.ref 126),none,some (.str "TooGreat" 337),some (.str "TooGreat" 345),some (.builtin "ValueError.__new__"),some (.bool true)]⟩),
 (150,co "is_whole" 366 28 1 181 145 true 370),
 (151,fo "is_whole" g9 "rootwebs.kinds" 364 150),
 (157,co "is_whole_from" 373 30 3 181 152 true 379),
 (158,fo "is_whole_from" dJ "rootwebs.kinds" 364 157),
 (164,co "is_place" 382 32 2 181 159 true 387),
 (165,fo "is_place" hG "rootwebs.kinds" 364 164),
 (169,co "is_places" 390 34 2 181 166 false 393),
 (170,fo "is_places" eU "rootwebs.kinds" 364 169),
 (176,co "is_many" 400 38 1 181 171 true 404),
 (177,fo "is_many" iR "rootwebs.webs" 396 176),
 (183,co "is_pair" 407 40 2 181 178 true 412),
 (184,fo "is_pair" iQ "rootwebs.webs" 396 183),
 (188,co "web_of" 415 42 2 181 185 false 418),
 (189,fo "web_of" iz "rootwebs.webs" 396 188),
 (195,co "_law_cell_at" 423 50 2 181 190 true 428),
 (196,fo "_law_cell_at" d5 "law_rootwebs_k02_webs_made" 421 195),
 (202,co "_law_next" 431 54 1 181 197 true 435),
 (203,fo "_law_next" gv "law_rootwebs_k02_webs_made" 421 202),
 (209,co "_law_pen_of" 438 57 1 181 204 true 443),
 (210,fo "_law_pen_of" eZ "law_rootwebs_k02_webs_made" 421 209),
 (216,co "_law_draw" 446 60 2 181 211 true 452),
 (217,fo "_law_draw" gx "law_rootwebs_k02_webs_made" 421 216),
 (223,co "_law_whole" 455 67 1 181 218 true 459),
 (224,fo "_law_whole" fN "law_rootwebs_k02_webs_made" 421 223),
 (230,co "_law_kind_of" 462 69 1 181 225 true 467),
 (231,fo "_law_kind_of" d4 "law_rootwebs_k02_webs_made" 421 230),
 (235,co "_law_named" 470 75 2 181 232 false 473),
 (236,fo "_law_named" dk "law_rootwebs_k02_webs_made" 421 235),
 (240,co "_law_names_by" 476 78 2 181 237 false 479),
 (241,fo "_law_names_by" cP "law_rootwebs_k02_webs_made" 421 240),
 (245,co "_law_far" 482 81 1 181 242 false 485),
 (246,fo "_law_far" fY "law_rootwebs_k02_webs_made" 421 245),
 (250,co "_law_steps" 488 92 2 181 247 false 491),
 (251,fo "_law_steps" dW "law_rootwebs_k02_webs_made" 421 250),
 (255,co "_law_sparse_by" 494 98 1 181 252 false 497),
 (256,fo "_law_sparse_by" ba "law_rootwebs_k02_webs_made" 421 255),
 (262,co "_law_web_by" 500 117 1 181 257 true 509),
 (263,fo "_law_web_by" eY "law_rootwebs_k02_webs_made" 421 262),
 (269,co "_law_due" 512 130 2 181 264 true 520),
 (270,fo "_law_due" hV "law_rootwebs_k02_webs_made" 421 269),
 (276,co "_law_mixed" 523 140 2 181 271 true 531),
 (277,fo "_law_mixed" fP "law_rootwebs_k02_webs_made" 421 276),
 (283,co "_law_right" 534 149 2 181 278 true 545),
 (284,fo "_law_right" fO "law_rootwebs_k02_webs_made" 421 283),
 (290,co "_law_no_number" 548 164 1 181 285 true 553),
 (291,fo "_law_no_number" dv "law_rootwebs_k02_webs_made" 421 290),
 (297,co "law" 556 170 1 181 292 true 569),
 (298,fo "law" kv "law_rootwebs_k02_webs_made" 421 297)]
def Qz:Program:=W.view PySem.Challenge.pw_rootwebs_k02_webs_made [1,2,3,4,5,6,7,8,9,11,12,13,14,16,17,18,19,21,22,23,24,25,26,27,28,29,30,31,32,33,34,35,36,37]
noncomputable abbrev Hz:W.Hook:=W.kHook Kz [3,23,24,36,37,48,49,60,61,72,73,84,85,100,101,103,104,122,123,141,142,150,151,157,158,164,165,169,170,176,177,183,184,188,189,195,196,202,203,209,210,216,217,223,224,230,231,235,236,240,241,245,246,250,251,255,256,262,263,269,270,276,277,283,284,290,291,297,298] fun _=>by kernel_rfl
theorem D7:PySem.Challenge.rw_rootwebs_k02_webs_made.wellSaid=true:=by kernel_rfl
noncomputable abbrev Xz(s:Shared):Bool:=W.xlAt Qz [] s&&W.recOk (W.RowW.records (W.OpenRow.toRowW (W.OpenLaw.row PySem.Challenge.rw_rootwebs_k02_webs_made))) s
theorem u7{σ α β γ δ ε:Type _}{o:Option σ}(F:σ->α×β×γ×δ)(G:σ->ε)(g:α×β×γ×δ)(v:ε)
  (h1:o.map (fun s=>(F s).1)=some g.1) (h2:o.map (fun s=>((F s).2.1,(F s).2.2.1))=some (g.2.1,g.2.2.1)) (h3:o.map (fun s=>(F s).2.2.2)=some g.2.2.2)
  (h4:o.map G=some v):o.map (fun s=>(F s,G s))=some (g,v):=by
 cases o with
 |none=>cases h4
 |some s=>
  have e1:(F s).1=g.1:=Jv h1;have e2:((F s).2.1,(F s).2.2.1)=(g.2.1,g.2.2.1):=Jv h2;have e3:(F s).2.2.2=g.2.2.2:=Jv h3;have e4:G s=v:=Jv h4;have e5:(F s).2.1=g.2.1:=(Prod.mk.inj e2).1;have e6:(F s).2.2.1=g.2.2.1:=(Prod.mk.inj e2).2;have e:F s=g:=Prod.ext e1 (Prod.ext e5 (Prod.ext e6 e3));show some (F s,G s)=some (g,v);rw[e,e4]
noncomputable abbrev Oz(w:World):=W.openEnds PySem.treeTable PySem.Challenge.rw_rootwebs_k02_webs_made.row.prog w 5620
noncomputable abbrev Sz:=W.openSeen Qz [] (PySem.importedModules PySem.Challenge.rw_rootwebs_k02_webs_made.row.prog.main.body) Xz true
noncomputable abbrev Tz:=W.openGood Qz []
theorem Br:∀w,(Oz w).map (fun s=>(Sz s).1)=some Tz.1:=fun w=>by kernel_rfl
theorem Bq:∀w,(Oz w).map (fun s=>((Sz s).2.1,(Sz s).2.2.1))=some (Tz.2.1,Tz.2.2.1):=fun w=>by kernel_rfl
theorem Bp:∀w,(Oz w).map (fun s=>(Sz s).2.2.2)=some Tz.2.2.2:=fun w=>by kernel_rfl
theorem Bo:∀w,(Oz w).map (W.Hook.obs Hz)=some (W.Hook.val Hz w):=fun w=>by kernel_rfl
theorem D8:W.LeftO PySem.Challenge.rw_rootwebs_k02_webs_made.row.prog Qz [] Xz (W.Hook.obs Hz) (W.Hook.val Hz) 5620:=fun w=>u7 Sz (W.Hook.obs Hz) Tz (W.Hook.val Hz w) (Br w) (Bq w) (Bp w) (Bo w)
end Lw
namespace L2
open PySem PySem.Spec PyProof.Rows
abbrev pA:=Sum Int Str
def DD:pA->Value->Bool
 |.inl k,v=>Value.isInt k v
 |.inr x,v=>Value.isStrOf x v
def IQ(w:World):pA->Int
 |.inl k=>hashInt k
 |.inr x=>hashStr w x
theorem cF:∀{k:pA}{v:Value},DD k v=true->(∃i t,k=Sum.inl i/\v=Value.int i t)\/(∃x t,k=Sum.inr x/\v=Value.str x t)
 |.inl i,v,h=>by
  obtain⟨t,e⟩:=Jw (k:=i) (v:=v) h;exact .inl ⟨i,t,rfl,e⟩
 |.inr x,v,h=>by
  obtain⟨t,e⟩:=Value.isStrOf_shape (x:=x) (v:=v) h;exact .inr ⟨x,t,rfl,e⟩
theorem FQ(a b:Int):decide ((Sum.inl a:pA)=Sum.inl b)=(a == b):=by
 by_cases e:a=b
 ·subst e;simp
 ·have h:¬ (Sum.inl a:pA)=Sum.inl b:=fun q=>e (Sum.inl.inj q);rw[Jx h];exact(beq_eq_false_iff_ne.mpr e).symm
theorem FN(a b:Str):decide ((Sum.inr a:pA)=Sum.inr b)=decide (a=b):=by
 by_cases e:a=b
 ·subst e;simp
 ·have h:¬ (Sum.inr a:pA)=Sum.inr b:=fun q=>e (Sum.inr.inj q);rw[Jx h,Jx e]
theorem FP(a:Int)(b:Str):decide ((Sum.inl a:pA)=Sum.inr b)=false:=Jx (fun q=>nomatch q)
theorem FO(a:Str)(b:Int):decide ((Sum.inr a:pA)=Sum.inl b)=false:=Jx (fun q=>nomatch q)
def nB(prog:Program)(w:World):PySem.KeyKind prog w pA where
 is:=DD
 hash:=IQ w
 inj:=fun v a b ha hb=>by
  rcases cF ha with⟨i,t,rfl,rfl⟩|⟨x,t,rfl,rfl⟩
  ·rcases cF hb with ⟨j, u, rfl, e⟩ | ⟨y, u, rfl, e⟩
   ·injection e with e1 _;rw[e1]
   ·exact nomatch e
  ·rcases cF hb with ⟨j, u, rfl, e⟩ | ⟨y, u, rfl, e⟩
   ·exact nomatch e
   ·injection e with e1 _;rw[e1]
 byValue:=fun k v h=>by
  rcases cF h with⟨i,t,rfl,rfl⟩|⟨x,t,rfl,rfl⟩ <;> rfl
 pyHash:=fun hv h=>by
  rcases cF hv with⟨i,t,rfl,rfl⟩|⟨x,t,rfl,rfl⟩
  ·exact wpAny_pyHash_int h
  ·exact wpAny_pyHash_str h
 eqBool:=fun hu hv h=>by
  rcases cF hu with⟨i,t,rfl,rfl⟩|⟨x,t,rfl,rfl⟩
  ·rcases cF hv with ⟨j, u, rfl, rfl⟩ | ⟨y, u, rfl, rfl⟩
   ·rw[FQ]at h;exact Jy h
   ·rw[FP]at h;exact SeqAt.EqAt.int_str i t y u _ _ _ _ h
  ·rcases cF hv with ⟨j, u, rfl, rfl⟩ | ⟨y, u, rfl, rfl⟩
   ·rw[FO]at h;exact SeqAt.EqAt.str_int x t j u _ _ _ _ h
   ·rw[FN]at h;exact wpAny_eqBool_str h
 «strs»:=fun k x t v h=>by
  rcases cF h with⟨i,u,rfl,e⟩|⟨y,u,rfl,e⟩
  ·exact nomatch e
  ·injection e with e1 _
   subst e1;cases v <;> rfl
end L2
namespace L2
open PySem PySem.Spec PyProof.Rows
inductive V where
 |non|bl (b:Bool)|int (i:Int)|str (x:Str)|byt (b:Array UInt8)|flt (b:UInt64)|ref (a:Addr)|ty (n:String)
 deriving DecidableEq
def bE:V->Value->Prop
 |.non,u=>u=Value.none
 |.bl b,u=>u=Value.bool b
 |.int i,u=>∃t,u=Value.int i t
 |.str x,u=>∃t,u=Value.str x t
 |.byt b,u=>∃t,u=Value.bytes b t
 |.flt b,u=>∃t,u=Value.float b t
 |.ref a,u=>u=Value.ref a
 |.ty n,u=>u=Value.type n
abbrev aW:List V->List Value->Prop:=Paired bE
theorem aW.length{xs:List V}{us:List Value}(r:aW xs us):xs.length=us.length:=Paired.length r
theorem aW.get:∀{xs:List V}{us:List Value}{i:Nat}{x:V},aW xs us->xs[i]?=some x->∃u,us[i]?=some u/\bE x u
 |_,_,_,_,.nil,e=>by simp at e
 |_,_,0,_,.cons r _,e=>by simp at e;subst e;exact⟨_,rfl,r⟩
 |_,_,i+1,x,.cons _ t,e=>by
  obtain⟨u,h1,h2⟩:=aW.get (i:=i) (x:=x) t (by simpa using e);exact⟨u,by simpa using h1,h2⟩
theorem aW.set{x:V}{u:Value}(r:bE x u):∀{xs:List V}{us:List Value}(i:Nat),aW xs us->aW (xs.set i x) (us.set i u)
 |_,_,_,.nil=>.nil
 |_,_,0,.cons _ t=>.cons r t
 |_,_,i+1,.cons q t=>.cons q (aW.set r i t)
theorem aW.append:∀{xs ys:List V}{us ws:List Value},aW xs us->aW ys ws->aW (xs++ys) (us++ws)
 |_,_,_,_,.nil,s=>s
 |_,_,_,_,.cons r t,s=>.cons r (aW.append t s)
theorem aW.take:∀{xs:List V}{us:List Value}(n:Nat),aW xs us->aW (xs.take n) (us.take n)
 |_,_,0,_=>.nil
 |_,_,_+1,.nil=>.nil
 |_,_,n+1,.cons r t=>.cons r (aW.take n t)
theorem aW.drop:∀{xs:List V}{us:List Value}(n:Nat),aW xs us->aW (xs.drop n) (us.drop n)
 |_,_,0,r=>r
 |_,_,_+1,.nil=>.nil
 |_,_,n+1,.cons _ t=>aW.drop n t
def GO:Option V->Option Value->Prop
 |some v,some u=>bE v u
 |none,none=>True
 |_,_=>False
def KV{κ:Type}:List (κ×V)->List (κ×Value)->Prop:=Paired fun(p:κ×V) (q:κ×Value)=>p.1=q.1/\bE p.2 q.2
def kV:pA->V
 |.inl i=>.int i
 |.inr x=>.str x
inductive HO where
 |lst (xs:List V)
 |tup (xs:List V)
 |dK (kvs:List (pA×V))|dT (kvs:List (List pA×V))
 |set (S:Int->Bool) (n:Nat)
 |ins (C dx:Addr) (fs:List (Str×V))
 |own (x:Addr)
 |xd (fs:List (Str×V))
 |met (f x:Addr)
 |rng (lo hi:Int)
 |frz (o:Obj) (u:HO)
 |tbl (ps:Array Value)
 |ext (φ:Heap->Prop)
abbrev Hp:=Addr->Option HO
def bx(H:Hp)(a:Addr)(o:HO):Hp:=fun b=>if b=a then some o else H b
theorem aS{H:Hp}{a:Addr}{o:HO}:bx H a o a=some o:=by unfold bx;rw[Jz rfl]
theorem aJ{H:Hp}{a b:Addr}{o:HO}(h:b≠a):bx H a o b=H b:=by unfold bx;rw[JA h]
theorem mK{H:Hp}{a b:Addr}{o u:HO}(h:H a=some o)(h':H b=some u)(d:o≠u):a≠b:=by
 intro e;subst e;rw[h]at h';exact d (Jv h')
theorem bB{H:Hp}{a b:Addr}{o:HO}(h:H a=some o)(h':H b=none):a≠b:=by
 intro e;subst e;rw[h]at h';cases h'
section
variable(P:Program)(w:World)
def cA(H:Hp)(h:Heap)(a:Addr):HO->Prop
 |.lst xs=>xs.length<=sizeLine/\∃(its:List Value) (n:Nat),aW xs its/\h.get? a=some {cls:=.type "list",data:=.seq its.toArray n}
 |.tup xs=>xs.length<=sizeLine/\∃its:List Value,aW xs its/\IsTup h a its.toArray
 |.dK kvs=>kvs.length<=sizeLine/\(a == sysModules)=false/\∃vs,KV kvs vs/\h.DictOf (nB P w) a vs
 |.dT kvs=>kvs.length<=sizeLine/\(a == sysModules)=false/\∃xs:List (List pA×Addr×Value),
   Paired (fun(p:List pA×V) (q:List pA×Addr×Value)=>p.1=q.1/\H q.2.1=some (.tup (p.1.map kV))/\bE p.2 q.2.2) kvs xs /\
   ∃o es ep,h.get? a=some o/\o.ExactDict/\o.data=.dict es ep/\es.toList=xs.map (entryOfKey (tupleKind (nB P w)))/\(xs.map (·.1)).Nodup
 |.set S n=>h.SetOf (intKind P w) a S n
 |.ins C dx fs=>H dx=some (.own a)/\fs.length<=1000/\dx≠a/\h.get? a=some (W.instObj C dx) /\
   ∃mA,h.Ns1 dx mA/\(∀f,GO (fs.lookup f) (mA f))/\PySem.Within mA (fs.map (·.1))
 |.own _=>∃o,h.get? a=some o
 |.xd fs=>∃mA,h.Ns1 a mA/\∀f,GO (fs.lookup f) (mA f)
 |.rng lo hi=>∃t u v,h.get? a=some {cls:=.type "range",data:=.fields #[.int lo t,.int hi u,.int 1 v]}
 |.frz o u=>h.get? a=some o/\cA H h a u
 |.tbl ps=>h.get? a=some {cls:=.none,data:=.fields ps}
 |.met f x=>h.get? a=some (W.methodObj (.ref f) (.ref x))
 |.ext φ=>φ h/\(∃o,h.get? a=some o)/\∀h1 h2:Heap,φ h1->(∀o,h1.get? a=some o->h2.get? a=some o)->φ h2
def lM(H:Hp)(h:Heap):Prop:=∀a o,H a=some o->cA P w H h a o
end
section
variable{P:Program}{w:World}{H H':Hp}{h h':Heap}{a:Addr}{o:HO}
theorem cA.lt(x:cA P w H h a o):a<h.objs.size:=by
 cases o with
 |lst xs=>obtain⟨_,_,_,_,e⟩:=x;exact JB e
 |tup xs=>obtain⟨_,_,_,p⟩:=x;exact p.lt
 |dK kvs=>obtain⟨_,_,_,_,o,_,_,e,_⟩:=x;exact JB e
 |dT kvs=>obtain⟨_,_,_,_,o,_,_,e,_⟩:=x;exact JB e
 |set S n=>obtain⟨o,_,_,_,e,_⟩:=x;exact JB e
 |ins C dx fs=>obtain⟨_,_,_,e,_⟩:=x;exact JB e
 |own y=>obtain⟨_,e⟩:=x;exact JB e
 |xd fs=>obtain⟨_,⟨_,_,_,e,_⟩,_⟩:=x;exact JB e
 |rng lo hi=>obtain⟨_,_,_,e⟩:=x;exact JB e
 |frz ob u=>obtain⟨e,_⟩:=x;exact JB e
 |tbl ps=>exact JB (show h.get? a=some _ from x)
 |met f y=>exact JB (show h.get? a=some _ from x)
 |ext φ=>obtain⟨_,⟨_,e⟩,_⟩:=x;exact JB e
theorem m5{α β:Type}{F G:α->β->Prop}:∀{l₁:List α}{l₂:List β},Paired F l₁ l₂->(∀a b,F a b->G a b)->Paired G l₁ l₂
 |_,_,.nil,_=>.nil
 |_,_,.cons r t,f=>.cons (f _ _ r) (m5 t f)
theorem cA.stay(x:cA P w H h a o)(k:∀b u,(b=a\/H b=some (.own a))->h.get? b=some u->h'.get? b=some u)
  (ho:∀b,H b=some (.own a)->H' b=some (.own a)) (ht:∀b xs,H b=some (.tup xs)->H' b=some (.tup xs)):cA P w H' h' a o:=by
 induction o with
 |lst xs=>obtain⟨z,its,n,r,e⟩:=x;exact⟨z,its,n,r,k _ _ (.inl rfl) e⟩
 |tup xs=>obtain⟨z,its,r,ob,e,c⟩:=x;exact⟨z,its,r,ob,k _ _ (.inl rfl) e,c⟩
 |dK kvs=>obtain⟨z,y,vs,r,ob,es,ep,e,c⟩:=x;exact⟨z,y,vs,r,ob,es,ep,k _ _ (.inl rfl) e,c⟩
 |dT kvs=>
  obtain⟨z,y,xs,r,ob,es,ep,e,c⟩:=x;exact⟨z,y,xs,m5 r fun p q z=>⟨z.1,ht _ _ z.2.1,z.2.2⟩,ob,es,ep,k _ _ (.inl rfl) e,c⟩
 |set S n=>obtain⟨ob,es,ep,t,e,c⟩:=x;exact⟨ob,es,ep,t,k _ _ (.inl rfl) e,c⟩
 |ins C dx fs=>
  obtain⟨d,z,ne,e,mA,⟨od,es,ep,e2,c⟩,r⟩:=x;exact⟨ho _ d,z,ne,k _ _ (.inl rfl) e,mA,⟨od,es,ep,k _ _ (.inr d) e2,c⟩,r⟩
 |own y=>obtain⟨ob,e⟩:=x;exact⟨ob,k _ _ (.inl rfl) e⟩
 |xd fs=>obtain⟨mA,⟨od,es,ep,e,c⟩,r⟩:=x;exact⟨mA,⟨od,es,ep,k _ _ (.inl rfl) e,c⟩,r⟩
 |rng lo hi=>obtain⟨t,u,v,e⟩:=x;exact⟨t,u,v,k _ _ (.inl rfl) e⟩
 |frz ob u ih=>obtain⟨e,q⟩:=x;exact⟨k _ _ (.inl rfl) e,ih q⟩
 |tbl ps=>
  have e:h.get? a=some {cls:=.none,data:=.fields ps}:=x;show h'.get? a=some {cls:=.none,data:=.fields ps};exact k a _ (.inl rfl) e
 |met f y=>
  have e:h.get? a=some (W.methodObj (.ref f) (.ref y)):=x;show h'.get? a=some (W.methodObj (.ref f) (.ref y));exact k a _ (.inl rfl) e
 |ext φ=>obtain⟨p,⟨o,e⟩,st⟩:=x;exact⟨st _ _ p fun o q=>k _ _ (.inl rfl) q,⟨o,k _ _ (.inl rfl) e⟩,st⟩
theorem lM.lt(x:lM P w H h)(e:H a=some o):a<h.objs.size:=(x a o e).lt
theorem lM.fresh(x:lM P w H h)(e:h.objs.size<=a):H a=none:=by
 cases q:H a with
 |none=>rfl
 |some u=>exact absurd (JC (x.lt q) e) (JD _)
theorem lM.kept(x:lM P w H h)(k:∀b u,h.get? b=some u->h'.get? b=some u):lM P w H h':=fun a o e=>
 (x a o e).stay (fun b u _ q=>k b u q) (fun _ q=>q) fun _ _ q=>q
theorem lM.laid(x:lM P w H h)(k:∀b u,h.get? b=some u->h'.get? b=some u)(hp:h.objs.size<=a)(new:cA P w (bx H a o) h' a o):lM P w (bx H a o) h':=fun b u e=>by
 have hn:=x.fresh hp;by_cases hb:b=a
 ·subst hb;rw[aS]at e;cases e;exact new
 ·rw[aJ hb]at e;exact(x b u e).stay (fun c v _ q=>k c v q) (fun c q=>by rw[aJ (bB q hn)];exact q) fun c xs q=>by rw[aJ (bB q hn)];exact q
end
def Rd(H:Hp)(a:Addr)(u:HO):Prop:=H a=some u\/∃o,H a=some (.frz o u)
theorem Rd.ok{P:Program}{w:World}{H:Hp}{h:Heap}{a:Addr}{u:HO}(r:Rd H a u)(x:lM P w H h):cA P w H h a u:=by
 rcases r with r|⟨o,r⟩
 ·exact x a u r
 ·obtain⟨_,q⟩:=x a _ r;exact q
def HW:Option HO->Prop
 |some (.lst _)=>True
 |some (.dK _)=>True
 |some (.dT _)=>True
 |some (.set _ _)=>True
 |some (.ins _ _ _)=>True
 |some (.ext _)=>True
 |_=>False
section
variable{P:Program}{w:World}{H:Hp}{h h':Heap}{x e:Addr}{o':HO}
theorem lM.write(ok:lM P w H h)(mu:HW (H x))(he:e=x\/H e=some (.own x))(k:∀b u,b≠e->h.get? b=some u->h'.get? b=some u)(heo:∃u,h'.get? e=some u)
  (new:cA P w (bx H x o') h' x o'):lM P w (bx H x o') h':=fun b u q=>by
 have nown:∀c y,H c=some (.own y)->c≠x:=fun c y r z=>by subst z;rw[r]at mu;exact mu
 have ntup:∀c xs,H c=some (.tup xs)->c≠x:=fun c xs r z=>by subst z;rw[r]at mu;exact mu
 by_cases hb:b=x
 ·subst hb;rw[aS]at q;cases q;exact new
 ·rw [aJ hb] at q;by_cases hbe:b=e
  ·have q':H b=some (.own x):=by
    rcases he with z|z
    ·exact absurd (hbe.trans z) hb
    ·rw[hbe];exact z
   rw[q]at q';cases q';obtain⟨v,hv⟩:=heo;exact⟨v,by rw[hbe];exact hv⟩
  ·refine (ok b u q).stay (fun c v hc r => k c v ?_ r) (fun c r => by rw [aJ (nown c b r)]; exact r) fun c xs r => by rw [aJ (ntup c xs r)]; exact r
   rcases hc with rfl|hc
   ·exact hbe
   ·rintro rfl
    rcases he with z|z
    ·exact nown c b hc z
    ·rw[hc]at z;cases z;exact hb rfl
end
structure Un(fs ex:List Addr)(H H':Hp)(h h':Heap):Prop where
 keep:∀b o,h.get? b=some o->H b=none->b∉fs->b∉ex->h'.get? b=some o
 slot:∀b o,h.get? b=some o->H b=none->b∈fs->b∉ex->∃sl,h'.get? b=some {o with slots:=sl}
 free:∀b o,h.get? b=some o->H b=none->b∉ex->H' b=none
 there:∀b o,h.get? b=some o->b∉ex->∃o',h'.get? b=some o'
 tups:∀b xs,H b=some (.tup xs)->H' b=some (.tup xs)
 frzs:∀b o u,H b=some (.frz o u)->H' b=some (.frz o u)
 tbls:∀b ps,H b=some (.tbl ps)->∃more,H' b=some (.tbl (ps++more))
section
variable{fs fs' ex ex':List Addr}{H H1 H2:Hp}{h h1 h2 h':Heap}{a x e:Addr}{o:HO}
theorem Un.any(u:Un fs ex H H1 h h1){b:Addr}{ob:Obj}(q:h.get? b=some ob)(n:H b=none)(hx:b∉ex):∃sl,h1.get? b=some {ob with slots:=sl}:=by
 by_cases hb:b∈fs
 ·exact u.slot b ob q n hb hx
 ·exact⟨ob.slots,u.keep b ob q n hb hx⟩
theorem Un.kept(k:∀b u,h.get? b=some u->h'.get? b=some u):Un fs ex H H h h':=
 ⟨fun b ob q _ _ _=>k b ob q,fun b ob q _ _ _=>⟨ob.slots,k b ob q⟩,fun _ _ _ n _=>n,fun b ob q _=>⟨ob,k b ob q⟩,fun _ _ q=>q,fun _ _ _ q=>q,fun _ ps q=>⟨#[],by rw[q];simp⟩⟩
theorem Un.refl:Un fs ex H H h h:=Un.kept fun _ _ q=>q
theorem Un.laid(k:∀b u,h.get? b=some u->h'.get? b=some u)(hp:h.objs.size<=a)(hn:H a=none):Un fs ex H (bx H a o) h h' where
 keep:=fun b u q _ _ _=>k b u q
 slot:=fun b u q _ _ _=>⟨u.slots,k b u q⟩
 free:=fun b u q n _=>by rw[aJ (JE (JC (JB q) hp))];exact n
 there:=fun b u q _=>⟨u,k b u q⟩
 tups:=fun b xs q=>by rw[aJ (bB q hn)];exact q
 frzs:=fun b u xs q=>by rw[aJ (bB q hn)];exact q
 tbls:=fun b ps q=>⟨#[],by rw[aJ (bB q hn),q];simp⟩
theorem Un.write(mu:HW (H x))(he:e=x\/H e=some (.own x))(k:∀b u,b≠e->h.get? b=some u->h'.get? b=some u)(heo:∃u,h'.get? e=some u):Un fs ex H (bx H x o) h h':=by
 have hx:∀b,H b=none->b≠x:=fun b n z=>by subst z;rw[n]at mu;exact mu
 have hb:∀b,H b=none->b≠e:=fun b n z=>by
  subst z;rcases he with r|r
  ·exact hx b n r
  ·rw[n]at r;cases r
 have hm:∀b u,H b=some u->¬ HW (some u)->b≠x:=fun b u q nm z=>by subst z;rw[q]at mu;exact nm mu
 refine⟨fun b u q n _ _=>k b u (hb b n) q,fun b u q n _ _=>⟨u.slots,k b u (hb b n) q⟩,fun b u q n _=>by rw[aJ (hx b n)];exact n,fun b u q _=>?_,
  fun b xs q=>by rw[aJ (hm b _ q fun z=>z)];exact q,fun b u xs q=>by rw[aJ (hm b _ q fun z=>z)];exact q,fun b ps q=>⟨#[],by rw[aJ (hm b _ q fun z=>z),q];simp⟩⟩
 by_cases hbe:b=e
 ·subst hbe;exact heo
 ·exact⟨u,k b u hbe q⟩
end
def HM(h:Heap)(H:Hp):List Addr:=(List.range h.objs.size).filter fun a=>(H a).isSome
def qQ(h:Heap)(H:Hp):Heap:=W.hideAll h (HM h H)
theorem xZ(h:Heap)(H:Hp):(qQ h H).objs.size=h.objs.size:=W.hideAll_size _ _
theorem AR{h:Heap}{H:Hp}{b:Addr}{o:Obj}(e:h.get? b=some o)(n:H b=none):(qQ h H).get? b=some o:=
 W.hideAll_get _ e fun hm=>by
  have q:(H b).isSome=true:=(JF.mp hm).2;rw[n]at q;simp at q
theorem CG{h:Heap}{H:Hp}{b:Addr}{o:Obj}(e:(qQ h H).get? b=some o):h.get? b=some o/\H b=none:=by
 have e':h.get? b=some o:=W.of_hideAll (HM h H) e;refine⟨e',?_⟩;cases q:H b with
 |none=>rfl
 |some x=>
  have hm:b∈HM h H:=JF.mpr ⟨JG.mpr (JB e'),by simp[q]⟩;have z:(qQ h H).get? b=none:=W.hideAll_none (HM h H) hm;rw[z]at e;cases e
end L2
namespace L2
open PySem PySem.Spec PyProof.Rows
structure Mod(K:W.Frag)(mg:Str->Option Value)(base:Heap):Prop where
 kin:K.In base
 glob:base.Ns mainGlobals mg
 blt:∃mb,base.Ns builtinsNs mb/\∀x:Str,x ≠ "__name__" -> mb x=bootBuiltins x
 nolimit:base.NoLimit
structure Cx where
 prog:Program
 w:World
 K:W.Frag
 mg:Str->Option Value
 base:Heap
 A:Around
 N:List Str
 s₀:Shared
 H₀:Hp
 env:Env
 outer:List Env
 stack:List Env
 ex:List Addr
 fn:Str->Bool
 calm:Bool
 pn:List (Addr×Obj)
 xe:Value->Shared->Prop
def nM(l:List Env):List Addr:=l.filterMap (·.frame)
abbrev Cx.fs(X:Cx):List Addr:=nM X.outer
def Dl(sc:Scope)(x:Str):Prop:=sc.names.lookup x=some .local\/sc.names.lookup x=some .cell\/sc.names.lookup x=some .free
def uC(sc:Scope)(x:Str):Prop:=sc.names.lookup x=some .local\/sc.names.lookup x=some .cell
def GQ(env:Env)(h:Heap)(m:Str->Option Value)(x:Str)(u:Value):Prop:=
 (env.kindOf x=some .local/\m x=some u)\/((env.kindOf x=some .cell\/env.kindOf x=some .free)/\∃c,env.cells.lookup x=some c/\h.IsCell c (some u))
structure Cx.Ok(X:Cx):Prop where
 mod:Mod X.K X.mg X.base
 kind:X.env.scope.kind=.function
 glob:X.env.globals=mainGlobals
 blt:X.env.builtins=builtinsNs
 above:X.s₀.heap.objs.size<=X.env.locals
 inj:∀x y c,X.env.cells.lookup x=some c->X.env.cells.lookup y=some c->x=y
 has:∀x,(X.env.kindOf x=some .cell\/X.env.kindOf x=some .free)->∃c,X.env.cells.lookup x=some c
 cab:∀x c,X.fn x=true->X.env.cells.lookup x=some c->X.s₀.heap.objs.size<=c
 hd:X.calm=true->X.A.handled=none
 frames:X.A.frames=some X.stack
 stk:X.stack=X.outer\/(X.stack=X.env::X.outer/\X.env.frame=some X.env.locals)
 exf:∀b∈X.ex,b≠X.env.locals/\∀x c,X.env.cells.lookup x=some c->c≠b
 bs:∀b o,X.base.get? b=some o->X.s₀.heap.get? b=some o/\X.H₀ b=none
 bsz:X.base.objs.size<=X.s₀.heap.objs.size
 noex:∀b o,X.base.get? b=some o->b∉X.ex
 exfs:∀b∈X.ex,b∉X.fs
 funs:X.s₀.heap.FunFrames X.base X.outer
 frf:∀b∈X.fs,X.H₀ b=none
structure aP(X:Cx)(pins:List (Addr×Obj))(σ:List (Option V))(H:Hp)(s:Shared):Prop where
 ok:X.Ok
 os:s.os=X.s₀.os
 bare:AllBare s.gens
 base:Un X.fs X.ex X.H₀ H X.s₀.heap s.heap
 loc:∃m,s.heap.Ns X.env.locals m/\∀(i:Nat)(x:Str)(v:V),X.N[i]?=some x->σ[i]?=some (some v)->Dl X.env.scope x->∃u,bE v u/\GQ X.env s.heap m x u
 cell:∀x c,X.env.cells.lookup x=some c->∃v,s.heap.IsCell c v
 free:H X.env.locals=none
 freeC:∀x c,X.env.cells.lookup x=some c->H c=none
 pin:∀p∈X.pn++pins,s.heap.get? p.1=some p.2/\H p.1=none/\p.1≠X.env.locals/\p.1∉X.fs/\∀v,p.2.data≠.cell v
 hok:lM X.prog X.w H s.heap
 len:σ.length=X.N.length
section
variable{X:Cx}{pins:List (Addr×Obj)}{σ:List (Option V)}{H H':Hp}{s:Shared}{h':Heap}
theorem Cx.Ok.nofr(ok:X.Ok){b:Addr}{o:Obj}(e:X.base.get? b=some o):b∉X.fs:=fun hb=>by
 have:=(ok.funs.mem hb).1;rw[e]at this;cases this
theorem aP.bs(I:aP X pins σ H s):∀b o,X.base.get? b=some o->s.heap.get? b=some o/\H b=none:=fun b o e=>
 ⟨I.base.keep b o (I.ok.bs b o e).1 (I.ok.bs b o e).2 (I.ok.nofr e) (I.ok.noex b o e),I.base.free b o (I.ok.bs b o e).1 (I.ok.bs b o e).2 (I.ok.noex b o e)⟩
theorem aP.bk(I:aP X pins σ H s):∀b o,X.base.get? b=some o->s.heap.get? b=some o:=fun b o e=>(I.bs b o e).1
theorem aP.mod(I:aP X pins σ H s):Mod X.K X.mg X.base:=I.ok.mod
theorem aP.kIn(I:aP X pins σ H s):X.K.In s.heap:=I.ok.mod.kin.keeps I.bk
theorem aP.lt(I:aP X pins σ H s):X.env.locals<s.heap.objs.size:=let ⟨_,hn,_⟩:=I.loc;hn.lt
theorem aP.sz(I:aP X pins σ H s):X.s₀.heap.objs.size<=s.heap.objs.size:=JH I.ok.above (JI I.lt)
theorem aP.nofs(I:aP X pins σ H s){a:Addr}(h:s.heap.objs.size<=a):a∉X.fs:=fun hb=>by
 obtain⟨_,o,ho,_⟩:=I.ok.funs.mem hb;exact absurd (JC (JB ho) (JH I.sz h)) (JD _)
theorem aP.cne(I:aP X pins σ H s):∀x c,X.env.cells.lookup x=some c->c≠X.env.locals:=fun x c e z=>by
 obtain⟨v,o,ho,hd⟩:=I.cell x c e;obtain⟨m,⟨o',es,ep,ho',hd',_⟩,_⟩:=I.loc;rw[z,ho']at ho;cases ho;rw[hd']at hd;cases hd
theorem aP.funs(I:aP X pins σ H s):s.heap.FunFrames X.base X.outer:=by
 have all:∀(l:List Env),(∀b∈nM l,b∈X.fs)->X.s₀.heap.FunFrames X.base l->s.heap.FunFrames X.base l:=by
  intro l
  induction l with
  |nil=>intro _ _;trivial
  |cons env r ih=>
   intro hs hl;obtain⟨hk,⟨L,o,hf,hn,ho,hd⟩,hr⟩:=hl;have hL:L∈X.fs:=hs L (by unfold nM;rw[JJ,hf];exact JK);obtain⟨sl,e⟩:=I.base.slot L o ho (I.ok.frf L hL) hL fun z=>I.ok.exfs L z hL;exact⟨hk,⟨L,_,hf,hn,e,hd⟩,ih (fun b hb=>hs b (by unfold nM;rw[JJ,hf];exact JL _ hb)) hr⟩
 exact all X.outer (fun _ hb=>hb) I.ok.funs
theorem aP.stack(I:aP X pins σ H s):s.heap.FunFrames X.base X.stack:=by
 rcases I.ok.stk with e|⟨e,hf⟩
 ·rw[e];exact I.funs
 ·rw[e];obtain⟨m,hn,_⟩:=I.loc;refine .cons (by rw[I.ok.kind];decide) hf hn ?_ I.funs;exact JM (JH I.ok.bsz I.ok.above)
theorem aP.stkSub(I:aP X pins σ H s):∀b∈nM X.stack,b∈X.env.locals::X.fs:=fun b hb=>by
 rcases I.ok.stk with e|⟨e,hf⟩
 ·rw[e]at hb;exact JL _ hb
 ·rw[e]at hb;unfold nM at hb;rw[JJ,hf]at hb;exact hb
theorem aP.stkFree(I:aP X pins σ H s):∀b∈nM X.stack,H b=none:=fun b hb=>by
 rcases JN.mp (I.stkSub b hb) with e|hb
 ·rw[e];exact I.free
 ·obtain⟨_,o,ho,_⟩:=I.ok.funs.mem hb;exact I.base.free b o ho (I.ok.frf b hb) fun z=>I.ok.exfs b z hb
theorem aP.step{g':Array GenState}{t':Nat}{d':Drawn}{ch:List Addr}(I:aP X pins σ H s)
  (hch:∀b∈ch,(b∈X.ex\/X.s₀.heap.objs.size<=b)/\b≠X.env.locals/\(∀x c,X.env.cells.lookup x=some c->c≠b)/\∀p∈X.pn++pins,p.1≠b)
  (keep:∀b o,b≠X.env.locals->b∉X.fs->b∉ch->s.heap.get? b=some o->H b=none->h'.get? b=some o)
  (slot:∀b o,b≠X.env.locals->b∈X.fs->b∉ch->s.heap.get? b=some o->H b=none->∃sl,h'.get? b=some {o with slots:=sl}) (free:∀b o,b∉ch->s.heap.get? b=some o->H b=none->H' b=none)
  (there:∀b o,b∉ch->s.heap.get? b=some o->∃o',h'.get? b=some o')
  (tups:∀b xs,H b=some (.tup xs)->H' b=some (.tup xs)) (frzs:∀b o u,H b=some (.frz o u)->H' b=some (.frz o u)) (tbls:∀b ps,H b=some (.tbl ps)->∃more,H' b=some (.tbl (ps++more)))
  (ns:∀m,s.heap.Ns X.env.locals m->h'.Ns X.env.locals m) (hok:lM X.prog X.w H' h') (hg:AllBare g') :
  aP X pins σ H' {s with heap:=h',gens:=g',drawn:=d',toks:=t'}:=by
 have neL:∀b o,X.s₀.heap.get? b=some o->b≠X.env.locals:=fun b o e=>JE (JC (JB e) I.ok.above)
 have neC:∀b o,X.s₀.heap.get? b=some o->b∉X.ex->b∉ch:=fun b o e hx hb=>by
  rcases (hch b hb).1 with z|z
  ·exact hx z
  ·exact absurd (JC (JB e) z) (JD _)
 have cellK:∀x c,X.env.cells.lookup x=some c->∀v,s.heap.IsCell c v->h'.IsCell c v:=fun x c e v ⟨o,ho,hd⟩=>by
  have nch:c∉ch:=fun z=>(hch c z).2.2.1 x c e rfl;by_cases hc:c∈X.fs
  ·obtain⟨sl,q⟩:=slot c o (I.cne x c e) hc nch ho (I.freeC x c e);exact⟨_,q,hd⟩
  ·exact⟨o,keep c o (I.cne x c e) hc nch ho (I.freeC x c e),hd⟩
 refine⟨I.ok,I.os,hg,⟨fun b o e n hb hx=>?_,fun b o e n hb hx=>?_,fun b o e n hx=>?_,fun b o e hx=>?_,fun b xs e=>tups b xs (I.base.tups b xs e),fun b o xs e=>frzs b o xs (I.base.frzs b o xs e),fun b ps e=>?_⟩,?_,fun x c e=>?_,?_,fun x c e=>?_,fun p hp=>?_,hok,I.len⟩
 ·exact keep b o (neL b o e) hb (neC b o e hx) (I.base.keep b o e n hb hx) (I.base.free b o e n hx)
 ·obtain⟨sl,e1⟩:=I.base.slot b o e n hb hx;obtain⟨sl',e2⟩:=slot b _ (neL b o e) hb (neC b o e hx) e1 (I.base.free b o e n hx);exact⟨sl',e2⟩
 ·obtain⟨o',e1⟩:=I.base.there b o e hx;exact free b o' (neC b o e hx) e1 (I.base.free b o e n hx)
 ·obtain⟨o',e1⟩:=I.base.there b o e hx;exact there b o' (neC b o e hx) e1
 ·obtain⟨m1,e1⟩:=I.base.tbls b ps e;obtain⟨m2,e2⟩:=tbls b _ e1;exact⟨m1++m2,by rw[e2,Array.append_assoc]⟩
 ·obtain ⟨m, hn, hl⟩ := I.loc;refine⟨m,ns m hn,fun i x v e1 e2 e3=>?_⟩;obtain⟨u,r,l⟩:=hl i x v e1 e2 e3;refine⟨u,r,?_⟩;rcases l with l|⟨k,c,e,z⟩
  ·exact .inl l
  ·exact .inr ⟨k,c,e,cellK x c e _ z⟩
 ·obtain⟨v,z⟩:=I.cell x c e;exact⟨v,cellK x c e v z⟩
 ·obtain⟨m,⟨o,_,_,ho,_⟩,_⟩:=I.loc;exact free _ o (fun z=>(hch _ z).2.1 rfl) ho I.free
 ·obtain⟨v,o,ho,hd⟩:=I.cell x c e;exact free c o (fun z=>(hch c z).2.2.1 x c e rfl) ho (I.freeC x c e)
 ·obtain⟨e,n,ne,nf,d⟩:=I.pin p hp;have nch:p.1∉ch:=fun z=>(hch p.1 z).2.2.2 p hp rfl;exact⟨keep p.1 p.2 ne nf nch e n,free p.1 p.2 nch e n,ne,nf,d⟩
theorem aP.un{t':Nat}(I:aP X pins σ H s)(u:Un X.fs [] H H' s.heap h')(hok:lM X.prog X.w H' h'):aP X pins σ H' {s with heap:=h',toks:=t'}:=by
 obtain⟨m,⟨o,es,ep,ho,r⟩,_⟩:=id I.loc;obtain⟨sl,hL⟩:=u.any ho I.free (by simp)
 exact I.step (g':=s.gens) (d':=s.drawn) (ch:=[]) (fun _ z=>nomatch z) (fun b o _ hb _ e n=>u.keep b o e n hb (by simp)) (fun b o _ hb _ e n=>u.slot b o e n hb (by simp)) (fun b o _ e n=>u.free b o e n (by simp)) (fun b o _ e=>u.there b o e (by simp)) u.tups u.frzs u.tbls (fun m' hm=>by
  obtain⟨o',es',ep',ho',r'⟩:=hm;rw[ho]at ho';cases ho'
  exact⟨_,es',ep',hL,r'⟩) hok I.bare
theorem aP.call{g':Array GenState}{t':Nat}{d':Drawn}{ch:List Addr}(I:aP X pins σ H s)(u:Un (nM X.stack) ch H H' s.heap h')(hok:lM X.prog X.w H' h')(hg:AllBare g')
  (hch:∀b∈ch,(b∈X.ex\/X.s₀.heap.objs.size<=b)/\b≠X.env.locals/\(∀x c,X.env.cells.lookup x=some c->c≠b)/\∀p∈X.pn++pins,p.1≠b) :
  aP X pins σ H' {s with heap:=h',gens:=g',drawn:=d',toks:=t'}:=by
 obtain⟨m,⟨o,es,ep,ho,r⟩,_⟩:=id I.loc;obtain⟨sl,hL⟩:=u.any ho I.free fun z=>(hch _ z).2.1 rfl
 exact I.step (ch:=ch) hch (fun b o hL hb hc e n=>u.keep b o e n (fun z=>(JN.mp (I.stkSub b z)).elim hL hb) hc) (fun b o _ _ hc e n=>u.any e n hc) (fun b o hc e n=>u.free b o e n hc) (fun b o hc e=>u.there b o e hc) u.tups u.frzs u.tbls (fun m' hm=>by
  obtain⟨o',es',ep',ho',r'⟩:=hm;rw[ho]at ho';cases ho'
  exact⟨_,es',ep',hL,r'⟩) hok hg
theorem aP.turned{t':Nat}{it:Addr}(I:aP X pins σ H s)(k:∀b o,b≠it->s.heap.get? b=some o->h'.get? b=some o)(hn:H it=none)(hL:it≠X.env.locals)
  (h1:it∈X.ex\/X.s₀.heap.objs.size<=it) (h2:∀x c,X.env.cells.lookup x=some c->c≠it) (h3:∀p∈X.pn++pins,p.1≠it):aP X pins σ H {s with heap:=h',toks:=t'}:=by
 have nit:∀b u,H b=some u->b≠it:=fun b u e z=>by rw[z,hn]at e;cases e
 refine I.step (g':=s.gens) (d':=s.drawn) (ch:=[it]) (fun b hb=>?_) (fun b o _ _ hc e _=>k b o (fun z=>hc (by simp[z])) e) (fun b o _ _ hc e _=>⟨o.slots,k b o (fun z=>hc (by simp[z])) e⟩) (fun _ _ _ _ n=>n)
  (fun b o hc e=>⟨o,k b o (fun z=>hc (by simp[z])) e⟩) (fun _ _ e=>e) (fun _ _ _ e=>e) (fun b ps e=>⟨#[],by rw[e];simp⟩) (fun m hm=>?_) (fun b u e=>?_) I.bare
 ·have e : b = it := by simpa using hb
  subst e;exact⟨h1,hL,h2,h3⟩
 ·obtain⟨o,es,ep,ho,r⟩:=hm;exact⟨o,es,ep,k _ o (JO hL) ho,r⟩
 ·refine (I.hok b u e).stay (fun c v hc q => k c v ?_ q) (fun _ q => q) fun _ _ q => q;rcases hc with z|z
  ·rw[z];exact nit b u e
  ·exact nit c _ z
theorem aP.tok(I:aP X pins σ H s)(t:Nat):aP X pins σ H {s with toks:=t}:=I.un (h':=s.heap) (t':=t) Un.refl I.hok
theorem aP.kept{t':Nat}(I:aP X pins σ H s)(k:∀b u,s.heap.get? b=some u->h'.get? b=some u):aP X pins σ H {s with heap:=h',toks:=t'}:=I.un (Un.kept k) (I.hok.kept k)
theorem aP.laid{a:Addr}{o:HO}{t':Nat}(I:aP X pins σ H s)(k:∀b u,s.heap.get? b=some u->h'.get? b=some u)(hp:s.heap.objs.size<=a)(new:cA X.prog X.w (bx H a o) h' a o) :
  aP X pins σ (bx H a o) {s with heap:=h',toks:=t'}:=I.un (Un.laid k hp (I.hok.fresh hp)) (I.hok.laid k hp new)
theorem aP.write{x e:Addr}{o:HO}{t':Nat}(I:aP X pins σ H s)(mu:HW (H x))(he:e=x\/H e=some (.own x))(k:∀b u,b≠e->s.heap.get? b=some u->h'.get? b=some u)(heo:∃u,h'.get? e=some u)
  (new:cA X.prog X.w (bx H x o) h' x o):aP X pins σ (bx H x o) {s with heap:=h',toks:=t'}:=I.un (Un.write mu he k heo) (I.hok.write mu he k heo new)
theorem aP.pins_of{pins':List (Addr×Obj)}(I:aP X pins σ H s)(h:∀p∈pins',s.heap.get? p.1=some p.2/\H p.1=none/\p.1≠X.env.locals/\p.1∉X.fs/\∀v,p.2.data≠.cell v):aP X pins' σ H s:=
 ⟨I.ok,I.os,I.bare,I.base,I.loc,I.cell,I.free,I.freeC,fun p hp=>(JP.mp hp).elim (fun z=>I.pin p (JQ _ z)) (h p),I.hok,I.len⟩
theorem tH{N:List Str}(hN:N.Nodup){i j:Nat}{x:Str}(a:N[i]?=some x)(b:N[j]?=some x):i=j:=by
 obtain⟨h1,e1⟩:=JR.mp a;obtain⟨h2,e2⟩:=JR.mp b;exact(JS hN).mp (e1.trans e2.symm)
theorem p9{M:Model}{A:Around}{E:Value->Shared->Prop}{i:Nat}{x:Str}{v:V}{u:Value}{Q:Unit->Shared->Prop}(I:aP X pins σ H s)(hN:X.N.Nodup)(hi:X.N[i]?=some x)(hx:uC X.env.scope x)(r:bE v u)
  (h:∀s',aP X pins (σ.set i (some v)) H s'->(∃a,Heap.SameBut a s.heap s'.heap/\(a=X.env.locals\/X.env.cells.lookup x=some a))->Q () s') (hf:X.fn x=true\/X.env.scope.names.lookup x=some .local:=by first|exact .inl rfl|exact .inr rfl|assumption):wpAny M A (storeName X.env x u) Q E s:=by
 obtain⟨m,hn,hl⟩:=id I.loc;have hcls:(X.env.scope.kind == .class || (X.env.scope.kind == .module&&X.env.locals != X.env.globals))=false:=by rw[I.ok.kind];rfl
 have hiσ:i<σ.length:=by rw[I.len];exact(JR.mp hi).1
 have cne:=I.cne
 have tracked:∀{a:Addr}{h':Heap},(∃o,s.heap.get? a=some o/\H a=none)->Heap.SameBut a s.heap h'->lM X.prog X.w H h':=fun {a h'} ha hs b ob e=>by
  obtain⟨_,_,hfree⟩:=ha;refine(I.hok b ob e).stay (fun c w' hc q=>(hs.2 c ?_).trans q) (fun _ q=>q) fun _ _ q=>q
  rintro rfl
  rcases hc with rfl|hc
  ·rw[hfree]at e;cases e
  ·rw[hfree]at hc;cases hc
 rcases hx with hk|hk
 ·refine wpAny_storeName_local hk hn (fun h' hn' hs => ?_) hcls;obtain⟨oL,_,_,hoL,_⟩:=id hn;refine h _ ⟨I.ok,I.os,I.bare,⟨fun b o e n hb hx=>?_,fun b o e n hb hx=>?_,I.base.free,fun b o e hx=>?_,I.base.tups,I.base.frzs,I.base.tbls⟩,⟨_,hn',fun j y v' e1 e2 e3=>?_⟩,fun y c e=>?_,I.free,I.freeC,fun p hp=>?_,tracked ⟨oL,hoL,I.free⟩ hs,by simpa using I.len⟩ ⟨_,hs,.inl rfl⟩
  ·exact(hs.2 b (JE (JC (JB e) I.ok.above))).trans (I.base.keep b o e n hb hx)
  ·obtain⟨sl,e1⟩:=I.base.slot b o e n hb hx;exact⟨sl,(hs.2 b (JE (JC (JB e) I.ok.above))).trans e1⟩
  ·obtain⟨o',e1⟩:=I.base.there b o e hx;exact⟨o',(hs.2 b (JE (JC (JB e) I.ok.above))).trans e1⟩
  ·by_cases hj : j = i
   ·subst hj;rw[hi]at e1;cases e1;rw[JT hiσ]at e2;cases e2;exact⟨u,r,.inl ⟨hk,by simp⟩⟩
   ·rw [JU (JO hj)] at e2;obtain⟨u',r',q⟩:=hl j y v' e1 e2 e3;refine⟨u',r',?_⟩;rcases q with⟨k,e⟩|⟨k,c,e,z⟩
    ·refine .inl ⟨k,?_⟩;have:y≠x:=fun e=>hj (tH hN e1 (e ▸ hi));simp[this,e]
    ·exact .inr ⟨k,c,e,z.sameBut hs (cne y c e)⟩
  ·obtain⟨w',z⟩:=I.cell y c e;exact⟨w',z.sameBut hs (cne y c e)⟩
  ·obtain⟨e,n,ne,nf,d⟩:=I.pin p hp;exact⟨(hs.2 p.1 ne).trans e,n,ne,nf,d⟩
 ·have hfn:X.fn x=true:=by
   rcases hf with z|z
   ·exact z
   ·rw[z]at hk;cases hk
  obtain⟨c,hc⟩:=I.ok.has x (.inl hk);obtain⟨w',z⟩:=I.cell x c hc;refine wpAny_storeName_cell I.ok.kind hk hc z (fun h' hc' hs=>?_);obtain⟨oc,hoc,hocd⟩:=id z;refine h {s with heap:=h'} ⟨I.ok,I.os,I.bare,⟨fun b o e n hb hx=>?_,fun b o e n hb hx=>?_,I.base.free,fun b o e hx=>?_,I.base.tups,I.base.frzs,I.base.tbls⟩,⟨m,hn.sameBut hs (JO (cne x c hc)),fun j y v' e1 e2 e3=>?_⟩,fun y c' e=>?_,I.free,I.freeC,fun p hp=>?_,tracked ⟨oc,hoc,I.freeC x c hc⟩ hs,by simpa using I.len⟩ ⟨c,hs,.inr hc⟩
  ·exact(hs.2 b (JE (JC (JB e) (I.ok.cab x c hfn hc)))).trans (I.base.keep b o e n hb hx)
  ·obtain⟨sl,e1⟩:=I.base.slot b o e n hb hx;exact⟨sl,(hs.2 b (JE (JC (JB e) (I.ok.cab x c hfn hc)))).trans e1⟩
  ·obtain⟨o',e1⟩:=I.base.there b o e hx;exact⟨o',(hs.2 b (JE (JC (JB e) (I.ok.cab x c hfn hc)))).trans e1⟩
  ·by_cases hj : j = i
   ·subst hj;rw[hi]at e1;cases e1;rw[JT hiσ]at e2;cases e2;exact⟨u,r,.inr ⟨.inl hk,c,hc,hc'⟩⟩
   ·rw [JU (JO hj)] at e2;obtain⟨u',r',q⟩:=hl j y v' e1 e2 e3;refine⟨u',r',?_⟩;rcases q with q|⟨k,c',e,z'⟩
    ·exact .inl q
    ·refine .inr ⟨k, c', e, z'.sameBut hs ?_⟩
     rintro rfl
     exact hj (tH hN e1 (I.ok.inj _ _ _ e hc ▸ hi))
  ·by_cases hcc : c' = c
   ·subst hcc;exact⟨_,hc'⟩
   ·obtain⟨w2,z2⟩:=I.cell y c' e;exact⟨w2,z2.sameBut hs hcc⟩
  ·obtain⟨e,n,ne,nf,d⟩:=I.pin p hp;refine⟨(hs.2 p.1 ?_).trans e,n,ne,nf,d⟩;intro q;rw[q,hoc]at e;have q':oc=p.2:=Jv e;exact d w' (by rw[<- q'];exact hocd)
theorem kX{M:Model}{A:Around}{E:Value->Shared->Prop}{i:Nat}{x:Str}{v:V}{u:Value}{Q:Unit->Shared->Prop}(I:aP X pins σ H s)(hN:X.N.Nodup)(hi:X.N[i]?=some x)(hx:uC X.env.scope x)(r:bE v u)
  (h:∀s',aP X pins (σ.set i (some v)) H s'->Q () s') (hf:X.fn x=true\/X.env.scope.names.lookup x=some .local:=by first|exact .inl rfl|exact .inr rfl|assumption):wpAny M A (storeName X.env x u) Q E s:=
 p9 I hN hi hx r (fun s' I' _=>h s' I') hf
theorem aP.call'{s':Shared}{ch:List Addr}(I:aP X pins σ H s)(ho:s'.os=s.os)(u:Un (nM X.stack) ch H H' s.heap s'.heap)(hok:lM X.prog X.w H' s'.heap)(hg:AllBare s'.gens)
  (hch:∀b∈ch,(b∈X.ex\/X.s₀.heap.objs.size<=b)/\b≠X.env.locals/\(∀x c,X.env.cells.lookup x=some c->c≠b)/\∀p∈X.pn++pins,p.1≠b):aP X pins σ H' s':=by
 obtain⟨h',g',d',t',o'⟩:=s';have e:o'=s.os:=ho;subst e;exact I.call (g':=g') (t':=t') (d':=d') u hok hg hch
end
abbrev XK:=Value->Option Addr->Hp->Prop
abbrev St:=List (Option V)
abbrev VK:=V->Hp->Prop
abbrev TE:=St->Hp->VK->Prop
abbrev TT:=St->Hp->(Bool->Hp->Prop)->Prop
abbrev TA:=St->Hp->(List V->Hp->Prop)->Prop
structure kL where
 nx:St->Hp->Prop
 rt:VK
 bk:St->Hp->Prop:=fun _ _=>False
 ct:St->Hp->Prop:=fun _ _=>False
abbrev TS:=kL->St->Hp->Prop
def EP(X:Cx)(pins:List (Addr×Obj))(σ:St)(Q:VK)(u:Value)(s':Shared):Prop:=∃v H',aP X pins σ H' s'/\bE v u/\Q v H'
def TP(X:Cx)(pins:List (Addr×Obj))(σ:St)(Q:Bool->Hp->Prop)(b:Bool)(s':Shared):Prop:=∃H',aP X pins σ H' s'/\Q b H'
def AP(X:Cx)(pins:List (Addr×Obj))(σ:St)(Q:List V->Hp->Prop)(us:List Value)(s':Shared):Prop:=∃vs H',aP X pins σ H' s'/\aW vs us/\Q vs H'
def SP(X:Cx)(pins:List (Addr×Obj))(D:kL)(f:Flow)(s':Shared):Prop:=
 match f with
 |.next=>∃σ' H',aP X pins σ' H' s'/\D.nx σ' H'
 |.brk=>∃σ' H',aP X pins σ' H' s'/\D.bk σ' H'
 |.cont=>∃σ' H',aP X pins σ' H' s'/\D.ct σ' H'
 |.ret u=>∃v σ' H',aP X pins σ' H' s'/\bE v u/\D.rt v H'
def PE(X:Cx)(e:Expr)(t:TE):Prop:=
 ∀(pins:List (Addr×Obj))(s:Shared)(σ:St)(H:Hp)(Q:VK),aP X pins σ H s->t σ H Q->wpAny (model X.prog X.w) X.A (eval e X.env) (EP X pins σ Q) X.xe s
def PT(X:Cx)(e:Expr)(t:TT):Prop:=
 ∀(pins:List (Addr×Obj))(s:Shared)(σ:St)(H:Hp)(Q:Bool->Hp->Prop),aP X pins σ H s->t σ H Q->wpAny (model X.prog X.w) X.A (isTrue e X.env (eval e X.env)) (TP X pins σ Q) X.xe s
def PW(X:Cx)(e:Expr)(t:TT):Prop:=
 ∀(whole:Sem Value)(pins:List (Addr×Obj))(s:Shared)(σ:St)(H:Hp)(Q:Bool->Hp->Prop),aP X pins σ H s->t σ H Q->wpAny (model X.prog X.w) X.A (isTrue e X.env whole) (TP X pins σ Q) X.xe s
theorem PW.pt{X:Cx}{e:Expr}{t:TT}(h:PW X e t):PT X e t:=h _
def PA(X:Cx)(es:List Expr)(t:TA):Prop:=
 ∀(pos:Pos)(pins:List (Addr×Obj))(s:Shared)(σ:St)(H:Hp)(Q:List V->Hp->Prop),aP X pins σ H s->t σ H Q->wpAny (model X.prog X.w) X.A (spliced (backTo pos (starEach es X.env))) (AP X pins σ Q) X.xe s
def PS(X:Cx)(st:Stmt)(t:TS):Prop:=
 ∀(pins:List (Addr×Obj))(s:Shared)(σ:St)(H:Hp)(D:kL),aP X pins σ H s->t D σ H->wpAny (model X.prog X.w) X.A (exec st X.env) (SP X pins D) X.xe s
def gU(X:Cx)(st:List Stmt)(t:TS):Prop:=
 ∀(pins:List (Addr×Obj))(s:Shared)(σ:St)(H:Hp)(D:kL),aP X pins σ H s->t D σ H->wpAny (model X.prog X.w) X.A (execs st X.env) (SP X pins D) X.xe s
theorem cT{α:Type}{t:Sem α}{Q Q':α->Shared->Prop}{M:Model}{A:Around}{E:Value->Shared->Prop}{s:Shared}(h:wpAny M A t Q E s)(hQ:∀a s,Q a s->Q' a s):wpAny M A t Q' E s:=JV h hQ fun _ _ x=>x
end L2
namespace L2
open PySem PySem.Spec PyProof.Rows
section
variable{X:Cx}
def Gx(i:Nat):TE:=fun σ H Q=>∃v,σ[i]?=some (some v)/\Q v H
def tC(v:V):TE:=fun _ H Q=>Q v H
theorem uR {i:Nat}{x:Str}{pos:Pos} (hN:X.N[i]?=some x) (hv:Dl X.env.scope x) (hd:(x == ("__debug__" : Str))=false:=by decide) (hcd:(x == ("__classdict__" : Str))=false:=by decide):PE X (.Name x pos) (Gx i):=by
 intro pins s σ H Q I h;obtain⟨v,e,h⟩:=h;obtain⟨m,hn,hl⟩:=I.loc;obtain⟨u,r,l⟩:=hl i x v hN e hv;have fin:EP X pins σ Q u s:=⟨v,H,I,r,h⟩;rcases l with⟨hk,hm⟩|⟨hk,c,hc,hcell⟩
 ·exact wpAny_Name (wpAny_loadName_local I.ok.kind hk hn hm fin) hd
 ·rcases hk with hk | hk
  ·exact wpAny_Name (wpAny_loadName_cell I.ok.kind hk hc hcell fin) hd
  ·exact wpAny_Name (wpAny_loadName_free I.ok.kind hk hc hcell fin hcd) hd
theorem E9{i j pos}:PE X (.Constant (.int i) j pos) (tC (.int i)):=fun _ _ _ H _ I h=>wpAny_Constant_int ⟨.int i,H,I.tok _,⟨_,rfl⟩,h⟩
theorem Hq{b j pos}:PE X (.Constant (.bool b) j pos) (tC (.bl b)):=fun _ _ _ H _ I h=>Constant_bool ⟨.bl b,H,I,rfl,h⟩
theorem E7{j pos}:PE X (.Constant .none j pos) (tC .non):=fun _ _ _ H _ I h=>Constant_none ⟨.non,H,I,rfl,h⟩
theorem E4{x j pos}:PE X (.Constant (.str x) j pos) (tC (.str x)):=fun _ _ _ H _ I h=>Calls.Constant_str ⟨.str x,H,I.tok _,⟨_,rfl⟩,h⟩
def Gl(X:Cx)(x:Str):Prop:=X.env.kindOf x=some .globalImplicit
theorem jH{E:Value->Shared->Prop}{pins:List (Addr×Obj)}{s:Shared}{σ:St}{H:Hp}{x:Str}{u:Value}{pos:Pos}{Q:Value->Shared->Prop}(I:aP X pins σ H s)(hg:Gl X x)(hm:X.mg x=some u)(h:Q u s)
  (hd:(x == ("__debug__" : Str))=false:=by decide):wpAny (model X.prog X.w) X.A (eval (.Name x pos) X.env) Q E s:=
 Calls.Name_function_global I.ok.kind hg (Calls.loadGlobal_global (by rw[I.ok.glob];exact I.mod.glob.keeps I.bk) hm h) hd
theorem ky{E:Value->Shared->Prop}{pins:List (Addr×Obj)}{s:Shared}{σ:St}{H:Hp}{x:Str}{u:Value}{pos:Pos}{Q:Value->Shared->Prop}(I:aP X pins σ H s)(hg:Gl X x)(hm:X.mg x=none)(hv:bootBuiltins x=some u)(h:Q u s)
  (hn:x ≠ "__name__" := by decide) (hd:(x == ("__debug__" : Str))=false:=by decide):wpAny (model X.prog X.w) X.A (eval (.Name x pos) X.env) Q E s:=by
 obtain⟨mb,h1,h2⟩:=I.mod.blt;exact Calls.Name_function_global I.ok.kind hg (Calls.loadGlobal_builtin (by rw[I.ok.glob];exact I.mod.glob.keeps I.bk) hm (by rw[I.ok.blt];exact h1.keeps I.bk) ((h2 x hn).trans hv) h) hd
theorem wA {x:Str}{v:V}{u:Value}{pos:Pos} (hg:Gl X x) (hm:X.mg x=some u) (r:bE v u) (hd:(x == ("__debug__" : Str))=false:=by decide):PE X (.Name x pos) (tC v):=
 fun _ _ _ H _ I h=>jH I hg hm ⟨v,H,I,r,h⟩ hd
theorem wC {x:Str}{v:V}{u:Value}{pos:Pos} (hg:Gl X x) (hm:X.mg x=none) (hv:bootBuiltins x=some u) (r:bE v u) (hn:x ≠ "__name__" := by decide) (hd:(x == ("__debug__" : Str))=false:=by decide):PE X (.Name x pos) (tC v):=
 fun _ _ _ H _ I h=>ky I hg hm hv ⟨v,H,I,r,h⟩ hn hd
variable{a b:Expr}{ta tb:TE}{pos:Pos}
variable{tA tB':TT}{rest:List Expr}
def IK(t u:TT):TT:=fun σ H Q=>t σ H fun c H1=>if c=true then u σ H1 Q else Q false H1
def Jn(t u:TT):TT:=fun σ H Q=>t σ H fun c H1=>if c=true then Q true H1 else u σ H1 Q
def IF(t:TT):TT:=fun σ H Q=>t σ H fun c H1=>Q (!c) H1
theorem B5(ha:PT X a tA):PW X (.BoolOp .And [a] pos) tA:=by
 intro wh pins s σ H Q I h;refine isTrue_and (cT (ha pins s σ H Q I h) fun c s1 e=>?_);cases c with
 |true=>exact isTrue_and_nil e
 |false=>exact e
theorem ES(ha:PT X a tA):PW X (.BoolOp .Or [a] pos) tA:=by
 intro wh pins s σ H Q I h;refine isTrue_or (cT (ha pins s σ H Q I h) fun c s1 e=>?_);cases c with
 |false=>exact isTrue_or_nil e
 |true=>exact e
theorem ET(ha:PT X a tA)(hb:PW X (.BoolOp .And (b::rest) pos) tB'):PW X (.BoolOp .And (a::b::rest) pos) (IK tA tB'):=by
 intro wh pins s σ H Q I h;refine isTrue_and (cT (ha pins s σ H _ I h) fun c s1 ⟨H1,I1,q1⟩=>?_);cases c with
 |true=>exact hb wh pins s1 σ H1 Q I1 q1
 |false=>exact⟨H1,I1,q1⟩
theorem Hi(ha:PT X a tA)(hb:PW X (.BoolOp .Or (b::rest) pos) tB'):PW X (.BoolOp .Or (a::b::rest) pos) (Jn tA tB'):=by
 intro wh pins s σ H Q I h;refine isTrue_or (cT (ha pins s σ H _ I h) fun c s1 ⟨H1,I1,q1⟩=>?_);cases c with
 |true=>exact⟨H1,I1,q1⟩
 |false=>exact hb wh pins s1 σ H1 Q I1 q1
theorem EU(ha:PT X a tA):PT X (.UnaryOp .Not a pos) (IF tA):=by
 intro pins s σ H Q I h;exact isTrue_not (ha pins s σ H (fun c H1=>Q (!c) H1) I h)
def G5(ta tb:TE):TE:=fun σ H Q=>ta σ H fun x H1=>∃c,x=.bl c/\if c=true then tb σ H1 Q else Q (.bl false) H1
def IE(ta tb:TE):TE:=fun σ H Q=>ta σ H fun x H1=>∃c,x=.bl c/\if c=true then Q (.bl true) H1 else tb σ H1 Q
def G0(ta:TE):TE:=fun σ H Q=>ta σ H fun x H1=>∃c,x=.bl c/\Q (.bl (!c)) H1
theorem E5{op}{t:TE}(h:PE X a t):PE X (.BoolOp op [a] pos) t:=fun pins s σ H Q I hw=>BoolOp_one (h pins s σ H Q I hw)
theorem Fb(ha:PE X a ta)(hb:PE X (.BoolOp .And (b::rest) pos) tb):PE X (.BoolOp .And (a::b::rest) pos) (G5 ta tb):=by
 intro pins s σ H Q I h;refine BoolOp_and (cT (ha pins s σ H _ I h) fun v s1 ⟨x,H1,I1,r1,q1⟩=>?_);obtain⟨c,rfl,q1⟩:=q1;cases r1;refine JW ?_;cases c with
 |true=>exact hb pins s1 σ H1 Q I1 q1
 |false=>exact⟨.bl false,H1,I1,rfl,q1⟩
theorem Hl(ha:PE X a ta)(hb:PE X (.BoolOp .Or (b::rest) pos) tb):PE X (.BoolOp .Or (a::b::rest) pos) (IE ta tb):=by
 intro pins s σ H Q I h;refine BoolOp_or (cT (ha pins s σ H _ I h) fun v s1 ⟨x,H1,I1,r1,q1⟩=>?_);obtain⟨c,rfl,q1⟩:=q1;cases r1;refine JW ?_;cases c with
 |false=>exact hb pins s1 σ H1 Q I1 q1
 |true=>exact⟨.bl true,H1,I1,rfl,q1⟩
theorem E6(ha:PE X a ta):PE X (.UnaryOp .Not a pos) (G0 ta):=by
 intro pins s σ H Q I h;refine UnaryOp_ (cT (ha pins s σ H _ I h) fun v s1 ⟨x,H1,I1,r1,q1⟩=>?_);obtain⟨c,rfl,q1⟩:=q1;cases r1;exact not_of (JW ⟨.bl (!c),H1,I1,rfl,q1⟩)
end
end L2
namespace L2
open PySem PySem.Spec PyProof.Rows
def eP(K:W.Frag)(H:Hp)(a:Addr)(xs:List V):Prop:=
 Rd H a (.lst xs) \/
  ∃(o:Obj) (its:Array Value) (n:Nat),K.lookup a=some o/\o.cls=.type "list" /\ o.dict=none/\o.data=.seq its n/\its.size<=sizeLine/\aW xs its.toList
def eK(K:W.Frag)(H:Hp)(a:Addr)(xs:List V):Prop:=
 Rd H a (.tup xs) \/
  ∃(o:Obj) (its:Array Value) (n:Nat),K.lookup a=some o/\o.cls=.type "tuple" /\ o.data=.seq its n/\its.size<=sizeLine/\aW xs its.toList
def I0:Value->Option V
 |.none=>some .non
 |.bool b=>some (.bl b)
 |.int i _=>some (.int i)
 |.str x _=>some (.str x)
 |.bytes b _=>some (.byt b)
 |.float b _=>some (.flt b)
 |.ref a=>some (.ref a)
 |.type n=>some (.ty n)
 |_=>none
theorem bE.abs{x:V}{u:Value}(r:bE x u):I0 u=some x:=by
 cases x with
 |non=>cases r;rfl
 |bl _=>cases r;rfl
 |int _=>obtain⟨t,rfl⟩:=r;rfl
 |str _=>obtain⟨t,rfl⟩:=r;rfl
 |byt _=>obtain⟨t,rfl⟩:=r;rfl
 |flt _=>obtain⟨t,rfl⟩:=r;rfl
 |ref _=>cases r;rfl
 |ty _=>cases r;rfl
theorem bE.inj{x y:V}{u:Value}(r:bE x u)(q:bE y u):x=y:=Jv (r.abs.symm.trans q.abs)
theorem aW.inj:∀{xs ys:List V}{us:List Value},aW xs us->aW ys us->xs=ys
 |_,_,_,.nil,.nil=>rfl
 |_,_,_,.cons r t,.cons r' t'=>by rw[r.inj r',aW.inj t t']
section
variable{X:Cx}{pins:List (Addr×Obj)}{σ:St}{H:Hp}{s:Shared}{a:Addr}{xs ys:List V}
theorem eP.of{K:W.Frag}(h:H a=some (.lst xs)):eP K H a xs:=.inl (.inl h)
theorem eK.of{K:W.Frag}(h:H a=some (.tup xs)):eK K H a xs:=.inl (.inl h)
theorem aP.list(I:aP X pins σ H s)(h:eP X.K H a xs):∃its:List Value,aW xs its/\PlainL s.heap a its.toArray/\xs.length<=sizeLine:=by
 rcases h with h|⟨o,its,n,hk,hc,hd,hs,hz,r⟩
 ·obtain⟨z,its,n,r,e⟩:=h.ok I.hok;exact⟨its,r,⟨_,n,e,rfl,rfl,rfl⟩,z⟩
 ·refine⟨its.toList,r,⟨o,n,I.kIn a o hk,hc,hd,by simpa using hs⟩,?_⟩;have e:=r.length;simp only[JX]at e;omega
theorem aP.tuple(I:aP X pins σ H s)(h:eK X.K H a xs):∃its:List Value,aW xs its/\IsTup s.heap a its.toArray/\xs.length<=sizeLine:=by
 rcases h with h|⟨o,its,n,hk,hc,hs,hz,r⟩
 ·obtain⟨z,its,r,p⟩:=h.ok I.hok;exact⟨its,r,p,z⟩
 ·refine⟨its.toList,r,⟨o,I.kIn a o hk,hc,n,by simpa using hs⟩,?_⟩;have e:=r.length;simp only[JX]at e;omega
theorem aP.list_inj(I:aP X pins σ H s)(h:eP X.K H a xs)(h':eP X.K H a ys):xs=ys:=by
 obtain⟨its,r,⟨o,n,e,_,_,d⟩,_⟩:=I.list h;obtain⟨its',r',⟨o',n',e',_,_,d'⟩,_⟩:=I.list h';rw[e]at e';cases e';rw[d]at d';injection d' with d1 _
 have:its=its':=by simpa using JY Array.toList d1
 subst this;exact r.inj r'
theorem aP.tuple_inj(I:aP X pins σ H s)(h:eK X.K H a xs)(h':eK X.K H a ys):xs=ys:=by
 obtain⟨its,r,⟨o,e,_,n,d⟩,_⟩:=I.tuple h;obtain⟨its',r',⟨o',e',_,n',d'⟩,_⟩:=I.tuple h';rw[e]at e';cases e';rw[d]at d';injection d' with d1 _
 have:its=its':=by simpa using JY Array.toList d1
 subst this;exact r.inj r'
end
abbrev Cx.wish(X:Cx)(E:Value->Shared->Prop):Cx:={X with xe:=E}
abbrev Cx.nox(X:Cx):Cx:=X.wish fun _ _=>False
theorem Cx.Ok.wish{X:Cx}(ok:X.Ok)(E:Value->Shared->Prop):(X.wish E).Ok:=
 ⟨ok.mod,ok.kind,ok.glob,ok.blt,ok.above,ok.inj,ok.has,ok.cab,ok.hd,ok.frames,ok.stk,ok.exf,ok.bs,ok.bsz,ok.noex,ok.exfs,ok.funs,ok.frf⟩
theorem Cx.Ok.unwish{X:Cx}{E:Value->Shared->Prop}(ok:(X.wish E).Ok):X.Ok:=
 ⟨ok.mod,ok.kind,ok.glob,ok.blt,ok.above,ok.inj,ok.has,ok.cab,ok.hd,ok.frames,ok.stk,ok.exf,ok.bs,ok.bsz,ok.noex,ok.exfs,ok.funs,ok.frf⟩
section
variable{X:Cx}{pins:List (Addr×Obj)}{σ:St}{H:Hp}{s:Shared}{E:Value->Shared->Prop}
theorem aP.wish(I:aP X pins σ H s)(E:Value->Shared->Prop):aP (X.wish E) pins σ H s:=⟨I.ok.wish E,I.os,I.bare,I.base,I.loc,I.cell,I.free,I.freeC,I.pin,I.hok,I.len⟩
theorem aP.unwish(I:aP (X.wish E) pins σ H s):aP X pins σ H s:=⟨I.ok.unwish,I.os,I.bare,I.base,I.loc,I.cell,I.free,I.freeC,I.pin,I.hok,I.len⟩
theorem SP.unwish{D:kL}{f:Flow}{s':Shared}(h:SP (X.wish E) pins D f s'):SP X pins D f s':=by
 cases f with
 |next=>obtain⟨σ',H',I,q⟩:=h;exact⟨σ',H',I.unwish,q⟩
 |brk=>obtain⟨σ',H',I,q⟩:=h;exact⟨σ',H',I.unwish,q⟩
 |cont=>obtain⟨σ',H',I,q⟩:=h;exact⟨σ',H',I.unwish,q⟩
 |ret u=>obtain⟨v,σ',H',I,r,q⟩:=h;exact⟨v,σ',H',I.unwish,r,q⟩
theorem gU.nox{st:List Stmt}{t:TS}(h:gU X.nox st t):gU X st t:=fun pins s σ H D I hw=>
 JV (h pins s σ H D (I.wish _) hw) (fun _ _ q=>q.unwish) fun _ _ z=>False.elim z
end
section
variable{X:Cx}{st:Stmt}{rest:List Stmt}{t u:TS}{e:Expr}{te:TE}{pos:Pos}
def G1:TS:=fun D σ H=>D.nx σ H
def IC(t u:TS):TS:=fun D σ H=>t {D with nx:=u D} σ H
theorem B9:gU X [] G1:=fun _ _ σ H _ I h=>JZ ⟨σ,H,I,h⟩
theorem An(h1:PS X st t)(h2:gU X rest u):gU X (st::rest) (IC t u):=by
 intro pins s σ H D I h;refine J0 (cT (h1 pins s σ H {D with nx:=u D} I h) fun f s1 q=>?_);cases f with
 |next=>
  obtain⟨σ',H',I',q⟩:=q;exact h2 pins s1 σ' H' D I' q
 |ret v=>exact q
 |brk=>exact q
 |cont=>exact q
theorem wx(h1:PS X st t):gU X [st] t:=by
 intro pins s σ H D I h;refine J0 (cT (h1 pins s σ H D I h) fun f s1 q=>?_);cases f with
 |next=>exact JZ q
 |ret v=>exact q
 |brk=>exact q
 |cont=>exact q
theorem aP.quiet{pins:List (Addr×Obj)}{σ:St}{H:Hp}{s:Shared}(I:aP X pins σ H s):interactive X.env=false:=by simp[interactive,I.ok.kind]
def G3(te:TE):TS:=fun D σ H=>te σ H fun _ H1=>D.nx σ H1
theorem Ce(he:PE X e te)(hs:swapsWith e none pos.line X.env=pure false:=by rfl):PS X (.Expr e pos) (G3 te):=by
 intro pins s σ H D I h;exact wpAny_Expr_any (cT (he pins s σ H _ I h) fun v s1 ⟨x,H1,I1,r1,q1⟩=>⟨σ,H1,I1,q1⟩) I.quiet hs
def ID(te:TE):TS:=fun D σ H=>te σ H D.rt
theorem EW(he:PE X e te):PS X (.Return (some e) pos) (ID te):=by
 intro pins s σ H D I h;exact wpAny_Return_some (cT (he pins s σ H _ I h) fun v s1 ⟨x,H1,I1,r1,q1⟩=>⟨x,σ,H1,I1,r1,q1⟩)
def II(c:TT)(t u:TS):TS:=fun D σ H=>c σ H fun b H1=>if b=true then t D σ H1 else u D σ H1
theorem Hj{c:Expr}{a b:List Stmt}{tc:TT}(hc:PT X c tc)(ha:gU X a t)(hb:gU X b u):PS X (.If c a b pos) (II tc t u):=by
 intro pins s σ H D I h;refine wpAny_If (cT (hc pins s σ H _ I h) fun d s1 ⟨H1,I1,q1⟩=>?_);cases d with
 |true=>exact ha pins s1 σ H1 D I1 q1
 |false=>exact hb pins s1 σ H1 D I1 q1
end
abbrev TG:=V->St->Hp->(St->Hp->Prop)->Prop
abbrev Ba:=List V->St->Hp->(St->Hp->Prop)->Prop
def PG(X:Cx)(target:Expr)(t:TG):Prop:=
 ∀(pins:List (Addr×Obj))(s:Shared)(σ:St)(H:Hp)(v:V)(u:Value)(Q:St->Hp->Prop),aP X pins σ H s->bE v u->t v σ H Q ->
  wpAny (model X.prog X.w) X.A (assign target X.env u) (fun _ s'=>∃σ' H',aP X pins σ' H' s'/\Q σ' H') X.xe s
def uB(X:Cx)(ts:List Expr)(t:Ba):Prop:=
 ∀(pins:List (Addr×Obj))(s:Shared)(σ:St)(H:Hp)(vs:List V)(us:List Value)(Q:St->Hp->Prop),aP X pins σ H s->aW vs us->t vs σ H Q ->
  wpAny (model X.prog X.w) X.A (assignInOrder ((assignEach ts X.env).map (·.2)) us) (fun _ s'=>∃σ' H',aP X pins σ' H' s'/\Q σ' H') X.xe s
abbrev D2:=V->V->V->Hp->(Hp->Prop)->Prop
def GP(X:Cx)(t:D2):Prop:=
 ∀(pins:List (Addr×Obj))(s:Shared)(σ:St)(H:Hp)(o i v:V)(ov iv u:Value)(Q:Hp->Prop),aP X pins σ H s->bE o ov->bE i iv->bE v u->t o i v H Q ->
  wpAny (model X.prog X.w) X.A (setItem ov iv u) (fun _ s'=>∃H',aP X pins σ H' s'/\Q H') X.xe s
section
variable{X:Cx}{pos:Pos}
def sJ(i:Nat):TG:=fun v σ H Q=>Q (σ.set i (some v)) H
theorem Ck{i:Nat}{x:Str}(hN:X.N.Nodup)(hi:X.N[i]?=some x)(hx:uC X.env.scope x)(hf:X.fn x=true\/X.env.scope.names.lookup x=some .local:=by first|exact .inl rfl|exact .inr rfl|assumption):PG X (.Name x pos) (sJ i):=by
 intro pins s σ H v u Q I r h;exact wpAny_assign_Name (kX I hN hi hx r (fun s' I'=>⟨_,H,I',h⟩) hf)
def IV:Ba:=fun vs σ H Q=>vs=[]/\Q σ H
def HD(t:TG)(u:Ba):Ba:=fun vs σ H Q=>∃v r,vs=v::r/\t v σ H fun σ' H'=>u r σ' H' Q
theorem Cj:uB X [] IV:=by
 intro pins s σ H vs us Q I r h;obtain⟨e,h⟩:=h;subst e;cases r;exact assignInOrder_nil ⟨σ,H,I,h⟩
theorem As{e:Expr}{es:List Expr}{t:TG}{u:Ba}(h1:PG X e t)(h2:uB X es u)
  (hs:(assignEach (e::es) X.env).map (·.2)=assign e X.env::(assignEach es X.env).map (·.2):=by rfl):uB X (e::es) (HD t u):=by
 intro pins s σ H vs us Q I r h;obtain⟨v,vr,e1,h⟩:=h;subst e1;cases r with
 |cons r rr=>
  rw[hs];refine assignInOrder_cons (cT (h1 pins s σ H _ _ _ I r h) fun _ s1 ⟨σ1,H1,I1,q1⟩=>?_);exact h2 pins s1 σ1 H1 _ _ Q I1 rr q1
def IT(K:W.Frag)(n:Nat)(t:Ba):TG:=fun v σ H Q=>∃a xs,v=.ref a/\eK K H a xs/\xs.length=n/\t xs σ H Q
theorem E1{es:List Expr}{k:Nat}{t:Ba}{n:Nat}(hc:X.calm=true)(h:uB X es t)
  (hn:(assignEach es X.env).length=n:=by rfl) (hst:(assignEach es X.env).findIdx? (·.1)=none:=by rfl):PG X (.Tuple es k pos) (IT X.K n t):=by
 intro pins s σ H v u Q I r hw;obtain⟨a,xs,e1,hq,hl,hw⟩:=hw;subst e1;cases r;obtain⟨its,rv,ht,hz⟩:=I.tuple hq;refine assign_Tuple_tuple (I.ok.hd hc) ht (by simp[hn,<- hl,rv.length]) hst fun h' hx=>?_;have I1:aP X pins σ H {s with heap:=h'}:=I.kept (t':=s.toks) fun b o e=>hx b o (JE (JB e)) e;exact h pins _ σ H xs _ Q I1 (by simpa using rv) hw
def IU(to ti:TE)(t:D2):TG:=fun v σ H Q=>to σ H fun o H1=>ti σ H1 fun i H2=>t o i v H2 fun H3=>Q σ H3
theorem E2{o i:Expr}{to ti:TE}{t:D2}(ho:PE X o to)(hi:PE X i ti)(hs:GP X t)
  (ha : ∀ v, assign (.Subscript o i pos) X.env v = (do
   let ov <- holding [v] (eval o X.env)
   let iv <- holding [v,ov] (eval i X.env)
   standAt pos
   holding [v,ov,iv] (setItem ov iv v)
   release [v,ov,iv] []):=by intro _;rfl):PG X (.Subscript o i pos) (IU to ti t):=by
 intro pins s σ H v u Q I r h;rw[ha];refine J1 (J2 (cT (ho pins s σ H _ I h) fun ov s1 ⟨x,H1,I1,r1,q1⟩=>?_));refine J1 (J2 (cT (hi pins s1 σ H1 _ I1 q1) fun iv s2 ⟨y,H2,I2,r2,q2⟩=>?_));refine J1 (J3 (J1 (J2 (cT (hs pins s2 σ H2 x y v ov iv u _ I2 r1 r2 r q2) fun _ s3 ⟨H3,I3,q3⟩=>?_))));exact wpAny_release ⟨σ,H3,I3,q3⟩
def yA(te:TE)(g:TG):TS:=fun D σ H=>te σ H fun x H1=>g x σ H1 D.nx
theorem EY{tg e:Expr}{te:TE}{g:TG}(he:PE X e te)(hg:PG X tg g)(hs:swapsWithSole [tg] e pos.line X.env=pure false:=by rfl)(hw:swappedStores [tg] e X.env=pure none:=by rfl)
  (h1:(assignEach [tg] X.env).map (·.2)=[assign tg X.env]:=by rfl):PS X (.Assign [tg] e pos) (yA te g):=by
 intro pins s σ H D I h;refine wpAny_Assign_stores (cT (he pins s σ H _ I h) fun v s1 ⟨x,H1,I1,r1,q1⟩=>?_) hs hw;rw[h1];exact cT (hg pins s1 σ H1 x v _ I1 r1 q1) fun _ s2 q=>q
theorem EV{i:Nat}{x:Str}{e:Expr}{te:TE}{pos':Pos}(hN:X.N.Nodup)(hi:X.N[i]?=some x)(hx:uC X.env.scope x)(he:PE X e te)(hs:swapsWith e (some (.Name x pos')) pos.line X.env=pure false:=by rfl)(hf:X.fn x=true\/X.env.scope.names.lookup x=some .local:=by first|exact .inl rfl|exact .inr rfl|assumption) :
  PS X (.Assign [.Name x pos'] e pos) (yA te (sJ i)):=by
 intro pins s σ H D I h;refine wpAny_Assign_Name (cT (he pins s σ H _ I h) fun v s1 ⟨y,H1,I1,r1,q1⟩=>?_) hs;exact kX I1 hN hi hx r1 (fun s2 I2=>⟨_,H1,I2,q1⟩) hf
end
section
variable{X:Cx}{pos:Pos}
def Ek(c:TT)(tb:TS):TS:=fun D σ H=>∃W:Nat->St->Hp->Prop,(∃m,W m σ H)/\∀m σ H,W m σ H ->
 c σ H fun b H1=>if b=true then ∃N:St->Hp->Prop,(∀σ' H',N σ' H'->∃m',m'<m/\W m' σ' H')/\tb {D with nx:=N,ct:=N,bk:=D.nx} σ H1 else D.nx σ H1
theorem Ao{c:Expr}{body:List Stmt}{tc:TT}{tb:TS}(hp:PassesOwn (model X.prog X.w) X.A X.env X.xe)(hc:PT X c tc)(hb:gU X body tb):PS X (.While c body [] pos) (Ek tc tb):=by
 intro pins s σ H D I h;obtain⟨W,⟨m0,w0⟩,turn⟩:=h;refine wpAny_While (codeAny_whileLoop (fun n s'=>∃σ' H',aP X pins σ' H' s'/\W n σ' H') ?_ m0 ⟨σ,H,I,w0⟩)
 rintro n s1 ⟨σ1,H1,I1,w1⟩
 refine J4 hp (cT (hc pins s1 σ1 H1 _ I1 (turn n σ1 H1 w1)) fun b s2 ⟨H2,I2,q2⟩=>?_);cases b with
 |true=>
  obtain⟨N,hN,q2⟩:=q2;rw[Jz rfl];refine J4 hp (cT (hb pins s2 σ1 H2 _ I2 q2) fun f s3 q3=>?_);cases f with
  |next=>
   obtain⟨σ3,H3,I3,n3⟩:=q3;obtain⟨m',hm,w3⟩:=hN σ3 H3 n3;exact⟨m',hm,σ3,H3,I3,w3⟩
  |cont=>
   obtain⟨σ3,H3,I3,n3⟩:=q3;obtain⟨m',hm,w3⟩:=hN σ3 H3 n3;exact⟨m',hm,σ3,H3,I3,w3⟩
  |brk=>exact q3
  |ret v=>exact q3
 |false=>
  rw[JA J6];exact JZ ⟨σ1,H2,I2,q2⟩
end
structure It where
 go:Nat->Hp->Prop
 yld:Nat->Hp->V->Hp->Prop
 stop:Nat->Hp->Prop
def kK(X:Cx)(pins:List (Addr×Obj))(H:Hp)(b:Addr):Prop:=
 H b=none/\b≠X.env.locals/\b∉X.fs/\(b∈X.ex\/X.s₀.heap.objs.size<=b)/\(∀x c,X.env.cells.lookup x=some c->c≠b)/\∀p∈X.pn++pins,p.1≠b
theorem aP.fpOk{X:Cx}{pins:List (Addr×Obj)}{σ:St}{H H':Hp}{s:Shared}{b:Addr}(I:aP X pins σ H s)(hb:s.heap.objs.size<=b)(hn:H' b=none):kK X pins H' b:=by
 refine⟨hn,J7 (JC I.lt hb),I.nofs hb,.inr (JH I.sz hb),fun x c e z=>?_,fun p hp z=>?_⟩
 ·obtain⟨v,q⟩:=I.cell x c e;exact absurd (JC q.lt (by rw[z];exact hb)) (JD _)
 ·exact absurd (JC (JB (I.pin p hp).1) (by rw[z];exact hb)) (JD _)
structure xg(P:Program)(w:World)(K:W.Frag)(tg:Expr)(J:It)(fp:List Addr)(it:Addr)(tn:Nat->Heap->Prop):Prop where
 mem:it∈fp
 obj:∀i h,tn i h->∀b∈fp,∃o,h.get? b=some o/\∀v,o.data≠.cell v
 keep:∀i h h',tn i h->(∀b∈fp,∀o,h.get? b=some o->h'.get? b=some o)->tn i h'
 item:∀(X:Cx),X.prog=P->X.w=w->X.K=K->X.calm=true->∀(i:Nat)(pins:List (Addr×Obj))(s:Shared)(σ:St)(H:Hp)(E:Value->Shared->Prop),aP X pins σ H s->(∀b∈fp,kK X pins H b)->tn i s.heap->J.go i H ->
  wpAny (model P w) X.A (pyNext (.ref it)) (fun r s1=>∃u,r=some u /\
   wpAny (model P w) X.A (letOwnedTupleGo tg (.ref it) u) (fun _ s2=>∃x H',aP X pins σ H' s2/\bE x u/\J.yld i H x H'/\tn (i+1) s2.heap/\∀b∈fp,H' b=none) E s1) E s
 done:∀(X:Cx),X.prog=P->X.w=w->X.K=K->X.calm=true->∀(i:Nat)(pins:List (Addr×Obj))(s:Shared)(σ:St)(H:Hp)(E:Value->Shared->Prop),aP X pins σ H s->(∀b∈fp,kK X pins H b)->tn i s.heap->J.stop i H ->
  wpAny (model P w) X.A (pyNext (.ref it)) (fun r s1=>r=none/\aP X pins σ H s1) E s
 self:∀(A:Around)(i:Nat)(s:Shared)(Q:Value->Shared->Prop)(E:Value->Shared->Prop),tn i s.heap->Q (.ref it) s->wpAny (model P w) A (pyIter (.ref it)) Q E s
abbrev TI:=St->Hp->(It->Hp->Prop)->Prop
def Io(X:Cx)(pins:List (Addr×Obj))(σ:St)(tg:Expr)(R:It->Hp->Prop)(itv:Value)(s2:Shared):Prop:=
 ∃(it:Addr)(fp:List Addr)(tn:Nat->Heap->Prop)(J:It)(H':Hp),itv=.ref it/\aP X pins σ H' s2/\xg X.prog X.w X.K tg J fp it tn/\tn 0 s2.heap/\(∀b∈fp,kK X pins H' b)/\R J H'
def PI(X:Cx)(tg iter:Expr)(wi:TI):Prop:=
 ∀(pins:List (Addr×Obj))(s:Shared)(σ:St)(H:Hp)(R:It->Hp->Prop),aP X pins σ H s->wi σ H R ->
  wpAny (model X.prog X.w) X.A (eval iter X.env) (fun v s1=>wpAny (model X.prog X.w) X.A (pyIter v) (Io X pins σ tg R) X.xe s1) X.xe s
theorem yT{M:Model}{A:Around}{E:Value->Shared->Prop}{s:Shared}{tg:Expr}{it:Addr}{u:Value}{o:Obj}{n:String}{vs:Array Value}{Q:Unit->Shared->Prop}(ho:s.heap.get? it=some o)(hc:o.cls=.type n)(hd:o.data=.fields vs)
  (hn:["enumerate", "zip", "dict_itemiterator", "dict_reverseitemiterator", "odict_iterator", "itertools.zip_longest", "itertools.pairwise"].contains n=false) (hQ:Q () s):wpAny M A (letOwnedTupleGo tg (.ref it) u) Q E s:=by
 unfold letOwnedTupleGo
 cases tg <;> first
  |exact J8 hQ
  |(cases u <;> first
    |exact J8 hQ
    | (refine J1 (J9 ho ?_)
       rw[hc,hd];show wpAny M A (if (["enumerate", "zip", "dict_itemiterator", "dict_reverseitemiterator", "odict_iterator", "itertools.zip_longest", "itertools.pairwise"].contains n&&vs[0]? == some (rawInt _))=true then _ else _) Q E s;rw[JA (by intro h;rw[hn,Bool.false_and]at h;cases h)]
       exact J8 hQ))
def HY(K:W.Frag)(a:Addr):It:=
 ⟨fun i H=>∃xs x,eP K H a xs/\xs[i]?=some x,fun i H x H'=>H'=H/\∀xs,eP K H a xs->xs[i]?=some x,fun i H=>∃xs,eP K H a xs/\xs.length<=i⟩
def Iq(K:W.Frag)(a:Addr):It:=
 ⟨fun i H=>∃xs x,eK K H a xs/\xs[i]?=some x,fun i H x H'=>H'=H/\∀xs,eK K H a xs->xs[i]?=some x,fun i H=>∃xs,eK K H a xs/\xs.length<=i⟩
def Gq(lo:Int)(n:Nat):It:=⟨fun i _=>i<n,fun i H x H'=>H'=H/\x=.int (lo+i),fun i _=>n<=i⟩
theorem xj{P:Program}{w:World}{K:W.Frag}{tg:Expr}(a it:Addr):xg P w K tg (HY K a) [it] it (fun i h=>h.IsListIter it a i) where
 mem:=by simp
 obj:=fun i h st b hb=>by
  have e:b=it:=by simpa using hb
  subst e;obtain⟨o,e,c,d⟩:=st;exact⟨o,e,fun v z=>by rw[d]at z;cases z⟩
 keep:=fun i h h' st k=>st.at fun o e=>k it (by simp) o e
 item:=by
  intro X hP hw hK hc i pins s σ H E I hf st hg;subst hP hw hK;obtain⟨xs,x,hq,hx⟩:=hg;obtain⟨its,rv,p,hz⟩:=I.list hq;obtain⟨u,hu,ru⟩:=rv.get hx;obtain⟨f0,f1,f2,f3,f4,f5⟩:=hf it (by simp);refine wpAny_pyNext_list_item st p.isList (x:=u) (by simpa using hu) fun h' st' sb=>?_;have I1:aP X pins σ H {s with heap:=h'}:=I.turned (t':=s.toks) (fun b o hb e=>(sb.2 b hb).trans e) f0 f1 f3 f4 f5;obtain⟨o,e,c,d⟩:=id st';exact⟨u,rfl,yT (s:={s with heap:=h'}) e c d (by decide) ⟨x,H,I1,ru,⟨rfl,fun ys hy=>by rw[I.list_inj hy hq];exact hx⟩,st',fun b hb=>(hf b hb).1⟩⟩
 done:=by
  intro X hP hw hK hc i pins s σ H E I hf st hg;subst hP hw hK;obtain⟨xs,hq,hx⟩:=hg;obtain⟨its,rv,p,hz⟩:=I.list hq;obtain⟨f0,f1,f2,f3,f4,f5⟩:=hf it (by simp);have hl:=rv.length;exact wpAny_pyNext_list_end (I.ok.hd hc) st p.isList (by simp;omega) fun h' eb=>⟨rfl,I.turned (t':=s.toks) (fun b o hb e=>eb b o hb e) f0 f1 f3 f4 f5⟩
 self:=fun _ _ _ _ _ st h=>wpAny_pyIter_listiter st h
theorem u4{P:Program}{w:World}{K:W.Frag}{tg:Expr}(a it:Addr):xg P w K tg (Iq K a) [it] it (fun i h=>h.IsTupleIter it a i) where
 mem:=by simp
 obj:=fun i h st b hb=>by
  have e:b=it:=by simpa using hb
  subst e;obtain⟨o,e,c,d⟩:=st;exact⟨o,e,fun v z=>by rw[d]at z;cases z⟩
 keep:=fun i h h' st k=>st.at fun o e=>k it (by simp) o e
 item:=by
  intro X hP hw hK hc i pins s σ H E I hf st hg;subst hP hw hK;obtain⟨xs,x,hq,hx⟩:=hg;obtain⟨its,rv,p,hz⟩:=I.tuple hq;obtain⟨u,hu,ru⟩:=rv.get hx;obtain⟨f0,f1,f2,f3,f4,f5⟩:=hf it (by simp);refine wpAny_pyNext_tuple_item st (show s.heap.IsTuple a its.toArray from p) (x:=u) (by simpa using hu) fun h' st' sb=>?_;have I1:aP X pins σ H {s with heap:=h'}:=I.turned (t':=s.toks) (fun b o hb e=>(sb.2 b hb).trans e) f0 f1 f3 f4 f5;obtain⟨o,e,c,d⟩:=id st';exact⟨u,rfl,yT (s:={s with heap:=h'}) e c d (by decide) ⟨x,H,I1,ru,⟨rfl,fun ys hy=>by rw[I.tuple_inj hy hq];exact hx⟩,st',fun b hb=>(hf b hb).1⟩⟩
 done:=by
  intro X hP hw hK hc i pins s σ H E I hf st hg;subst hP hw hK;obtain⟨xs,hq,hx⟩:=hg;obtain⟨its,rv,p,hz⟩:=I.tuple hq;obtain⟨f0,f1,f2,f3,f4,f5⟩:=hf it (by simp);have hl:=rv.length;exact wpAny_pyNext_tuple_end (I.ok.hd hc) st (show s.heap.IsTuple a its.toArray from p) (by simp;omega) fun h' eb=>⟨rfl,I.turned (t':=s.toks) (fun b o hb e=>eb b o hb e) f0 f1 f3 f4 f5⟩
 self:=fun _ _ _ _ _ st h=>wpAny_pyIter_tupleiter st h
theorem u6{P:Program}{w:World}{K:W.Frag}{tg:Expr}(it:Addr)(lo:Int)(n:Nat):xg P w K tg (Gq lo n) [it] it (fun i h=>IsRangeIter h it (lo+(i:Nat)*1) ((n:Int)-(i:Nat)) 1) where
 mem:=by simp
 obj:=fun i h st b hb=>by
  have e:b=it:=by simpa using hb
  subst e
  exact⟨_,st,fun v z=>by
   have z':Data.fields _=Data.cell v:=z
   cases z'⟩
 keep:=fun i h h' st k=>k it (by simp) _ st
 item:=by
  intro X hP hw hK hc i pins s σ H E I hf st hg;subst hP hw hK;obtain⟨f0,f1,f2,f3,f4,f5⟩:=hf it (by simp);have W:=Walks.range (prog:=X.prog) (w:=X.w) (I.ok.hd hc) it lo 1 n;refine W.item i s _ _ hg st fun v h' tk hv st' kk=>?_;obtain⟨t,rfl⟩:=hv;have I1:aP X pins σ H {s with heap:=h',toks:=tk}:=I.turned (fun b o hb e=>kk b o (by simpa using hb) e) f0 f1 f3 f4 f5;refine⟨_,rfl,yT (s:={s with heap:=h',toks:=tk}) (n:="range_iterator") st' rfl rfl (by decide) ⟨.int (lo+i),H,I1,⟨t,?_⟩,⟨rfl,rfl⟩,st',fun b hb=>(hf b hb).1⟩⟩;rw[Int.mul_one]
 done:=by
  intro X hP hw hK hc i pins s σ H E I hf st hg;subst hP hw hK;obtain⟨f0,f1,f2,f3,f4,f5⟩:=hf it (by simp);exact wpAny_pyNext_range_end (I.ok.hd hc) st (by have:n<=i:=hg;omega) fun h' eb=>⟨rfl,I.turned (t':=s.toks) (fun b o hb e=>eb b o hb e) f0 f1 f3 f4 f5⟩
 self:=fun _ _ _ _ _ st h=>wpAny_pyIter_rangeiter st h
end L2
namespace L2
open PySem PySem.Spec PyProof.Rows
section
variable{X:Cx}{tg:Expr}
theorem tq{pins:List (Addr×Obj)}{σ:St}{H:Hp}{s:Shared}{R:It->Hp->Prop}{E:Value->Shared->Prop}{lo hi:Int}{t u v:Tok}{tk:Nat}(I:aP X pins σ H s)(h1:-(2^62)<=lo)(h2:lo<2^62)(h3:-(2^62)<=hi)(h4:hi<2^62)
  (q:R (Gq lo (hi-lo).toNat) H):wpAny (model X.prog X.w) X.A (pyIter (.ref s.heap.objs.size)) (Io X pins σ tg R) E {s with heap:=s.heap.push {cls:=.type "range",data:=.fields #[.int lo t,.int hi u,.int 1 v]},toks:=tk}:=by
 refine wpAny_pyIter_range (IsRange.new ..) (small_one h1 h2 h3 h4) ?_;have I1:aP X pins σ H {s with heap:=s.heap.push {cls:=.type "range",data:=.fields #[.int lo t,.int hi u,.int 1 v]},toks:=tk}:=I.kept fun b o e=>Ka _ e
 refine⟨(s.heap.push {cls:=.type "range",data:=.fields #[.int lo t,.int hi u,.int 1 v]}).objs.size,[(s.heap.push {cls:=.type "range",data:=.fields #[.int lo t,.int hi u,.int 1 v]}).objs.size],_,_,H,rfl,
  I1.kept (t':=tk) fun b o e=>Ka _ e,u6 _ lo (hi-lo).toNat,?_,fun b hb=>?_,q⟩
 ·have e1 : lo + ((0 : Nat) : Int) * 1 = lo := by simp
  have e2:(((hi-lo).toNat:Nat):Int)-((0:Nat):Int)=Builtin.Range.rangeSize lo hi 1:=by rw[rangeSize_one];split <;> omega
  show IsRangeIter _ _ (lo+((0:Nat):Int)*1) ((((hi-lo).toNat:Nat):Int)-((0:Nat):Int)) 1;rw[e1,e2];exact Kb _ rfl
 ·have e : b = (s.heap.push { cls := .type "range", data := .fields #[.int lo t, .int hi u, .int 1 v] }).objs.size := by simpa using hb
  subst e;exact I1.fpOk (Kc _) (I1.hok.fresh (Kc _))
def HC(ta:TA):TI:=fun σ H R=>ta σ H fun vs H1=>∃j:Int,vs=[.int j]/\-(2^62)<=j/\j<2^62/\R (Gq 0 j.toNat) H1
def HB(ta:TA):TI:=fun σ H R=>ta σ H fun vs H1=>∃i j:Int,vs=[.int i,.int j]/\(-(2^62)<=i/\i<2^62/\-(2^62)<=j/\j<2^62)/\R (Gq i (j-i).toNat) H1
theorem xG {a:Expr}{ta:TA}{p pos:Pos} (hg:Gl X "range") (hm:X.mg "range" = none) (ha:PA X [a] ta) (hs:starEach [a] X.env=[(false,eval a X.env)]:=by rfl):PI X tg (.Call (.Name "range" p) [a] [] pos) (HC ta):=by
 intro pins s σ H R I h;refine Call_ (ky I hg hm boot_range (Kd (cT (ha pos pins s σ H _ I h) fun us s1 ⟨vs,H1,I1,r1,q1⟩=>?_) hs rfl));obtain⟨j,e,q1,q2,q⟩:=q1;subst e;cases r1 with
 |cons r rr=>
  cases rr;obtain⟨t,rfl⟩:=r;exact call_range_1 (tq I1 (by omega) (by omega) q1 q2 (by simpa using q))
theorem xF {a b:Expr}{ta:TA}{p pos:Pos} (hg:Gl X "range") (hm:X.mg "range" = none) (ha:PA X [a,b] ta) (hs:starEach [a,b] X.env=[(false,eval a X.env),(false,eval b X.env)]:=by rfl) (hs2:starEach [b] X.env=[(false,eval b X.env)]:=by rfl) :
  PI X tg (.Call (.Name "range" p) [a,b] [] pos) (HB ta):=by
 intro pins s σ H R I h;refine Call_ (ky I hg hm boot_range (Kd (cT (ha pos pins s σ H _ I h) fun us s1 ⟨vs,H1,I1,r1,q1⟩=>?_) (by rw[hs,hs2]) (by rw[hs2];rfl)));obtain⟨i,j,e,⟨q1,q2,q3,q4⟩,q⟩:=q1;subst e;cases r1 with
 |cons r rr=>
  cases rr with
  |cons r' rr=>
   cases rr;obtain⟨t,rfl⟩:=r;obtain⟨t',rfl⟩:=r';exact call_range_2 (tq I1 q1 q2 q3 q4 q)
def IJ(wi:TI)(g:TG)(tb:TS):TS:=fun D σ H=>wi σ H fun J H1=>∃W:Nat->Nat->St->Hp->Prop,(∃m,W 0 m σ H1)/\∀i m σ H,W i m σ H ->
 (J.stop i H/\D.nx σ H)\/(J.go i H/\∃N:St->Hp->Prop,(∀σ' H',N σ' H'->∃m',m'<m/\W (i+1) m' σ' H')/\∀x H',J.yld i H x H'->g x σ H' fun σ2 H2=>tb {D with nx:=N,ct:=N,bk:=D.nx} σ2 H2)
def n9(fp:List Addr)(h:Heap):List (Addr×Obj):=fp.filterMap fun b=>(h.get? b).map fun o=>(b,o)
theorem iS{fp:List Addr}{h:Heap}{b:Addr}{o:Obj}(hb:b∈fp)(e:h.get? b=some o):(b,o)∈n9 fp h:=Ke.mpr ⟨b,hb,by rw[e];rfl⟩
theorem xO{fp:List Addr}{h:Heap}{p:Addr×Obj}(hp:p∈n9 fp h):p.1∈fp/\h.get? p.1=some p.2:=by
 obtain⟨b,hb,e⟩:=Ke.mp hp;cases q:h.get? b with
 |none=>rw[q]at e;cases e
 |some o=>
  rw[q]at e;have e':(b,o)=p:=Jv e;subst e';exact⟨hb,q⟩
theorem aP.pinned{pins:List (Addr×Obj)}{σ:St}{H:Hp}{s:Shared}{fp:List Addr}(I:aP X pins σ H s)(hf:∀b∈fp,kK X pins H b)(ho:∀b∈fp,∃o,s.heap.get? b=some o/\∀v,o.data≠.cell v):aP X (pins++n9 fp s.heap) σ H s:=
 I.pins_of fun p hp=>(JP.mp hp).elim (fun z=>I.pin p (Kf _ z)) fun z=>by
  obtain⟨hb,e⟩:=xO z;obtain⟨f0,f1,f2,_⟩:=hf p.1 hb;obtain⟨o,e',d⟩:=ho p.1 hb;rw[e]at e';cases e';exact⟨e,f0,f1,f2,d⟩
theorem aP.unpinned{pins pl:List (Addr×Obj)}{σ:St}{H:Hp}{s:Shared}(I:aP X (pins++pl) σ H s):aP X pins σ H s:=I.pins_of fun p hp=>I.pin p (Kf _ (JQ _ hp))
theorem EX{iter:Expr}{body:List Stmt}{wi:TI}{g:TG}{tb:TS}{pos:Pos}(hp:PassesOwn (model X.prog X.w) X.A X.env X.xe)(hc:X.calm=true)(hi:PI X tg iter wi)(hg:PG X tg g)(hb:gU X body tb)
  (hs:∀x,foldedSetIterable iter X.env x=pure x:=by intro _;rfl):PS X (.For tg iter body [] pos) (IJ wi g tb):=by
 intro pins s σ H D I h;refine wpAny_For (cT (hi pins s σ H _ I h) fun v s1 h1=>cT h1 fun itv s2 h2=>?_) hs;obtain⟨it,fp,tn,J,H2,e,I2,T,st2,f2,W,⟨m0,w0⟩,turn⟩:=h2;subst e;have stat:∀{H':Hp},(∀b∈fp,H' b=none)->∀b∈fp,kK X pins H' b:=fun hn b hb=>⟨hn b hb,(f2 b hb).2⟩;refine codeAny_forLoop_any (fun n s'=>∃i σ' H',aP X pins σ' H' s'/\tn i s'.heap/\(∀b∈fp,H' b=none)/\W i n σ' H') ?_ m0 ⟨0,σ,H2,I2,st2,fun b hb=>(f2 b hb).1,w0⟩
 rintro n s3 ⟨i,σ3,H3,I3,st3,fr3,w3⟩
 rcases turn i n σ3 H3 w3 with⟨stop,qn⟩|⟨go,N,hN,step⟩
 ·refine J4 hp (cT (T.done X rfl rfl rfl hc i pins s3 σ3 H3 X.xe I3 (stat fr3) st3 stop) fun r s4 ⟨hr,I4⟩=>?_);subst hr;exact JZ ⟨σ3,H3,I4,qn⟩
 ·refine J4 hp (cT (T.item X rfl rfl rfl hc i pins s3 σ3 H3 X.xe I3 (stat fr3) st3 go) fun r s4 ⟨u, hr, h4⟩ => ?_);subst hr;refine J4 hp (cT h4 fun _ s5 ⟨x,H5,I5,r5,y5,st5,fr5⟩=>?_);have I5':=I5.pinned (stat fr5) (T.obj _ _ st5);refine J4 hp (cT (hg _ s5 σ3 H5 x u _ I5' r5 (step x H5 y5)) fun _ s6 ⟨σ6,H6,I6,q6⟩=>?_);refine J4 hp (cT (hb _ s6 σ6 H6 _ I6 q6) fun f s7 q7=>?_)
  have again:∀{σ7:St}{H7:Hp},aP X (pins++n9 fp s5.heap) σ7 H7 s7->N σ7 H7->∃m,m<n/\∃i σ' H',aP X pins σ' H' s7/\tn i s7.heap/\(∀b∈fp,H' b=none)/\W i m σ' H':=fun {σ7 H7} I7 n7=>by
   obtain⟨m',hm,w7⟩:=hN σ7 H7 n7;refine⟨m',hm,i+1,σ7,H7,I7.unpinned,T.keep _ _ _ st5 fun b hb o e=>(I7.pin (b,o) (Kf _ (Kf _ (iS hb e)))).1,fun b hb=>?_,w7⟩;obtain⟨o,e,d⟩:=T.obj _ _ st5 b hb;exact(I7.pin (b,o) (Kf _ (Kf _ (iS hb e)))).2.1
  cases f with
  |next=>obtain⟨σ7,H7,I7,n7⟩:=q7;exact again I7 n7
  |cont=>obtain⟨σ7,H7,I7,n7⟩:=q7;exact again I7 n7
  |brk=>obtain⟨σ7,H7,I7,q7⟩:=q7;exact⟨σ7,H7,I7.unpinned,q7⟩
  |ret v=>obtain⟨x7,σ7,H7,I7,r7,q7⟩:=q7;exact⟨x7,σ7,H7,I7.unpinned,r7,q7⟩
end
end L2
namespace L2
open PySem PySem.Spec PyProof.Rows
abbrev R2:=V->V->Hp->VK->Prop
def iH(X:Cx)(f:Value->Value->Sem Value)(r:R2):Prop:=
 ∀(pins:List (Addr×Obj))(s:Shared)(σ:St)(H:Hp)(x y:V)(v u:Value)(Q:VK),aP X pins σ H s->bE x v->bE y u->r x y H Q ->
  wpAny (model X.prog X.w) X.A (f v u) (EP X pins σ Q) X.xe s
def HV(X:Cx)(f:Value->Sem Value)(r:V->Hp->VK->Prop):Prop:=
 ∀(pins:List (Addr×Obj))(s:Shared)(σ:St)(H:Hp)(x:V)(v:Value)(Q:VK),aP X pins σ H s->bE x v->r x H Q ->
  wpAny (model X.prog X.w) X.A (f v) (EP X pins σ Q) X.xe s
def cB(X:Cx)(f:Value)(r:List V->Hp->VK->Prop):Prop:=
 ∀(pins:List (Addr×Obj))(s:Shared)(σ:St)(H:Hp)(xs:List V)(us:List Value)(Q:VK),aP X pins σ H s->aW xs us->r xs H Q ->
  wpAny (model X.prog X.w) X.A (call f us) (EP X pins σ Q) X.xe s
def Ja(X:Cx)(r:V->Hp->(Bool->Hp->Prop)->Prop):Prop:=
 ∀(pins:List (Addr×Obj))(s:Shared)(σ:St)(H:Hp)(x:V)(v:Value)(Q:Bool->Hp->Prop),aP X pins σ H s->bE x v->r x H Q ->
  wpAny (model X.prog X.w) X.A (truthy v) (TP X pins σ Q) X.xe s
def HN(r:R2)(ta tb:TE):TE:=fun σ H Q=>ta σ H fun x H1=>tb σ H1 fun y H2=>r x y H2 Q
def Jl(r:V->Hp->VK->Prop)(ta:TE):TE:=fun σ H Q=>ta σ H fun x H1=>r x H1 Q
def rI(C:Int->Int->Prop)(g:Int->Int->V):R2:=fun x y H Q=>∃i j,x=.int i/\y=.int j/\C i j/\Q (g i j) H
def Gu(g:Int->Int->V):R2:=fun x y H Q=>∃i j,x=.int i/\y=.int j/\Q (g i j) H
def rU(g:Int->V):V->Hp->VK->Prop:=fun x H Q=>∃i,x=.int i/\Q (g i) H
section
variable{X:Cx}{a b c:Expr}{ta tb tc:TE}{pos:Pos}
theorem D0(ha:PE X a ta)(hb:PE X b tb){pins:List (Addr×Obj)}{s:Shared}{σ:St}{H:Hp}{R:V->V->Hp->Prop}(I:aP X pins σ H s)
  (h:ta σ H fun x H1=>tb σ H1 fun y H2=>R x y H2) {Q:Value->Shared->Prop}{f:Value->Value->Sem Value}
  (hf:∀v u s2 x y H2,aP X pins σ H2 s2->bE x v->bE y u->R x y H2->wpAny (model X.prog X.w) X.A (f v u) Q X.xe s2) :
  wpAny (model X.prog X.w) X.A (eval a X.env) (fun v s₁=>wpAny (model X.prog X.w) X.A (eval b X.env) (fun u s₂=>wpAny (model X.prog X.w) X.A (f v u) Q X.xe s₂) X.xe s₁) X.xe s:=by
 refine cT (ha pins s σ H _ I h) fun v s1 ⟨x,H1,I1,r1,q1⟩=>?_;refine cT (hb pins s1 σ H1 _ I1 q1) fun u s2 ⟨y,H2,I2,r2,q2⟩=>?_;exact hf v u s2 x y H2 I2 r1 r2 q2
theorem Hm{op:Operator}{r:R2}(ho:iH X (binaryOp op) r)(ha:PE X a ta)(hb:PE X b tb):PE X (.BinOp a op b pos) (HN r ta tb):=by
 intro pins s σ H Q I h;exact wpAny_BinOp (D0 ha hb I h fun v u s2 x y H2 I2 rx ry q=>ho pins s2 σ H2 x y v u Q I2 rx ry q)
theorem Hk{op:UnaryOp}{r:V->Hp->VK->Prop}(ho:HV X (unaryOp op) r)(ha:PE X a ta):PE X (.UnaryOp op a pos) (Jl r ta):=by
 intro pins s σ H Q I h;exact UnaryOp_ (cT (ha pins s σ H _ I h) fun v s1 ⟨x,H1,I1,r1,q1⟩=>ho pins s1 σ H1 x v Q I1 r1 q1)
theorem HQ{f:Value->Value->Sem Value}{C:Int->Int->Prop}{g:Int->Int->Int}
  (rule:∀(i j:Int)(t u:Tok)(s:Shared)(Q:Value->Shared->Prop)(E:Value->Shared->Prop),C i j->Q (.int (g i j) s.toks) {s with toks:=s.toks+1}->wpAny (model X.prog X.w) X.A (f (.int i t) (.int j u)) Q E s) :
  iH X f (rI C fun i j=>.int (g i j)):=by
 intro pins s σ H x y v u Q I rx ry h;obtain⟨i,j,rfl,rfl,hc,q⟩:=h;obtain⟨t,rfl⟩:=rx;obtain⟨t',rfl⟩:=ry;exact rule i j t t' s _ _ hc ⟨.int (g i j),H,I.tok _,⟨_,rfl⟩,q⟩
theorem GJ{f:Value->Value->Sem Value}{g:Int->Int->Int}
  (rule:∀(i j:Int)(t u:Tok)(s:Shared)(Q:Value->Shared->Prop)(E:Value->Shared->Prop),Q (.int (g i j) s.toks) {s with toks:=s.toks+1}->wpAny (model X.prog X.w) X.A (f (.int i t) (.int j u)) Q E s) :
  iH X f (Gu fun i j=>.int (g i j)):=by
 intro pins s σ H x y v u Q I rx ry h;obtain⟨i,j,rfl,rfl,q⟩:=h;obtain⟨t,rfl⟩:=rx;obtain⟨t',rfl⟩:=ry;exact rule i j t t' s _ _ ⟨.int (g i j),H,I.tok _,⟨_,rfl⟩,q⟩
def Bn(i j:Int):Prop:=0<j/\j<1073741824
def D4(i j:Int):Prop:=0<=j/\j<=1000000/\i.natAbs<2^64
def sF(i j:Int):Prop:=(-(2^64)<i/\i<2^64)\/(-(2^64)<j/\j<2^64)
theorem sF.ok{i j:Int}(h:sF i j):IntMulOk i j:=by
 rcases h with⟨h1,h2⟩|⟨h1,h2⟩
 ·exact .of_left (intBits_le_64 h1 h2)
 ·exact .of_right (intBits_le_64 h1 h2)
theorem Fo:iH X (binaryOp .Add) (Gu fun i j=>.int (i+j)):=GJ fun _ _ _ _ _ _ _ q=>add_int q
theorem Fe:iH X (binaryOp .Sub) (Gu fun i j=>.int (i-j)):=GJ fun _ _ _ _ _ _ _ q=>sub_int q
theorem Fi:iH X (binaryOp .Mult) (rI sF fun i j=>.int (i*j)):=HQ fun _ _ _ _ _ _ _ hc q=>mul_int q hc.ok
theorem Cw:iH X (binaryOp .FloorDiv) (rI Bn fun i j=>.int (i / j)):=HQ fun i j _ _ _ _ _ hc q=>by
 have h1:(0:Int)<j:=hc.1;have h2:j<1073741824:=hc.2;exact floordiv_int (by omega) (by rw[Int.fdiv_eq_ediv_of_nonneg i (by omega)];exact q) (.inl (PyProof.noPylong_small (by omega)))
theorem Fj:iH X (binaryOp .Mod) (rI (fun _ j=>0<j) fun i j=>.int (i%j)):=HQ fun i j _ _ _ _ _ hc q=>by
 have h1:(0:Int)<j:=hc;exact mod_int' (by omega) (by rw[Int.fmod_eq_emod_of_nonneg i (by omega)];exact q)
theorem Fg:iH X (binaryOp .Pow) (rI D4 fun i j=>.int (i^j.toNat)):=HQ fun _ _ _ _ _ _ _ hc q=>pow_int_small hc.1 hc.2.1 hc.2.2 q
theorem Jk{f:Value->Sem Value}{g:Int->Int}
  (rule:∀(i:Int)(t:Tok)(s:Shared)(Q:Value->Shared->Prop)(E:Value->Shared->Prop),Q (.int (g i) s.toks) {s with toks:=s.toks+1}->wpAny (model X.prog X.w) X.A (f (.int i t)) Q E s) :
  HV X f (rU fun i=>.int (g i)):=by
 intro pins s σ H x v Q I rx h;obtain⟨i,rfl,q⟩:=h;obtain⟨t,rfl⟩:=rx;exact rule i t s _ _ ⟨.int (g i),H,I.tok _,⟨_,rfl⟩,q⟩
theorem Ee:HV X (unaryOp .USub) (rU fun i=>.int (-i)):=Jk fun _ _ _ _ _ q=>neg_int q
end
def IM:V->V->Bool
 |.non,.non=>true | .non,.int _=>true | .int _,.non=>true | .non,.bl _=>true | .bl _,.non=>true | .non,.str _=>true | .str _,.non=>true
 |.int _,.int _=>true | .bl _,.bl _=>true | .str _,.str _=>true | .byt _,.byt _=>true
 |.int _,.str _=>true | .str _,.int _=>true | .bl _,.str _=>true | .str _,.bl _=>true
 |_,_=>false
def Il:R2:=fun x y H Q=>IM x y=true/\Q (.bl (decide (x=y))) H
theorem Dd{i j:Int}:decide (V.int i=V.int j)=(i == j):=by
 rw[Kg];simp
theorem Gi{i j:Bool}:decide (V.bl i=V.bl j)=(i == j):=by
 rw[Kg];simp
theorem Dc{i j:Str}:decide (V.str i=V.str j)=(i == j):=by
 rw[Kg];simp
theorem De{i j:Array UInt8}:decide (V.byt i=V.byt j)=(i.toList == j.toList):=by
 rw[Kg];cases i;cases j;simp
section
variable{X:Cx}{a b c:Expr}{ta tb tc:TE}{pos:Pos}
theorem dB{pins:List (Addr×Obj)}{σ:St}{H:Hp}{s:Shared}{Q:VK}{k k':Bool}(I:aP X pins σ H s)(q:Q (.bl k) H)(e:k=k'):EP X pins σ Q (.bool k') s:=by
 subst e;exact⟨.bl k,H,I,rfl,q⟩
theorem Hs:iH X (compareOp .Eq) Il:=by
 intro pins s σ H x y v u Q I rx ry h;obtain⟨hs,q⟩:=h;cases x with
 |non=>
  cases rx;cases y with
  |non=>cases ry;exact PySem.EqNone.eq_none_none (dB I q (by simp))
  |bl j=>cases ry;exact PySem.EqNone.eq_none_bool (dB I q (by simp))
  |int j=>obtain⟨t',rfl⟩:=ry;exact PySem.EqNone.eq_none_int (dB I q (by simp))
  |str j=>obtain⟨t',rfl⟩:=ry;exact PySem.EqNone.eq_none_str (dB I q (by simp))
  |_=>exact absurd (show false=true from hs) J6
 |bl i=>
  cases rx;cases y with
  |non=>cases ry;exact PySem.EqNone.eq_bool_none (dB I q (by simp))
  |bl j=>cases ry;exact eq_bool (dB I q Gi)
  |str j=>obtain⟨t',rfl⟩:=ry;exact PySem.EqMixed.eq_bool_str (dB I q (by simp))
  |_=>exact absurd (show false=true from hs) J6
 |int i=>
  obtain⟨t,rfl⟩:=rx;cases y with
  |non=>cases ry;exact PySem.EqNone.eq_int_none (dB I q (by simp))
  |int j=>obtain⟨t',rfl⟩:=ry;exact eq_int (dB I q Dd)
  |str j=>obtain⟨t',rfl⟩:=ry;exact PySem.EqMixed.eq_int_str (dB I q (by simp))
  |_=>exact absurd (show false=true from hs) J6
 |str i=>
  obtain⟨t,rfl⟩:=rx;cases y with
  |non=>cases ry;exact PySem.EqNone.eq_str_none (dB I q (by simp))
  |bl j=>cases ry;exact PySem.EqMixed.eq_str_bool (dB I q (by simp))
  |int j=>obtain⟨t',rfl⟩:=ry;exact PySem.EqMixed.eq_str_int (dB I q (by simp))
  |str j=>obtain⟨t',rfl⟩:=ry;exact eq_str (dB I q Dc)
  |_=>exact absurd (show false=true from hs) J6
 |byt i=>
  obtain⟨t,rfl⟩:=rx;cases y with
  |byt j=>obtain⟨t',rfl⟩:=ry;exact W.eq_bytes (dB I q De)
  |_=>exact absurd (show false=true from hs) J6
 |_=>cases y <;> exact absurd (show false=true from hs) J6
theorem Fk:iH X (compareOp .Is) (fun x y H Q=>y=.non/\Q (.bl (decide (x=.non))) H):=by
 intro pins s σ H x y v u Q I rx ry h;obtain⟨rfl,q⟩:=h;cases ry;refine is_none_gen (dB I q ?_)
 cases x <;> first
  |(cases rx;rfl)
  |(obtain⟨t,rfl⟩:=rx;rfl)
theorem Cu:iH X (compareOp .IsNot) (fun x y H Q=>y=.non/\Q (.bl (!decide (x=.non))) H):=by
 intro pins s σ H x y v u Q I rx ry h;obtain⟨rfl,q⟩:=h;cases ry;refine isnot_none_gen (dB I q ?_)
 cases x <;> first
  |(cases rx;rfl)
  |(obtain⟨t,rfl⟩:=rx;rfl)
theorem iH.or{f:Value->Value->Sem Value}{r r':R2}(h:iH X f r)(h':iH X f r'):iH X f (fun x y H Q=>r x y H Q\/r' x y H Q):=by
 intro pins s σ H x y v u Q I rx ry q;rcases q with q|q
 ·exact h pins s σ H x y v u Q I rx ry q
 ·exact h' pins s σ H x y v u Q I rx ry q
theorem Cp{op:CmpOp}{r:R2}(ho:iH X (compareOp op) r)(ha:PE X a ta)(hb:PE X b tb)(hm:behindInMarks op b=false):PE X (.Compare a [op] [b] pos) (HN r ta tb):=by
 intro pins s σ H Q I h;exact wpAny_Compare1 (D0 ha hb I h fun v u s2 x y H2 I2 rx ry q=>ho pins s2 σ H2 x y v u Q I2 rx ry q) hm
def yK(t:TE):TT:=fun σ H Q=>t σ H fun x H'=>∃k,x=.bl k/\Q k H'
theorem B8{op:CmpOp}{r:R2}(ho:iH X (compareOp op) r)(ha:PE X a ta)(hb:PE X b tb)(hm:behindInMarks op b=false):PT X (.Compare a [op] [b] pos) (yK (HN r ta tb)):=by
 intro pins s σ H Q I h
 refine wpAny_isTrue_Compare1 (cT (ha pins s σ H _ I h) fun v s1 ⟨x,H1,I1,r1,q1⟩=>cT (hb pins s1 σ H1 _ I1 q1) fun u s2 ⟨y,H2,I2,r2,q2⟩=>
  cT (ho pins s2 σ H2 x y v u _ I2 r1 r2 q2) fun c s3 ⟨z,H3,I3,r3,k,e,q3⟩=>?_) hm
 subst e;cases r3;exact JW ⟨H3,I3,q3⟩
def uP(r r':R2)(ta tb tc:TE):TE:=fun σ H Q=>ta σ H fun x H1=>tb σ H1 fun y H2=>r x y H2 fun z H3=>∃k,z=.bl k /\
 (if k=true then tc σ H3 fun w' H4=>r' y w' H4 Q else Q (.bl false) H3)
theorem Ax{op op':CmpOp}{r r':R2}(ho:iH X (compareOp op) r)(ho':iH X (compareOp op') r')(ha:PE X a ta)(hb:PE X b tb)(hc:PE X c tc)
  (hm:lastMarks [op,op'] [b,c]=false:=by with_unfolding_all rfl):PE X (.Compare a [op,op'] [b,c] pos) (uP r r' ta tb tc):=by
 intro pins s σ H Q I h
 refine Compare_chain (cT (ha pins s σ H _ I h) fun v s1 ⟨x,H1,I1,r1,q1⟩=>chain_link (cT (hb pins s1 σ H1 _ I1 q1) fun u s2 ⟨y,H2,I2,r2,q2⟩=>
  cT (ho pins s2 σ H2 x y v u _ I2 r1 r2 q2) fun d s3 ⟨z,H3,I3,r3,k,e,q3⟩=>?_)) hm
 subst e;cases r3;refine JW ?_;cases k with
 |false=>exact ite_ff ⟨.bl false,H3,I3,rfl,q3⟩
 |true=>exact ite_tt (chain_last (cT (hc pins s3 σ H3 _ I3 q3) fun w' s4 ⟨z',H4,I4,r4,q4⟩=>ho' pins s4 σ H4 y z' u w' Q I4 r2 r4 q4))
theorem Am{op op':CmpOp}{r r':R2}(ho:iH X (compareOp op) r)(ho':iH X (compareOp op') r')(ha:PE X a ta)(hb:PE X b tb)(hc:PE X c tc)
  (hm:lastMarks [op,op'] [b,c]=false:=by with_unfolding_all rfl):PT X (.Compare a [op,op'] [b,c] pos) (yK (uP r r' ta tb tc)):=by
 intro pins s σ H Q I h
 refine isTrue_chain (cT (ha pins s σ H _ I h) fun v s1 ⟨x,H1,I1,r1,q1⟩=>test_link (cT (hb pins s1 σ H1 _ I1 q1) fun u s2 ⟨y,H2,I2,r2,q2⟩=>
  cT (ho pins s2 σ H2 x y v u _ I2 r1 r2 q2) fun d s3 ⟨z,H3,I3,r3,k,e,q3⟩=>?_)) hm
 subst e;cases r3;refine JW ?_;cases k with
 |false=>
  obtain⟨k',e',q'⟩:=q3;cases e';exact ite_ff ⟨H3,I3,q'⟩
 |true=>
  refine ite_tt (test_last (cT (hc pins s3 σ H3 _ I3 q3) fun w' s4 ⟨z',H4,I4,r4,q4⟩=>cT (ho' pins s4 σ H4 y z' u w' _ I4 r2 r4 q4) fun d' s5 ⟨z2,H5,I5,r5,k2,e2,q5⟩=>?_));subst e2;cases r5;exact JW ⟨H5,I5,q5⟩
def D1(K:W.Frag)(x:V)(H:Hp)(k:Bool):Prop:=
 match x with
 |.non=>k=false
 |.bl b=>k=b
 |.int i=>k=(i != 0)
 |.str y=>y.length<=sizeLine/\k=((y.length:Int) != 0)
 |.byt y=>y.size<=sizeLine/\k=((y.size:Int) != 0)
 |.ref p=>(∃xs,eP K H p xs/\k=!xs.isEmpty)\/(∃xs,eK K H p xs/\k=!xs.isEmpty)\/∃kvs,H p=some (.dK kvs)/\k=!kvs.isEmpty
 |_=>False
theorem vw{κ:Type}{kvs:List (κ×V)}{vs:List (κ×Value)}(r:KV kvs vs):(!vs.isEmpty)=!kvs.isEmpty:=by
 cases r <;> rfl
theorem oM{xs:List V}{its:List Value}(r:aW xs its):(!its.toArray.isEmpty)=!xs.isEmpty:=by
 cases r <;> simp
theorem lU:(sizeLine:Nat)<2^63:=by rw[Kh];decide
theorem Eh:Ja X (fun x H Q=>∃k,D1 X.K x H k/\Q k H):=by
 intro pins s σ H x v Q I rx h;obtain⟨k,e,q⟩:=h;have hl:=lU;have hs:sizeLine=16777216:=Kh;cases x with
 |non=>
  cases rx;have e':k=false:=e;subst e';exact truthy_none ⟨H,I,q⟩
 |bl b=>
  cases rx;have e':k=b:=e;subst e';exact JW ⟨H,I,q⟩
 |int i=>
  obtain⟨t,rfl⟩:=rx;have e':k=(i != 0):=e;subst e';exact PySem.P.truthy_int ⟨H,I,q⟩
 |str y=>
  obtain⟨t,rfl⟩:=rx;obtain⟨hy,e'⟩:y.length<=sizeLine/\k=((y.length:Int) != 0):=e;subst e';exact PySem.P.truthy_str (by omega) ⟨H,I.tok _,q⟩
 |byt y=>
  obtain⟨t,rfl⟩:=rx;obtain⟨hy,e'⟩:y.size<=sizeLine/\k=((y.size:Int) != 0):=e;subst e';exact W.truthy_bytes (by omega) ⟨H,I.tok _,q⟩
 |ref p=>
  cases rx;have e':(∃xs,eP X.K H p xs/\k=!xs.isEmpty)\/(∃xs,eK X.K H p xs/\k=!xs.isEmpty)\/∃kvs,H p=some (.dK kvs)/\k=!kvs.isEmpty:=e;rcases e' with⟨xs,hx,e'⟩|⟨xs,hx,e'⟩|⟨kvs,hx,e'⟩
  ·subst e';obtain⟨its,r,pl,hz⟩:=I.list hx;have hlen:=r.length;exact wpAny_truthy_list pl.isList (by simp only[Ki];omega) ⟨H,I.tok _,by rw[oM r];exact q⟩
  ·subst e';obtain⟨its,r,pl,hz⟩:=I.tuple hx;have hlen:=r.length;exact truthy_tuple pl (by simp only[Ki];omega) ⟨H,I.tok _,by rw[oM r];exact q⟩
  ·subst e';obtain⟨hz,hS,vs,r,m⟩:kvs.length<=sizeLine/\(p == sysModules)=false/\∃vs,KV kvs vs/\s.heap.DictOf (nB X.prog X.w) p vs:=I.hok p _ hx;have hlen:kvs.length=vs.length:=Paired.length r;exact wpAny_truthy_dict hS m (by omega) ⟨H,I.tok _,by rw[vw r];exact q⟩
 |_=>exact(show False from e).elim
theorem Al(ha:PE X a ta)(he:∀whole,isTrue a X.env whole=(do let v <- whole;standAt a.pos;holding [v] (truthy v))) :
  PT X a (fun σ H Q=>ta σ H fun x H'=>∃k,D1 X.K x H' k/\Q k H'):=by
 intro pins s σ H Q I h;exact isTrue_plain (cT (ha pins s σ H _ I h) fun v s1 ⟨x,H1,I1,r1,q1⟩=>Eh pins s1 σ H1 x v Q I1 r1 q1) (he _)
theorem vh:iH X (binaryOp .Add) (fun x y H Q=>∃i j,x=.str i/\y=.str j/\i.length+j.length<=sizeLine/\Q (.str (i++j)) H):=by
 intro pins s σ H x y v u Q I rx ry h;obtain⟨i,j,rfl,rfl,hz,q⟩:=h;obtain⟨t,rfl⟩:=rx;obtain⟨t',rfl⟩:=ry;exact add_str (fun t' tk=>⟨.str (i++j),H,I.tok _,⟨_,rfl⟩,q⟩) hz
theorem dO{x:V}{us:List Value}(r:aW [x] us):∃u,us=[u]/\bE x u:=by
 cases r with
 |cons r1 r2=>cases r2;exact⟨_,rfl,r1⟩
theorem yI{x y:V}{us:List Value}(r:aW [x,y] us):∃u w',us=[u,w']/\bE x u/\bE y w':=by
 cases r with
 |cons r1 r2=>
  cases r2 with
  |cons r3 r4=>cases r4;exact⟨_,_,rfl,r1,r3⟩
theorem yg (hc:X.calm=true):cB X (.builtin "max") (fun xs H Q=>∃i j,xs=[.int i,.int j]/\Q (.int (if j>i then j else i)) H):=by
 intro pins s σ H xs us Q I r h;obtain⟨i,j,rfl,q⟩:=h;obtain⟨u,w',rfl,⟨t,rfl⟩,⟨t',rfl⟩⟩:=yI r;refine max_two_ints (I.ok.hd hc) fun h' tk k=>⟨_,H,I.kept k,?_,q⟩;by_cases hj:j>i
 ·rw[Jz hj,Jz hj];exact⟨_,rfl⟩
 ·rw[JA hj,JA hj];exact⟨_,rfl⟩
theorem ye (hc:X.calm=true):cB X (.builtin "min") (fun xs H Q=>∃i j,xs=[.int i,.int j]/\Q (.int (if j<i then j else i)) H):=by
 intro pins s σ H xs us Q I r h;obtain⟨i,j,rfl,q⟩:=h;obtain⟨u,w',rfl,⟨t,rfl⟩,⟨t',rfl⟩⟩:=yI r;refine min_two_ints (I.ok.hd hc) fun h' tk k=>⟨_,H,I.kept k,?_,q⟩;by_cases hj:j<i
 ·rw[Jz hj,Jz hj];exact⟨_,rfl⟩
 ·rw[JA hj,JA hj];exact⟨_,rfl⟩
theorem yk:cB X (.type "int") (fun xs H Q=>(∃i,xs=[.int i]/\Q (.int i) H)\/∃k,xs=[.bl k]/\Q (.int (if k then 1 else 0)) H):=by
 intro pins s σ H xs us Q I r h;rcases h with⟨i,rfl,q⟩|⟨k,rfl,q⟩
 ·obtain⟨u,rfl,t,rfl⟩:=dO r;exact call_int_int ⟨.int i,H,I,⟨_,rfl⟩,q⟩
 ·obtain⟨u,rfl,r1⟩:=dO r;cases r1;exact call_int_bool ⟨.int (if k then 1 else 0),H,I.tok _,⟨_,rfl⟩,q⟩
def D3(K:W.Frag)(x:V)(H:Hp)(n:Nat):Prop:=
 match x with
 |.str y=>y.length<=sizeLine/\n=y.length
 |.byt y=>y.size<=sizeLine/\n=y.size
 |.ref p=>(∃xs,eP K H p xs/\n=xs.length)\/∃xs,eK K H p xs/\n=xs.length
 |_=>False
theorem A2:cB X (.builtin "len") (fun xs H Q=>∃x n,xs=[x]/\D3 X.K x H n/\Q (.int n) H):=by
 intro pins s σ H xs us Q I r h;obtain⟨x,n,rfl,e,q⟩:=h;obtain⟨u,rfl,rx⟩:=dO r;have hl:=lU;have hs:sizeLine=16777216:=Kh;cases x with
 |str y=>
  obtain⟨t,rfl⟩:=rx;obtain⟨hy,e'⟩:y.length<=sizeLine/\n=y.length:=e;subst e';exact len_str (by omega) ⟨.int _,H,I.tok _,⟨_,rfl⟩,q⟩
 |byt y=>
  obtain⟨t,rfl⟩:=rx;obtain⟨hy,e'⟩:y.size<=sizeLine/\n=y.size:=e;subst e';exact W.len_bytes (by omega) ⟨.int _,H,I.tok _,⟨_,rfl⟩,q⟩
 |ref p=>
  cases rx;have e':(∃xs,eP X.K H p xs/\n=xs.length)\/∃xs,eK X.K H p xs/\n=xs.length:=e;rcases e' with⟨xs,hx,e'⟩|⟨xs,hx,e'⟩
  ·subst e';obtain⟨its,r',pl,hz⟩:=I.list hx;have hlen:=r'.length;exact Calls.call_len_list pl.isList (by simp only[Ki];omega) ⟨.int xs.length,H,I.tok _,⟨_,by simp only[Ki];rw[hlen]⟩,q⟩
  ·subst e';obtain⟨its,r',pl,hz⟩:=I.tuple hx;have hlen:=r'.length;exact len_tuple pl (by simp only[Ki];omega) ⟨.int xs.length,H,I.tok _,⟨_,by simp only[Ki];rw[hlen]⟩,q⟩
 |_=>exact(show False from e).elim
end
end L2
namespace L2
open PySem PySem.Spec PyProof.Rows
structure Jr(h:Heap)(x dx C:Addr)(mA:Str->Option Value):Prop where
 obj:h.get? x=some (W.instObj C dx)
 ns:h.Ns1 dx mA
 ne:dx≠x
theorem xS{h:Heap}{dx:Addr}{mA:Str->Option Value}(n:h.Ns1 dx mA):∃od,h.get? dx=some od/\∀name,W.lookIn name od=some (mA name):=by
 obtain⟨o,es,ep,ho,hd,hk,_,hm⟩:=n;refine⟨o,ho,fun name=>?_⟩;have e:=hm name;unfold nsFind findBy at e;rw[<- Array.find?_toList]at e;unfold W.lookIn;rw[hd];dsimp only;split
 ·rename_i y q;rw[q]at e;exact JY some e
 ·rename_i q;rw[q]at e
  have a:es.toList.any (·.refKey)=false:=by
   rw[List.any_eq_false];intro y hy;obtain⟨z,t,hkey⟩:=hk y (Kj.mp hy);simp[DictEntry.refKey,hkey]
  have a':¬ es.toList.any (·.refKey)=true:=by rw[a];exact J6
  rw[JA a'];exact JY some e
section
variable{prog:Program}{w:World}{A:Around}{E:Value->Shared->Prop}{s:Shared}{K:W.Frag}{x dx C f:Addr}{mA:Str->Option Value}{name:Str}{v:Value}
end
section
variable{P:Program}{w:World}{H H':Hp}{h h':Heap}{a C dx:Addr}{fs fs':List (Str×V)}
end
structure Jq(K:W.Frag)(C:Addr):Prop where
 pg:W.plainGet K C Str.empty=true
 hd:W.hasDictIn K C=true
 po:W.plainOver K C=true
 sa:W.findIn K (.ref C) "__setattr__" = some (some (.builtin "object.__setattr__"))
structure Ju(K:W.Frag)(C:Addr)(f:Str)(v:V)(u:Value):Prop where
 at_:W.findIn K (.ref C) f=some (some u)
 rel:bE v u
 get:W.specialIn K u "__get__" = some none
 cp:W.copiedNames.contains f=false
structure Js(K:W.Frag)(C:Addr)(m:Str)(f:Addr):Prop where
 at_:W.findIn K (.ref C) m=some (some (.ref f))
 fn:W.isFn K (.ref f)=true
 kp:W.keepIn K (.ref f)=true
section
variable{X:Cx}{pins:List (Addr×Obj)}{σ:St}{H:Hp}{s:Shared}{a C dx:Addr}{fs:List (Str×V)}{f:Str}{v:V}{A:Around}{E:Value->Shared->Prop}
theorem Df{prog:Program}{w:World}{env:Env}{e:Expr}{f:Str}{pos:Pos}{s:Shared}{Q:Value->Shared->Prop}(hb:attributeBase e f env (eval e env)=eval e env)
  (h:wpAny (model prog w) A (eval e env) (fun o s₁=>wpAny (model prog w) A (getAttr o f true) Q E s₁) E s):wpAny (model prog w) A (eval (.Attribute e f pos) env) Q E s:=
 Attribute_any_ h (by rw[arm_eval_Attribute,hb])
end
section
variable{X:Cx}{o e value:Expr}{f:Str}{pos pos' tpos:Pos}{ta tv:TE}
end
section
variable{X:Cx}{pins:List (Addr×Obj)}{σ:St}{H:Hp}{s:Shared}{A:Around}{E:Value->Shared->Prop}{Q:Value->Shared->Prop}{c:Value}{b:Bool}
inductive nR(K:W.Frag)(H:Hp):V->Value->Prop where
 |non:nR K H .non (.type "NoneType")
 |bl (x:Bool):nR K H (.bl x) (.type "bool")
 |int (i:Int):nR K H (.int i) (.type "int")
 |str (x:Str):nR K H (.str x) (.type "str")
 |flt (x:UInt64):nR K H (.flt x) (.type "float")
 |lst {a:Addr}{xs:List V} (e:H a=some (.lst xs)):nR K H (.ref a) (.type "list")
 |frz {a:Addr}{o:Obj}{xs:List V} (e:H a=some (.frz o (.lst xs))):nR K H (.ref a) (.type "list")
 |tup {a:Addr}{xs:List V} (e:H a=some (.tup xs)):nR K H (.ref a) (.type "tuple")
 |dK {a:Addr}{kvs:List (pA×V)} (e:H a=some (.dK kvs)):nR K H (.ref a) (.type "dict")
 |dT {a:Addr}{kvs:List (List pA×V)} (e:H a=some (.dT kvs)):nR K H (.ref a) (.type "dict")
 |ins {a C dx:Addr}{fs:List (Str×V)} (e:H a=some (.ins C dx fs)) (cl:Jq K C) (ha:W.findIn K (.ref C) "__class__" = some (some (.builtin "object.__class__")))
   (hn:W.specialIn K (.builtin "object.__class__") "__get__" = some (some (.builtin "getset_descriptor.__get__"))) (htk:W.takesIn K (.builtin "object.__class__")=some true)
   (hm:W.mroIn K C (.type "object")=some true):nR K H (.ref a) (.ref C)
end
end L2
namespace L2
open PySem PySem.Spec PyProof.Rows
structure dg(k:Nat)(A:Around):Prop where
 hd:A.handled=none
 dp:A.depth+3*k+5<recursionLimit
 un:A.units+16*k+200<cLine
 gd:A.guards=some []
theorem dg.mono{j k:Nat}{A:Around}(r:dg k A)(h:j<=k):dg j A:=⟨r.hd,by have:=r.dp;omega,by have:=r.un;omega,r.gd⟩
theorem dg.deeper{k:Nat}{A:Around}(r:dg (k+1) A)(env:Env):dg k (A.deeper env):=
 ⟨r.hd,by have:=r.dp;show A.depth+1+3*k+5<_;omega,by have:=r.un;show A.units+3+16*k+200<_;omega,r.gd⟩
theorem vq {A:Around}{C:Addr}{us:List Value}{kw:List (Str×Value)}:(A.under (.builtin "type.__call__" ⟨.ref C::us,kw⟩)).depth=A.depth+1:=by
 first|rfl|simp[Around.under,Code.weight,Code.isCreation,Code.isGuard,Code.isCaller,Code.frames,Code.isFrame,guardIds]
theorem vp {A:Around}{C:Addr}{us:List Value}{kw:List (Str×Value)}:(A.under (.builtin "type.__call__" ⟨.ref C::us,kw⟩)).units=A.units+1:=by
 first|rfl|simp[Around.under,Code.cUnits,Code.frames,Code.isFrame]
theorem ui{A:Around}{C:Addr}{us:List Value}{kw:List (Str×Value)} :
  (A.under (.builtin "type.__call__" ⟨.ref C::us,kw⟩)).guards=A.guards:=by
 first|rfl|simp[Around.under,Code.guards,pushGuards,Code.isGuard,guardIds]
theorem dg.make {k:Nat}{A:Around} (r:dg (k+1) A) (C:Addr) (us:List Value) (kw:List (Str×Value)):dg k (A.under (.builtin "type.__call__" ⟨.ref C::us,kw⟩)):=
 ⟨r.hd,by have:=r.dp;rw[vq];omega,by have:=r.un;rw[vp];omega,ui.trans r.gd⟩
theorem dg.depth{k:Nat}{A:Around}(r:dg k A):A.depth<recursionLimit:=by have:=r.dp;omega
theorem dg.units{k:Nat}{A:Around}(r:dg k A):A.units+64<cLine:=by have:=r.un;omega
def IG:TA:=fun _ H Q=>Q [] H
def G4(ta:TE)(tr:TA):TA:=fun σ H Q=>ta σ H fun x H1=>tr σ H1 fun xs H2=>Q (x::xs) H2
section
variable{X:Cx}{e:Expr}{es:List Expr}{te:TE}{t:TA}{pos:Pos}
theorem oa:PA X [] IG:=fun _ _ _ _ H Q I h=>Calls.spliced_nil ⟨[],H,I,.nil,h⟩
theorem gX(ha:PE X e te)(hr:PA X es t)(hs:starEach (e::es) X.env=(false,eval e X.env)::starEach es X.env:=by rfl):PA X (e::es) (G4 te t):=by
 intro pos pins s σ H Q I h;rw[hs];show wpAny _ _ (spliced ((false,eval e X.env)::backTo pos (starEach es X.env))) _ _ s;refine Calls.spliced_cons (cT (ha pins s σ H _ I h) fun u s1 ⟨x,H1,I1,r1,q1⟩=>?_);exact cT (hr pos pins s1 σ H1 _ I1 q1) fun us s2 ⟨xs,H2,I2,r2,q2⟩=>⟨x::xs,H2,I2,.cons r1 r2,q2⟩
def IA(t:TA):TE:=fun σ H Q=>t σ H fun xs H1=>xs.length<=sizeLine/\∀p,H1 p=none->Q (.ref p) (bx H1 p (.tup xs))
def IH(t:TA):TE:=fun σ H Q=>t σ H fun xs H1=>xs.length<=sizeLine/\∀p,H1 p=none->Q (.ref p) (bx H1 p (.lst xs))
theorem E3{x1}(h:PA X es t):PE X (.Tuple es x1 pos) (IA t):=by
 intro pins s σ H Q I hq;refine wpAny_Tuple_spliced (cT (h pos pins s σ H _ I hq) fun us s1 ⟨xs,H1,I1,r,z,q⟩=>⟨by rw[<- r.length];exact z,?_⟩);have hf:H1 s1.heap.objs.size=none:=I1.hok.fresh (Kc _);refine⟨.ref s1.heap.objs.size,bx H1 s1.heap.objs.size (.tup xs),I1.laid (t':=s1.toks) (fun b u e=>Ka _ e) (Kc _) ?_,rfl,q _ hf⟩;exact⟨z,us,r,⟨_,Kb _ rfl,rfl,_,rfl⟩⟩
theorem E8(h:PA X es t):PE X (.List es pos) (IH t):=by
 intro pins s σ H Q I hq;refine wpAny_List_spliced (cT (h pos pins s σ H _ I hq) fun us s1 ⟨xs,H1,I1,r,z,q⟩=>⟨by rw[<- r.length];exact z,?_⟩);have hf:H1 s1.heap.objs.size=none:=I1.hok.fresh (Kc _);refine⟨.ref s1.heap.objs.size,bx H1 s1.heap.objs.size (.lst xs),I1.laid (t':=s1.toks) (fun b u e=>Ka _ e) (Kc _) ?_,rfl,q _ hf⟩;exact⟨z,us,0,r,Kb _ rfl⟩
end
abbrev Sp:=List V->Hp->VK->XK->Prop
abbrev sj:=List Env->Hp->Shared->XK->Value->Shared->Prop
structure qU(P:Program)(w:World)(K:W.Frag)(mg:Str->Option Value)(base:Heap)(A:Around)(outer:List Env)(s:Shared)(H:Hp):Prop where
 frames:A.frames=some outer
 mod:Mod K mg base
 bs:∀b o,base.get? b=some o->s.heap.get? b=some o/\H b=none
 bsz:base.objs.size<=s.heap.objs.size
 funs:s.heap.FunFrames base outer
 frf:∀b∈nM outer,H b=none
 hok:lM P w H s.heap
 bare:AllBare s.gens
def CE(outer:List Env)(P:Program)(w:World)(H:Hp)(s:Shared)(Q:VK)(u:Value)(s':Shared):Prop:=
 ∃v H',s'.os=s.os/\AllBare s'.gens/\Un (nM outer) [] H H' s.heap s'.heap/\lM P w H' s'.heap/\bE v u/\Q v H'
def CR(CX:sj)(outer:List Env)(P:Program)(w:World)(H:Hp)(s:Shared)(Q:VK)(E:XK)(r:Result)(s':Shared):Prop:=
 match r with
 |.ok (.ret u)=>CE outer P w H s Q u s'
 |.ok _=>False
 |.error e=>CX outer H s E e s'
structure i6(P:Program)(w:World)(K:W.Frag)(mg:Str->Option Value)(base:Heap)(CX:sj)(k:Nat)(f:Addr)(fd:FuncData)(ps:List Str)(sp:Sp):Prop where
 len:∀vs H Q E,sp vs H Q E->vs.length=ps.length
 run:∀(A:Around)(outer:List Env)(s:Shared)(H:Hp)(args:Args)(us:List Value)(vs:List V)(Q:VK)(E:XK),dg k A->qU P w K mg base A outer s H->BindsTo s fd args (ps.zip us)->aW vs us->sp vs H Q E ->
  codeAny (model P w) A (.call (.ref f) args) (CR CX outer P w H s Q E) s
theorem qU.make{P:Program}{w:World}{K:W.Frag}{mg:Str->Option Value}{base:Heap}{A:Around}{outer:List Env}{s:Shared}{H:Hp}(e:qU P w K mg base A outer s H)(C:Addr)(us:List Value)(kw:List (Str×Value)) :
  qU P w K mg base (A.under (.builtin "type.__call__" ⟨.ref C::us,kw⟩)) outer s H:=⟨by first|exact e.frames|(simpa[Around.under,Code.envs,Code.isFrame,pushEnvs] using e.frames),e.mod,e.bs,e.bsz,e.funs,e.frf,e.hok,e.bare⟩
section
variable{X:Cx}{pins:List (Addr×Obj)}{σ:St}{H:Hp}{s s':Shared}
theorem aP.env0(I:aP X pins σ H s):qU X.prog X.w X.K X.mg X.base X.A X.stack s H:=
 ⟨I.ok.frames,I.ok.mod,I.bs,JH I.ok.bsz I.sz,I.stack,I.stkFree,I.hok,I.bare⟩
theorem aP.after{Q:VK}{u:Value}(I:aP X pins σ H s)(h:CE X.stack X.prog X.w H s Q u s'):EP X pins σ Q u s':=by
 obtain⟨v,H',os,bare,un,hok,r,q⟩:=h;obtain⟨hh,g,d,t,os'⟩:=s';obtain rfl:os'=s.os:=os;exact⟨v,H',I.call (h':=hh) (g':=g) (d':=d) (t':=t) (ch:=[]) un hok bare (fun b z=>absurd z (by simp)),r,q⟩
end
def pY(sp:Sp)(dvs:List V)(E:XK)(t:TA):TE:=fun σ H Q=>t σ H fun vs H1=>sp (vs++dvs) H1 Q E
def dr(K:W.Frag)(fd:FuncData)(ps:List Str)(ds:List Value):Prop:=
 ∀(s:Shared)(us:List Value),K.In s.heap->(us++ds).length=ps.length->BindsTo s fd ⟨us,[]⟩ (ps.zip (us++ds))
theorem dr.all{K:W.Frag}{fd:FuncData}{ps:List Str}(h:∀us:List Value,us.length=ps.length->bindArgs fd ⟨us,[]⟩=pure (ps.zip us)):dr K fd ps []:=fun s us _ hl=>by
 rw[Kk]at hl⊢;exact .of_eq (h us hl)
def l5(CX:sj)(X:Cx)(E:XK):Prop:=∀(pins:List (Addr×Obj))(σ:St)(H:Hp)(s:Shared)(e:Value)(s':Shared),aP X pins σ H s->CX X.stack H s E e s'->X.xe e s'
section
variable{X:Cx}{CX:sj}{k:Nat}{f C:Addr}{fd:FuncData}{ps:List Str}{sp:Sp}{dvs:List V}{ds:List Value}{E:XK}{x m:Str}{p pos apos:Pos}{e o:Expr}{es:List Expr}{ta:TE}{t:TA}
theorem EN{pins:List (Addr×Obj)}{σ:St}{H:Hp}{s:Shared}{Q:VK}{us:List Value}{vs:List V}(F:i6 X.prog X.w X.K X.mg X.base CX k f fd ps sp)(hr:dg k X.A)(hb:dr X.K fd ps ds)(hd:aW dvs ds)(hx:l5 CX X E)
  (I:aP X pins σ H s) (r:aW vs us) (h:sp (vs++dvs) H Q E):wpAny (model X.prog X.w) X.A (call (.ref f) us) (EP X pins σ Q) X.xe s:=by
 have r2:aW (vs++dvs) (us++ds):=r.append hd;have hl:(us++ds).length=ps.length:=by rw[<- r2.length];exact F.len _ _ _ _ h
 refine Kl (Km (F.run X.A X.stack s H ⟨us,[]⟩ (us++ds) (vs++dvs) Q E hr I.env0 (hb s us I.kIn hl) r2 h) fun r s' hq=>?_);cases r with
 |error e=>exact hx pins σ H s e s' I hq
 |ok fl=>
  cases fl with
  |ret u=>exact I.after hq
  |next=>exact False.elim hq
  |brk=>exact False.elim hq
  |cont=>exact False.elim hq
theorem wB(F:i6 X.prog X.w X.K X.mg X.base CX k f fd ps sp)(hr:dg k X.A)(hg:Gl X x)(hm:X.mg x=some (.ref f))(hk:W.keepIn X.K (.ref f)=true)(hb:dr X.K fd ps ds)(hd:aW dvs ds)(hx:l5 CX X E)
  (ha:PA X (e::es) t) (hdb:(x == ("__debug__" : Str))=false:=by decide) (he:starEach (e::es) X.env=(false,eval e X.env)::starEach es X.env:=by rfl) (hpl:(backTo pos (starEach es X.env)).any (·.1)=false:=by rfl) :
  PE X (.Call (.Name x p) (e::es) [] pos) (pY sp dvs E t):=by
 intro pins s σ H Q I h;refine Ko (jH I hg hm ?_ hdb);refine W.callWith_K (h₀:=X.base) I.ok.mod.kin hk (cT (ha pos pins s σ H _ I h) fun us s1 ⟨vs,H1,I1,r,q⟩=>⟨I1.kIn,?_⟩) he hpl;exact EN F hr hb hd hx I1 r q
structure Mk(K:W.Frag)(C f:Addr):Prop where
 makes:W.makesIn K C=true
 init:W.findIn K (.ref C) "__init__" = some (some (.ref f))
 fn:W.isFn K (.ref f)=true
 kp:W.keepIn K (.ref C)=true
end
section
variable{X:Cx}{CX:sj}{k:Nat}{f C:Addr}{fd:FuncData}{ps ks:List Str}{sp:Sp}{E:XK}{x m:Str}{p pos apos kpos:Pos}{e o:Expr}{es:List Expr}{kws:List Keyword}{te ta:TE}{t tk:TA}{nm:Option Str}
structure Jc(K:W.Frag)(fd:FuncData)(ps ks:List Str)(g:List Value->List Value->List Value)(gV:List V->List V->List V):Prop where
 to:∀(s:Shared)(us ws:List Value),K.In s.heap->(g us ws).length=ps.length->BindsTo s fd ⟨us,ks.zip ws⟩ (ps.zip (g us ws))
 rel:∀{vs:List V}{us:List Value}{zs:List V}{ws:List Value},aW vs us->aW zs ws->aW (gV vs zs) (g us ws)
variable{g:List Value->List Value->List Value}{gV:List V->List V->List V}
end
structure aX(N P:List Str)(sc:Scope):Prop where
 kind:sc.kind=.function
 co:sc.isCoroutine=false
 gen:sc.isGenerator=false
 nd:N.Nodup
 pre:N.take P.length=P
 par:∀x∈P,sc.names.lookup x=some .local\/sc.names.lookup x=some .cell
 nofree:∀y∈sc.names,y.2≠.free
theorem qH{kindOf:Str->Option NameKind}{x:Str}:∀{binds:List (Str×Value)}{m:Str->Option Value},(∀v,(x,v)∉binds)->bindL kindOf binds m x=m x
 |[],_,_=>rfl
 |(n,v)::r,m,h=>by
  unfold bindL;rw[qH fun w hw=>h w (JL _ hw)];split
  ·have : x ≠ n := by rintro rfl; exact h v JK
   simp[this]
  ·rfl
theorem qI{kindOf:Str->Option NameKind}{x:Str}:∀{binds:List (Str×Value)}{m:Str->Option Value},(∀v,(x,v)∉binds)->bindC kindOf binds m x=m x
 |[],_,_=>rfl
 |(n,v)::r,m,h=>by
  unfold bindC;rw[qI fun w hw=>h w (JL _ hw)];split
  ·rfl
  ·have : x ≠ n := by rintro rfl; exact h v JK
   simp[this]
theorem mw{kindOf:Str->Option NameKind}{x:Str}{v:Value}:∀{P:List Str}{vs:List Value}{i:Nat}{m:Str->Option Value},P.Nodup->P[i]?=some x->vs[i]?=some v->kindOf x=some .local ->
  bindL kindOf (P.zip vs) m x=some v
 |[],_,_,_,_,h,_,_=>by simp at h
 |_::_,[],_,_,_,_,h,_=>by simp at h
 |p::P,w::vs,0,m,nd,h1,h2,hk=>by
  simp at h1 h2;subst h1;subst h2;show bindL kindOf ((p,w)::P.zip vs) m p=_;unfold bindL;rw[qH fun v hv=>(Kr.mp nd).1 (Ks hv).1,Jz hk];simp
 |p::P,w::vs,i+1,m,nd,h1,h2,hk=>by
  show bindL kindOf ((p,w)::P.zip vs) m x=_;unfold bindL;exact mw (i:=i) (Kr.mp nd).2 (by simpa using h1) (by simpa using h2) hk
theorem mx{kindOf:Str->Option NameKind}{x:Str}{v:Value}:∀{P:List Str}{vs:List Value}{i:Nat}{m:Str->Option Value},P.Nodup->P[i]?=some x->vs[i]?=some v->kindOf x≠some .local ->
  bindC kindOf (P.zip vs) m x=some v
 |[],_,_,_,_,h,_,_=>by simp at h
 |_::_,[],_,_,_,_,h,_=>by simp at h
 |p::P,w::vs,0,m,nd,h1,h2,hk=>by
  simp at h1 h2;subst h1;subst h2;show bindC kindOf ((p,w)::P.zip vs) m p=_;unfold bindC;rw[qI fun v hv=>(Kr.mp nd).1 (Ks hv).1,JA hk];simp
 |p::P,w::vs,i+1,m,nd,h1,h2,hk=>by
  show bindC kindOf ((p,w)::P.zip vs) m x=_;unfold bindC;exact mx (i:=i) (Kr.mp nd).2 (by simpa using h1) (by simpa using h2) hk
def start(N:List Str)(vs:List V):St:=vs.map some++List.replicate (N.length-vs.length) none
def nQ(CX:sj)(P:Program)(w:World)(K:W.Frag)(mg:Str->Option Value)(base:Heap)(N:List Str)(qual:Str)(scope:Scope)(f:Addr)(cd:Value)(A:Around)(outer:List Env)(s:Shared)(H:Hp)(E:XK):Cx where
 prog:=P
 w:=w
 K:=K
 mg:=mg
 base:=base
 A:=A.deeper (envOfC qual scope s.heap.objs.size f cd)
 N:=N
 s₀:=s
 H₀:=H
 env:=envOfC qual scope s.heap.objs.size f cd
 outer:=outer
 stack:=envOfC qual scope s.heap.objs.size f cd::outer
 ex:=[]
 calm:=true
 fn:=fun _=>true
 pn:=[]
 xe:=fun e s'=>wpAny (model P w) (A.deeper (envOfC qual scope s.heap.objs.size f cd)) (leaving (envOfC qual scope s.heap.objs.size f cd) e) (fun _ s''=>CX outer H s E e s'') (fun e' s''=>CX outer H s E e' s'') s'
theorem lj{sc:Scope}{n:Nat}{x:Str}(h:sc.names.lookup x=some .cell):∃c,(cellsFrom n sc.names []).lookup x=some c:=by
 have q:=W.cellsFrom_some sc.names n [] (.inl h);exact Kt.mp q
theorem xX{CX:sj}{P:Program}{w:World}{K:W.Frag}{mg:Str->Option Value}{base:Heap}{N ps:List Str}{qual:Str}{scope:Scope}{f:Addr}{cd:Value}{A:Around}{outer:List Env}{s s1:Shared}{H:Hp}{E:XK}{us:List Value}{vs:List V}
  (S:aX N ps scope) (hd:A.handled=none) (e0:qU P w K mg base A outer s H) (hl:vs.length=ps.length) (r:aW vs us)
  (x:InCallC s s.heap.objs.size (bindL (envOfC qual scope s.heap.objs.size f cd).kindOf (ps.zip us) fun _=>none) (cellsFrom (s.heap.objs.size+1) scope.names []) (bindC (envOfC qual scope s.heap.objs.size f cd).kindOf (ps.zip us) fun _=>none) s1) :
  aP (nQ CX P w K mg base N qual scope f cd A outer s H E) [] (start N vs) H s1:=by
 have hpl:ps.length<=N.length:=by have:=JY List.length S.pre;rw[Ku]at this;omega
 obtain⟨h1,tk,rfl,hk⟩:=x.done;have noA:∀b:Addr,b∉(nQ CX P w K mg base N qual scope f cd A outer s H E).ex:=fun b z=>absurd (show b∈([]:List Addr) from z) (by simp)
 refine⟨⟨e0.mod,S.kind,rfl,rfl,Kc _,fun y z c h1 h2=>?_,fun y hy=>?_,fun y c _ h=>?_,fun _=>hd,Around.frames_deeper e0.frames,.inr ⟨rfl,rfl⟩,fun b z=>absurd z (noA b),e0.bs,e0.bsz,fun b _ _=>noA b,fun b z=>absurd z (noA b),e0.funs,e0.frf⟩,
  rfl,e0.bare,Un.kept hk,⟨_,x.toInCall.ns,fun i y v h1 h2 h3=>?_⟩,fun y c h=>⟨_,x.cell y c h⟩,e0.hok.fresh (Kc _),fun y c h=>?_,fun p hp=>absurd (show p∈([]:List (Addr×Obj)) from hp) (by simp),e0.hok.kept hk,?_⟩
 ·exact name_of_addr x.apart (Kv h1) (Kv h2)
 ·have hy : scope.names.lookup y = some .cell \/ scope.names.lookup y = some .free := hy;rcases hy with hy|hy
  ·exact lj hy
  ·exact absurd rfl (S.nofree _ (Kv hy))
 ·exact JI (x.above y c (Kv h))
 ·have hi:i<vs.length:=by
   unfold start at h2;by_cases hi:i<vs.length
   ·exact hi
   ·rw[Kw (by simpa using hi)]at h2;rw[Kx]at h2;split at h2 <;> cases h2
  have ha:vs[i]?=some v:=by
   unfold start at h2;rw[Ky (by simpa using hi),KA]at h2;cases e:vs[i]? with
   |none=>rw[e]at h2;cases h2
   |some a=>rw[e]at h2;cases h2;rfl
  obtain⟨u,hu,rv⟩:=r.get ha
  have hp:ps[i]?=some y:=by
   rw[<- S.pre,KB (by omega)];exact h1
  have ndP:ps.Nodup:=by rw[<- S.pre];exact S.nd.sublist (List.take_sublist _ _)
  refine⟨u,rv,?_⟩;rcases S.par y (KC hp) with k|k
  ·exact .inl ⟨k,mw ndP hp hu k⟩
  ·obtain⟨c,e⟩:=lj (n:=s.heap.objs.size+1) k;refine .inr ⟨.inl k,c,e,?_⟩;have q:=x.cell y c e;rw[mx ndP hp hu (by show scope.names.lookup y≠_;rw[k];decide)]at q;exact q
 ·exact e0.hok.fresh (JI (x.above y c (Kv h)))
 ·unfold start;show _=N.length;rw[KD,KE,List.length_replicate];omega
theorem yV{CX:sj}{P:Program}{w:World}{K:W.Frag}{mg:Str->Option Value}{base:Heap}{k:Nat}{f:Addr}{name qual:Str}{params:Arguments}{body:List Stmt}{scope:Scope}{dV kV doc pm cdv ct oc:Value}{an od:Option Addr}
  {osl:Array (Option Value)}{N ps:List Str}{sp:Sp} (lk:K.lookup f=some ⟨oc,od,.func (W.fnOf name qual params body scope dV kV doc pm an cdv ct),osl⟩) (hcd:W.codeIn K cdv qual=true) (S:aX N ps scope)
  (len:∀vs H Q E,sp vs H Q E->vs.length=ps.length)
  (hbody : ∀ (A : Around) (outer : List Env) (s : Shared) (H : Hp) (vs : List V) (Q : VK) (E : XK), dg k (A.deeper (envOfC qual scope s.heap.objs.size f cdv)) -> sp vs H Q E ->
   ∃t,gU (nQ CX P w K mg base N qual scope f cdv A outer s H E) body t/\t {nx:=fun _ H'=>Q .non H',rt:=Q} (start N vs) H) :
  i6 P w K mg base CX (k+1) f (W.fnOf name qual params body scope dV kV doc pm an cdv ct) ps sp:=by
 refine⟨len,fun A outer s H args us vs Q E hr e0 hb r hsp=>?_⟩;have hl:=len _ _ _ _ hsp;have KX:K.In s.heap:=e0.mod.kin.keeps fun b o e=>(e0.bs b o e).1;have lim:s.heap.NoLimit:=e0.mod.nolimit.keeps fun b o e=>(e0.bs b o e).1
 have hkind:∀y∈ps.zip us,scope.names.lookup y.1=some .local\/(scope.names.lookup y.1=some .cell/\((cellsFrom (s.heap.objs.size+1) scope.names []).lookup y.1).isSome=true):=fun⟨n,v⟩ hy=>by
  rcases S.par n (Ks hy).1 with q|q
  ·exact .inl q
  ·exact .inr ⟨q,W.cellsFrom_some _ _ _ (.inl q)⟩
 refine codeAny_call_function hr.depth (KX _ _ lk) rfl S.co S.gen rfl (W.codeRec_of KX hcd) (hb _ _ _ _ ?_);refine wpAny_newFunctionEnv_cells S.kind hkind fun env he s1 x=>?_;subst he;refine⟨lim.keeps x.toInCall.keep,codeAny_func ?_⟩;obtain⟨t,ht,hq⟩:=hbody A outer s H vs Q E (hr.deeper _) hsp;have I:aP (nQ CX P w K mg base N qual scope f cdv A outer s H E) [] (start N vs) H s1:=xX S hr.hd e0 hl r x;refine JV (ht [] s1 (start N vs) H _ I hq) (fun fl s' hs=>?_) fun e s' hs=>hs
 have fin:∀{σ':St}{H':Hp}{v:V}{u:Value},aP (nQ CX P w K mg base N qual scope f cdv A outer s H E) [] σ' H' s'->bE v u->Q v H'->CE outer P w H s Q u s':=
  fun {σ' H' v u} J rv q=>⟨v,H',J.os,J.bare,J.base,J.hok,rv,q⟩
 cases fl with
 |ret u=>
  obtain⟨v,σ',H',J,rv,q⟩:=hs;exact fin J rv q
 |next=>
  obtain⟨σ',H',J,q⟩:=hs;exact fin (v:=V.non) (u:=Value.none) J rfl q
 |brk=>
  obtain⟨_,_,_,q⟩:=hs;exact False.elim q
 |cont=>
  obtain⟨_,_,_,q⟩:=hs;exact False.elim q
end L2
namespace L2
open PySem PySem.Spec PyProof.Rows
section
variable{X:Cx}{x:Str}{p pos:Pos}{e:Expr}{es:List Expr}{t:TA}{id T:String}{r:List V->Hp->VK->Prop}
def Jd(r:List V->Hp->VK->Prop)(t:TA):TE:=fun σ H Q=>t σ H fun vs H1=>r vs H1 Q
theorem k6 (hc:cB X (.builtin id) r) (hg:Gl X x) (hm:X.mg x=none) (hv:bootBuiltins x=some (.builtin id)) (ha:PA X (e::es) t) (hn:x ≠ "__name__" := by decide) (hdb:(x == ("__debug__" : Str))=false:=by decide)
  (he:starEach (e::es) X.env=(false,eval e X.env)::starEach es X.env:=by rfl) (hpl:(backTo pos (starEach es X.env)).any (·.1)=false:=by rfl):PE X (.Call (.Name x p) (e::es) [] pos) (Jd r t):=by
 intro pins s σ H Q I h;refine Ko (ky I hg hm hv ?_ hn hdb);exact PyProof.Rows.callWith_builtin1 (cT (ha pos pins s σ H _ I h) fun us s1 ⟨vs,H1,I1,r1,q1⟩=>hc pins s1 σ H1 vs us Q I1 r1 q1) he hpl
theorem qh (hc:cB X (.type T) r) (hg:Gl X x) (hm:X.mg x=none) (hv:bootBuiltins x=some (.type T)) (ha:PA X (e::es) t) (hn:x ≠ "__name__" := by decide) (hdb:(x == ("__debug__" : Str))=false:=by decide)
  (he:starEach (e::es) X.env=(false,eval e X.env)::starEach es X.env:=by rfl) (hpl:(backTo pos (starEach es X.env)).any (·.1)=false:=by rfl):PE X (.Call (.Name x p) (e::es) [] pos) (Jd r t):=by
 intro pins s σ H Q I h;refine Ko (ky I hg hm hv ?_ hn hdb);exact Kd (cT (ha pos pins s σ H _ I h) fun us s1 ⟨vs,H1,I1,r1,q1⟩=>hc pins s1 σ H1 vs us Q I1 r1 q1) he hpl
end
end L2
namespace HT
open PySem PyProof.Rows
section
open PySem.SeqAt
open PySem.AutoSeq1 (wpAny_loadPart')
open PySem.MeetsSeq PySem.MeetsSeq2 PySem.MeetsSeq3
end
section
variable{prog:Program}{w:World}{A:Around}{E:Value->Shared->Prop}{s:Shared}
theorem cat_tup{t b:Addr}{vs ws:List Value}{Q:Value->Shared->Prop}(ht:IsTup s.heap t vs.toArray)(hb:IsTup s.heap b ws.toArray)(hv:vs≠[])
  (h1:ws=[]->Q (.ref t) s) (h2:ws≠[]->Q (.ref s.heap.objs.size) {s with heap:=s.heap.push {cls:=.type "tuple",data:=.seq (vs++ws).toArray}})
  (hsz:vs.length+ws.length<=sizeLine):wpAny (model prog w) A (binaryOp .Add (.ref t) (.ref b)) Q E s:=by
 obtain⟨⟨cls,dd,data,sl⟩,ho,hc,n,hd⟩:=id ht;obtain⟨⟨cls2,dd2,data2,sl2⟩,ho2,hc2,n2,hd2⟩:=id hb;simp only at hc hd hc2 hd2;subst hc hd hc2 hd2;have e:vs.toArray++ws.toArray=(vs++ws).toArray:=by simp
 by_cases hw:ws=[]
 ·exact concat_meets ⟨_,ho,rfl⟩ ⟨_,ho2,rfl⟩ KG seq_tuple_add KH KJ (KL _ _)
   (tuple_addW1 t b vs.toArray ws.toArray n n2 dd dd2 sl sl2 (by simpa using hv) (by simp[hw])) ⟨ho,ho2,h1 hw⟩
 ·refine concat_meets ⟨_,ho,rfl⟩ ⟨_,ho2,rfl⟩ KG seq_tuple_add KH KJ (KL _ _)
   (tuple_addW2 t b vs.toArray ws.toArray n n2 dd dd2 sl sl2 (by simpa using hv) (by simpa using hw) (by rw[Ki,Ki];exact hsz)) ⟨ho,ho2,?_⟩
  rw[e];exact h2 hw
def sIx(n d:Nat):Option Int->Nat
 |none=>d
 |some v=>if v<0 then (v+(n:Int)).toNat else min v.toNat n
theorem sIx_none(n d:Nat):sIx n d none=d:=rfl
theorem sIx_nat(n d k:Nat):sIx n d (some (k:Int))=min k n:=by
 show (if (k:Int)<0 then ((k:Int)+(n:Int)).toNat else min (k:Int).toNat n)=min k n;rw[JA (by omega),KM]
theorem EM(n d:Nat)(hd:d<=n)(o:Option Int):sIx n d o<=n:=by
 cases o with
 |none=>exact hd
 |some v=>
  show (if v<0 then (v+(n:Int)).toNat else min v.toNat n)<=n;by_cases hv:v<0
  ·rw[Jz hv];omega
  ·rw[JA hv];exact Nat.min_le_right _ _
theorem wX(v:Int)(n d:Nat):(if v<0 then max (v+(n:Int)) 0 else min v (n:Int))=((sIx n d (some v):Nat):Int):=by
 show (if v<0 then max (v+(n:Int)) 0 else min v (n:Int))=(((if v<0 then (v+(n:Int)).toNat else min v.toNat n):Nat):Int);by_cases hv:v<0
 ·simp only[Jz hv];omega
 ·simp only[JA hv];omega
theorem vN(lo hi:Option Int)(n:Nat):Builtin.Slice.sliceAdjust lo hi 1 (n:Int)=(((sIx n 0 lo:Nat):Int),((sIx n n hi:Nat):Int)):=by
 have h1:¬ ((1:Int)<0):=by omega
 unfold Builtin.Slice.sliceAdjust;simp only[h1,KN];refine Prod.ext ?_ ?_
 ·cases lo with
  |none=>rfl
  |some v=>exact wX v n 0
 ·cases hi with
  |none=>rfl
  |some v=>exact wX v n n
theorem vf(i j:Nat):Builtin.Slice.slicePlaces (i:Int) (j:Int) 1=j-i:=by
 unfold Builtin.Slice.slicePlaces;have h1:(1:Int)>0:=by omega
 simp only[h1,KO,Int.ediv_one];split <;> omega
theorem oG{v:Value}{o:Option Int}{Q:Option Int->Shared->Prop}(p:IsPart v o)(h:Q o s):wpAny (model prog w) A (Builtin.Slice.slicePartIndex v) Q E s:=by
 cases p with
 |none=>exact KQ h
 |int i t=>exact slicePart_int h
theorem sliceApplied_gen{sl:Addr}{vl vu:Value}{lo hi:Option Int}{n:Nat}{Q:Int×Int×Nat->Shared->Prop}(hs:s.heap.IsSliceOf sl vl vu .none)(pl:IsPart vl lo)(pu:IsPart vu hi)
  (h:Q (((sIx n 0 lo:Nat):Int),1,sIx n n hi-sIx n 0 lo) s):wpAny (model prog w) A (Builtin.Slice.sliceApplied (.ref sl) (pure (n:Int))) Q E s:=by
 obtain⟨os,hos,hcs,hds⟩:=id hs;unfold Builtin.Slice.sliceApplied Builtin.Slice.sliceFields;refine J1 (J1 (KR hos hds (x:=vl) rfl (J1 (KR hos hds (x:=vu) rfl (J1 (KR hos hds (x:=.none) rfl (J8 ?_)))))));refine J1 (KQ ?_);show wpAny _ _ (if ((1:Int) == 0)=true then _ else _) _ _ s;rw[JA (by decide)];refine J1 (oG pl (J1 (oG pu (J1 (J8 ?_)))));show wpAny _ _ (match Builtin.Slice.sliceAdjust lo hi 1 (n:Int) with|(lo,hi)=>pure (lo,(1:Int),Builtin.Slice.slicePlaces lo hi 1)) _ _ s;rw[vN lo hi n];show wpAny _ _ (pure (((sIx n 0 lo:Nat):Int),(1:Int),Builtin.Slice.slicePlaces ((sIx n 0 lo:Nat):Int) ((sIx n n hi:Nat):Int) 1)) _ _ s;rw[vf];exact J8 h
theorem Ar(xs:Array Value)(i k:Nat):((List.range k).filterMap fun(m:Nat)=>xs[((i:Int)+(m:Int)*1).toNat]?).toArray=((xs.toList.drop i).take k).toArray:=by
 have e:(fun(m:Nat)=>xs[((i:Int)+(m:Int)*1).toNat]?)=fun m=>xs[i+m]?:=by
  funext m;have:((i:Int)+(m:Int)*1).toNat=i+m:=by omega
  rw[this]
 rw[e];have:=pick_run xs i k;rw[KS]at this;have e2:((fun x=>xs[x]?) ∘ fun x=>i+x)=fun m=>xs[i+m]?:=rfl;rw[e2]at this;rw[this]
theorem getItem_tuple_cut{t sl:Addr}{items:Array Value}{vl vu:Value}{lo hi:Option Int}{Q:Value->Shared->Prop}(ht:IsTup s.heap t items)(hs:s.heap.IsSliceOf sl vl vu .none)(pl:IsPart vl lo)(pu:IsPart vu hi)
  (hw:¬ (sIx items.size 0 lo=0/\sIx items.size items.size hi=items.size))
  (h:Q (.ref s.heap.objs.size) {s with heap:=s.heap.push {cls:=.type "tuple",data:=.seq ((items.toList.drop (sIx items.size 0 lo)).take (sIx items.size items.size hi-sIx items.size 0 lo)).toArray}})
  (hsz:items.size<=sizeLine):wpAny (model prog w) A (getItem (.ref t) (.ref sl)) Q E s:=by
 have htake:sizeOk (.seq ((items.toList.drop (sIx items.size 0 lo)).take (sIx items.size items.size hi-sIx items.size 0 lo)).toArray):=by
  show ((items.toList.drop (sIx items.size 0 lo)).take (sIx items.size items.size hi-sIx items.size 0 lo)).toArray.size<=sizeLine;rw[Ki,Ku,KU,JX];omega
 have hj:sIx items.size items.size hi<=items.size:=EM _ _ (Kc _) hi;obtain⟨os,hos,hcs,hds⟩:=id hs;have hTs:s.TypeIs (.ref sl) "slice" := ⟨os,hos,hcs⟩;unfold getItem
 try with_reducible refine J2 ?_
 first|refine J1 (J8 ?_)|skip
 refine J1 (KW ht.typeIs (by decide) ?_)
 refine J1 (KY (name:=Str.ofString "__getitem__") ht.typeIs KZ
  (K0 KZ ht.typeIs K1 ?_ (K2 _ _)))
 show wpAny _ _ (Builtin.Tuple.tupleItemsOf (.ref t) >>= _) _ _ s;refine J1 (tupleItemsOf_ ht ?_);refine J1 (K3 hTs ?_);rw[Jz (by decide)];refine J1 (sliceApplied_gen hs pl pu ?_)
 have hno:¬ ((((sIx items.size 0 lo:Nat):Int) == 0&&(1:Int) == 1&&(sIx items.size items.size hi-sIx items.size 0 lo) == items.size)=true):=by
  intro q;rw[K4,K4]at q;have q1:((sIx items.size 0 lo:Nat):Int)=0:=eq_of_beq q.1.1;have q2:sIx items.size items.size hi-sIx items.size 0 lo=items.size:=eq_of_beq q.2;exact hw ⟨by omega,by omega⟩
 show wpAny _ _ (if (((sIx items.size 0 lo:Nat):Int) == 0&&(1:Int) == 1&&(sIx items.size items.size hi-sIx items.size 0 lo) == items.size)=true then _ else _) _ _ s;rw[JA hno,Ar]
 first
  |exact J1 (m:=Builtin.Tuple.tupleExact _) (K5 (J8 ⟨_,rfl,J8 h⟩) htake)
  |exact J1 (m:=Builtin.Tuple.tupleExact _) (K5 (J1 (J8 (J8 ⟨_,rfl,J8 h⟩))) htake)
  |exact J1 (J1 (m:=Builtin.Tuple.tupleExact _) (K5 (J8 (J8 ⟨_,rfl,J8 h⟩)) htake))
  |exact J1 (J1 (m:=Builtin.Tuple.tupleExact _) (K5 (J8 ⟨_,rfl,J8 h⟩) htake))
end
end HT
namespace L2
open PySem PySem.Spec PyProof.Rows
abbrev TO:=St->Hp->(Option Int->Hp->Prop)->Prop
def PO(X:Cx)(e:Option Expr)(t:TO):Prop:=
 ∀(pins:List (Addr×Obj))(s:Shared)(σ:St)(H:Hp)(Q:Option Int->Hp->Prop),aP X pins σ H s->t σ H Q ->
  wpAny (model X.prog X.w) X.A (evalPart e X.env) (fun u s'=>∃o H',aP X pins σ H' s'/\IsPart u o/\Q o H') X.xe s
def Bz:TO:=fun _ H Q=>Q none H
def GZ(t:TE):TO:=fun σ H Q=>t σ H fun x H1=>∃i,x=.int i/\Q (some i) H1
theorem eB{ns:List Int}:∀{us:List Value},aW (ns.map V.int) us->IntsAre us ns:=by
 induction ns with
 |nil=>intro us r;rw[K6]at r;cases r;exact .nil
 |cons n ns ih=>
  intro us r;rw[K7]at r;cases r with
  |cons r1 r2=>
   obtain⟨t,e⟩:=r1;subst e;exact .cons n t (ih r2)
section
variable{X:Cx}{e:Expr}{te:TE}{lo hi:Option Expr}{tl th:TO}{pos p2:Pos}
theorem Cg:PO X none Bz:=by
 intro pins s σ H Q I h;rw[evalPart_none];exact J8 ⟨none,H,I,.none,h⟩
theorem Cf(h:PE X e te):PO X (some e) (GZ te):=by
 intro pins s σ H Q I hw;rw[evalPart_some];refine cT (h pins s σ H _ I hw) fun u s1 ⟨x,H1,I1,r1,q1⟩=>?_;obtain⟨i,rfl,q⟩:=q1;obtain⟨t,rfl⟩:=r1;exact⟨some i,H1,I1,.int i t,q⟩
def Bc(X:Cx)(r:V->Option Int->Option Int->Hp->VK->Prop):Prop:=
 ∀(pins:List (Addr×Obj))(s:Shared)(σ:St)(H:Hp)(x:V)(v vl vu:Value)(lo hi:Option Int)(sl:Addr)(Q:VK),aP X pins σ H s->bE x v->s.heap.IsSliceOf sl vl vu .none->IsPart vl lo->IsPart vu hi->r x lo hi H Q ->
  ∃T id,typeLookup (.type T) "__getitem__" = pure (some (.builtin id))/\s.TypeIs v T/\wpAny (model X.prog X.w) X.A (getItem v (.ref sl)) (EP X pins σ Q) X.xe s
theorem Bc.or{r r':V->Option Int->Option Int->Hp->VK->Prop}(h:Bc X r)(h':Bc X r'):Bc X (fun x lo hi H Q=>r x lo hi H Q\/r' x lo hi H Q):=by
 intro pins s σ H x v vl vu lo hi sl Q I rx hs pl pu q;rcases q with q|q
 ·exact h pins s σ H x v vl vu lo hi sl Q I rx hs pl pu q
 ·exact h' pins s σ H x v vl vu lo hi sl Q I rx hs pl pu q
def Jm(r:V->Option Int->Option Int->Hp->VK->Prop)(te:TE)(tl th:TO):TE:=fun σ H Q=>te σ H fun x H1=>tl σ H1 fun l H2=>th σ H2 fun u H3=>r x l u H3 Q
theorem Au{r:V->Option Int->Option Int->Hp->VK->Prop}(hr:Bc X r)(he:PE X e te)(hl:PO X lo tl)(hu:PO X hi th):PE X (.Subscript e (.Slice lo hi none p2) pos) (Jm r te tl th):=by
 intro pins s σ H Q I h;refine Subscript_ (cT (he pins s σ H _ I h) fun v s1 ⟨x,H1,I1,r1,q1⟩=>?_);refine wpAny_Slice (cT (hl pins s1 σ H1 _ I1 q1) fun vl s2 ⟨l,H2,I2,pl,q2⟩=>cT (hu pins s2 σ H2 _ I2 q2) fun vu s3 ⟨u,H3,I3,pu,q3⟩=>?_);rw[evalPart_none];refine J8 ?_;have I4:aP X pins σ H3 {s3 with heap:=s3.heap.push {cls:=.type "slice",data:=.fields #[vl,vu,.none]}}:=I3.kept (t':=s3.toks) fun b ob q=>Ka _ q;obtain⟨T,id,hT,ht,hg⟩:=hr pins {s3 with heap:=s3.heap.push {cls:=.type "slice",data:=.fields #[vl,vu,.none]}} σ H3 x v vl vu l u s3.heap.objs.size Q I4 r1 (K8 ..) pl pu q3;show wpAny (model X.prog X.w) X.A (subscriptTail e (.Slice lo hi none p2) v (.ref s3.heap.objs.size)) (EP X pins σ Q) X.xe {s3 with heap:=s3.heap.push {cls:=.type "slice",data:=.fields #[vl,vu,.none]}};exact tail_any (ops:=[.ref s3.heap.objs.size,v]) ht hT hg (by with_unfolding_all rfl)
def sC(xs:List V)(lo hi:Option Int):List V:=(xs.drop (HT.sIx xs.length 0 lo)).take (HT.sIx xs.length xs.length hi-HT.sIx xs.length 0 lo)
theorem mW(xs:List V)(lo hi:Option Int):(sC xs lo hi).length<=xs.length:=by
 unfold sC;rw[Ku,KU];omega
def Gy(K:W.Frag):V->Option Int->Option Int->Hp->VK->Prop:=fun x lo hi H Q=>∃a xs,x=.ref a/\eK K H a xs /\
 ¬ (HT.sIx xs.length 0 lo=0/\HT.sIx xs.length xs.length hi=xs.length)/\∀p,H p=none->Q (.ref p) (bx H p (.tup (sC xs lo hi)))
theorem EA:Bc X (Gy X.K):=by
 intro pins s σ H x v vl vu lo hi sl Q I rx hs pl pu h;obtain⟨a,xs,rfl,hx,hw,q⟩:=h;cases rx;obtain⟨its,r,ht,hz⟩:=I.tuple hx;have hlen:its.toArray.size=xs.length:=by rw[Ki];exact r.length.symm
 refine⟨"tuple",_,KZ.lookup,ht.typeIs,?_⟩;refine HT.getItem_tuple_cut ht hs pl pu (by rw[hlen];exact hw) ?_ (by rw[hlen];exact hz);rw[hlen];refine⟨.ref s.heap.objs.size,_,I.laid (t':=s.toks) (o:=.tup (sC xs lo hi)) (fun b ob q=>Ka _ q) (Kc _) ?_,rfl,q _ (I.hok.fresh (Kc _))⟩;exact⟨JH (mW xs lo hi) hz,_,(r.drop (HT.sIx xs.length 0 lo)).take (HT.sIx xs.length xs.length hi-HT.sIx xs.length 0 lo),IsTup.new _ _⟩
def Hh(K:W.Frag):R2:=fun x y H Q=>∃a b xs ys,x=.ref a/\y=.ref b/\eK K H a xs/\eK K H b ys/\xs≠[]/\xs.length+ys.length<=sizeLine /\
 (ys=[]->Q (.ref a) H)/\(ys≠[]->∀p,H p=none->Q (.ref p) (bx H p (.tup (xs++ys))))
theorem aW.nil_iff{xs:List V}{us:List Value}(r:aW xs us):us=[]↔xs=[]:=by
 cases r with
 |nil=>simp
 |cons _ _=>simp
theorem Cz:iH X (binaryOp .Add) (Hh X.K):=by
 intro pins s σ H x y v u Q I rx ry h;obtain⟨a,b,xs,ys,rfl,rfl,ha,hb,hx,hz,q1,q2⟩:=h;cases rx;cases ry;obtain⟨its,r1,p1,_⟩:=I.tuple ha;obtain⟨its2,r2,p2,_⟩:=I.tuple hb;refine HT.cat_tup p1 p2 (fun z=>hx (r1.nil_iff.mp z)) (fun z=>⟨.ref a,H,I,rfl,q1 (r2.nil_iff.mp z)⟩) (fun z=>?_) (by rw[<- r1.length,<- r2.length];exact hz);refine⟨.ref s.heap.objs.size,_,I.laid (t':=s.toks) (o:=.tup (xs++ys)) (fun b ob q=>Ka _ q) (Kc _) ?_,rfl,q2 (fun w=>z (r2.nil_iff.mpr w)) _ (I.hok.fresh (Kc _))⟩;exact⟨by rw[KD];exact hz,_,r1.append r2,IsTup.new _ _⟩
end
end L2
namespace L2
open PySem PySem.Spec PyProof.Rows
def vQ(n:Nat)(i:Int):Option Nat:=if 0<=i then (if i<n then some i.toNat else none) else if -(n:Int)<=i then some (i+n).toNat else none
def atI{α:Type}(xs:List α)(i:Int):Option α:=(vQ xs.length i).bind fun j=>xs[j]?
theorem rD{n:Nat}{i:Int}{j:Nat}(h:vQ n i=some j):seqIndex? i n=some j/\j<n/\-(n:Int)<=i/\i<n:=by
 unfold vQ at h;by_cases h0:0<=i
 ·rw [Jz h0] at h;by_cases h1:i<n
  ·rw[Jz h1]at h;have e:i.toNat=j:=Jv h;exact⟨by rw[seqIndex_of h0 h1,e],by omega,by omega,h1⟩
  ·rw[JA h1]at h;cases h
 ·rw [JA h0] at h;by_cases h1:-(n:Int)<=i
  ·rw[Jz h1]at h;have e:(i+n).toNat=j:=Jv h;exact⟨by rw[seqIndex_neg (by omega) h1,e],by omega,h1,by omega⟩
  ·rw[JA h1]at h;cases h
theorem rN{α:Type}{xs:List α}{i:Int}{v:α}(h:atI xs i=some v):∃j,seqIndex? i xs.length=some j/\xs[j]?=some v/\j<xs.length/\-(xs.length:Int)<=i/\i<xs.length:=by
 unfold atI at h;cases e:vQ xs.length i with
 |none=>rw[e]at h;cases h
 |some j=>
  rw[e]at h;obtain⟨h1,h2,h3,h4⟩:=rD e;exact⟨j,h1,h,h2,h3,h4⟩
theorem rM{α:Type}{xs:List α}{j:Nat}{v:α}(h:xs[j]?=some v):atI xs (j:Int)=some v:=by
 have hj:j<xs.length:=(JR.mp h).1
 have e:vQ xs.length (j:Int)=some j:=by
  unfold vQ;rw[Jz (by omega),Jz (by omega)];simp
 unfold atI;rw[e];exact h
def rO(b:Expr):Prop:=∀o i,subscripted b false o i=operate [o,i] (getItem o i)
def Bf(X:Cx)(r:R2):Prop:=
 ∀(value slice:Expr)(pins:List (Addr×Obj))(s:Shared)(σ:St)(H:Hp)(x y:V)(v u:Value)(Q:VK),aP X pins σ H s->bE x v->bE y u->r x y H Q ->
  subscripted slice false v u=operate [v,u] (getItem v u)->wpAny (model X.prog X.w) X.A (subscriptTail value slice v u) (EP X pins σ Q) X.xe s
def Jh(X:Cx)(id:String)(r:V->List V->Hp->VK->Prop):Prop:=
 ∀(pins:List (Addr×Obj))(s:Shared)(σ:St)(H:Hp)(x:V)(xs:List V)(v:Value)(us:List Value)(Q:VK),aP X pins σ H s->bE x v->aW xs us->r x xs H Q ->
  wpAny (model X.prog X.w) X.A (call (.builtin id) (v::us)) (EP X pins σ Q) X.xe s
section
variable{X:Cx}{a b:Expr}{ta tb:TE}{pos:Pos}
theorem Bf.or{r r':R2}(h:Bf X r)(h':Bf X r'):Bf X (fun x y H Q=>r x y H Q\/r' x y H Q):=by
 intro value slice pins s σ H x y v u Q I rx ry q hs;rcases q with q|q
 ·exact h value slice pins s σ H x y v u Q I rx ry q hs
 ·exact h' value slice pins s σ H x y v u Q I rx ry q hs
theorem Hn{r:R2}(hr:Bf X r)(ha:PE X a ta)(hb:PE X b tb)(hs:rO b):PE X (.Subscript a b pos) (HN r ta tb):=by
 intro pins s σ H Q I h;exact Subscript_ (D0 ha hb I h fun v u s2 x y H2 I2 rx ry q=>hr a b pins s2 σ H2 x y v u Q I2 rx ry q (hs _ _))
def GE(K:W.Frag):R2:=fun x y H Q=>∃p xs i v,x=.ref p/\y=.int i/\eP K H p xs/\atI xs i=some v/\Q v H
def GC(K:W.Frag):R2:=fun x y H Q=>∃p xs i v,x=.ref p/\y=.int i/\eK K H p xs/\atI xs i=some v/\Q v H
def GD:R2:=fun x y H Q=>∃z i c,x=.str z/\y=.int i/\z.length<=sizeLine/\atI z.cps.toList i=some c/\Q (.str ⟨#[c]⟩) H
theorem CZ:Bf X (GE X.K):=by
 intro value slice pins s σ H x y v u Q I rx ry h hs;obtain⟨p,xs,i,z,rfl,rfl,hq,he,q⟩:=h;cases rx;obtain⟨t,rfl⟩:=ry;obtain⟨its,r,pl,hz⟩:=I.list hq;obtain⟨j,h1,h2,h3,h4,h5⟩:=rN he;obtain⟨w,ew,rw'⟩:=r.get h2;have hl:=r.length;have hn:=lU;have fin:EP X pins σ Q w s:=⟨z,H,I,rw',q⟩;by_cases h0:0<=i
 ·have hj:i.toNat=j:=by
   rw[seqIndex_of h0 h5]at h1;exact Jv h1
  exact item_listR pl.isList h0 (by omega) (by rw[hj];simpa using ew) fin hs
 ·have hj:(i+(its.toArray.size:Int)).toNat=j:=by
   rw[seqIndex_neg (by omega) h4]at h1;rw[Ki,<- hl];exact Jv h1
  exact subscriptTail_builtinR (x:=w) pl.isList.typeIs K9.lookup
   (wpAny_getItem_list_neg (Q:=fun r s'=>r=w/\EP X pins σ Q r s') pl.isList (by omega) (by rw[Ki] <;> omega) (by omega) (by rw[hj];simpa using ew) ⟨rfl,fin⟩) hs
theorem FR:Bf X (GC X.K):=by
 intro value slice pins s σ H x y v u Q I rx ry h hs;obtain⟨p,xs,i,z,rfl,rfl,hq,he,q⟩:=h;cases rx;obtain⟨t,rfl⟩:=ry;obtain⟨its,r,pl,hz⟩:=I.tuple hq;obtain⟨j,h1,h2,h3,h4,h5⟩:=rN he;obtain⟨w,ew,rw'⟩:=r.get h2;have hl:=r.length;have hn:=lU;have fin:EP X pins σ Q w s:=⟨z,H,I,rw',q⟩
 exact subscriptTail_builtinR (x:=w) pl.typeIs slot_tuple_getitem.lookup
  (getItem_tuple (j:=j) (Q:=fun r s'=>r=w/\EP X pins σ Q r s') pl (by omega) (by omega) (by rw[Ki,<- hl];exact h1) (by simpa using ew) ⟨rfl,fin⟩) hs
theorem FS:Bf X GD:=by
 intro value slice pins s σ H x y v u Q I rx ry h hs;obtain⟨z,i,c,rfl,rfl,hz,he,q⟩:=h;obtain⟨t,rfl⟩:=rx;obtain⟨t',rfl⟩:=ry;obtain⟨j,h1,h2,h3,h4,h5⟩:=rN he;have hl:z.cps.toList.length=z.length:=by simp[Str.length]
 rw[hl]at h1 h4 h5;have hn:=lU
 exact tail_any (typeIs_str s z t) slot_str_getitem.lookup (getItem_str (c:=c) (by
  have e1:decide (i < -(2^63:Int))=false:=Jx (by omega);have e2:decide (i ≥ 2^63)=false:=Jx (by omega)
  rw[e1,e2,Bool.or_false]) (by rw[h1];simpa using h2) ⟨.str ⟨#[c]⟩,H,I.tok _,⟨_,rfl⟩,q⟩) hs
def Je(K:W.Frag):R2:=fun x y H Q=>GE K x y H Q\/GC K x y H Q\/GD x y H Q
theorem FU:Bf X (Je X.K):=CZ.or (FR.or FS)
theorem vn (its:List Value) (n j:Nat) (u:Value):Obj.mapSeq (·.setIfInBounds j u) {cls:=.type "list",data:=.seq its.toArray n}={cls:=.type "list",data:=.seq (its.set j u).toArray n}:=by
 simp[Obj.mapSeq]
theorem aP.lst{pins:List (Addr×Obj)}{σ:St}{H:Hp}{s:Shared}{p:Addr}{xs:List V}(I:aP X pins σ H s)(h:H p=some (.lst xs)) :
  ∃(its:List Value) (n:Nat),aW xs its/\s.heap.get? p=some {cls:=.type "list",data:=.seq its.toArray n}/\xs.length<=sizeLine:=by
 obtain⟨z,its,n,r,e⟩:=I.hok p _ h;exact⟨its,n,r,e,z⟩
theorem aP.lstUpd{pins:List (Addr×Obj)}{σ:St}{H:Hp}{s:Shared}{p:Addr}{xs ys:List V}{its its':List Value}{n n':Nat}{f:Obj->Obj}(I:aP X pins σ H s)(h:H p=some (.lst xs))
  (ho:s.heap.get? p=some {cls:=.type "list",data:=.seq its.toArray n}) (hf:f {cls:=.type "list",data:=.seq its.toArray n}={cls:=.type "list",data:=.seq its'.toArray n'}) (r:aW ys its') (hz:ys.length<=sizeLine) (t:Nat) :
  aP X pins σ (bx H p (.lst ys)) {s with heap:=s.heap.update p f,toks:=t}:=by
 have e:(s.heap.update p f).get? p=some {cls:=.type "list",data:=.seq its'.toArray n'}:=by
  rw[La f ho (by rw[hf] <;> rfl),hf]
 refine I.write (x:=p) (e:=p) (by rw[h];trivial) (.inl rfl) (fun b u hb q=>(Lb _ _ (JO hb)).trans q) ⟨_,e⟩ ?_;exact⟨hz,its',n',r,e⟩
def Dv:V->V->V->Hp->(Hp->Prop)->Prop:=fun o i v H Q=>∃p xs k j,o=.ref p/\i=.int k/\H p=some (.lst xs)/\vQ xs.length k=some j/\Q (bx H p (.lst (xs.set j v)))
theorem z7:GP X Dv:=by
 intro pins s σ H o i v ov iv u Q I ro ri rv h;obtain⟨p,xs,k,j,rfl,rfl,hp,hj,q⟩:=h;cases ro;obtain⟨t,rfl⟩:=ri;obtain⟨its,n,r,ho,hz⟩:=I.lst hp;obtain⟨h1,h2,h3,h4⟩:=rD hj;have hl:=r.length;have hn:=lU
 have I':aP X pins σ (bx H p (.lst (xs.set j v))) {s with heap:=s.heap.update p (Obj.mapSeq (·.setIfInBounds j u))}:=
  I.lstUpd hp ho (vn its n j u) (r.set rv j) (by rw[List.length_set];exact hz) s.toks
 by_cases h0:0<=k
 ·have hk:k.toNat=j:=by
   rw[seqIndex_of h0 h4]at h1;exact Jv h1
  exact W.ki_setAt ho h0 (by omega) (by rw[Ki,<- hl];exact h4) (by rw[hk];exact⟨_,I',q⟩)
 ·have hk:(k+(its.toArray.size:Int)).toNat=j:=by
   rw[seqIndex_neg (by omega) h3]at h1;rw[Ki,<- hl];exact Jv h1
  exact W.ki_setBack ho (by omega) (by rw[Ki,<- hl];exact h3) (by omega) (by rw[hk];exact⟨_,I',q⟩)
theorem rV(lo hi:Option Int)(n:Nat):(sliceBounds lo hi none n).1=((HT.sIx n 0 lo:Nat):Int)/\(sliceBounds lo hi none n).2.1=((HT.sIx n n hi:Nat):Int)/\(sliceBounds lo hi none n).2.2=1:=by
 refine⟨?_,?_,rfl⟩
 ·cases lo with
  |none=>simp[sliceBounds,HT.sIx]
  |some i=>
   simp only[sliceBounds,HT.sIx,Option.getD_none,show (1:Int)>0 by decide,KO];by_cases h:i<0
   ·simp only[h,KO] <;> omega
   ·simp only[h,KN] <;> omega
 ·cases hi with
  |none=>simp[sliceBounds,HT.sIx]
  |some i=>
   simp only[sliceBounds,HT.sIx,Option.getD_none,show (1:Int)>0 by decide,KO];by_cases h:i<0
   ·simp only[h,KO] <;> omega
   ·simp only[h,KN] <;> omega
theorem pH(its:List Value)(lo hi:Option Int):slicePick its.toArray lo hi none=((its.drop (HT.sIx its.length 0 lo)).take (HT.sIx its.length its.length hi-HT.sIx its.length 0 lo)).toArray:=by
 obtain⟨h1,h2,h3⟩:=rV lo hi its.toArray.size;unfold slicePick;rw[h1,h2,h3];simp only[sliceRange_one,pick_run,Ki] <;> rfl
def Gz(K:W.Frag):V->Option Int->Option Int->Hp->VK->Prop:=fun x lo hi H Q=>∃a xs,x=.ref a/\eP K H a xs/\∀p,H p=none->Q (.ref p) (bx H p (.lst (sC xs lo hi)))
theorem BP:Bc X (Gz X.K):=by
 intro pins s σ H x v vl vu lo hi sl Q I rx hs pl pu h;obtain⟨a,xs,rfl,hx,q⟩:=h;cases rx;obtain⟨its,r,ht,hz⟩:=I.list hx;have hlen:=r.length;refine⟨"list",_,K9.lookup,ht.isList.typeIs,?_⟩;refine wpAny_getItem_list_slice ht.isList hs pl pu .none (by simp) ?_ (by rw[Ki] <;> omega);rw[pH,<- hlen];refine⟨.ref s.heap.objs.size,_,I.laid (t':=s.toks) (o:=.lst (sC xs lo hi)) (fun b ob q=>Ka _ q) (Kc _) ?_,rfl,q _ (I.hok.fresh (Kc _))⟩;exact⟨JH (mW xs lo hi) hz,_,0,(r.drop (HT.sIx xs.length 0 lo)).take (HT.sIx xs.length xs.length hi-HT.sIx xs.length 0 lo),Kb _ rfl⟩
def jm:V->Bool
 |.non=>true
 |.bl _=>true
 |.int _=>true
 |.str _=>true
 |_=>false
def vR:V->V->Bool
 |.non,.non=>true
 |.bl a,.bl b=>a == b
 |.bl a,.int b=>(if a then 1 else 0) == b
 |.int a,.bl b=>a == (if b then 1 else 0)
 |.int a,.int b=>a == b
 |.str a,.str b=>a == b
 |_,_=>false
theorem Gd{A:Around}{s:Shared}{y x:V}{u v:Value}(ry:bE y u)(rx:bE x v)(fy:jm y=true)(fx:jm x=true):SeqAt.EqAt A s u v (vR y x):=by
 cases y with
 |non=>
  cases ry;cases x with
  |non=>cases rx;exact SeqAt.EqAt.same _
  |bl b=>cases rx;exact SeqAt.EqAt.none_bool b
  |int b=>obtain⟨t,rfl⟩:=rx;exact SeqAt.EqAt.none_int b t
  |str b=>obtain⟨t,rfl⟩:=rx;exact SeqAt.EqAt.none_str b t
  |_=>exact absurd (show false=true from fx) J6
 |bl a=>
  cases ry;cases x with
  |non=>cases rx;exact SeqAt.EqAt.bool_none a
  |bl b=>cases rx;exact SeqAt.EqAt.bool_bool a b
  |int b=>obtain⟨t,rfl⟩:=rx;exact SeqAt.EqAt.bool_int a b t
  |str b=>obtain⟨t,rfl⟩:=rx;exact SeqAt.EqAt.bool_str a b t
  |_=>exact absurd (show false=true from fx) J6
 |int a=>
  obtain⟨t',rfl⟩:=ry;cases x with
  |non=>cases rx;exact SeqAt.EqAt.int_none a t'
  |bl b=>cases rx;exact SeqAt.EqAt.int_bool a t' b
  |int b=>obtain⟨t,rfl⟩:=rx;exact SeqAt.EqAt.int_int a t' b t
  |str b=>obtain⟨t,rfl⟩:=rx;exact SeqAt.EqAt.int_str a t' b t
  |_=>exact absurd (show false=true from fx) J6
 |str a=>
  obtain⟨t',rfl⟩:=ry;cases x with
  |non=>cases rx;exact SeqAt.EqAt.str_none a t'
  |bl b=>cases rx;exact SeqAt.EqAt.str_bool a t' b
  |int b=>obtain⟨t,rfl⟩:=rx;exact SeqAt.EqAt.str_int a t' b t
  |str b=>obtain⟨t,rfl⟩:=rx;exact SeqAt.EqAt.str_str a t' b t
  |_=>exact absurd (show false=true from fx) J6
 |_=>exact absurd (show false=true from fy) J6
def DO(x:V)(u:Value):Bool:=match u with
 |.none=>vR .non x
 |.bool b=>vR (.bl b) x
 |.int i _=>vR (.int i) x
 |.str z _=>vR (.str z) x
 |_=>false
theorem uV{x y:V}{u:Value}(r:bE y u)(f:jm y=true):DO x u=vR y x:=by
 cases y with
 |non=>cases r;rfl
 |bl b=>cases r;rfl
 |int i=>obtain⟨t,rfl⟩:=r;rfl
 |str z=>obtain⟨t,rfl⟩:=r;rfl
 |_=>exact absurd (show false=true from f) J6
theorem ou{A:Around}{s:Shared}{x:V}{v:Value}(rx:bE x v)(fx:jm x=true):∀{xs:List V}{us:List Value},aW xs us->xs.all jm=true->∀u∈us,SeqAt.EqAt A s u v (DO x u)
 |_,_,.nil,_=>fun u hu=>by cases hu
 |y::xs,u::us,.cons r t,f=>fun u' hu=>by
  rw[Ld,K4]at f;rcases JN.mp hu with rfl|hu
  ·rw[uV r f.1];exact Gd r rx f.1 fx
  ·exact ou rx fx t f.2 u' hu
theorem cB.or{f:Value}{r r':List V->Hp->VK->Prop}(h:cB X f r)(h':cB X f r'):cB X f (fun xs H Q=>r xs H Q\/r' xs H Q):=by
 intro pins s σ H xs us Q I rs q;rcases q with q|q
 ·exact h pins s σ H xs us Q I rs q
 ·exact h' pins s σ H xs us Q I rs q
theorem r9:cB X (.type "list") (fun xs H Q=>∃p ys,xs=[.ref p]/\(eP X.K H p ys\/eK X.K H p ys)/\∀l,H l=none->Q (.ref l) (bx H l (.lst ys))):=by
 intro pins s σ H xs us Q I r h;obtain⟨p,ys,rfl,hq,q⟩:=h;obtain⟨u,rfl,rx⟩:=dO r;cases rx
 have fin:∀(its:List Value),aW ys its->ys.length<=sizeLine->∀(h':Heap)(c':Nat),(∀b o',s.heap.get? b=some o'->h'.get? b=some o') ->
   h'.get? s.heap.objs.size=some {cls:=.type "list",dict:=none,data:=.seq its.toArray c',slots:=#[]}->EP X pins σ Q (.ref s.heap.objs.size) {s with heap:=h'}:=fun its r' hz h' c' kp e=>
  ⟨.ref s.heap.objs.size,_,I.laid (t':=s.toks) kp (Kc _) (show cA X.prog X.w _ h' _ (.lst ys) from⟨hz,its,c',r',e⟩),rfl,q _ (I.hok.fresh (Kc _))⟩
 rcases hq with hq|hq
 ·obtain⟨its,r',pl,hz⟩:=I.list hq;have hlen:=r'.length;obtain⟨o,ho,hc,n,hd⟩:=pl.isList;exact call_list_seq p (.inl rfl) ho hc hd (fun h' c' kp e=>fin its r' hz h' c' kp e) (by simp only[Ki] <;> omega)
 ·obtain⟨its,r',pl,hz⟩:=I.tuple hq;have hlen:=r'.length;obtain⟨o,ho,hc,n,hd⟩:=pl;exact call_list_seq p (.inr rfl) ho hc hd (fun h' c' kp e=>fin its r' hz h' c' kp e) (by simp only[Ki] <;> omega)
theorem pQ:cB X (.type "tuple") (fun xs H Q=>∃p ys,xs=[.ref p]/\((eP X.K H p ys/\∀l,H l=none->Q (.ref l) (bx H l (.tup ys)))\/(eK X.K H p ys/\Q (.ref p) H))):=by
 intro pins s σ H xs us Q I r h;obtain⟨p,ys,rfl,h⟩:=h;obtain⟨u,rfl,rx⟩:=dO r;cases rx;rcases h with⟨hq,q⟩|⟨hq,q⟩
 ·obtain ⟨its, r', pl, hz⟩ := I.list hq;have hlen:=r'.length;refine call_tuple_list pl.isList (fun h' kp=>?_) (by simp only[Ki] <;> omega);have I1:aP X pins σ H {s with heap:=h'}:=I.kept (t':=s.toks) kp
  have I2:aP X pins σ (bx H h'.objs.size (.tup ys)) {s with heap:=h'.push {cls:=.type "tuple",data:=.seq its.toArray}}:=
   I1.laid (t':=s.toks) (fun b o e=>Ka _ e) (Kc _) (show cA X.prog X.w _ _ _ (.tup ys) from⟨hz,its,r',IsTup.new _ _⟩)
  exact⟨.ref h'.objs.size,_,I2,rfl,q _ (I1.hok.fresh (Kc _))⟩
 ·obtain⟨its,r',pl,hz⟩:=I.tuple hq;exact call_tuple_same pl ⟨.ref p,H,I,rfl,q⟩
def Ii(K:W.Frag)(T:String)(x:V)(H:Hp):Prop:=match x with
 |.str _=>T = "str"
 |.int _=>T = "int"
 |.ref p=>(T = "list" /\ ∃xs,eP K H p xs)\/(T = "tuple" /\ ∃o,K.lookup p=some o/\o.cls=.type "tuple" /\ o.dict=none) \/
   (T = "dict" /\ ((∃kvs,H p=some (.dK kvs))\/∃kvs,H p=some (.dT kvs)))\/(T = "set" /\ ∃S n,H p=some (.set S n))
 |_=>False
theorem Ef{pins:List (Addr×Obj)}{σ:St}{H:Hp}{s:Shared}{T:String}{x:V}{v:Value}(I:aP X pins σ H s)(r:bE x v)(ty:Ii X.K T x H) :
  s.TypeIs v T/\∀a,v=.ref a->∃ob,s.heap.get? a=some ob/\ob.dict=none:=by
 cases x with
 |str z=>
  obtain⟨t,rfl⟩:=r;cases (show T = "str" from ty);exact⟨typeIs_str s z t,fun _ e=>nomatch e⟩
 |int i=>
  obtain⟨t,rfl⟩:=r;cases (show T = "int" from ty);exact⟨typeIs_int s i t,fun _ e=>nomatch e⟩
 |ref p=>
  cases r;rcases ty with⟨rfl,xs,hq⟩|⟨rfl,o,hk,hc,hd⟩|⟨rfl,hk⟩|⟨rfl,S,n,hk⟩
  ·obtain⟨its,_,pl,_⟩:=I.list hq;refine⟨pl.isList.typeIs,fun a e=>?_⟩;cases e;obtain⟨o,n,e,c,hd,_⟩:=pl;exact⟨o,e,hd⟩
  ·refine⟨⟨o,I.kIn p o hk,hc⟩,fun a e=>?_⟩;cases e;exact⟨o,I.kIn _ o hk,hd⟩
  ·have z:∃o,s.heap.get? p=some o/\o.ExactDict:=by
    rcases hk with⟨kvs,hk⟩|⟨kvs,hk⟩
    ·obtain⟨_,_,_,_,o,_,_,e,ex,_⟩:=I.hok p _ hk;exact⟨o,e,ex⟩
    ·obtain⟨_,_,_,_,o,_,_,e,ex,_⟩:=I.hok p _ hk;exact⟨o,e,ex⟩
   obtain⟨o,e,ex⟩:=z;refine⟨⟨o,e,ex.1⟩,fun a e2=>?_⟩;cases e2;exact⟨o,e,ex.2.1⟩
  ·obtain⟨o,_,_,_,e,ex,_⟩:=I.hok p _ hk;refine⟨⟨o,e,ex.1⟩,fun a e2=>?_⟩;cases e2;exact⟨o,e,ex.2.1⟩
 |_=>exact False.elim ty
def Jo(K:W.Frag)(T:String)(r:V->List V->Hp->VK->Prop)(to:TE)(t:TA):TE:=fun σ H Q=>to σ H fun x H1=>Ii K T x H1/\t σ H1 fun xs H2=>r x xs H2 Q
variable{o e:Expr}{es:List Expr}{to:TE}{t:TA}{name:Str}{apos cpos:Pos}{T id:String}{r:V->List V->Hp->VK->Prop}
theorem Ho (pa:PlainAttrs T) (slot:Slot T name id) (hty:typeOf (.builtin id)=pure (.type "method_descriptor")) (hm:Jh X id r) (ho:PE X o to) (ha:PA X (e::es) t)
  (hbase:attributeBase o name X.env (eval o X.env)=eval o X.env:=by rfl)
  (hfew : ((backTo cpos (starEach (e :: es) X.env)).all (fun x => !x.1) && (backToKw cpos (keywordEach [] X.env)).all (fun x => x.1.isSome)
   && decide ((e::es).length+([]:List Keyword).length+(if ([]:List Keyword).isEmpty then 0 else 1)<30))=true:=by rfl)
  (hline:(apos.endLine == cpos.line)=true:=by rfl) (hs:starEach (e::es) X.env=(false,eval e X.env)::starEach es X.env:=by rfl) (hplain:(backTo cpos (starEach es X.env)).any (·.1)=false:=by rfl) :
  PE X (.Call (.Attribute o name apos) (e::es) [] cpos) (Jo X.K T r to t):=by
 intro pins s σ H Q I h;refine wpAny_Call_method_late hbase hfew hline rfl (cT (ho pins s σ H _ I h) fun v s1 ⟨x,H1,I1,r1,ty,q1⟩=>?_);obtain⟨h1,h2⟩:=Ef I1 r1 ty;refine⟨T,id,pa,slot,hty,h1,h2,?_⟩;have hA:=ha cpos pins s1 σ H1 _ I1 q1;rw[hs]at hA⊢;refine Calls.callWith_builtin (by show (false || (backTo cpos (starEach es X.env)).any (·.1))=false;rw[hplain] <;> rfl) (Calls.evalArgs_plain ?_);exact cT hA fun us s2 ⟨vs,H2,I2,r2,q2⟩=>hm pins s2 σ H2 x vs v us Q I2 r1 r2 q2
end
end L2
namespace L2
open PySem PySem.Spec PyProof.Rows
def HX(X:Cx)(id:String)(r:V->List V->Hp->VK->Prop):Prop:=
 ∀(pins:List (Addr×Obj))(s:Shared)(σ:St)(H:Hp)(x:V)(xs:List V)(v:Value)(us:List Value)(Q:VK),aP X pins σ H s->bE x v->aW xs us->r x xs H Q ->
  wpAny (model X.prog X.w) X.A (call (.builtin id) (v::us)) (EP X pins σ Q) X.xe s
theorem aW.one:∀{x:V}{us:List Value},aW [x] us->∃u,us=[u]/\bE x u
 |_,_,.cons r .nil=>⟨_,rfl,r⟩
theorem aW.eraseIdx:∀{xs:List V}{us:List Value}(i:Nat),aW xs us->aW (xs.eraseIdx i) (us.eraseIdx i)
 |_,_,_,.nil=>.nil
 |_,_,0,.cons _ t=>t
 |_,_,i+1,.cons r t=>.cons r (aW.eraseIdx i t)
theorem aW.reverse{xs:List V}{us:List Value}(h:aW xs us):aW xs.reverse us.reverse:=by
 induction h with
 |nil=>exact .nil
 |cons r t ih=>rw[Le,Le];exact aW.append ih (.cons r .nil)
theorem aW.rep{xs:List V}{us:List Value}(h:aW xs us):∀k:Nat,aW (List.replicate k xs).flatten (List.replicate k us).flatten
 |0=>.nil
 |k+1=>by
  rw[Lg,Lg,Lh,Lh];exact aW.append h (aW.rep h k)
theorem ql{α:Type}:∀(l:List α)(i:Nat),(l.eraseIdx i).length<=l.length
 |[],_=>Kc _
 |_::_,0=>Li _
 |_::r,i+1=>Nat.succ_le_succ (ql r i)
theorem qy(its:List Value):∀(k:Nat)(acc:List Value),
  List.foldl (fun x1 x2=>x1++x2) acc.toArray (List.replicate k its.toArray)=(acc++(List.replicate k its).flatten).toArray
 |0,acc=>by simp
 |k+1,acc=>by
  have e:acc.toArray++its.toArray=(acc++its).toArray:=by simp
  have e2:(acc++its)++(List.replicate k its).flatten=acc++(List.replicate (k+1) its).flatten:=by
   rw[Lg,Lh,Lj]
  rw[<- e2,<- qy its k (acc++its),<- e,Lg,Lk]
section
variable{X:Cx}{pins:List (Addr×Obj)}{σ:St}{H:Hp}{s:Shared}{l b:Addr}{xs ys zs:List V}
theorem aP.lset{its its':List Value}{n:Nat}{f:Array Value->Array Value}{t':Nat}(I:aP X pins σ H s)(hH:H l=some (.lst xs))
  (e:s.heap.get? l=some {cls:=.type "list",data:=.seq its.toArray n}) (hf:f its.toArray=its'.toArray) (hv:aW ys its') (hz:ys.length<=sizeLine) :
  aP X pins σ (bx H l (.lst ys)) {s with heap:=s.heap.update l (Obj.mapSeq f),toks:=t'}:=by
 have q:=PySem.IsL.update e f;rw[hf]at q;refine I.write (x:=l) (e:=l) (by rw[hH];exact trivial) (.inl rfl) (fun b' u hb hu=>(Lb s.heap (Obj.mapSeq f) (JO hb)).trans hu) ⟨_,q⟩ ?_;exact⟨hz,its',_,hv,q⟩
theorem aP.lnew{its:List Value}{t':Nat}(I:aP X pins σ H s)(hv:aW ys its)(hz:ys.length<=sizeLine) :
  aP X pins σ (bx H s.heap.objs.size (.lst ys)) {s with heap:=s.heap.push {cls:=.type "list",data:=.seq its.toArray},toks:=t'}:=
 I.laid (fun _ _ q=>Ka _ q) (Kc _) ⟨hz,its,0,hv,Kb _ rfl⟩
theorem aP.fresh(I:aP X pins σ H s):H s.heap.objs.size=none:=I.hok.fresh (Kc _)
theorem aP.lstM (I:aP X pins σ H s) (hH:H l=some (.lst xs)):xs.length<=sizeLine/\∃(its:List Value) (n:Nat),aW xs its/\xs.length=its.length/\s.heap.get? l=some {cls:=.type "list",data:=.seq its.toArray n}:=by
 obtain⟨z,its,n,r,e⟩:=I.hok l _ hH;exact⟨z,its,n,r,r.length,e⟩
theorem AE{n:Nat}(h:n<=sizeLine):Builtin.List.listTooLong n=false:=by
 unfold Builtin.List.listTooLong;exact Jx (by omega)
end
section
variable{X:Cx}
def wu:V->List V->Hp->VK->Prop:=fun x vs H Q=>∃l xs y,x=.ref l/\vs=[y]/\H l=some (.lst xs)/\xs.length<sizeLine/\Q .non (bx H l (.lst (xs++[y])))
theorem qj:HX X "list.append" wu:=by
 intro pins s σ H x vs v us Q I rx rv h;obtain⟨l,xs,y,rfl,rfl,hH,hz,q⟩:=h;cases rx;obtain⟨u,rfl,ru⟩:=rv.one;obtain⟨z,its,n,r,hl,e⟩:=I.lstM hH;refine Ll F.slot_list_append ⟨_,e,rfl⟩ F.entry_list_append (F.args_list_append_2 _ _) (PySem.list_append l its.toArray n u (by rw[Ki];omega)) ⟨e,?_⟩;refine⟨.non,_,I.lset (its':=its++[u]) hH e (by simp) (r.append (.cons ru .nil)) ?_,rfl,q⟩;rw[KD,Lm];omega
def zo:V->List V->Hp->VK->Prop:=fun x vs H Q=>∃l xs i k y,x=.ref l/\vs=[.int i]/\H l=some (.lst xs)/\-(2^63)<=i/\i<2^63/\seqIndex? i xs.length=some k/\xs[k]?=some y/\Q y (bx H l (.lst (xs.eraseIdx k)))
theorem AG:HX X "list.pop" zo:=by
 intro pins s σ H x vs v us Q I rx rv h;obtain⟨l,xs,i,k,y,rfl,rfl,hH,h1,h2,hk,hy,q⟩:=h;cases rx;obtain⟨u,rfl,ru⟩:=rv.one;obtain⟨t,rfl⟩:=ru;obtain⟨z,its,n,r,hl,e⟩:=I.lstM hH;obtain⟨w,hw,rw'⟩:=r.get hy
 refine Ll F.slot_list_pop ⟨_,e,rfl⟩ F.entry_list_pop (F.args_list_pop_2 _ _)
  (MeetsSeq.list_pop_at l its.toArray n i t k w (fitsIndex_both h1 h2) (by rw[Ki,<- hl];exact hk) (by rw[<- Ln];exact hw) (by rw[Ki];omega)) ⟨e,?_⟩
 refine⟨y,_,I.lset (its':=its.eraseIdx k) hH e ?_ (r.eraseIdx k) ?_,rw',q⟩
 ·show its.toArray.eraseIdxIfInBounds k=(its.eraseIdx k).toArray;rw[List.eraseIdxIfInBounds_toArray]
 ·have:=ql xs k;omega
def GH:R2:=fun x y H Q=>∃l b xs zs,x=.ref l/\y=.ref b/\H l=some (.lst xs)/\H b=some (.lst zs)/\xs.length+zs.length<=sizeLine/\∀p,H p=none->Q (.ref p) (bx H p (.lst (xs++zs)))
theorem Fm:iH X (binaryOp .Add) GH:=by
 intro pins s σ H x y v u Q I rx ry h;obtain⟨l,b,xs,zs,rfl,rfl,hH,hB,hz,q⟩:=h;cases rx;cases ry;obtain⟨z,its,n,r,hl,e⟩:=I.lstM hH;obtain⟨z2,its2,n2,r2,hl2,e2⟩:=I.lstM hB;refine PySem.P.add_list e e2 ?_ (by rw[Ki,Ki];omega);have ea:its.toArray++its2.toArray=(its++its2).toArray:=by simp
 rw[ea];exact⟨.ref _,_,I.lnew (t':=s.toks) (r.append r2) (by rw[KD];omega),rfl,q _ I.fresh⟩
def GB:R2:=fun x y H Q=>∃l k xs,x=.ref l/\y=.int k/\H l=some (.lst xs)/\-(2^63)<=k/\k<2^63/\xs.length*k.toNat<=sizeLine /\
 ∀p,H p=none->Q (.ref p) (bx H p (.lst (List.replicate k.toNat xs).flatten))
theorem CV{α:Type}(xs:List α)(k:Nat):(List.replicate k xs).flatten.length=k*xs.length:=by
 induction k with
 |zero=>simp
 |succ k ih=>rw[Lg,Lh,KD,ih,Nat.succ_mul,Nat.add_comm]
theorem Ff:iH X (binaryOp .Mult) GB:=by
 intro pins s σ H x y v u Q I rx ry h;obtain⟨l,k,xs,rfl,rfl,hH,h1,h2,hz,q⟩:=h;cases rx;obtain⟨t,rfl⟩:=ry;obtain⟨z,its,n,r,hl,e⟩:=I.lstM hH;have hlen:its.toArray.size*k.toNat<=sizeLine:=by rw[Ki,<- hl];exact hz
 have hcap:¬ its.toArray.size*k.toNat>(2^63-1) / 8:=by
  have:(sizeLine:Nat)<=(2^63-1) / 8:=by decide
  omega
 have hfit:¬ (!Builtin.List.listFitsIndex k)=true:=by
  rw[fitsIndex_both h1 h2];exact J6
 have hlong:¬ Builtin.List.listTooLong (its.toArray.size*k.toNat)=true:=by
  rw[AE hlen];exact J6
 have hnew:List.foldl (fun x1 x2=>x1++x2) #[] (List.replicate (if its.toArray.isEmpty=true then 0 else k.toNat) its.toArray)=(List.replicate k.toNat its).flatten.toArray:=by
  have f0:∀m:Nat,List.foldl (fun x1 x2=>x1++x2) #[] (List.replicate m its.toArray)=(List.replicate m its).flatten.toArray:=fun m=>by
   have:=qy its m [];rw[Lo]at this;exact this
  rw[f0];cases its with
  |nil=>simp
  |cons a r'=>rw[JA (by simp)]
 refine wpAny_binaryOp_repeat_ref (T:="list") (U:="int") (by decide) ⟨_,e,rfl⟩ (fun s'=>typeIs_int s' k t) noFill_list_mul F.fills_int_mul F.slot_int_rmul repeat_list F.slot_int_index.lookup
  (Ll F.slot_int_rmul (typeIs_int s k t) F.entry_int_rmul (F.args_int_rmul_2 _ _) (int___rmul___int_list k t l its.toArray n)
   ⟨e,rfl,⟨_,e,rfl⟩,Ll F.slot_list_mul ⟨_,e,rfl⟩ F.entry_list_mul (F.args_list_mul_2 _ _) (AutoListH.list___mul___list_int_3 l its.toArray n k t hfit hcap hlong) ⟨e,?_⟩⟩)
 rw[hnew];exact⟨.ref _,_,I.lnew (t':=s.toks) (r.rep k.toNat) (by rw[CV,Nat.mul_comm];exact hz),rfl,q _ I.fresh⟩
end
section
variable{prog:Program}{w:World}{A:Around}{E:Value->Shared->Prop}{s:Shared}
end
section
variable{X:Cx}
end
end L2
namespace Att
open PySem PySem.W PySem.Calls PyProof.Rows
theorem nt{P:Params}{h:Heap}:∀(ns:List Int)(vs:List Value),WellAll P h vs (ns.map WData.int)->IntsAre vs ns:=by
 intro ns
 induction ns with
 |nil=>
  intro vs w;rw[K6]at w;cases w;exact .nil
 |cons n ns ih=>
  intro vs w;rw[K7]at w;cases w with
  |cons a b=>
   cases a;exact .cons _ _ (ih _ b)
theorem xA{l:OpenLaw}{n:Nat}(hn:l.most=some n){P:Params}{h:Heap}{args:List WData}{vals:List Value}
  (hpre:l.row.toRowW.claim.pre args=true) (hwl:WellAll P h vals args) :
  ∃a vs ns,vals=[Value.ref a]/\args=[WData.list (ns.map WData.int)]/\h.get? a=some {cls:=.type "list",data:=.seq vs.toArray}/\IntsAre vs ns/\ns.length<=n:=by
 have hsh:WShape.hasAll [] args [.list .int]=true:=(pre_splitW hpre).1;have hc:l.pre.holds [] {args:=args}=true:=(pre_splitW hpre).2;obtain⟨d,r,rfl,h1,h2⟩:=hasAllW_cons hsh;obtain rfl:=hasAllW_nil h2;obtain⟨xs,rfl,h3⟩:=hasW_list h1;obtain⟨ns,rfl⟩:=items_int h3
 have hlen:ns.length<=n:=by
  unfold OpenLaw.pre at hc
  have h4:(WTm.not (.lt (.lit (.int (n:Int))) (.len (.arg 0)))).holds [] {args:=[.list (ns.map .int)]}=true:=by
   have h4:=(holds_andW hc).1;rw[hn]at h4;exact h4
  have h5:=condW_of h4 (w_not (w_lt w_lit (w_len_list (w_arg rfl))));rw[KE]at h5;refine Nat.le_of_not_lt fun q=>?_;have q':(n:Int)<((ns.length:Nat):Int):=by omega
  first
   |(rw[Lp q']at h5;exact absurd h5 (by decide))
   |(simp at h5;omega)
 cases hwl with
 |cons w1 w2=>
  cases w2;cases w1 with
  |list ho hall=>exact⟨_,_,ns,rfl,rfl,ho,nt ns _ hall,hlen⟩
theorem xD(l:OpenLaw)(args:List WData):l.row.toRowW.claim.post args (.bool true) args=true:=
 postW_of (r:=l.row.toRowW) (X:=(true == true))
  (show WShape.has [] (.bool true) .bool=true by first|rfl|decide|simp[WShape.has,WShape.arms,WShape.armsAll])
  (show (WTm.eq .res (.lit (.bool true))).value [] {args:=args,res:=some (.bool true),after:=args}=some (.bool (true == true)) from w_eq_bool (w_res rfl) w_lit) rfl
theorem attach_call{l:OpenLaw}{n:Nat}{q:Program}{loose:List Str}{XP:(Str->Option Value)->Heap->Prop}{YP:World->Heap->Prop}{d:DefRec}
  (hn:l.most=some n) (hdf:d.params.defaults=[])
  (call : ∀ (w : World) (s₀ s₁ : Shared) (mg mb : Str -> Option Value) (fa : Addr) (o : Obj) (pm cd doc : Value) (a : Addr) (vs : List Value) (ns : List Int),
   Ground q loose [] XP w s₀ mg mb s₁.heap->YP w s₁.heap ->
   s₁.heap.get? fa=some o->o.data=.func (docDef d.name d.params d.body d.scope pm cd doc)->s₁.heap.CodeRec cd d.name->mg d.name=some (.ref fa) ->
   s₁.heap.get? a=some {cls:=.type "list",data:=.seq vs.toArray}->IntsAre vs ns->ns.length<=n->s₁.gens=#[] ->
   codeAny (model l.prog w) callerA (.call (.ref fa) ⟨[.ref a],[]⟩) (fun r s'=>r=.ok (.ret (.bool true))/\OldK s₁.heap s'.heap/\s'.os=s₁.os/\AllBare s'.gens) s₁) :
  WalkO q loose XP YP l.row.toRowW d [] (fun f vs=>PySem.call f vs):=by
 intro w s₀ s₁ mg mb G Y fa o pm cd doc dV kV ho hd hcd hD hmg hg args vals as hpre hlay hrd hwl hlo;obtain rfl:dV=.none:=Dflts.none hD hdf;obtain rfl:kV=.none:=Dflts.noKw hD;obtain⟨a,vs,ns,rfl,rfl,hobj,hints,hlen⟩:=xA hn hpre hwl;refine enter_call (Km (call w s₀ s₁ mg mb fa o pm cd doc a vs ns G Y ho (fd_plain hd) hcd hmg hobj hints hlen hg) fun r s' hq=>?_);obtain⟨rfl,h2,h3,h4⟩:=hq;exact⟨.inl ⟨.bool true,.bool true,[],rfl,fun _=>rfl,.bool true,xD l _,fun _=>⟨List.Pairwise.nil,fun _ hm=>(nomatch hm)⟩⟩,h2,h3,h4⟩
section
variable{prog:Program}{w:World}{A:Around}{E:Value->Shared->Prop}{s:Shared}{K:Frag}
end
end Att
namespace L2
open PySem PySem.Spec PyProof.Rows
theorem p8:∀{vs:List Value}{ns:List Int},IntsAre vs ns->aW (ns.map V.int) vs
 |_,_,.nil=>.nil
 |_,_,.cons n t h=>.cons ⟨t,rfl⟩ (p8 h)
def Bl(H:Hp):Prop:=∀b,H b=none\/∃o xs,H b=some (.frz o (.lst xs))
theorem AL{P:Program}{w:World}{K:W.Frag}{mg mb:Str->Option Value}{CX:sj}{k:Nat}{fa a:Addr}{fd:FuncData}{x:Str}{sp:Sp}{s₁:Shared}{vs:List Value}{ns:List Int}
  (KX:K.In s₁.heap) (hns:s₁.heap.Ns mainGlobals mg) (hb:s₁.heap.Ns builtinsNs mb) (hbb:∀x:Str,x ≠ "__name__" -> mb x=bootBuiltins x) (hlim:s₁.heap.NoLimit) (hg:s₁.gens=#[])
  (ha:s₁.heap.get? a=some {cls:=.type "list",data:=.seq vs.toArray}) (hi:IntsAre vs ns) (hl:ns.length<=sizeLine) (hr:dg k callerA)
  (F:∀base:Heap,K.In base->base.Ns mainGlobals mg->i6 P w K mg base CX k fa fd [x] sp) (hbind:∀(s:Shared)(u:Value),BindsTo s fd ⟨[u],[]⟩ [(x,u)])
  (hsp:∀H:Hp,Bl H->eP K H a (ns.map V.int)->sp [.ref a] H (fun v _=>v=.bl true) fun _ _ _=>False)
  (hCX:∀H e s',CX [] H s₁ (fun _ _ _=>False) e s'->False) :
  codeAny (model P w) callerA (.call (.ref fa) ⟨[.ref a],[]⟩) (fun r s'=>r=.ok (.ret (.bool true))/\OldK s₁.heap s'.heap/\s'.os=s₁.os/\AllBare s'.gens) s₁:=by
 have rv:=p8 hi;have lenV:=hi.length
 have core:∀H:Hp,Bl H->eP K H a (ns.map V.int)->lM P w H s₁.heap->(∀b,H b≠none->b=a)->(H a≠none->K.lookup a=none) ->
   codeAny (model P w) callerA (.call (.ref fa) ⟨[.ref a],[]⟩) (fun r s'=>r=.ok (.ret (.bool true))/\OldK s₁.heap s'.heap/\s'.os=s₁.os/\AllBare s'.gens) s₁:=by
  intro H hO hS hok hA hK;have base_of:∀{b:Addr}{o:Obj},s₁.heap.get? b=some o->H b=none->(qQ s₁.heap H).get? b=some o:=fun e n=>AR e n
  have noA:∀{b:Addr}{o:Obj}{es:Array DictEntry}{ep:Nat},s₁.heap.get? b=some o->o.data=.dict es ep->H b=none:=fun {b o es ep} e d=>by
   cases q:H b with
   |none=>rfl
   |some u=>
    have e':b=a:=hA b (by rw[q];simp);subst e';rw[ha]at e;cases e;have d':Data.seq vs.toArray _=Data.dict es ep:=d;cases d'
  have nsK:∀{b:Addr}{m:Str->Option Value},s₁.heap.Ns b m->(qQ s₁.heap H).Ns b m:=fun {b m} ⟨o,es,ep,e,d,r⟩=>⟨o,es,ep,base_of e (noA e d),d,r⟩
  have hKb:K.In (qQ s₁.heap H):=fun b o e=>base_of (KX b o e) (by
   cases q:H b with
   |none=>rfl
   |some u=>
    have e':b=a:=hA b (by rw[q];simp);subst e'
    rw[hK (by rw[q];simp)]at e;cases e)
  have hM:Mod K mg (qQ s₁.heap H):=⟨hKb,nsK hns,⟨mb,nsK hb,hbb⟩,let ⟨mc,h1,h2⟩:=hlim;⟨mc,nsK h1,h2⟩⟩;have e0:qU P w K mg (qQ s₁.heap H) callerA [] s₁ H:=⟨rfl,hM,fun b o e=>CG e,Lq (xZ _ _),trivial,fun b hb=>absurd (show b∈([]:List Addr) from hb) (by simp),hok,.of_eq hg⟩;refine Km ((F _ hKb (nsK hns)).run callerA [] s₁ H ⟨[.ref a],[]⟩ [.ref a] [.ref a] _ _ hr e0 (hbind s₁ (.ref a)) (.cons rfl .nil) (hsp H hO hS)) fun r s' h=>?_;cases r with
  |error e=>exact(hCX H e s' h).elim
  |ok fl=>
   cases fl with
   |next=>exact False.elim h
   |brk=>exact False.elim h
   |cont=>exact False.elim h
   |ret u=>
    obtain⟨v,H',os,bare,un,hok',r',q⟩:=h;have q':v=.bl true:=q;subst q';obtain rfl:u=Value.bool true:=r';refine⟨rfl,OldK.of_keep fun b o e=>?_,os,bare⟩;cases q:H b with
    |none=>exact un.keep b o e q (by intro z;exact absurd (show b∈([]:List Addr) from z) (by simp)) (by simp)
    |some u=>
     rcases hO b with z|⟨ob,xs,z⟩
     ·rw[q]at z;cases z
     ·have z2:=un.frzs b ob _ z;obtain⟨e1,_⟩:=hok b _ z;obtain⟨e2,_⟩:=hok' b _ z2;rw[e]at e1;cases e1;exact e2
 cases hk:K.lookup a with
 |some o=>
  have e:=KX a o hk;rw[ha]at e;cases e;refine core (fun _=>none) (fun _=>.inl rfl) (.inr ⟨_,vs.toArray,_,hk,rfl,rfl,rfl,by rw[Ki,lenV];exact hl,by simpa using rv⟩) (fun b u z=>by have z':(none:Option HO)=some u:=z;cases z') (fun b z=>absurd rfl z) fun z=>absurd rfl z
 |none=>
  refine core (fun b=>if b=a then some (.frz {cls:=.type "list",data:=.seq vs.toArray} (.lst (ns.map V.int))) else none) (fun b=>?_) (.inl (.inr ⟨{cls:=.type "list",data:=.seq vs.toArray},Jz rfl⟩)) (fun b u z=>?_) (fun b z=>?_) fun _=>hk
  ·by_cases hb : b = a
   ·exact .inr ⟨_,_,Jz hb⟩
   ·exact .inl (JA hb)
  ·by_cases hb : b = a
   ·have z':=(Jz hb).symm.trans z;cases z';subst hb;exact⟨ha,by rw[KE];exact hl,vs,_,rv,ha⟩
   ·have z':=(JA hb).symm.trans z;cases z'
  ·by_cases hb : b = a
   ·exact hb
   ·exact absurd (JA hb) z
end L2
namespace L2
open PySem PySem.Spec PyProof.Rows
theorem walk_of{l:W.OpenLaw}{n k:Nat}{q:Program}{loose:List Str}{XP:(Str->Option Value)->Heap->Prop}{YP:World->Heap->Prop}{d:DefRec}{K:Params->W.Frag}{CX:World->sj}{sp:World->Sp}{x:Str}
  (hn:l.most=some n) (hn2:n<=sizeLine) (hdf:d.params.defaults=[]) (hr:dg k callerA)
  (hY:∀(w:World)(h:Heap),YP w h->(K w.params).In h)
  (F : ∀ (w : World) (mg : Str -> Option Value) (fa : Addr) (h : Heap), (K w.params).In h -> h.Ns mainGlobals mg -> mg d.name = some (.ref fa) ->
   ∃fd:FuncData,(∀(s:Shared)(u:Value),BindsTo s fd ⟨[u],[]⟩ [(x,u)]) /\
    ∀base:Heap,(K w.params).In base->base.Ns mainGlobals mg->i6 l.prog w (K w.params) mg base (CX w) k fa fd [x] (sp w))
  (hsp:∀(w:World)(H:Hp)(a:Addr)(ns:List Int),ns.length<=n->Bl H->eP (K w.params) H a (ns.map V.int)->sp w [.ref a] H (fun v _=>v=.bl true) fun _ _ _=>False)
  (hCX:∀(w:World)(H:Hp)(s:Shared)(e:Value)(s':Shared),CX w [] H s (fun _ _ _=>False) e s'->False) :
  W.WalkO q loose XP YP l.row.toRowW d [] (fun f vs=>PySem.call f vs):=by
 refine Att.attach_call hn hdf fun w s₀ s₁ mg mb fa o pm cd doc a vs ns G Y ho hd hcd hmg hobj hints hlen hg=>?_;have KX:=hY w _ Y;obtain⟨fd,hb,hF⟩:=F w mg fa _ KX G.T.g hmg;exact AL KX G.T.g G.T.b G.T.builtins G.T.nolimit hg hobj hints (JH hlen hn2) hr hF hb (fun H hO hS=>hsp w H a ns hlen hO hS) fun H e s'=>hCX w H s₁ e s'
end L2
namespace L2
open PySem PySem.Spec PyProof.Rows
abbrev uD:sj:=fun _ _ _ _ _ _=>False
abbrev E0:XK:=fun _ _ _=>False
theorem yQ{X:Cx}:l5 uD X E0:=fun _ _ _ _ _ _ _ h=>h.elim
structure gT(K:W.Frag)(x qual:Str)(st:Stmt)(f:Addr)(fd:FuncData):Prop where
 ex:∃(oc:Value)(od:Option Addr)(kV doc pm:Value)(an:Option Addr)(cdv ct:Value)(osl:Array (Option Value)),
  fd=W.fnOf x qual (cX st) (bC st) (au st) .none kV doc pm an cdv ct/\K.lookup f=some ⟨oc,od,.func fd,osl⟩/\W.codeIn K cdv qual=true
 kp:W.keepIn K (.ref f)=true
section
variable{P:Program}{w:World}{K:W.Frag}{mg:Str->Option Value}{base:Heap}
theorem gT.ok{x qual:Str}{st:Stmt}{f:Addr}{fd:FuncData}{N ps:List Str}{k:Nat}{sp:Sp}(F:gT K x qual st f fd)(S:aX N ps (au st))(len:∀vs H Q E,sp vs H Q E->vs.length=ps.length)
  (hbody : ∀ (cdv : Value) (A : Around) (outer : List Env) (s : Shared) (H : Hp) (vs : List V) (Q : VK) (E : XK), dg k (A.deeper (envOfC qual (au st) s.heap.objs.size f cdv)) -> sp vs H Q E ->
   ∃t,gU (nQ uD P w K mg base N qual (au st) f cdv A outer s H E).nox (bC st) t/\t {nx:=fun _ H'=>Q .non H',rt:=Q} (start N vs) H):i6 P w K mg base uD (k+1) f fd ps sp:=by
 obtain⟨oc,od,kV,doc,pm,an,cdv,ct,osl,rfl,lk,hcd⟩:=F.ex;refine yV lk hcd S len fun A outer s H vs Q E hr hsp=>?_;obtain⟨t,h,q⟩:=hbody cdv A outer s H vs Q E hr hsp;exact⟨t,h.nox,q⟩
theorem gT.binds{x qual:Str}{st:Stmt}{f:Addr}{fd:FuncData}{ps:List Str}(F:gT K x qual st f fd)
  (h:∀(kV doc pm:Value)(an:Option Addr)(cdv ct:Value)(us:List Value),us.length=ps.length->bindArgs (W.fnOf x qual (cX st) (bC st) (au st) .none kV doc pm an cdv ct) ⟨us,[]⟩=pure (ps.zip us)):dr K fd ps []:=by
 obtain⟨oc,od,kV,doc,pm,an,cdv,ct,osl,rfl,lk,hcd⟩:=F.ex;exact .all (h kV doc pm an cdv ct)
theorem zA{x qual:Str}{st:Stmt}{f:Addr}{oc:Value}{od an:Option Addr}{osl:Array (Option Value)}{kV doc pm cdv ct:Value}(l:K.lookup f=some ⟨oc,od,.func (W.fnOf x qual (cX st) (bC st) (au st) .none kV doc pm an cdv ct),osl⟩)
  (c:W.codeIn K cdv qual=true) (k:W.keepIn K (.ref f)=true):gT K x qual st f (W.fnOf x qual (cX st) (bC st) (au st) .none kV doc pm an cdv ct):=⟨⟨oc,od,kV,doc,pm,an,cdv,ct,osl,rfl,l,c⟩,k⟩
end
section
variable{X:Cx}
end
theorem GN{A B:Prop}(h:B):if false=true then A else B:=by
 rw[JA J6];exact h
theorem GM{A B:Prop}(h:A):if true=true then A else B:=by
 rw[Jz rfl];exact h
end L2
namespace L2
open PySem PySem.Spec PyProof.Rows
theorem d6{x:Str}:∀{names:List (Str×NameKind)}{k:NameKind},names.lookup x=some k->(x,k)∈names
 |[],_,h=>by simp at h
 |(n,j)::r,k,h=>by
  rw[Lr]at h;cases hx:x == n with
  |true=>
   rw[hx]at h;have e:x=n:=eq_of_beq hx;cases h;rw[e];exact JK
  |false=>rw[hx]at h;exact JL _ (d6 h)
theorem jC{env:Env}{x:Str}:∀{names:List (Str×NameKind)},
  (names.map fun (n, k) => if (k == NameKind.free && env.scope.kind == .function && env.kindOf n == some .cell) then (n, NameKind.cell) else (n, k)).lookup x =
   (names.lookup x).map fun k=>if (k == NameKind.free&&env.scope.kind == .function&&env.kindOf x == some .cell) then NameKind.cell else k
 |[]=>rfl
 |(n,k)::r=>by
  have ih:=jC (env:=env) (x:=x) (names:=r);rw[K7];show List.lookup x ((if (k == NameKind.free&&env.scope.kind == .function&&env.kindOf n == some .cell)=true then (n,NameKind.cell) else (n,k))::_)=_;cases hx:x == n with
  |true=>
   have e:x=n:=eq_of_beq hx;subst e;by_cases hc:(k == NameKind.free&&env.scope.kind == .function&&env.kindOf x == some .cell)=true
   ·rw[Jz hc,Lr,hx,Lr,hx];show some NameKind.cell=some (if _ then _ else _);rw[Jz hc]
   ·rw[JA hc,Lr,hx,Lr,hx];show some k=some (if _ then _ else _);rw[JA hc]
  |false=>
   by_cases hc:(k == NameKind.free&&env.scope.kind == .function&&env.kindOf n == some .cell)=true
   ·rw[Jz hc,Lr,hx,Lr,hx];exact ih
   ·rw[JA hc,Lr,hx,Lr,hx];exact ih
theorem kD{env:Env}{f:Str×NameKind->List (Str×Addr)->Sem (ForInStep (List (Str×Addr)))}
  (h1:∀n c acc,env.cells.lookup n=some c->f (n,.free) acc=pure (.yield ((n,c)::acc))) (h2:∀n k acc,k≠.free->f (n,k) acc=pure (.yield acc)) :
  ∀(names:List (Str×NameKind))(acc:List (Str×Addr)),(∀y∈names,y.2=.free->∃c,env.cells.lookup y.1=some c)->(∀x c,acc.lookup x=some c->env.cells.lookup x=some c) ->
   ∃cl,forIn names acc f=(pure cl:Sem (List (Str×Addr)))/\(∀x c,cl.lookup x=some c->env.cells.lookup x=some c)/\(∀x,(acc.lookup x).isSome=true->(cl.lookup x).isSome=true)/\(∀y∈names,y.2=.free->(cl.lookup y.1).isSome=true)
 |[],acc,_,ha=>⟨acc,rfl,ha,fun _ h=>h,fun y hy=>by simp at hy⟩
 |(n,k)::r,acc,hn,ha=>by
  by_cases hk:k=.free
  ·subst hk;obtain⟨c,hc⟩:=hn (n,.free) JK rfl
   obtain⟨cl,e1,e2,e3,e4⟩:=kD h1 h2 r ((n,c)::acc) (fun y hy=>hn y (JL _ hy)) (fun x d h=>by
    rw[Lr]at h;cases hx:x == n with
    |true=>rw[hx]at h;cases h;rw[eq_of_beq hx];exact hc
    |false=>rw[hx]at h;exact ha x d h)
   refine⟨cl,?_,e2,fun x h=>e3 x ?_,fun y hy hf=>?_⟩
   ·rw[List.forIn_cons,h1 n c acc hc];exact e1
   ·rw[Lr];cases hx:x == n <;> simp[h]
   ·rcases JN.mp hy with z | z
    ·subst z;exact e3 n (by simp[Lr])
    ·exact e4 y z hf
  ·obtain ⟨cl, e1, e2, e3, e4⟩ := kD h1 h2 r acc (fun y hy => hn y (JL _ hy)) ha;refine⟨cl,?_,e2,e3,fun y hy hf=>?_⟩
   ·rw[List.forIn_cons,h2 n k acc hk];exact e1
   ·rcases JN.mp hy with z | z
    ·subst z;exact absurd hf hk
    ·exact e4 y z hf
theorem uu{env:Env}{n:Str}{c:Addr}(h:env.cells.lookup n=some c):cellOf env n=pure c:=by
 unfold cellOf;rw[h]
def v7(env:Env)(x:Str×NameKind)(r:List (Str×Addr)):Sem (ForInStep (List (Str×Addr))):=
 match x with|(name,kind)=>if kind == .free then do let c <- cellOf env name;pure (.yield ((name,c)::r)) else pure (.yield r)
theorem vE{scope:Scope}{env:Env}(hn:∀y∈scope.names,y.2=.free->∃c,env.cells.lookup y.1=some c) :
  ∃cl,closureFor scope env=pure cl/\(∀x c,cl.lookup x=some c->env.cells.lookup x=some c)/\(∀y∈scope.names,y.2=.free->(cl.lookup y.1).isSome=true):=by
 obtain⟨cl,e1,e2,_,e4⟩:=kD (env:=env) (f:=v7 env)
  (fun n c acc h=>by unfold v7;simp only[Ls,KO];rw[uu h];rfl)
  (fun n k acc h => by
   unfold v7;have:(k == NameKind.free)=false:=by simpa using h
   simp only[this,Lu,KN]) scope.names [] hn (fun x c h=>by simp at h)
 refine⟨cl,?_,e2,e4⟩;show (forIn scope.names [] (v7 env) >>= fun s=>pure s)=pure cl;rw[e1];rfl
def ij(X:Cx)(Nc:List Str)(scope:Scope)(cl:List (Str×Addr))(C:Addr)(s:Shared)(H:Hp)(fp:List Addr):Cx where
 prog:=X.prog
 w:=X.w
 K:=X.K
 mg:=X.mg
 base:=X.base
 A:=X.A
 N:=Nc
 s₀:=s
 H₀:=H
 env:=compEnvC scope (cellsFrom (C+1) scope.names cl) C X.env
 outer:=X.stack
 stack:=X.stack
 ex:=fp
 fn:=fun x=>scope.names.lookup x == some .cell
 calm:=X.calm
 pn:=[]
 xe:=fun _ _=>False
def n5(cap:List (Option Nat))(σ:St):St:=cap.map fun o=>o.bind fun j=>(σ[j]?).join
def fu(N:List Str)(env:Env)(scope:Scope):List Str->List (Option Nat)->Bool
 |[],[]=>true
 |_::Nc,none::cap=>fu N env scope Nc cap
 |x::Nc,some j::cap=>(N[j]? == some x)&&(scope.names.lookup x == some .free)&&fu N env scope Nc cap
 |_,_=>false
theorem mr{N:List Str}{env:Env}{scope:Scope}:∀{Nc:List Str}{cap:List (Option Nat)},fu N env scope Nc cap=true->cap.length=Nc.length
 |[],[],_=>rfl
 |[],_::_,h=>by simp[fu]at h
 |_::_,[],h=>by simp[fu]at h
 |_::Nc,none::cap,h=>by rw[Lx,Lx,mr (Nc:=Nc) (cap:=cap) h]
 |x::Nc,some j::cap,h=>by
  have h':fu N env scope Nc cap=true:=by unfold fu at h;simp only[K4]at h;exact h.2
  rw[Lx,Lx,mr h']
theorem oy{N:List Str}{env:Env}{scope:Scope}:∀{Nc:List Str}{cap:List (Option Nat)}{i j:Nat}{x:Str},fu N env scope Nc cap=true->cap[i]?=some (some j)->Nc[i]?=some x->N[j]?=some x/\scope.names.lookup x=some .free
 |[],_,_,_,_,_,_,e=>by simp at e
 |_::_,[],_,_,_,h,_,_=>by simp[fu]at h
 |y::Nc,none::cap,0,j,x,h,e,_=>by simp at e
 |y::Nc,some k::cap,0,j,x,h,e,e2=>by
  simp at e e2;subst e;subst e2;unfold fu at h;simp only[K4]at h;exact⟨eq_of_beq h.1.1,eq_of_beq h.1.2⟩
 |y::Nc,none::cap,i+1,j,x,h,e,e2=>oy (Nc:=Nc) (cap:=cap) (i:=i) h (by simpa using e) (by simpa using e2)
 |y::Nc,some k::cap,i+1,j,x,h,e,e2=>by
  have h':fu N env scope Nc cap=true:=by unfold fu at h;simp only[K4]at h;exact h.2
  exact oy (Nc:=Nc) (cap:=cap) (i:=i) h' (by simpa using e) (by simpa using e2)
structure bS(N:List Str)(env:Env)(scope:Scope)(Nc:List Str)(cap:List (Option Nat)):Prop where
 kind:scope.kind=.function
 nd:∀y∈scope.names,scope.names.lookup y.1=some y.2
 free:∀y∈scope.names,y.2=.free->env.kindOf y.1=some .cell\/env.kindOf y.1=some .free
 cap:fu N env scope Nc cap=true
theorem jN{n0:Nat}{x:Str}{c:Addr}:∀{names:List (Str×NameKind)}{cl:List (Str×Addr)}{n:Nat},n0<=n->((x,NameKind.cell)∈names\/∃c',cl.lookup x=some c'/\n0<=c')->(cellsFrom n names cl).lookup x=some c->n0<=c
 |[],cl,n,_,h,e=>by
  rcases h with z|⟨c',z1,z2⟩
  ·simp at z
  ·have e':cl.lookup x=some c:=e;rw[z1]at e';cases e';exact z2
 |(y,k)::r,cl,n,hn,h,e=>by
  unfold cellsFrom at e;split at e
  ·rename_i hk;refine jN (n:=n+1) (by omega) ?_ e;cases hx:x == y with
   |true=>exact .inr ⟨n,by rw[Lr,hx],hn⟩
   |false=>
    rcases h with z|⟨c',z1,z2⟩
    ·rcases JN.mp z with q | q
     ·have:x=y:=JY Prod.fst q;rw[this]at hx;simp at hx
     ·exact .inl q
    ·exact .inr ⟨c',by rw[Lr,hx];exact z1,z2⟩
  ·rename_i hk;refine jN hn ?_ e;rcases h with z|z
   ·rcases JN.mp z with q | q
    ·have:k=.cell:=(JY Prod.snd q).symm;exact absurd (by rw[this];rfl) hk
    ·exact .inl q
   ·exact .inr z
theorem iC{x:Str}:∀{names:List (Str×NameKind)}{cl:List (Str×Addr)}{n:Nat},(x,NameKind.cell)∉names->(cellsFrom n names cl).lookup x=cl.lookup x
 |[],cl,n,_=>rfl
 |(y,k)::r,cl,n,hn=>by
  unfold cellsFrom;have hr:(x,NameKind.cell)∉r:=fun z=>hn (JL _ z);split
  ·rename_i hk;rw[iC hr,Lr];cases hx:x == y with
   |true=>exact absurd (by rw[eq_of_beq hx,(eq_of_beq hk:k=.cell)];exact JK) hn
   |false=>rfl
  ·exact iC hr
theorem mq{n0:Nat}:∀{names:List (Str×NameKind)}{cl:List (Str×Addr)}{n:Nat},n0<=n->(∀x y c,cl.lookup x=some c->cl.lookup y=some c->n0<=c->x=y)->(∀x c,cl.lookup x=some c->c<n) ->
  ∀x y c,(cellsFrom n names cl).lookup x=some c->(cellsFrom n names cl).lookup y=some c->n0<=c->x=y
 |[],cl,n,_,h,_=>h
 |(z,k)::r,cl,n,hn,h,hb=>by
  unfold cellsFrom;split
  ·refine mq (n := n + 1) (by omega) (fun x y c e1 e2 hc => ?_) (fun x c e => ?_)
   ·rw [Lr] at e1 e2;cases hx:x == z with
    |true=>
     cases hy:y == z with
     |true=>rw[eq_of_beq hx,eq_of_beq hy]
     |false=>
      rw[hx]at e1;rw[hy]at e2;cases e1;exact absurd (hb y _ e2) (JD _)
    |false=>
     cases hy:y == z with
     |true=>
      rw[hx]at e1;rw[hy]at e2;cases e2;exact absurd (hb x _ e1) (JD _)
     |false=>rw[hx]at e1;rw[hy]at e2;exact h x y c e1 e2 hc
   ·rw [Lr] at e;cases hx:x == z with
    |true=>rw[hx]at e;cases e;exact Ly _
    |false=>rw[hx]at e;exact Lz (hb x c e)
  ·exact mq hn h hb
theorem jz{x:Str}{c:Addr}:∀{names:List (Str×NameKind)}{cl:List (Str×Addr)}{h:Heap},(cellsFrom h.objs.size names cl).lookup x=some c->cl.lookup x=some c\/(pushCells h names).IsCell c none
 |[],cl,h,e=>.inl e
 |(y,k)::r,cl,h,e=>by
  unfold cellsFrom at e;unfold pushCells;split at e
  ·rename_i hk;rw[Jz hk];have e':(cellsFrom (h.push {cls:=.type "cell",data:=.cell none}).objs.size r ((y,h.objs.size)::cl)).lookup x=some c:=by rw[LA];exact e
   rcases jz e' with q|q
   ·rw [Lr] at q;cases hx:x == y with
    |true=>
     rw[hx]at q;cases q;exact .inr ⟨_,LB _ _ _ _ (Kb _ rfl),rfl⟩
    |false=>rw[hx]at q;exact .inl q
   ·exact .inr q
  ·rename_i hk;rw[JA hk];exact jz e
theorem xY{X:Cx}{pins:List (Addr×Obj)}{σ:St}{H:Hp}{s:Shared}{h':Heap}{t':Nat}{fp:List Addr}{Nc:List Str}{scope:Scope}{cl:List (Str×Addr)}{cap:List (Option Nat)}
  (I:aP X pins σ H s) (hf:∀b∈fp,kK X pins H b) (hfs:∀b∈fp,b<s.heap.objs.size) (S:bS X.N X.env scope Nc cap)
  (hcl:∀x c,cl.lookup x=some c->X.env.cells.lookup x=some c) (hall:∀y∈scope.names,y.2=.free->(cl.lookup y.1).isSome=true)
  (hn:h'.Ns s.heap.objs.size (fun _=>none)) (hk:∀b o,s.heap.get? b=some o->h'.get? b=some o) (hce:∀x c,(cellsFrom (s.heap.objs.size+1) scope.names cl).lookup x=some c->cl.lookup x=some c\/h'.IsCell c none) :
  aP (ij X Nc scope cl s.heap.objs.size s H fp) [] (n5 cap σ) H {s with heap:=h',toks:=t'}:=by
 have hrl:∀x,(ij X Nc scope cl s.heap.objs.size s H fp).env.kindOf x=(scope.names.lookup x).map fun k=>if (k == NameKind.free&&X.env.scope.kind == .function&&X.env.kindOf x == some .cell) then NameKind.cell else k:=fun x=>jC
 have hcf:∀x,((ij X Nc scope cl s.heap.objs.size s H fp).env.kindOf x=some .cell\/(ij X Nc scope cl s.heap.objs.size s H fp).env.kindOf x=some .free)->scope.names.lookup x=some .free\/scope.names.lookup x=some .cell:=fun x hx=>by
  rw[hrl]at hx;cases e:scope.names.lookup x with
  |none=>rw[e]at hx;rcases hx with z|z <;> cases z
  |some k=>
   rw[e]at hx;by_cases hkf:k=.free
   ·rw[hkf];exact .inl rfl
   ·have : (k == NameKind.free) = false := by simpa using hkf
    simp only[this,Bool.false_and,Option.map_some]at hx;rcases hx with z|z
    ·have z' : k = .cell := by simpa using z
     rw[z'];exact .inr rfl
    ·have z' : k = .free := by simpa using z
     exact absurd z' hkf
 have hclx:∀x,scope.names.lookup x=some .free->∃c,cl.lookup x=some c:=fun x e=>Kt.mp (hall (x,.free) (d6 e) rfl)
 have hcb:∀x c,cl.lookup x=some c->c<s.heap.objs.size:=fun x c e=>by
  obtain⟨v,q⟩:=I.cell x c (hcl x c e);exact q.lt
 have hcell:∀x c,(cellsFrom (s.heap.objs.size+1) scope.names cl).lookup x=some c->(cl.lookup x=some c/\c<s.heap.objs.size)\/(s.heap.objs.size+1<=c/\h'.IsCell c none):=fun x c e=>by
  by_cases hm:(x,NameKind.cell)∈scope.names
  ·have h1 := jN (Kc _) (.inl hm) e;rcases hce x c e with z|z
   ·have:=hcb x c z;exact absurd (JC (Lz this) h1) (JD _)
   ·exact .inr ⟨h1,z⟩
  ·rw[iC hm]at e;exact .inl ⟨e,hcb x c e⟩
 have hinj:∀x y c,(cellsFrom (s.heap.objs.size+1) scope.names cl).lookup x=some c->(cellsFrom (s.heap.objs.size+1) scope.names cl).lookup y=some c->x=y:=fun x y c e1 e2=>by
  rcases hcell x c e1 with⟨a1,a2⟩|⟨a1,a2⟩
  ·rcases hcell y c e2 with ⟨b1, b2⟩ | ⟨b1, b2⟩
   ·exact I.ok.inj x y c (hcl x c a1) (hcl y c b1)
   ·exact absurd (JC (Lz a2) b1) (JD _)
  ·exact mq (Kc _) (fun x y c q _ hc=>absurd (JC (Lz (hcb x c q)) hc) (JD _)) (fun x c q=>Lz (hcb x c q)) x y c e1 e2 a1
 refine⟨⟨I.ok.mod,S.kind,I.ok.glob,I.ok.blt,Kc _,fun x y c e1 e2=>hinj x y c e1 e2,fun x hx=>?_,fun x c e e2=>?_,I.ok.hd,I.ok.frames,.inl rfl,
  fun b hb=>⟨JE (hfs b hb),fun x c e=>?_⟩,I.bs,JH I.ok.bsz I.sz,fun b o e hb=>?_,fun b hb z=>?_,I.stack,I.stkFree⟩,
  rfl,I.bare,Un.kept hk,⟨_,hn,fun i x v e1 e2 e3=>?_⟩,fun x c e=>?_,I.hok.fresh (Kc _),fun x c e=>?_,fun p hp=>absurd (show p∈([]:List (Addr×Obj)) from hp) (by simp),I.hok.kept hk,?_⟩
 ·rcases hcf x hx with q | q
  ·by_cases hm : (x, NameKind.cell) ∈ scope.names
   ·rcases Kt.mp (W.cellsFrom_some scope.names (s.heap.objs.size + 1) cl (.inl (S.nd (x, .cell) hm))) with ⟨c, e⟩
    exact⟨c,e⟩
   ·obtain⟨c,e⟩:=hclx x q;exact⟨c,(iC hm).trans e⟩
  ·obtain⟨c,e⟩:=Kt.mp (W.cellsFrom_some scope.names (s.heap.objs.size+1) cl (.inl q));exact⟨c,e⟩
 ·have hm:(x,NameKind.cell)∈scope.names:=d6 (eq_of_beq (show (scope.names.lookup x == some .cell)=true from e));exact Nat.le_of_succ_le (jN (Kc _) (.inl hm) e2)
 ·rcases hcell x c e with ⟨a1, a2⟩ | ⟨a1, a2⟩
  ·exact(hf b hb).2.2.2.2.1 x c (hcl x c a1)
  ·exact fun z=>absurd (JC (Lz (hfs b hb)) (by rw[<- z];exact a1)) (JD _)
 ·rcases (hf b hb).2.2.2.1 with z | z
  ·exact I.ok.noex b o e z
  ·exact absurd (JC (JC (JB e) I.ok.bsz) z) (JD _)
 ·rcases JN.mp (I.stkSub b z) with q | q
  ·exact(hf b hb).2.1 q
  ·exact(hf b hb).2.2.1 q
 ·have e2':∃j,cap[i]?=some (some j)/\σ[j]?=some (some v):=by
   unfold n5 at e2;rw[KA]at e2;cases hc:cap[i]? with
   |none=>rw[hc]at e2;cases e2
   |some o=>
    rw[hc]at e2;cases o with
    |none=>cases e2
    |some j=>
     refine⟨j,rfl,?_⟩;simp only[Option.map_some,Option.bind_some]at e2;cases hj:σ[j]? with
     |none=>rw[hj]at e2;cases e2
     |some q=>
      rw[hj]at e2;simp only[Option.join_some]at e2;rw[Jv e2]
  obtain⟨j,hj,hv⟩:=e2';obtain⟨hN,hx⟩:=oy S.cap hj e1;have hkx:=S.free (x,.free) (d6 hx) rfl;obtain⟨m,hm,hl⟩:=I.loc;obtain⟨u,r,l⟩:=hl j x v hN hv (hkx.elim (fun z=>.inr (.inl z)) (fun z=>.inr (.inr z)));refine⟨u,r,.inr ⟨?_,?_⟩⟩
  ·rw [hrl, hx];show some (if _ then _ else _)=_\/some (if _ then _ else _)=_;by_cases hc:(NameKind.free == NameKind.free&&X.env.scope.kind == .function&&X.env.kindOf x == some .cell)=true
   ·rw[Jz hc];exact .inl rfl
   ·rw[JA hc];exact .inr rfl
  ·obtain ⟨c, ec⟩ := hclx x hx
   have hm:(x,NameKind.cell)∉scope.names:=fun z=>by
    have:=S.nd (x,.cell) z;rw[hx]at this;cases this
   refine⟨c,(iC hm).trans ec,?_⟩;rcases l with⟨k,_⟩|⟨k,c',ec',z⟩
   ·rcases hkx with q|q <;> (rw[k]at q;cases q)
   ·have q:=hcl x c ec;rw[ec']at q;cases q;obtain⟨o,ho,hd⟩:=z;exact⟨o,hk _ o ho,hd⟩
 ·rcases hcell x c e with ⟨a1, a2⟩ | ⟨a1, a2⟩
  ·obtain⟨v,o,ho,hd⟩:=I.cell x c (hcl x c a1);exact⟨v,o,hk _ o ho,hd⟩
  ·exact⟨none,a2⟩
 ·rcases hcell x c e with ⟨a1, a2⟩ | ⟨a1, a2⟩
  ·exact I.freeC x c (hcl x c a1)
  ·exact I.hok.fresh (Nat.le_of_succ_le a1)
 ·show (cap.map _).length=Nc.length;rw[KE,mr S.cap]
abbrev vT:Value->Shared->Prop:=fun _ _=>False
def rp(ifs:List Expr)(env:Env):Sem Bool:=forIn ifs true fun c r=>if r=true then do let ok <- isTrue c env (eval c env);pure (ForInStep.yield ok) else pure (ForInStep.yield r)
def sh(X:Cx)(ifs:List Expr)(t:TT):Prop:=
 ∀(pins:List (Addr×Obj))(s:Shared)(σ:St)(H:Hp)(Q:Bool->Hp->Prop),aP X pins σ H s->t σ H Q->wpAny (model X.prog X.w) X.A (rp ifs X.env) (TP X pins σ Q) X.xe s
def GV:TT:=fun _ H Q=>Q true H
theorem B7{X:Cx}:sh X [] GV:=fun _ _ _ H _ I h=>J8 ⟨H,I,h⟩
theorem B6{X:Cx}{c:Expr}{t:TT}(h:PT X c t):sh X [c] t:=fun pins s σ H Q I q=>wpAny_tests_one (h pins s σ H Q I q)
def Gf(e:Expr)(acc:Value)(env:Env):Sem Unit:=match e with
 |.ListComp elt _ _ _=>do let _ <- call (.builtin "list.append") [acc,<- eval elt env]
 |.SetComp elt _ _ _=>do let v <- eval elt env;standAt elt.pos;let _ <- call (.builtin "set.add") [acc,v]
 |_=>unsupported "internal:not-a-comprehension"
def oh:Expr->Bool
 |.ListComp ..=>true
 |.SetComp ..=>true
 |_=>false
def kO(M:Model)(A:Around)(e:Expr)(k:Nat)(acc:Value)(env:Env)(C:Shared->Prop)(E:Value->Shared->Prop)(s:Shared):Prop:=match (clausesOf e)[k]? with
 |some g=>wpAny M A (eval g.iter env) (fun x s1=>wpAny M A (foldedSetIterable g.iter env x) (fun x s2=>wpAny M A (pyIter x) (fun it s3=>
   codeAny M A (.compStart e k it acc env) (fun r s4=>(∃f,r=.ok f)/\C s4) s3) E s2) E s1) E s
 |none=>wpAny M A (Gf e acc env) (fun _ s1=>C s1) E s
theorem t5{M:Model}{A:Around}{e:Expr}{k:Nat}{acc:Value}{env:Env}{C C':Shared->Prop}{E:Value->Shared->Prop}{s:Shared}(hC:∀s,C s->C' s)(h:kO M A e k acc env C vT s):kO M A e k acc env C' E s:=by
 unfold kO at h⊢;split at h
 ·exact JV h (fun _ _ h=>JV h (fun _ _ h=>JV h (fun _ _ h=>Km h fun _ _ h=>⟨h.1,hC _ h.2⟩) fun _ _ z=>z.elim) fun _ _ z=>z.elim) fun _ _ z=>z.elim
 ·exact JV h (fun _ _ h=>hC _ h) fun _ _ z=>z.elim
theorem Bs{M:Model}{A:Around}{E:Value->Shared->Prop}{s:Shared}{e:Expr}{d:Nat}{g:Comprehension}{it acc:Value}{env:Env}{Q:Fin->Shared->Prop}(he:oh e=true)(hz:∀g∈clausesOf e,g.is_async=0)(hg:(clausesOf e)[d]?=some g)
  (h : wpAny M A (pyNext it) (fun r s₁ => match r with
   |none=>Q (.done .next) s₁
   |some v=>wpAny M A (letOwnedTupleGo g.target it v) (fun _ s₁'=>wpAny M A (assign g.target env v) (fun _ s₂=>wpAny M A (rp g.ifs env) (fun ok s₃=>
     if ok=true then kO M A e (d+1) acc env (fun s₄=>wpAny M A (again (.compLoop e d it acc env)) Q E s₄) E s₃ else wpAny M A (again (.compLoop e d it acc env)) Q E s₃) E s₂) E s₁') E s₁) E s) :
  wpAny M A (compTurn e d it acc env) Q E s:=by
 have h0:=hz g (KC hg);have h1:∀g',(clausesOf e)[d+1]?=some g'->g'.is_async=0:=fun g' h=>hz g' (KC h);unfold compTurn
 cases e <;> first
  |exact absurd (show false=true from he) J6
  | (rename_i elt gens sc pos
     have hg':gens[d]?=some g:=hg;have h1':∀g',gens[d+1]?=some g'->g'.is_async=0:=h1;dsimp only;rw[hg'];dsimp only;rw[h0];refine J1 (J3 ?_);show wpAny M A (pyNext it >>= _) Q E s;refine J1 (JV h (fun r s₁ h₁=>?_) fun _ _ z=>z);cases r with
     |none=>exact J8 h₁
     |some v=>
      refine J1 (JV h₁ (fun _ s₁' h₁'=>?_) fun _ _ z=>z);refine J1 (JV h₁' (fun _ s₂ h₂=>?_) fun _ _ z=>z);refine J1 (JV h₂ (fun ok s₃ h₃=>?_) fun _ _ z=>z);cases ok with
      |false=>exact h₃
      |true=>
       simp only[KO]at h₃⊢;unfold kO at h₃;dsimp only[clausesOf]at h₃;cases e2:gens[d+1]? with
       |none=>
        rw[e2]at h₃;exact J1 h₃
       |some g'=>
        rw[e2]at h₃;have e3:=h1' g' e2;simp only[e3];refine J1 (JV h₃ (fun x s₄ h₄=>?_) fun _ _ z=>z);refine J1 (J3 ?_);show wpAny M A (foldedSetIterable g'.iter env x >>= _) Q E s₄;refine J1 (JV h₄ (fun x s₅ h₅=>?_) fun _ _ z=>z);refine J1 (J2 ?_);show wpAny M A (pyIter x) _ E s₅;refine JV h₅ (fun it' s₆ h₆=>?_) fun _ _ z=>z;refine J1 (wpAny_runOwn (Km h₆ fun r s₇ h₇=>?_));obtain⟨⟨f,rfl⟩,hc⟩:=h₇
        exact hc)
section
variable{prog:Program}{w:World}{A:Around}{R:Result->Shared->Prop}{s:Shared}
theorem xn{e:Expr}{k:Nat}{g:Comprehension}{it acc:Value}{env:Env}(he:oh e=true)(hz:∀g∈clausesOf e,g.is_async=0)(hg:(clausesOf e)[k]?=some g)
  (h0:codeAny (model prog w) A (.compLoop e k it acc env) R s) (h:wpAny (model prog w) A (pyIter it) (fun it' s'=>codeAny (model prog w) A (.compLoop e k it' acc env) R s') vT s) :
  codeAny (model prog w) A (.compStart e k it acc env) R s:=by
 have ha:=hz g (KC hg)
 cases e <;> first
  |exact absurd (show false=true from he) J6
  | (refine LC ?_
     show wpAny _ _ ((compStart _ k it acc env).onRaise (fun x=>do noteFrame x env;standAt theWindowsPlace)) _ _ s;refine wpAny_notedAt ?_;unfold compStart;rw[hg];have e1:((some g).elim false fun x=>x.is_async != 0)=false:=by show (g.is_async != 0)=false;rw[ha];rfl
     rw[e1];simp only[Lu,KN];refine J1 (LD (wpAny_ite ?_));split
     ·exact J8 (And.intro rfl h0)
     ·refine J1 (LF ?_);refine J1 (J3 ?_)
      exact J1 (JV h (fun it' s' h'=>J8 (And.intro rfl h')) fun _ _ z=>z.elim))
theorem xR{e:Expr}{d:Nat}{g:Comprehension}{it acc:Value}{env:Env}(he:oh e=true)(hz:∀g∈clausesOf e,g.is_async=0)(hg:(clausesOf e)[d]?=some g)(I:Nat->Shared->Prop)
  (turn : ∀ n s, I n s -> wpAny (model prog w) A (pyNext it) (fun r s₁ => match r with
   |none=>R (.ok .next) s₁
   |some v=>wpAny (model prog w) A (letOwnedTupleGo g.target it v) (fun _ s₁'=>wpAny (model prog w) A (assign g.target env v) (fun _ s₂=>
     wpAny (model prog w) A (rp g.ifs env) (fun ok s₃=>
      if ok=true then kO (model prog w) A e (d+1) acc env (fun s₅=>∃m,m<n/\I m s₅) vT s₃
      else ∃m,m<n/\I m s₃) vT s₂) vT s₁') vT s₁) vT s)
  (n:Nat) (h:I n s):codeAny (model prog w) A (.compLoop e d it acc env) R s:=by
 refine codeAny_loop (by cases e <;> first|exact absurd (show false=true from he) J6|rfl) I (fun n s hI=>?_) n h
 cases e <;> first
  |exact absurd (show false=true from he) J6
  | (show wpAny _ A ((compTurn _ d it acc env).onRaise (fun x => do noteFrame x env; theTreesLotGoes x)) _ _ s
     refine wpAny_noted (Bs he hz hg (JV (turn n s hI) (fun r s₁ h₁=>?_) fun _ _ z=>z.elim));cases r with
     |none=>exact h₁
     |some v=>
      refine JV h₁ (fun _ s₂ h₂=>JV h₂ (fun _ s₃ h₃=>JV h₃ (fun ok s₄ h₄=>?_) fun _ _ z=>z.elim) fun _ _ z=>z.elim) fun _ _ z=>z.elim;cases ok with
      |false=>exact J8 ⟨rfl,h₄⟩
      |true=>
       simp only[KO]at h₄⊢
       exact t5 (fun s₅ h₅=>J8 ⟨rfl,h₅⟩) h₄)
end
abbrev Bb:=St->Hp->(St->Hp->Prop)->Prop
def Bd(X:Cx)(e:Expr)(k:Nat)(acc:Addr)(t:Bb):Prop:=
 ∀(pins:List (Addr×Obj))(s:Shared)(σ:St)(H:Hp)(N:St->Hp->Prop),aP X pins σ H s->t σ H N->kO (model X.prog X.w) X.A e k (.ref acc) X.env (fun s'=>∃σ' H',aP X pins σ' H' s'/\N σ' H') vT s
def Ij(J:It)(g:TG)(tt:TT)(tb:Bb)(N:St->Hp->Prop)(σ:St)(H:Hp):Prop:=∃W:Nat->Nat->St->Hp->Prop,(∃m,W 0 m σ H)/\∀i m σ1 H,W i m σ1 H ->
 (J.stop i H/\N σ1 H)\/(J.go i H/\∃N':St->Hp->Prop,(∀σ' H',N' σ' H'->∃m',m'<m/\W (i+1) m' σ' H')/\∀x H',J.yld i H x H'->g x σ1 H' fun σ2 H2=>tt σ2 H2 fun b H3=>if b=true then tb σ2 H3 N' else N' σ2 H3)
section
variable{X:Cx}{e:Expr}{d:Nat}{cl:Comprehension}{g:TG}{tt:TT}{tb:Bb}{acc:Addr}
theorem ur{J:It}{fp:List Addr}{it:Addr}{tn:Nat->Heap->Prop}{pins:List (Addr×Obj)}{N:St->Hp->Prop}{σ:St}{H:Hp}{s:Shared}(he:oh e=true)(hz:∀g∈clausesOf e,g.is_async=0)(hg:(clausesOf e)[d]?=some cl)(hxe:X.xe=vT)(hc:X.calm=true)
  (T:xg X.prog X.w X.K cl.target J fp it tn) (hgc:PG X cl.target g) (htc:sh X cl.ifs tt) (hb:Bd X e (d+1) acc tb) (I:aP X pins σ H s) (st:tn 0 s.heap) (fr:∀b∈fp,kK X pins H b) (h:Ij J g tt tb N σ H) :
  codeAny (model X.prog X.w) X.A (.compLoop e d (.ref it) (.ref acc) X.env) (fun r s'=>r=.ok .next/\∃σ' H',aP X pins σ' H' s'/\N σ' H') s:=by
 obtain⟨W,⟨m0,w0⟩,turn⟩:=h;have stat:∀{H':Hp},(∀b∈fp,H' b=none)->∀b∈fp,kK X pins H' b:=fun hn b hb=>⟨hn b hb,(fr b hb).2⟩;refine xR he hz hg (fun n s'=>∃i σ' H',aP X pins σ' H' s'/\tn i s'.heap/\(∀b∈fp,H' b=none)/\W i n σ' H') ?_ m0 ⟨0,_,_,I,st,fun b hb=>(fr b hb).1,w0⟩
 rintro n s5 ⟨i,σ5,H5,I5,st5,fr5,w5⟩
 rcases turn i n σ5 H5 w5 with⟨stop,qn⟩|⟨go,N',hN,step⟩
 ·refine cT (T.done X rfl rfl rfl hc i pins s5 σ5 H5 vT I5 (stat fr5) st5 stop) fun r s6 ⟨hr,I6⟩=>?_;subst hr;exact⟨rfl,_,_,I6,qn⟩
 ·refine cT (T.item X rfl rfl rfl hc i pins s5 σ5 H5 vT I5 (stat fr5) st5 go) fun r s6 ⟨u, hr, h6⟩ => ?_;subst hr;refine cT h6 fun _ s7 ⟨x,H7,I7,r7,y7,st7,fr7⟩=>?_;have I7':=I7.pinned (stat fr7) (T.obj _ _ st7);have z1:=hgc _ s7 σ5 H7 x u _ I7' r7 (step x H7 y7);rw[hxe]at z1;refine cT z1 fun _ s8 ⟨σ8,H8,I8,q8⟩=>?_;have z2:=htc _ s8 σ8 H8 _ I8 q8;rw[hxe]at z2;refine cT z2 fun b s9 ⟨H9,I9,q9⟩=>?_
  have again:∀{σa:St}{Ha:Hp}{sa:Shared},aP X (pins++n9 fp s7.heap) σa Ha sa->N' σa Ha->∃m,m<n/\∃i σ' H',aP X pins σ' H' sa/\tn i sa.heap/\(∀b∈fp,H' b=none)/\W i m σ' H':=fun {σa Ha sa} Ia na=>by
   obtain⟨m',hm,wa⟩:=hN σa Ha na;refine⟨m',hm,i+1,σa,Ha,Ia.unpinned,T.keep _ _ _ st7 fun b hb o e=>(Ia.pin (b,o) (Kf _ (Kf _ (iS hb e)))).1,fun b hb=>?_,wa⟩;obtain⟨o,e,d⟩:=T.obj _ _ st7 b hb;exact(Ia.pin (b,o) (Kf _ (Kf _ (iS hb e)))).2.1
  cases b with
  |false=>
   rw[JA J6]at q9⊢;exact again I9 q9
  |true=>
   rw[Jz rfl]at q9⊢;exact t5 (fun s' ⟨σ',H',I',n'⟩=>again I' n') (hb _ s9 σ8 H9 _ I9 q9)
def Ds(te:TE)(acc:Addr):Bb:=fun σ H N=>te σ H fun y H4=>∃ys,H4 acc=some (.lst ys)/\ys.length<sizeLine/\N σ (bx H4 acc (.lst (ys++[y])))
theorem tx{te:TE}{elt:Expr}{gens:List Comprehension}{scope:Scope}{pos:Pos}(hg:gens[d]?=none)(hxe:X.xe=vT)(hel:PE X elt te):Bd X (.ListComp elt gens scope pos) d acc (Ds te acc):=by
 intro pins s σ H N I h;unfold kO;show (match gens[d]? with|some g=>_|none=>_:Prop);rw[hg];show wpAny _ _ (do let _ <- call (.builtin "list.append") [.ref acc,<- eval elt X.env]) _ _ _;have z:=hel pins s σ H _ I h;rw[hxe]at z;refine J1 (cT z fun v10 s10 ⟨y,H10,I10,r10,ys,hy,hz,nn⟩=>?_);have z4:=qj (X:=X) pins s10 σ H10 (.ref acc) [y] (.ref acc) [v10] (fun _ H'=>N σ H') I10 rfl (.cons r10 .nil) ⟨_,ys,y,rfl,rfl,hy,hz,nn⟩;rw[hxe]at z4;exact J1 (cT z4 fun v11 s11 ⟨y',H11,I11,r11,n11⟩=>J8 ⟨_,_,I11,n11⟩)
end
theorem AV{M:Model}{A:Around}{E:Value->Shared->Prop}{s:Shared}{scope:Scope}{cl:List (Str×Addr)}{env:Env}{Q:Env->Shared->Prop}
  (hQ : ∀ h', h'.Ns s.heap.objs.size (fun _ => none) -> (∀ b o, s.heap.get? b = some o -> h'.get? b = some o) -> (∀ x c, (cellsFrom (s.heap.objs.size + 1) scope.names cl).lookup x = some c -> cl.lookup x = some c \/ h'.IsCell c none) ->
   ∀cenv:Env,({cenv with scope:=relabel scope env}:Env)=compEnvC scope (cellsFrom (s.heap.objs.size+1) scope.names cl) s.heap.objs.size env->cenv.locals=s.heap.objs.size->Q cenv {s with heap:=h'}) :
  wpAny M A (newFunctionEnv scope env.globals cl [] env.qual none .none (some env)) Q E s:=by
 simp only[newFunctionEnv,Option.isSome_some,KO];refine J1 (wpAny_alloc ?_);refine J1 (wpAny_layCells _ (fun name kind cells=>by cases hkc:kind == NameKind.cell <;> simp[hkc]) _ _ _ _ ?_);have hsz:(s.heap.push {cls:=.type "dict",data:=.dict #[]}).objs.size=s.heap.objs.size+1:=LA ..;refine J1 (J8 (J8 ?_));show Q _ {s with heap:=pushCells (s.heap.push {cls:=.type "dict",data:=.dict #[]}) scope.names};refine hQ _ ((Heap.Ns.new s.heap (.type "dict")).keeps (LB _ _)) (fun b o e=>LB _ _ b o (Ka _ e)) (fun x c e=>?_) _ ?_ rfl
 ·rw[<- hsz]at e;exact jz e
 ·show _=_;unfold compEnvC;rw[<- hsz]
def lS(o0:Addr->HO)(wi:TI)(cap:List (Option Nat))(g:TG)(tt:TT)(tb:Addr->Bb):TE:=fun σ H Q=>wi σ H fun J H1=>∀acc,H1 acc=none->Ij J g tt (tb acc) (fun _ H'=>Q (.ref acc) H') (n5 cap σ) (bx H1 acc (o0 acc))
def yL(wi:TI)(cap:List (Option Nat))(g:TG)(tt:TT)(te:TE):TE:=lS (fun _=>.lst []) wi cap g tt (Ds te)
def Ip(X:Cx)(newAcc:Sem Value)(o0:Addr->HO):Prop:=∀(pins:List (Addr×Obj))(s:Shared)(σ:St)(H:Hp)(Q:Value->Shared->Prop),aP X pins σ H s ->
 (∀s',aP X pins σ (bx H s.heap.objs.size (o0 s.heap.objs.size)) s'->(∀b o,s.heap.get? b=some o->s'.heap.get? b=some o)->s.heap.objs.size<s'.heap.objs.size->Q (.ref s.heap.objs.size) s')->wpAny (model X.prog X.w) X.A newAcc Q X.xe s
theorem tI{X:Cx}:Ip X (newList []) (fun _=>.lst []):=fun pins s σ H Q I h=>
 K5 (h _ (I.lnew (t':=s.toks) (ys:=[]) (its:=[]) .nil (LG _)) (fun b o e=>Ka _ e) (by rw[LA];exact Ly _))
section
variable{X:Cx}{e:Expr}{cl0:Comprehension}{rest:List Comprehension}{scope:Scope}{Nc:List Str}{cap:List (Option Nat)}{wi:TI}{g:TG}{tt:TT}{tb:Addr->Bb}{pos':Pos}{o0:Addr->HO}{newAcc:Sem Value}
theorem mn{use:Option (Value->Sem Unit)}{pins:List (Addr×Obj)}{s:Shared}{σ:St}{H:Hp}{Q:VK}{QQ:Value->Shared->Prop}
  (he:oh e=true) (hz:∀g∈clausesOf e,g.is_async=0) (hcl0:clausesOf e=cl0::rest) (hmk:Ip X newAcc o0)
  (hc:X.calm=true) (S:bS X.N X.env scope Nc cap) (hi:PI X cl0.target cl0.iter wi)
  (hg:∀cl C s H fp,PG (ij X Nc scope cl C s H fp) cl0.target g) (ht:∀cl C s H fp,sh (ij X Nc scope cl C s H fp) cl0.ifs tt) (hb:∀cl C s H fp acc,Bd (ij X Nc scope cl C s H fp) e 1 acc (tb acc))
  (I:aP X pins σ H s) (h:lS o0 wi cap g tt tb σ H Q)
  (hfin:∀C acc s' H',aP X pins σ H' s'->kK X pins H' C->(∃m,s'.heap.Ns C m)->Q (.ref acc) H'->compPost (model X.prog X.w) X.A X.xe use QQ (.ref acc) C (.ok .next) s')
  (hs:∀x,foldedSetIterable cl0.iter X.env x=pure x) :
  wpAny (model X.prog X.w) X.A (comprehension e scope X.env pos' newAcc false (eval cl0.iter X.env) use) QQ X.xe s:=by
 obtain⟨cl,hclos,hcl,hall⟩:=vE (scope:=scope) (env:=X.env) (fun y hy hf=>I.ok.has y.1 (S.free y hy hf));have hg0:(clausesOf e)[0]?=some cl0:=by rw[hcl0];rfl
 refine wpAny_comprehension_free hcl0 hs hclos S.kind (fun x hx e=>by rw[S.nd x hx,e]) ?_;refine cT (hi pins s σ H _ I h) fun v s1 h1=>cT h1 fun itv s2 h2=>?_;obtain⟨it,fp,tn,J,H2,e',I2,T,st2,f2,rd⟩:=h2;subst e';have rd:=rd _ I2.fresh;refine hmk pins s2 σ H2 _ I2 fun s3 I3 hk3 hsz3=>?_;have st3:tn 0 s3.heap:=T.keep _ _ _ st2 fun b _ o e=>hk3 b o e
 have fpn:∀b∈fp,b≠s2.heap.objs.size:=fun b hb=>by
  obtain⟨o,eo,_⟩:=T.obj _ _ st2 b hb;exact JE (JB eo)
 have f3:∀b∈fp,kK X pins (bx H2 s2.heap.objs.size (o0 s2.heap.objs.size)) b:=fun b hb=>⟨by rw[aJ (fpn b hb)];exact(f2 b hb).1,(f2 b hb).2⟩
 have hfs:∀b∈fp,b<s3.heap.objs.size:=fun b hb=>by
  obtain⟨o,eo,_⟩:=T.obj _ _ st3 b hb;exact JB eo
 refine AV fun h1 hns1 hk1 hce cenv ecenv elc=>?_;rw[ecenv]
 have IB:aP (ij X Nc scope cl s3.heap.objs.size s3 (bx H2 s2.heap.objs.size (o0 s2.heap.objs.size)) fp) [] (n5 cap σ) (bx H2 s2.heap.objs.size (o0 s2.heap.objs.size)) {s3 with heap:=h1,toks:=s3.toks}:=
  xY I3 f3 hfs S hcl hall hns1 hk1 hce
 have stB:tn 0 h1:=T.keep _ _ _ st3 fun b _ o e=>hk1 b o e;rw[elc]
 have frB:∀b∈fp,kK (ij X Nc scope cl s3.heap.objs.size s3 (bx H2 s2.heap.objs.size (o0 s2.heap.objs.size)) fp) [] (bx H2 s2.heap.objs.size (o0 s2.heap.objs.size)) b:=fun b hb=>
  ⟨(f3 b hb).1,(IB.ok.exf b hb).1,IB.ok.exfs b hb,.inl hb,(IB.ok.exf b hb).2,fun p hp=>absurd (show p∈([]:List (Addr×Obj)) from hp) (by simp)⟩
 have loop:=ur (X:=ij X Nc scope cl s3.heap.objs.size s3 (bx H2 s2.heap.objs.size (o0 s2.heap.objs.size)) fp) he hz hg0 rfl hc T (hg _ _ _ _ _) (ht _ _ _ _ _) (hb _ _ _ _ _ _) IB stB frB rd
 have fin:∀r s',(r=.ok .next/\∃σ' H',aP (ij X Nc scope cl s3.heap.objs.size s3 (bx H2 s2.heap.objs.size (o0 s2.heap.objs.size)) fp) [] σ' H' s'/\Q (.ref s2.heap.objs.size) H')->compPost (model X.prog X.w) X.A X.xe use QQ (.ref s2.heap.objs.size) s3.heap.objs.size r s':=by
  rintro r s' ⟨rfl,σ',H',J',q⟩
  have I5:aP X pins σ H' s':=I3.call' (ch:=fp) J'.os J'.base J'.hok J'.bare fun b hbf=>⟨(f3 b hbf).2.2.2.1,(f3 b hbf).2.1,(f3 b hbf).2.2.2.2.1,(f3 b hbf).2.2.2.2.2⟩;obtain⟨mm,hnn,_⟩:=J'.loc;exact hfin _ _ s' H' I5 (I3.fpOk (Kc _) J'.free) ⟨mm,hnn⟩ q
 exact xn he hz hg0 (Km loop fin) (T.self _ 0 _ _ _ stB (Km loop fin))
variable{elt:Expr}{pos:Pos}
theorem Aw(hc:X.calm=true)(hz:∀g∈cl0::rest,g.is_async=0)(S:bS X.N X.env scope Nc cap)(hi:PI X cl0.target cl0.iter wi)
  (hg:∀cl C s H fp,PG (ij X Nc scope cl C s H fp) cl0.target g) (ht:∀cl C s H fp,sh (ij X Nc scope cl C s H fp) cl0.ifs tt) (hb:∀cl C s H fp acc,Bd (ij X Nc scope cl C s H fp) (.ListComp elt (cl0::rest) scope pos) 1 acc (tb acc))
  (hs:∀x,foldedSetIterable cl0.iter X.env x=pure x):PE X (.ListComp elt (cl0::rest) scope pos) (lS (fun _=>.lst []) wi cap g tt tb):=by
 intro pins s σ H Q I h;have h0:=hz cl0 JK;obtain⟨tg0,it0,if0,as0⟩:=cl0;have h0':as0=0:=h0;subst h0';rw[arm_eval_ListComp];refine mn (e:=.ListComp elt (_::rest) scope pos) (Q:=Q) rfl hz rfl tI hc S hi hg ht hb I h (fun C acc s' H' I' hf hn q=>?_) hs;obtain⟨m,hn⟩:=hn;refine⟨m,hn,fun h' sb=>⟨.ref acc,H',?_,rfl,q⟩⟩;exact I'.turned (t':=s'.toks) (it:=C) (fun b o hb e=>(sb.2 b hb).trans e) hf.1 hf.2.1 hf.2.2.2.1 hf.2.2.2.2.1 hf.2.2.2.2.2
theorem Ap{i:Nat}{x:Str}{pos1:Pos}{pos2:Pos}(hc:X.calm=true)(hz:∀g∈cl0::rest,g.is_async=0)(hN:X.N.Nodup)(hix:X.N[i]?=some x)(hx:X.env.scope.names.lookup x=some .local)(S:bS X.N X.env scope Nc cap)(hi:PI X cl0.target cl0.iter wi)
  (hg:∀cl C s H fp,PG (ij X Nc scope cl C s H fp) cl0.target g) (ht:∀cl C s H fp,sh (ij X Nc scope cl C s H fp) cl0.ifs tt) (hb:∀cl C s H fp acc,Bd (ij X Nc scope cl C s H fp) (.ListComp elt (cl0::rest) scope pos) 1 acc (tb acc))
  (hsw:swapsWith (.ListComp elt (cl0::rest) scope pos) (some (.Name x pos1)) pos2.line X.env=pure true) (hs:∀x,foldedSetIterable cl0.iter X.env x=pure x) :
  PS X (.Assign [.Name x pos1] (.ListComp elt (cl0::rest) scope pos) pos2) (yA (lS (fun _=>.lst []) wi cap g tt tb) (sJ i)):=by
 intro pins s σ H D I h;have h0:=hz cl0 JK;obtain⟨tg0,it0,if0,as0⟩:=cl0;have h0':as0=0:=h0;subst h0';rw[exec_Assign_Name_used _ _ _ _ hsw];refine J1 (J3 (J1 ?_));show wpAny _ X.A (do let _ <- comprehension (.ListComp elt (⟨tg0,it0,if0,0⟩::rest) scope pos) scope X.env _ (newList []) false (eval it0 X.env) (some (assign (.Name x pos1) X.env))) _ _ s
 refine J1 (JV (mn (e:=.ListComp elt (_::rest) scope pos) (use:=some (assign (.Name x pos1) X.env)) (Q:=fun v H1=>D.nx (σ.set i (some v)) H1) (QQ:=fun _ s'=>SP X pins D .next s') rfl hz rfl tI hc S hi hg ht hb I h (fun C acc s' H' I' hf hn q=>?_) hs)
  (fun _ s' hq=>J8 (J8 hq)) fun _ _ e=>e)
 obtain⟨m,hn⟩:=hn;show wpAny _ X.A (assign (.Name x pos1) X.env (.ref acc)) _ _ _;refine wpAny_assign_Name (p9 I' hN hix (.inl hx) (show bE (.ref acc) (.ref acc) from rfl) (fun s'' I'' hsb=>?_) (.inr hx));obtain⟨a,sb,ha⟩:=hsb
 have hCa:C≠a:=by
  rcases ha with z|z
  ·rw[z];exact hf.2.1
  ·exact fun e=>hf.2.2.2.2.1 x a z e.symm
 refine⟨m,hn.sameBut sb hCa,fun h' sb'=>⟨_,H',?_,q⟩⟩;exact I''.turned (t':=s''.toks) (it:=C) (fun b o hb e=>(sb'.2 b hb).trans e) hf.1 hf.2.1 hf.2.2.2.1 hf.2.2.2.2.1 hf.2.2.2.2.2
variable{tg iter:Expr}{ifs:List Expr}{te:TE}
theorem qi:∀g∈([⟨tg,iter,ifs,0⟩]:List Comprehension),g.is_async=0:=fun g hg=>by rw[LH.mp hg]
theorem Co(hc:X.calm=true)(S:bS X.N X.env scope Nc cap)(hi:PI X tg iter wi)
  (hg:∀cl C s H fp,PG (ij X Nc scope cl C s H fp) tg g) (ht:∀cl C s H fp,sh (ij X Nc scope cl C s H fp) ifs tt) (he:∀cl C s H fp,PE (ij X Nc scope cl C s H fp) elt te)
  (hs:∀x,foldedSetIterable iter X.env x=pure x:=by intro _;rfl):PE X (.ListComp elt [⟨tg,iter,ifs,0⟩] scope pos) (yL wi cap g tt te):=
 Aw (cl0:=⟨tg,iter,ifs,0⟩) hc qi S hi hg ht (fun cl C s H fp acc=>tx rfl rfl (he cl C s H fp)) hs
theorem Cc{i:Nat}{x:Str}{pos1:Pos}{pos2:Pos}(hc:X.calm=true)(hN:X.N.Nodup)(hix:X.N[i]?=some x)(hx:X.env.scope.names.lookup x=some .local)(S:bS X.N X.env scope Nc cap)(hi:PI X tg iter wi)
  (hg:∀cl C s H fp,PG (ij X Nc scope cl C s H fp) tg g) (ht:∀cl C s H fp,sh (ij X Nc scope cl C s H fp) ifs tt) (he:∀cl C s H fp,PE (ij X Nc scope cl C s H fp) elt te)
  (hsw:swapsWith (.ListComp elt [⟨tg,iter,ifs,0⟩] scope pos) (some (.Name x pos1)) pos2.line X.env=pure true) (hs:∀x,foldedSetIterable iter X.env x=pure x:=by intro _;rfl) :
  PS X (.Assign [.Name x pos1] (.ListComp elt [⟨tg,iter,ifs,0⟩] scope pos) pos2) (yA (yL wi cap g tt te) (sJ i)):=
 Ap (cl0:=⟨tg,iter,ifs,0⟩) hc qi hN hix hx S hi hg ht (fun cl C s H fp acc=>tx rfl rfl (he cl C s H fp)) hsw hs
end
end L2
namespace RS
open PySem PySem.W PyProof.Rows
open AutoSeq1 (wpAny_loadPart')
section
variable{prog:Program}{w:World}{A:Around}{E:Value->Shared->Prop}{s:Shared}
theorem r8{it t:Addr}{i:Nat}{items}{x:Value}{Q:Value->Shared->Prop}(hit:s.heap.IsTupleIter it t i)(ht:s.heap.IsTuple t items)(hx:items[i]?=some x)
  (hQ:∀h',h'.IsTupleIter it t (i+1)->Heap.SameBut it s.heap h'->Q x {s with heap:=h'}):wpAny (model prog w) A (Builtin.SmallTypes.nextOf (.ref it)) Q E s:=by
 obtain⟨o,ho,hc,hd⟩:=id hit;obtain⟨ol,hol,_,nl,hdl⟩:=ht;unfold Builtin.SmallTypes.nextOf;refine J1 (KY (name:=Str.ofString "__next__") hit.typeIs LI (K0 LI hit.typeIs LJ ?_ (LK _)));show wpAny _ _ (field (.ref it) 0 >>= _) _ _ s;refine J1 (KR ho hd (x:=.ref t) rfl ?_);show wpAny _ _ (if (Value.ref t == Value.none)=true then _ else _) _ _ s;rw[JA (show ¬ ((Value.ref t == Value.none)=true) from J6)];show wpAny _ _ (field (.ref it) 1 >>= _) _ _ s;refine J1 (KR ho hd (x:=.int i 0) rfl ?_);show wpAny _ _ (seqItems? (.ref t) >>= _) _ _ s;refine J1 (LL hol hdl ?_);simp only[KM,hx];refine J1 (LM ho hd (by simp) (J8 ⟨x,rfl,J8 (hQ _ ?_ (LN ..))⟩));exact⟨_,La _ ho (LO (LP hd _)),(LQ ..).trans hc,by rw[LP hd];simp[rawInt]⟩
theorem mE{it t:Addr}{i:Nat}{items}{Q:Value->Shared->Prop}(hh:A.handled=none)(hit:s.heap.IsTupleIter it t i)(ht:s.heap.IsTuple t items)(hx:items[i]?=none)
  (hE:∀h' e,Heap.ExtBut it s.heap h'->(∃o,h'.get? e=some o/\o.cls=.type "StopIteration")->E (.ref e) {s with heap:=h'}):wpAny (model prog w) A (Builtin.SmallTypes.nextOf (.ref it)) Q E s:=by
 obtain⟨o,ho,hc,hd⟩:=id hit;obtain⟨ol,hol,_,nl,hdl⟩:=ht;unfold Builtin.SmallTypes.nextOf;refine J1 (KY (name:=Str.ofString "__next__") hit.typeIs LI (K0 LI hit.typeIs LJ ?_ (LK _)));show wpAny _ _ (field (.ref it) 0 >>= _) _ _ s;refine J1 (KR ho hd (x:=.ref t) rfl ?_);show wpAny _ _ (if (Value.ref t == Value.none)=true then _ else _) _ _ s;rw[JA (show ¬ ((Value.ref t == Value.none)=true) from J6)];show wpAny _ _ (field (.ref it) 1 >>= _) _ _ s;refine J1 (KR ho hd (x:=.int i 0) rfl ?_);show wpAny _ _ (seqItems? (.ref t) >>= _) _ _ s;refine J1 (LL hol hdl ?_);simp only[KM,hx];refine J1 (LF (J1 (LM ho hd (by simp) ?_)));show wpAny _ _ (newExc (.type "StopIteration") [] >>= _) _ _ _;refine J1 ?_;simp only[newExc,newTuple];refine J1 (K5 ?_ (by size_fits));refine J1 (m:=firstArgMember _ _) (LR (a:=Value.none) (by first|rfl|(simp only[firstArgMember];rfl)) ?_);refine K5 ?_ (by size_fits);simp only[raiseNew];refine J1 (wpAny_handled ?_)
 first|rw[show A.in1.handled=none from hh]|rw[hh]
 refine J1 (J8 (wpAny_throw ?_));exact hE _ _ (((LN ..).extBut.push _).push _) ⟨_,Kb _ rfl,rfl⟩
end
theorem Gg{prog:Program}{w:World}{A:Around}(hh:A.handled=none)(it l:Addr)(hne:l≠it)(items:Array Value) :
  Draws prog w A it [it,l] items.size (fun i v=>items[i]?=some v) (fun i h=>h.IsTupleIter it l i/\h.IsTuple l items) where
 live:=fun _ _ st=>let ⟨o,ho,_⟩:=st.1;⟨o,ho⟩
 frame:=fun _ _ _ st hk=>⟨by
  obtain⟨o,ho,r⟩:=st.1;exact⟨o,hk it (by simp) o ho,r⟩,by
  obtain⟨o,ho,r⟩:=st.2
  exact⟨o,hk l (by simp) o ho,r⟩⟩
 item:=fun i s Q E hi st hQ=>by
  refine r8 st.1 st.2 (x:=items[i]) (by simp[hi]) fun h' hit' hs'=>?_;refine hQ _ h' s.toks (by simp[hi]) ⟨hit',?_⟩ hs';obtain⟨o,ho,r⟩:=st.2;exact⟨o,(hs'.2 l hne).trans ho,r⟩
 done:=fun s Q E st hE=>mE hh st.1 st.2 (by simp) hE
theorem uh(l:Addr)(items:Array Value)(n:Nat)(dct:Option Addr)(sl:Array (Option Value)) :
  Meets (Builtin.«enumerate.__new__» ⟨[.type "enumerate",.ref l],[]⟩) (fun _ R s=>s.heap.get? l=some {cls:=.type "tuple",dict:=dct,data:=.seq items n,slots:=sl} /\
   R (.ok (.ret (.ref (s.heap.push {cls:=.type "tuple_iterator",data:=.fields #[.ref l,.int 0 0]}).objs.size)))
    {s with heap:=(s.heap.push {cls:=.type "tuple_iterator",data:=.fields #[.ref l,.int 0 0]}).push {cls:=.type "enumerate",data:=.fields #[.none,.bool false,.ref s.heap.objs.size,rawInt 0,.none,.none]}}):=
 .of_wp fun prog w A R s h=>by
  obtain⟨hp,g,d,tk,os⟩:=s;obtain⟨hl,h⟩:=h;have hsub:=sub_enumerate;have hL:Heap.IsTuple (Shared.heap ⟨hp,g,d,tk,os⟩) l items:=⟨_,hl,rfl,n,rfl⟩
  wp_walk using wpAny_loadPart' hl
  refine wpAny_stack_any fun st=>J8 ?_;split
  ·rename_i c _ _ _ _ _;cases (c == Value.type "enumerate")
   ·wp_walk using wpAny_loadPart' hl, LS hL
    exact⟨_,rfl,h⟩
   ·wp_walk using wpAny_loadPart' hl, LS hL
    exact⟨_,rfl,h⟩
  ·wp_walk using wpAny_loadPart' hl, LS hL
   exact⟨_,rfl,h⟩
section
variable{prog:Program}{w:World}{A:Around}{E:Value->Shared->Prop}{s:Shared}
theorem vM{l:Addr}{items:Array Value}{Q:Value->Shared->Prop}(hL:s.heap.IsTuple l items)
  (h : ∀ h', IsEnum h' (s.heap.objs.size + 1) s.heap.objs.size 0 .none -> h'.IsTupleIter s.heap.objs.size l 0 -> h'.objs.size = s.heap.objs.size + 2 ->
   (∀b o,s.heap.get? b=some o->h'.get? b=some o)->Q (.ref (s.heap.objs.size+1)) {s with heap:=h'}) :
  wpAny (model prog w) A (call (.type "enumerate") [.ref l]) Q E s:=by
 obtain⟨⟨c,dct,dt,sl⟩,hl,hc,n,hd⟩:=hL;replace hc:c=.type "tuple" := hc;replace hd:dt=.seq items n:=hd;subst hc hd;refine callType_new F.called_enumerate (by decide) (F.typeCall_enumerate_1 _) (F.newCall_enumerate_1 _) (fun obj=>F.args_object_init_2 obj _) F.entry_enumerate_new (uh l items n dct sl) ⟨hl,?_⟩;have hz:(s.heap.push {cls:=.type "tuple_iterator",data:=.fields #[.ref l,.int 0 0]}).objs.size=s.heap.objs.size+1:=LA ..;show _/\_;rw[hz]
 have he:IsEnum ((s.heap.push {cls:=.type "tuple_iterator",data:=.fields #[.ref l,.int 0 0]}).push
   {cls:=.type "enumerate",data:=.fields #[.none,.bool false,.ref s.heap.objs.size,rawInt 0,.none,.none]}) (s.heap.objs.size+1) s.heap.objs.size 0 .none:=by
  have:=Kb (s.heap.push {cls:=.type "tuple_iterator",data:=.fields #[.ref l,.int 0 0]})
   (o:={cls:=.type "enumerate",data:=.fields #[.none,.bool false,.ref s.heap.objs.size,rawInt 0,.none,.none]}) rfl
  rw[hz]at this;exact this
 exact⟨⟨_,he,rfl⟩,h _ he ⟨_,Ka _ (Kb _ rfl),rfl,rfl⟩ (by rw[LA,hz]) fun b o x=>Ka _ (Ka _ x)⟩
end
end RS
namespace L2
open PySem PySem.Spec PyProof.Rows RS
def Sq(b:Bool)(K:W.Frag)(H:Hp)(a:Addr)(xs:List V):Prop:=if b=true then eP K H a xs else eK K H a xs
def Ir(b:Bool)(K:W.Frag)(a:Addr):It:=
 ⟨fun i H => ∃ xs x, Sq b K H a xs /\ xs[i]? = some x,
  fun i H x H'=>∃q y,x=.ref q/\H q=none/\H'=bx H q (.tup [.int i,y])/\∀xs,Sq b K H a xs->xs[i]?=some y,
  fun i H=>∃xs,Sq b K H a xs/\xs.length=i⟩
def qT(b:Bool)(h:Heap)(it a:Addr)(i:Nat):Prop:=if b=true then h.IsListIter it a i else h.IsTupleIter it a i
theorem qT.obj{b:Bool}{h:Heap}{it a:Addr}{i:Nat}(x:qT b h it a i):∃o,h.get? it=some o/\∀v,o.data≠.cell v:=by
 cases b with
 |true=>obtain⟨o,e,c,d⟩:=(show h.IsListIter it a i from x);exact⟨o,e,fun v z=>by rw[d]at z;cases z⟩
 |false=>obtain⟨o,e,c,d⟩:=(show h.IsTupleIter it a i from x);exact⟨o,e,fun v z=>by rw[d]at z;cases z⟩
theorem qT.keep{b:Bool}{h h':Heap}{it a:Addr}{i:Nat}(x:qT b h it a i)(k:∀o,h.get? it=some o->h'.get? it=some o):qT b h' it a i:=by
 cases b with
 |true=>obtain⟨o,e,r⟩:=(show h.IsListIter it a i from x);exact(show h'.IsListIter it a i from⟨o,k o e,r⟩)
 |false=>obtain⟨o,e,r⟩:=(show h.IsTupleIter it a i from x);exact(show h'.IsTupleIter it a i from⟨o,k o e,r⟩)
theorem tX{X:Cx}{pins:List (Addr×Obj)}{σ:St}{H:Hp}{s:Shared}{b:Bool}{a it:Addr}{xs:List V}(I:aP X pins σ H s)(hc:X.calm=true)(hq:Sq b X.K H a xs)(hne:a≠it) :
  ∃(its:Array Value)(St:Nat->Heap->Prop),aW xs its.toList/\Draws X.prog X.w X.A.in1 it [it,a] its.size (fun i v=>its[i]?=some v) St/\(∀i,qT b s.heap it a i->St i s.heap)/\∀i h,St i h->qT b h it a i:=by
 have hh:X.A.in1.handled=none:=by simpa using I.ok.hd hc
 cases b with
 |true=>
  obtain⟨its,rv,p,hz⟩:=I.list (show eP X.K H a xs from hq);exact⟨its.toArray,_,by simpa using rv,Draws.list hh it a hne its.toArray,fun i h=>⟨h,p.isList⟩,fun i h st=>st.1⟩
 |false=>
  obtain⟨its,rv,p,hz⟩:=I.tuple (show eK X.K H a xs from hq);exact⟨its.toArray,_,by simpa using rv,Gg hh it a hne its.toArray,fun i h=>⟨h,p⟩,fun i h st=>st.1⟩
theorem Ew{X:Cx}{pins:List (Addr×Obj)}{σ:St}{H:Hp}{s:Shared}{b:Bool}{a:Addr}{xs ys:List V}(I:aP X pins σ H s)(h1:Sq b X.K H a xs)(h2:Sq b X.K H a ys):xs=ys:=by
 cases b with
 |true=>exact I.list_inj h1 h2
 |false=>exact I.tuple_inj h1 h2
theorem aP.turns{X:Cx}{pins:List (Addr×Obj)}{σ:St}{H:Hp}{s:Shared}{h':Heap}{t':Nat}{ch:List Addr}(I:aP X pins σ H s)(k:∀b o,b∉ch->s.heap.get? b=some o->h'.get? b=some o)(hf:∀b∈ch,kK X pins H b):aP X pins σ H {s with heap:=h',toks:=t'}:=by
 have nit:∀b u,H b=some u->b∉ch:=fun b u e z=>by rw[(hf b z).1]at e;cases e
 refine I.step (g':=s.gens) (d':=s.drawn) (ch:=ch) (fun b hb=>?_) (fun b o _ _ hc e _=>k b o hc e) (fun b o _ _ hc e _=>⟨o.slots,k b o hc e⟩) (fun _ _ _ _ n=>n)
  (fun b o hc e=>⟨o,k b o hc e⟩) (fun _ _ e=>e) (fun _ _ _ e=>e) (fun b ps e=>⟨#[],by rw[e];simp⟩) (fun m hm=>?_) (fun b u e=>?_) I.bare
 ·obtain⟨f0,f1,f2,f3,f4,f5⟩:=hf b hb;exact⟨f3,f1,f4,f5⟩
 ·obtain⟨o,es,ep,ho,r⟩:=hm;exact⟨o,es,ep,k _ o (fun z=>(hf _ z).2.1 rfl) ho,r⟩
 ·refine (I.hok b u e).stay (fun c v hc q => k c v ?_ q) (fun _ q => q) fun _ _ q => q;rcases hc with z|z
  ·rw[z];exact nit b u e
  ·exact nit c _ z
theorem xk{P:Program}{w:World}{K:W.Frag}{elts:List Expr}{k1:Nat}{pos:Pos}{b:Bool}(a it e:Addr)(hei:e≠it)(hai:a≠it)(hae:a≠e) :
  xg P w K (.Tuple elts k1 pos) (Ir b K a) [e,it] e (fun i h=>(∃old,IsEnum h e it (i:Nat) old)/\qT b h it a i) where
 mem:=by simp
 obj:=fun i h st x hx=>by
  obtain⟨⟨old,he⟩,hi⟩:=st;rcases JN.mp hx with rfl|hx
  ·exact⟨_,he,fun v z=>by cases z⟩
  ·rw[LH.mp hx];exact hi.obj
 keep:=fun i h h' st k=>by
  obtain⟨⟨old,he⟩,hi⟩:=st;exact⟨⟨old,k e (by simp) _ he⟩,hi.keep fun o eo=>k it (by simp) o eo⟩
 item:=by
  intro X hP hw hK hc i pins s σ H E I hf st hg;subst hP hw hK;obtain⟨⟨old,he⟩,hi⟩:=st;obtain⟨xs,x,hq,hx⟩:=hg;obtain⟨its,St,rv,D,d1,d2⟩:=tX I hc hq hai;obtain⟨u,hu,ru⟩:=rv.get hx
  have hlt:i<its.size:=by
   have:=(JR.mp hu).1;simpa using this
  have hef:e ∉ [it,a]:=by
   simp only[JN,LU,LV,not_or];exact⟨hei,JO hae⟩
  obtain⟨f0,f1,f2,f3,f4,f5⟩:=hf e (by simp);obtain⟨g0,g1,g2,g3,g4,g5⟩:=hf it (by simp);have helt:e<s.heap.objs.size:=JB he;have hilt:it<s.heap.objs.size:=by obtain⟨o,eo,_⟩:=hi.obj;exact JB eo
  refine wpAny_pyNext_enum_itemD D he (d1 i hi) hlt hei hef fun y h' tk hy ho hst' ht hsz hk=>?_
  have ey:y=u:=by
   rw[<- Ln,hu]at hy;exact(Jv hy).symm
  subst ey;refine⟨_,rfl,?_⟩;refine wpAny_letOwnedTupleGo_enum (s:={s with heap:=h',toks:=tk+1}) ho fun h2 he2 hs2=>?_;replace hs2:Heap.SameBut e h' h2:=hs2;have hold:∀b o,b≠e->b≠it->s.heap.get? b=some o->h2.get? b=some o:=fun b o h1 h3 q=>(hs2.2 b h1).trans (hk b o h1 h3 q);have ht2:h2.get? s.heap.objs.size=some {cls:=.type "tuple",data:=.seq #[.int i tk,y]}:=(hs2.2 _ (J7 helt)).trans ht;have hqn:H s.heap.objs.size=none:=I.hok.fresh (Kc _)
  have I1:aP X pins σ (bx H s.heap.objs.size (.tup [.int i,x])) {s with heap:=s.heap.push {cls:=.type "tuple",data:=.seq #[.int i tk,y]},toks:=tk}:=by
   refine I.laid (t':=tk) (fun b o eo=>Ka _ eo) (Kc _) ?_;exact⟨by show 2<=sizeLine;decide,[.int i tk,y],.cons ⟨tk,rfl⟩ (.cons ru .nil),_,Kb _ rfl,rfl,0,rfl⟩
  have hne:∀b∈[e,it],b≠s.heap.objs.size:=fun b hb=>by
   rcases JN.mp hb with rfl|hb
   ·exact JE helt
   ·rw[LH.mp hb];exact JE hilt
  have hf':∀b∈[e,it],kK X pins (bx H s.heap.objs.size (.tup [.int i,x])) b:=fun b hb=>by
   obtain⟨k0,k1⟩:=hf b hb;exact⟨by rw[aJ (hne b hb)];exact k0,k1⟩
  have I2:aP X pins σ (bx H s.heap.objs.size (.tup [.int i,x])) {s with heap:=h2,toks:=tk+1}:=by
   refine aP.turns (s:={s with heap:=s.heap.push {cls:=.type "tuple",data:=.seq #[.int i tk,y]},toks:=tk}) I1 (ch:=[e,it]) (t':=tk+1) (fun b o hb eo=>?_) hf';simp only[JN,LU,LV,not_or]at hb;by_cases hbq:b=s.heap.objs.size
   ·subst hbq;have:=(Kb s.heap (o:={cls:=.type "tuple",data:=.seq #[.int i tk,y]}) rfl).symm.trans eo;rw[ht2];exact this
   ·have:s.heap.get? b=some o:=by
     rw[LW _ _ _ hbq]at eo;exact eo
    exact hold b o hb.1 hb.2 this
  refine⟨.ref s.heap.objs.size,_,I2,rfl,⟨_,x,rfl,hqn,rfl,fun ys hy=>by rw[Ew I hy hq];exact hx⟩,⟨⟨y,by simpa using he2⟩,?_⟩,fun b hb=>(hf' b hb).1⟩;refine(d2 (i+1) h' hst').keep fun o eo=>?_;exact(hs2.2 it (JO hei)).trans eo
 done:=by
  intro X hP hw hK hc i pins s σ H E I hf st hg;subst hP hw hK;obtain⟨⟨old,he⟩,hi⟩:=st;obtain⟨xs,hq,hx⟩:=hg;obtain⟨its,St,rv,D,d1,d2⟩:=tX I hc hq hai
  have hil:its.size=i:=by
   have h1:=rv.length;have h2:its.toList.length=its.size:=JX;omega
  subst hil;refine wpAny_pyNext_enum_endD D he (d1 _ hi) fun h' hx=>⟨rfl,?_⟩;refine I.turns (ch:=[e,it]) (t':=s.toks) (fun b o hb eo=>hx b o (fun z=>hb (by rw[z];simp)) eo) hf
 self:=fun _ _ _ _ _ st h=>by
  obtain⟨⟨old,he⟩,hi⟩:=st;exact wpAny_pyIter_enum he h
section
variable{X:Cx}{tg:Expr}
def FY(K:W.Frag)(ta:TA):TI:=fun σ H R=>ta σ H fun vs H1=>∃a b,vs=[.ref a]/\(∃xs,Sq b K H1 a xs)/\R (Ir b K a) H1
theorem Ci {a:Expr}{ta:TA}{p pos tpos:Pos}{elts:List Expr}{k1:Nat} (hg:Gl X "enumerate") (hm:X.mg "enumerate" = none) (ha:PA X [a] ta) (hs:starEach [a] X.env=[(false,eval a X.env)]:=by rfl):PI X (.Tuple elts k1 tpos) (.Call (.Name "enumerate" p) [a] [] pos) (FY X.K ta):=by
 intro pins s σ H R I h;refine Call_ (ky I hg hm (by rfl) (Kd (cT (ha pos pins s σ H _ I h) fun us s1 ⟨vs,H1,I1,r1,q1⟩=>?_) hs rfl));obtain⟨l,b,e,⟨xs,hq⟩,q⟩:=q1;subst e;obtain⟨u,rfl,ru⟩:=dO r1;cases ru
 have fin:∀h',IsEnum h' (s1.heap.objs.size+1) s1.heap.objs.size 0 .none->qT b h' s1.heap.objs.size l 0->l<s1.heap.objs.size->h'.objs.size=s1.heap.objs.size+2->(∀b o,s1.heap.get? b=some o->h'.get? b=some o) ->
   wpAny (model X.prog X.w) X.A (pyIter (.ref (s1.heap.objs.size+1))) (Io X pins σ (.Tuple elts k1 tpos) R) X.xe {s1 with heap:=h'}:=by
  intro h' he hi hl hsz hk;have I2:aP X pins σ H1 {s1 with heap:=h'}:=I1.kept (t':=s1.toks) hk;refine wpAny_pyIter_enum he ?_;refine⟨_,[s1.heap.objs.size+1,s1.heap.objs.size],_,_,H1,rfl,I2,xk (b:=b) l s1.heap.objs.size (s1.heap.objs.size+1) (Nat.succ_ne_self _) (JE hl) (JE (Lz hl)),⟨⟨.none,he⟩,hi⟩,fun b hb=>?_,q⟩;rcases JN.mp hb with rfl|hb
  ·exact I1.fpOk (Li _) (I1.hok.fresh (Li _))
  ·rw[LH.mp hb];exact I1.fpOk (Kc _) (I1.hok.fresh (Kc _))
 cases b with
 |true=>
  obtain⟨its,rv,pl,hz⟩:=I1.list (show eP X.K H1 l xs from hq);have hl:l<s1.heap.objs.size:=by obtain⟨o,eo,_⟩:=pl.isList;exact JB eo
  exact call_enumerate_list pl.isList fun h' he hi hsz hk=>fin h' he hi hl hsz hk
 |false=>
  obtain⟨its,rv,pl,hz⟩:=I1.tuple (show eK X.K H1 l xs from hq);have hl:l<s1.heap.objs.size:=by obtain⟨o,eo,_⟩:=pl;exact JB eo
  exact vM pl fun h' he hi hsz hk=>fin h' he hi hl hsz hk
end
end L2
namespace RS
open PySem
def xa(mask:Nat):Nat->Nat->Nat->List Nat
 |0,_,_=>[]
 |n+1,i,pe=>(List.range (SetTable.runEnd mask i+1-i)).map (i+·)++xa mask n (SetTable.leap mask i pe).1 (SetTable.leap mask i pe).2
def cx(mask:Nat)(h:Int):List Nat:=xa mask (SetTable.turns mask) (SetTable.bits h%(mask+1)) (SetTable.bits h)
def gI(t:SetTable):Nat->SetTable.Probe->List Nat
 |0,_=>[]
 |n+1,p=>p.j::gI t n (t.advance p)
def kQ(mask i pe:Nat)(d:Option Nat):SetTable.Probe:={j:=i,more:=SetTable.runEnd mask i-i,i,perturb:=pe,dummy:=d}
theorem sT(t:SetTable):∀(m n:Nat)(p:SetTable.Probe),p.more=m ->
  gI t (m+1+n) p=(List.range (m+1)).map (p.j+·)++gI t n (kQ t.mask (SetTable.leap t.mask p.i p.perturb).1 (SetTable.leap t.mask p.i p.perturb).2 p.dummy)
 |0,n,p,h=>by
  have e:0+1+n=n+1:=by omega
  rw[e];show p.j::gI t n (t.advance p)=_
  have ea:t.advance p=kQ t.mask (SetTable.leap t.mask p.i p.perturb).1 (SetTable.leap t.mask p.i p.perturb).2 p.dummy:=by
   unfold SetTable.advance;rw[JA (by omega)];rfl
  rw[ea];simp
 |m+1,n,p,h=>by
  have e:m+1+1+n=(m+1+n)+1:=by omega
  rw[e];show p.j::gI t (m+1+n) (t.advance p)=_
  have ea:t.advance p={p with j:=p.j+1,more:=p.more-1}:=by
   unfold SetTable.advance;rw[Jz (by omega)]
  rw[ea,sT t m n {p with j:=p.j+1,more:=p.more-1} (by show p.more-1=m;omega)];rw[LX (n:=m+1),K7,LY];show p.j::((List.range (m+1)).map (p.j+1+·)++_)=(p.j+0)::(List.map _ _)++_;rw[Nat.add_zero];show p.j::(_++_)=p.j::(_++_);congr 2;apply LZ;intro a _;show p.j+1+a=p.j+(a+1);omega
theorem zh(mask i:Nat):i<=SetTable.runEnd mask i/\SetTable.runEnd mask i<=i+9:=by
 unfold SetTable.runEnd;split <;> omega
theorem om(t:SetTable):∀(n i pe:Nat)(d:Option Nat),gI t (xa t.mask n i pe).length (kQ t.mask i pe d)=xa t.mask n i pe
 |0,_,_,_=>rfl
 |n+1,i,pe,d=>by
  have hr:=zh t.mask i;show gI t ((List.range (SetTable.runEnd t.mask i+1-i)).map (i+·)++_).length _=_;rw[KD,KE,L6];have e:SetTable.runEnd t.mask i+1-i=(SetTable.runEnd t.mask i-i)+1:=by omega
  rw[e,sT t (SetTable.runEnd t.mask i-i) _ (kQ t.mask i pe d) rfl];show _++gI t (xa t.mask n (SetTable.leap t.mask i pe).1 (SetTable.leap t.mask i pe).2).length (kQ t.mask (SetTable.leap t.mask i pe).1 (SetTable.leap t.mask i pe).2 d)=_;rw[om t n];show _=(List.range (SetTable.runEnd t.mask i+1-i)).map (i+·)++_;rw[e];rfl
theorem rq(mask:Nat):∀(n i pe:Nat),(xa mask n i pe).length<=10*n
 |0,_,_=>LG _
 |n+1,i,pe=>by
  have hr:=zh mask i;have ih:=rq mask n (SetTable.leap mask i pe).1 (SetTable.leap mask i pe).2;show ((List.range (SetTable.runEnd mask i+1-i)).map (i+·)++_).length<=_;rw[KD,KE,L6];omega
theorem rE(t:SetTable)(hashAt:Nat->Int)(h:Int):∀(pre:List Nat)(j:Nat)(post:List Nat)(fuel:Nat)(p:SetTable.Probe),gI t (pre.length+1+post.length) p=pre++j::post->pre.length<fuel->p.dummy=none ->
  (∀k∈pre,∃i,t.slot k=.live i/\hashAt i≠h) ->
  (t.slot j=.empty->SetTable.probe.go t hashAt h fuel p=some (.empty j none))/\(∀i,t.slot j=.live i->hashAt i=h->∃nx,SetTable.probe.go t hashAt h fuel p=some (.candidate j i nx))
 |[],j,post,0,p,_,hf,_,_=>by simp at hf
 |[],j,post,fuel+1,p,hw,_,hd,_=>by
  have ew:gI t (([]:List Nat).length+1+post.length) p=p.j::gI t post.length (t.advance p):=by
   rw[L7,show 0+1+post.length=post.length+1 from by omega];rfl
  rw[ew,Lo]at hw;have ej:p.j=j:=(L8 hw).1;refine⟨fun he=>?_,fun i hl hh=>?_⟩
  ·show (match t.slot p.j with | .empty=>_ | .dummy=>_ | .live i=>_)=_;rw[ej,he,hd]
  ·refine⟨t.advance p,?_⟩;show (match t.slot p.j with | .empty=>_ | .dummy=>_ | .live i=>_)=_;rw[ej,hl];show (if (hashAt i == h)=true then _ else _)=_;rw[Jz (by simpa using hh)]
 |x::pre,j,post,0,p,_,hf,_,_=>by simp at hf
 |x::pre,j,post,fuel+1,p,hw,hf,hd,hp=>by
  have ew:gI t ((x::pre).length+1+post.length) p=p.j::gI t (pre.length+1+post.length) (t.advance p):=by
   rw[Lx,show pre.length+1+1+post.length=(pre.length+1+post.length)+1 from by omega];rfl
  rw[ew,L9]at hw;have ej:p.j=x:=(L8 hw).1;have er:=(L8 hw).2;obtain⟨i,hl,hne⟩:=hp x JK
  have hda:(t.advance p).dummy=none:=by
   unfold SetTable.advance;split
   ·exact hd
   ·exact hd
  have ih:=rE t hashAt h pre j post fuel (t.advance p) er (by rw[Lx]at hf;omega) hda (fun k hk=>hp k (JL _ hk))
  have eg:SetTable.probe.go t hashAt h (fuel+1) p=SetTable.probe.go t hashAt h fuel (t.advance p):=by
   show (match t.slot p.j with | .empty=>_ | .dummy=>_ | .live i=>_)=_;rw[ej,hl];show (if (hashAt i == h)=true then _ else _)=_;rw[JA (by simpa using hne)]
  rw[eg];exact ih
def A8(xs:List Nat):Prop:=xs.Pairwise (·<·)
theorem oB(xs:Array Nat)(j:Nat):∀(fuel lo hi:Nat),lo<=hi->hi<=xs.size->hi-lo<=fuel->(∀i k,i<k->k<xs.size->xs.getD i j<xs.getD k j)->(∀i,i<lo->xs.getD i j<j)->(∀i,hi<=i->i<xs.size->j<=xs.getD i j) ->
  let b:=SetTable.below.go xs j fuel lo hi
  b<=xs.size/\(∀i,i<b->xs.getD i j<j)/\(∀i,b<=i->i<xs.size->j<=xs.getD i j)
 |0,lo,hi,h1,h2,h3,hr,ha,hb=>by
  have e:lo=hi:=by omega
  subst e;exact⟨h2,ha,hb⟩
 |fuel+1,lo,hi,h1,h2,h3,hr,ha,hb=>by
  by_cases hlt:lo<hi
  ·simp only [SetTable.below.go, hlt, KO];by_cases hc:xs.getD ((lo+hi) / 2) j<j
   ·rw [Jz hc];refine oB xs j fuel _ hi (by omega) h2 (by omega) hr (fun i hi'=>?_) hb;by_cases e:i=(lo+hi) / 2
    ·rw[e];exact hc
    ·have:=hr i ((lo+hi) / 2) (by omega) (by omega);omega
   ·rw [JA hc];refine oB xs j fuel lo _ (by omega) (by omega) (by omega) hr ha (fun i hi' hs=>?_);by_cases e:i=(lo+hi) / 2
    ·rw[e];omega
    ·have:=hr ((lo+hi) / 2) i (by omega) hs;omega
  ·have e : lo = hi := by omega
   subst e;simp only[SetTable.below.go,hlt,KN];exact⟨h2,ha,hb⟩
theorem rB{xs:Array Nat}(h:A8 xs.toList)(j:Nat):∀i k,i<k->k<xs.size->xs.getD i j<xs.getD k j:=fun i k hik hk=>by
 have hi:i<xs.size:=by omega
 have:=List.pairwise_iff_getElem.mp h i k (by simpa using hi) (by simpa using hk) hik;simpa[Array.getD,hi,hk] using this
theorem kE{xs:Array Nat}(h:A8 xs.toList)(j:Nat):SetTable.below xs j<=xs.size/\(∀i,i<SetTable.below xs j->xs.getD i j<j)/\(∀i,SetTable.below xs j<=i->i<xs.size->j<=xs.getD i j):=
 oB xs j xs.size 0 xs.size (LG _) (Kc _) (by omega) (rB h j) (fun i hi=>by omega) (fun i h1 h2=>by omega)
theorem yn{xs:Array Nat}(h:A8 xs.toList){i j:Nat}(e:xs[i]?=some j):SetTable.below xs j=i:=by
 obtain⟨h1,h2,h3⟩:=kE h j
 have hi:i<xs.size:=by
  rcases Ma.mp e with⟨q,_⟩;exact q
 have ei:xs.getD i j=j:=by
  rcases Ma.mp e with⟨q,z⟩
  simp[Array.getD,hi,z]
 by_cases hlt:SetTable.below xs j<i
 ·have a:=h3 (SetTable.below xs j) (Kc _) (by omega);have b:=rB h j (SetTable.below xs j) i hlt hi;omega
 ·by_cases hgt : i < SetTable.below xs j
  ·have:=h2 i hgt;omega
  ·omega
theorem i0{α:Type}(xs:Array α)(p:Nat)(x:α):(SetTable.insertAt xs p x).toList=xs.toList.take p++x::xs.toList.drop p:=by
 unfold SetTable.insertAt;simp[Mb]
theorem iT{α:Type}(p:α->Prop):∀(l:List α),(∃x∈l,p x)->∃pre x post,l=pre++x::post/\p x/\∀y∈pre,¬ p y
 |[],h=>by obtain⟨x,hx,_⟩:=h;simp at hx
 |a::l,h=>by
  by_cases ha:p a
  ·exact⟨[],a,l,rfl,ha,fun y hy=>by simp at hy⟩
  ·obtain ⟨x, hx, px⟩ := h;rcases JN.mp hx with z|z
   ·rw[z]at px;exact absurd px ha
   ·obtain ⟨pre, y, post, e, py, hp⟩ := iT p l ⟨x, z, px⟩;refine⟨a::pre,y,post,by rw[e];rfl,py,fun w hw=>?_⟩;rcases JN.mp hw with q|q
    ·rw[q];exact ha
    ·exact hp w q
structure pT(t:SetTable)(es:Array (Int×Value))(Z:List (Nat×Int×Value)):Prop where
 place:t.place.toList=Z.map (·.1)
 ents:es.toList=Z.map (·.2)
 ris:A8 (Z.map (·.1))
 top:∀z∈Z,z.1<=t.mask
 dum:t.dummies=#[]
 reach:∀z∈Z,∃pre post,cx t.mask z.2.1=pre++z.1::post/\∀k∈pre,k∈Z.map (·.1)
theorem pT.size{t:SetTable}{es:Array (Int×Value)}{Z:List (Nat×Int×Value)}(T:pT t es Z):t.place.size=Z.length/\es.size=Z.length:=by
 have a:=JY List.length T.place;have b:=JY List.length T.ents;simp at a b;exact⟨a,b⟩
theorem pT.fill{t:SetTable}{es:Array (Int×Value)}{Z:List (Nat×Int×Value)}(T:pT t es Z):t.fill=Z.length:=by
 unfold SetTable.fill;rw[T.size.1,T.dum];rfl
theorem qt(j:Nat):SetTable.has #[] j=false:=by
 unfold SetTable.has;simp
theorem pT.slot_empty{t:SetTable}{es:Array (Int×Value)}{Z:List (Nat×Int×Value)}(T:pT t es Z){j:Nat}(h:j∉Z.map (·.1)):t.slot j=.empty:=by
 unfold SetTable.slot
 have hn:¬ (t.place[SetTable.below t.place j]? == some j)=true:=by
  intro e;have e':t.place[SetTable.below t.place j]?=some j:=by simpa using e
  apply h;rw[<- T.place];rw[<- Ln]at e';exact KC e'
 simp only[hn,T.dum,qt];rfl
theorem pT.slot_live{t:SetTable}{es:Array (Int×Value)}{Z:List (Nat×Int×Value)}(T:pT t es Z){i:Nat}{z:Nat×Int×Value}(h:Z[i]?=some z):t.slot z.1=.live i:=by
 have e:t.place[i]?=some z.1:=by
  rw[<- Ln,T.place,KA,h];rfl
 have r:A8 t.place.toList:=by rw[T.place];exact T.ris
 have eb:=yn r e;unfold SetTable.slot;have hc:(t.place[SetTable.below t.place z.1]? == some z.1)=true:=by rw[eb,e];simp
 simp only[hc,KO];rw[eb]
theorem pT.hashAt{t:SetTable}{es:Array (Int×Value)}{Z:List (Nat×Int×Value)}(T:pT t es Z){i:Nat}{z:Nat×Int×Value}(h:Z[i]?=some z):es[i]?=some z.2:=by
 rw[<- Ln,T.ents,KA,h];rfl
theorem iw{α:Type}:∀{l1 l2:List α},l1.Nodup->(∀x∈l1,x∈l2)->l1.length<=l2.length
 |[],_,_,_=>LG _
 |a::r,l2,hn,hs=>by
  obtain⟨s,t,e⟩:=List.append_of_mem (hs a JK);have hn':=Kr.mp hn
  have ih:=iw (l1:=r) (l2:=s++t) hn'.2 (fun x hx=>by
   have hx2:=hs x (JL _ hx);rw[e]at hx2;rcases JP.mp hx2 with q|q
   ·exact JQ _ q
   ·rcases JN.mp q with q | q
    ·rw[q]at hx;exact absurd hx hn'.1
    ·exact Kf _ q)
  rw[e,KD,Lx,Lx];rw[KD]at ih;omega
theorem wk(mask:Nat):∀(n i pe:Nat),i<=mask->∀j∈xa mask n i pe,j<=mask
 |0,_,_,_,j,h=>by simp[xa]at h
 |n+1,i,pe,hi,j,h=>by
  rcases JP.mp h with q|q
  ·obtain ⟨k, hk, e⟩ := Mc.mp q;have hk':=JG.mp hk;have:SetTable.runEnd mask i<=mask:=by unfold SetTable.runEnd;split <;> omega
   have e':i+k=j:=e;omega
  ·refine wk mask n _ _ ?_ j q;show (i*5+1+pe / 32)%(mask+1)<=mask;exact Nat.le_of_lt_succ (Nat.mod_lt _ (Nat.succ_pos mask))
theorem iA{mask:Nat}{h:Int}{j:Nat}(e:j∈cx mask h):j<=mask:=by
 refine wk mask _ _ _ ?_ j e;exact Nat.le_of_lt_succ (Nat.mod_lt _ (Nat.succ_pos mask))
theorem qv{m:Nat}{l:List Nat}(h:l.length<=m):∃j,j<=m/\j∉l:=by
 refine Md fun hn=>?_
 have hall:∀j∈List.range (m+1),j∈l:=fun j hj=>by
  refine Md fun hj'=>hn ⟨j,?_,hj'⟩;have:=JG.mp hj;omega
 have:=iw (Me (n:=m+1)) hall;rw[L6]at this;omega
theorem pT.search{t:SetTable}{es:Array (Int×Value)}{Z:List (Nat×Int×Value)}(T:pT t es Z){h:Int}(cov:∀j,j<=t.mask->j∈cx t.mask h)(hz:Z.length<=t.mask)(hA:Nat->Int)(hAe:∀i z,Z[i]?=some z->hA i=z.2.1) :
  (∃i z nx,Z[i]?=some z/\z.2.1=h/\t.probe hA h (t.probeStart h)=some (.candidate z.1 i nx)) \/
  ((∀z∈Z,z.2.1≠h)/\∃j pre post,t.probe hA h (t.probeStart h)=some (.empty j none)/\j<=t.mask/\j∉Z.map (·.1)/\cx t.mask h=pre++j::post/\∀k∈pre,k∈Z.map (·.1)):=by
 obtain⟨j0,hj0,hn0⟩:=qv (m:=t.mask) (l:=Z.map (·.1)) (by rw[KE];exact hz);obtain⟨pre,j,post,e,hs,hp⟩:=iT (fun j=>j∉Z.map (·.1)\/∃z∈Z,z.1=j/\z.2.1=h) (cx t.mask h) ⟨j0,cov j0 hj0,.inl hn0⟩
 have hw:gI t (pre.length+1+post.length) (t.probeStart h)=pre++j::post:=by
  have q:=om t (SetTable.turns t.mask) (SetTable.bits h%(t.mask+1)) (SetTable.bits h) none
  have el:(xa t.mask (SetTable.turns t.mask) (SetTable.bits h%(t.mask+1)) (SetTable.bits h)).length=pre.length+1+post.length:=by
   show (cx t.mask h).length=_;rw[e,KD,Lx];omega
  rw[el]at q;exact q.trans e
 have hlen:pre.length<10*SetTable.turns t.mask:=by
  have q:=rq t.mask (SetTable.turns t.mask) (SetTable.bits h%(t.mask+1)) (SetTable.bits h)
  have el:(xa t.mask (SetTable.turns t.mask) (SetTable.bits h%(t.mask+1)) (SetTable.bits h)).length=pre.length+1+post.length:=by
   show (cx t.mask h).length=_;rw[e,KD,Lx];omega
  omega
 have occ:∀k∈pre,k∈Z.map (·.1):=fun k hk=>by
  refine Md fun q=>hp k hk (.inl q)
 have hpre:∀k∈pre,∃i,t.slot k=.live i/\hA i≠h:=fun k hk=>by
  obtain⟨z,hzm,ez⟩:=Mc.mp (occ k hk);obtain⟨i,hi⟩:=Mf hzm;refine⟨i,ez ▸ T.slot_live hi,fun q=>hp k hk (.inr ⟨z,hzm,ez,?_⟩)⟩;rw[<- hAe i z hi];exact q
 obtain⟨g1,g2⟩:=rE t hA h pre j post (10*SetTable.turns t.mask) (t.probeStart h) hw hlen rfl hpre;by_cases hany:∃z∈Z,z.2.1=h
 ·obtain ⟨z, hzm, ez⟩ := hany;obtain⟨pz,qz,ezz,hoz⟩:=T.reach z hzm;rw[ez]at ezz
  have hjo:j∈Z.map (·.1):=by
   have e2:pre++j::post=pz++z.1::qz:=by rw[<- e,<- ezz]
   rcases List.append_eq_append_iff.mp e2 with⟨a,h1,h2⟩|⟨c,h1,h2⟩
   ·cases a with
    |nil=>
     simp only[Lo]at h2;rw[(L8 h2).1];exact Mg hzm
    |cons x a=>
     rw[L9]at h2;have:j∈pz:=by rw[h1,(L8 h2).1];simp
     exact hoz j this
   ·cases c with
    |nil=>
     simp only[Lo]at h2;rw[<- (L8 h2).1];exact Mg hzm
    |cons x c=>
     rw[L9]at h2;have:z.1∈pre:=by rw[h1,(L8 h2).1];simp
     exact absurd (.inr ⟨z,hzm,rfl,ez⟩) (hp z.1 this)
  rcases hs with q|⟨z',hz',e1,e2⟩
  ·exact absurd hjo q
  ·obtain⟨i,hi⟩:=Mf hz';obtain⟨nx,en⟩:=g2 i (e1 ▸ T.slot_live hi) (by rw[hAe i z' hi];exact e2);exact .inl ⟨i,z',nx,hi,e2,by rw[e1];exact en⟩
 ·have hno : ∀ z ∈ Z, z.2.1 ≠ h := fun z hz' e' => hany ⟨z, hz', e'⟩;rcases hs with q|⟨z',hz',e1,e2⟩
  ·have hjm:j<=t.mask:=iA (h:=h) (by rw[e];simp);exact .inr ⟨hno,j,pre,post,g1 (T.slot_empty q),hjm,q,e,occ⟩
  ·exact absurd e2 (hno z' hz')
theorem ve{l:List Nat}{j p:Nat}(h:A8 l)(h1:∀x∈l.take p,x<j)(h2:∀x∈l.drop p,j<x):A8 (l.take p++j::l.drop p):=by
 unfold A8 at *;have h':(l.take p++l.drop p).Pairwise (·<·):=by rw[Mh];exact h
 rw[List.pairwise_append]at h'⊢;refine⟨h'.1,Mi.mpr ⟨fun x hx=>h2 x hx,h'.2.1⟩,fun a ha b hb=>?_⟩;rcases JN.mp hb with q|q
 ·rw[q];exact h1 a ha
 ·exact h'.2.2 a ha b q
theorem pT.put{t:SetTable}{es:Array (Int×Value)}{Z:List (Nat×Int×Value)}(T:pT t es Z){j:Nat}{h:Int}{x:Value}{pre post:List Nat}(hj:j<=t.mask)(hn:j∉Z.map (·.1))(e:cx t.mask h=pre++j::post)(hp:∀k∈pre,k∈Z.map (·.1)) :
  ∃Z',pT (t.put j).1 (SetTable.insertAt es (t.put j).2 (h,x)) Z'/\Z'.Perm ((j,h,x)::Z)/\(t.put j).1={t with place:=SetTable.insertAt t.place (SetTable.below t.place j) j}:=by
 have e1:(t.put j).1={t with place:=SetTable.insertAt t.place (SetTable.below t.place j) j}:=by
  unfold SetTable.put;simp only[T.dum,qt];rw[JA J6]
 have e2:(t.put j).2=SetTable.below t.place j:=rfl;have r:A8 t.place.toList:=by rw[T.place];exact T.ris
 obtain⟨b1,b2,b3⟩:=kE r j;generalize hb:SetTable.below t.place j=p at *;refine⟨Z.take p++(j,h,x)::Z.drop p,⟨?_,?_,?_,fun z hz=>?_,by rw[e1];exact T.dum,fun z hz=>?_⟩,?_,e1⟩
 ·rw[e1];show (SetTable.insertAt t.place p j).toList=_;rw[i0,T.place,Mj,K7,Ml,Mm]
 ·rw[e2,i0,T.ents,Mj,K7,Ml,Mm]
 ·rw [Mj, K7, Ml, Mm];have hlen:t.place.size=(Z.map (·.1)).length:=by rw[<- T.place];simp
  refine ve T.ris (fun y hy=>?_) (fun y hy=>?_)
  ·obtain ⟨i, hi⟩ := Mf hy;rw[List.getElem?_take]at hi;split at hi
   ·rename_i hlt;have q:=b2 i hlt;rw[<- T.place,Ln]at hi;simp only[Mn,hi,Mo]at q;exact q
   ·cases hi
  ·obtain⟨i,hi⟩:=Mf hy;rw[List.getElem?_drop]at hi;have hmem:y∈Z.map (·.1):=KC hi;rw[<- T.place,Ln]at hi;have hlt:p+i<t.place.size:=(Ma.mp hi).1;have q:=b3 (p+i) (by omega) hlt;simp only[Mn,hi,Mo]at q;have:y≠j:=fun ey=>hn (ey ▸ hmem);omega
 ·rw [e1];show z.1<=t.mask;rcases JP.mp hz with q|q
  ·exact T.top z (Mp q)
  ·rcases JN.mp q with q | q
   ·rw[q];exact hj
   ·exact T.top z (Mq q)
 ·rw [e1];show ∃pre post,cx t.mask z.2.1=pre++z.1::post/\_
  have sub:∀k∈Z.map (·.1),k∈(Z.take p++(j,h,x)::Z.drop p).map (·.1):=fun k hk=>by
   rw[<- Mh p Z,Mj]at hk;rw[Mj,K7];rcases JP.mp hk with q|q
   ·exact JQ _ q
   ·exact Kf _ (JL _ q)
  have old:∀z∈Z,∃pre post,cx t.mask z.2.1=pre++z.1::post/\∀k∈pre,k∈(Z.take p++(j,h,x)::Z.drop p).map (·.1):=fun z hz=>by
   obtain⟨a,b,c,d⟩:=T.reach z hz;exact⟨a,b,c,fun k hk=>sub k (d k hk)⟩
  rcases JP.mp hz with q|q
  ·exact old z (Mp q)
  ·rcases JN.mp q with q | q
   ·rw[q];exact⟨pre,post,e,fun k hk=>sub k (hp k hk)⟩
   ·exact old z (Mq q)
 ·have q:(Z.take p++(j,h,x)::Z.drop p).Perm ((j,h,x)::(Z.take p++Z.drop p)):=List.perm_middle;rw[Mh]at q;exact q
theorem qw(mask:Nat)(owner:Array (Option Nat)):∀(n i pe:Nat),
  SetTable.layClean.free mask owner n i pe=(xa mask n i pe).find? fun j=>(owner.getD j (some 0)).isNone
 |0,_,_=>rfl
 |n+1,i,pe=>by
  show (match (List.range (SetTable.runEnd mask i+1-i)).find? fun k=>(owner.getD (i+k) (some 0)).isNone with|some k=>_|none=>_)=_;show _=((List.range (SetTable.runEnd mask i+1-i)).map (i+·)++xa mask n (SetTable.leap mask i pe).1 (SetTable.leap mask i pe).2).find? _;rw[List.find?_append,List.find?_map,<- qw mask owner n];have ec:((fun j=>(owner.getD j (some 0)).isNone) ∘ fun x=>i+x)=fun k=>(owner.getD (i+k) (some 0)).isNone:=rfl;rw[ec];cases (List.range (SetTable.runEnd mask i+1-i)).find? fun k=>(owner.getD (i+k) (some 0)).isNone with
  |some k=>rfl
  |none=>rfl
structure DQ(mask:Nat)(hs:List Int)(owner:Array (Option Nat)):Prop where
 size:owner.size=mask+1
 all:∀(i:Nat)(h:Int),hs[i]?=some h->∃j:Nat,j<=mask/\owner[j]?=some (some i)/\∃pre post,cx mask h=pre++j::post/\∀k∈pre,∃i':Nat,owner[k]?=some (some i')
 lt:∀(j i:Nat),owner[j]?=some (some i)->i<hs.length
 inj:∀(j j' i:Nat),owner[j]?=some (some i)->owner[j']?=some (some i)->j=j'
theorem Cs(mask:Nat):DQ mask [] (Array.replicate (mask+1) none):=by
 have hno:∀(j i:Nat),(Array.replicate (mask+1) (none:Option Nat))[j]?≠some (some i):=fun j i e=>by
  rw[Array.getElem?_replicate]at e;split at e <;> cases e
 exact⟨by simp,fun i h e=>by simp at e,fun j i e=>absurd e (hno j i),fun j j' i e=>absurd e (hno j i)⟩
theorem AA{mask:Nat}{hs:List Int}{owner:Array (Option Nat)}(O:DQ mask hs owner)(hl:hs.length<=mask):∃j,j<=mask/\owner[j]?=some none:=by
 refine Md fun hn=>?_
 have hall:∀j,j<=mask->∃i,owner[j]?=some (some i):=fun j hj=>by
  have hs':j<owner.size:=by rw[O.size];omega
  cases e:owner[j]? with
  |none=>rw[Mr]at e;omega
  |some o=>
   cases o with
   |none=>exact absurd ⟨j,hj,e⟩ hn
   |some i=>exact⟨i,rfl⟩
 have key:∀n,n<=mask+1->∃l:List Nat,l.length=n/\l.Nodup/\(∀i∈l,i<hs.length)/\∀i∈l,∃j,j<n/\owner[j]?=some (some i):=by
  intro n
  induction n with
  |zero=>exact fun _=>⟨[],rfl,Ms,fun _ h=>by simp at h,fun _ h=>by simp at h⟩
  |succ n ih=>
   intro hn';obtain⟨l,h1,h2,h3,h4⟩:=ih (by omega);obtain⟨i,hi⟩:=hall n (by omega);refine⟨i::l,by rw[Lx,h1],Kr.mpr ⟨fun hm=>?_,h2⟩,fun x hx=>?_,fun x hx=>?_⟩
   ·obtain⟨j,hj,ej⟩:=h4 i hm;have:=O.inj j n i ej hi;omega
   ·rcases JN.mp hx with q | q
    ·rw[q];exact O.lt n i hi
    ·exact h3 x q
   ·rcases JN.mp hx with q | q
    ·rw[q];exact⟨n,by omega,hi⟩
    ·obtain⟨j,hj,ej⟩:=h4 x q;exact⟨j,by omega,ej⟩
 obtain⟨l,h1,h2,h3,_⟩:=key (mask+1) (Kc _);have:=iw h2 (l2:=List.range hs.length) (fun x hx=>JG.mpr (h3 x hx));rw[L6,h1]at this;omega
theorem Az{mask:Nat}{hs:List Int}{owner:Array (Option Nat)}{h:Int}(O:DQ mask hs owner)(hl:hs.length<=mask)(cov:∀j,j<=mask->j∈cx mask h) :
  ∃j,SetTable.layClean.free mask owner (SetTable.turns mask) (SetTable.bits h%(mask+1)) (SetTable.bits h)=some j/\DQ mask (hs++[h]) (owner.setIfInBounds j (some hs.length)):=by
 obtain⟨j0,hj0,e0⟩:=AA O hl
 have none_iff:∀j,((owner.getD j (some 0)).isNone=true)↔owner[j]?=some none:=fun j=>by
  rw[Mn];cases owner[j]? with
  |none=>simp
  |some o=>cases o <;> simp
 obtain⟨pre,j,post,e,hs',hp⟩:=iT (fun j=>owner[j]?=some none) (cx mask h) ⟨j0,cov j0 hj0,e0⟩;have hjm:j<=mask:=iA (h:=h) (by rw[e];simp);have hjs:j<owner.size:=by rw[O.size];omega
 have hocc:∀k∈pre,∃i',owner[k]?=some (some i'):=fun k hk=>by
  have hkm:k<=mask:=iA (h:=h) (by rw[e];simp[hk]);cases q:owner[k]? with
  |none=>
   rw[Mr,O.size]at q;omega
  |some o=>
   cases o with
   |none=>exact absurd q (hp k hk)
   |some i=>exact⟨i,rfl⟩
 have hset:∀k,(owner.setIfInBounds j (some hs.length))[k]?=if j=k then some (some hs.length) else owner[k]?:=fun k=>by
  rw[Array.getElem?_setIfInBounds];by_cases q:j=k
  ·rw[Jz q,Jz q,Jz hjs]
  ·rw[JA q,JA q]
 have keep:∀k i',owner[k]?=some (some i')->(owner.setIfInBounds j (some hs.length))[k]?=some (some i'):=fun k i' q=>by
  rw[hset,JA]
  ·exact q
  ·intro ej;rw[<- ej,hs']at q;cases q
 refine⟨j,?_,by simp[O.size],fun i h' ei=>?_,fun k i ei=>?_,fun k k' i e1 e2=>?_⟩
 ·rw [qw];show (cx mask h).find? _=some j;rw[e,List.find?_append]
  have e1:pre.find? (fun j=>(owner.getD j (some 0)).isNone)=none:=by
   rw[List.find?_eq_none];intro k hk q;exact hp k hk ((none_iff k).mp q)
  simp only[e1,Option.none_or,List.find?_cons,(none_iff j).mpr hs']
 ·by_cases hi : i < hs.length
  ·rw[Ky hi]at ei;obtain⟨j',a1,a2,pr,po,a3,a4⟩:=O.all i h' ei;exact⟨j',a1,keep j' i a2,pr,po,a3,fun k hk=>(a4 k hk).elim fun i' q=>⟨i',keep k i' q⟩⟩
  ·have hi':i=hs.length:=by
    have:=(JR.mp ei).1;simp at this;omega
   subst hi';rw[Kw (Kc _),Nat.sub_self]at ei;have eh:h=h':=by simpa using ei
   subst eh;exact⟨j,hjm,by rw[hset,Jz rfl],pre,post,e,fun k hk=>(hocc k hk).elim fun i' q=>⟨i',keep k i' q⟩⟩
 ·rw [hset] at ei;rw[KD,Lm];split at ei
  ·cases ei;omega
  ·have:=O.lt k i ei;omega
 ·rw [hset] at e1 e2;split at e1
  ·rename_i q1;cases e1;split at e2
   ·rename_i q2;rw[<- q1,q2]
   ·have:=O.lt k' _ e2;omega
  ·split at e2
   ·cases e2;have:=O.lt k _ e1;omega
   ·exact O.inj k k' i e1 e2
theorem tE{mask:Nat}:∀(hs0 hs1:List Int)(owner:Array (Option Nat)),DQ mask hs0 owner->hs0.length+hs1.length<=mask+1->(∀h∈hs1,∀j,j<=mask->j∈cx mask h) ->
  ∃owner',hs1.foldl (fun(acc:Option (Array (Option Nat)×Nat)) h=>do
   let (owner,k) <- acc
   let j <- SetTable.layClean.free mask owner (SetTable.turns mask) (SetTable.bits h%(mask+1)) (SetTable.bits h)
   pure (owner.setIfInBounds j (some k),k+1)) (some (owner,hs0.length))=some (owner',(hs0++hs1).length)/\DQ mask (hs0++hs1) owner'
 |hs0,[],owner,O,_,_=>⟨owner,by simp,by simpa using O⟩
 |hs0,h::hs1,owner,O,hl,cov=>by
  rw[Lx]at hl;obtain⟨j,ej,O'⟩:=Az (h:=h) O (by omega) (cov h JK);obtain⟨ow,e1,e2⟩:=tE (hs0++[h]) hs1 _ O' (by rw[KD,Lm];omega) (fun x hx=>cov x (JL _ hx));rw[Lj,List.singleton_append]at e1 e2;refine⟨ow,?_,e2⟩;rw[Lk];show List.foldl _ ((SetTable.layClean.free mask owner (SetTable.turns mask) (SetTable.bits h%(mask+1)) (SetTable.bits h)).bind fun j=>some (owner.setIfInBounds j (some hs0.length),hs0.length+1)) hs1=_;rw[ej];show List.foldl _ (some (owner.setIfInBounds j (some hs0.length),hs0.length+1)) hs1=_;rw[KD,Lm]at e1;exact e1
theorem tu{α:Type}:∀l:List α,(List.range l.length).filterMap (fun i=>l[i]?)=l
 |[]=>rfl
 |a::l=>by
  rw[Lx,LX,JJ];show a::List.filterMap _ _=_;rw[KS];show a::List.filterMap (fun i=>l[i]?) _=_;rw[tu l]
theorem CW{mask:Nat}{hs:List Int}(hl:hs.length<=mask+1)(cov:∀h∈hs,∀j,j<=mask->j∈cx mask h):∃owner,SetTable.layClean mask hs.toArray=some owner/\DQ mask hs owner:=by
 obtain⟨ow,e1,e2⟩:=tE [] hs _ (Cs mask) (by rw[L7,Mt];exact hl) cov;refine⟨ow,?_,by simpa using e2⟩;unfold SetTable.layClean;rw[List.foldl_toArray']
 ·show Option.map (·.1) (hs.foldl _ (some (Array.replicate (mask+1) none,([]:List Int).length)))=_;rw[e1];rfl
 ·simp
theorem oH{t:SetTable}{es:Array (Int×Value)}{wanted mask:Nat}(hm:SetTable.sizeAbove wanted-1=mask)(hl:es.size<=mask)(cov:∀e∈es.toList,∀j,j<=mask->j∈cx mask e.1) :
  ∃t' order Z',t.relaid (es.map (·.1)) wanted=some (t',order)/\pT t' (order.filterMap (es[·]?)) Z'/\(Z'.map (·.2)).Perm es.toList/\t'.mask=mask/\t'.led=t.led/\t'.plain=t.plain/\order.toList.Perm (List.range es.size):=by
 have ea:es.map (·.1)=(es.toList.map (·.1)).toArray:=by rw[<- Array.toList_map]
 obtain⟨ow,e1,O⟩:=CW (mask:=mask) (hs:=es.toList.map (·.1)) (by simp;omega) (fun h hh=>by
  obtain⟨e,he,q⟩:=Mc.mp hh
  rw[<- q];exact cov e he)
 let live:List (Nat×Nat):=(List.range (mask+1)).filterMap fun j=>(ow.getD j none).map (j,·)
 have hlive:∀j i,(j,i)∈live↔(j<=mask/\ow[j]?=some (some i)):=fun j i=>by
  simp only[live,Ke,JG];constructor
  ·rintro ⟨k, hk, q⟩
   rw[Mn]at q;cases e:ow[k]? with
   |none=>rw[e]at q;cases q
   |some o=>
    rw[e]at q;cases o with
    |none=>cases q
    |some i'=>
     simp only[Mo,Option.map_some,Option.some.injEq,Prod.mk.injEq]at q;obtain⟨q1,q2⟩:=q;subst q1;subst q2;exact⟨by omega,e⟩
  ·rintro ⟨hj, e⟩
   refine⟨j,by omega,?_⟩;rw[Mn,e];rfl
 have hfst:(live.map (·.1)).Pairwise (·<·):=by
  have gen:∀(l:List Nat),l.Pairwise (·<·)->((l.filterMap fun j=>(ow.getD j none).map (j,·)).map (·.1)).Pairwise (·<·)/\∀x∈((l.filterMap fun j=>(ow.getD j none).map (j,·)).map (·.1)),x∈l:=by
   intro l
   induction l with
   |nil=>intro _;exact⟨List.Pairwise.nil,fun x hx=>by simp at hx⟩
   |cons a l ih=>
    intro hp;obtain⟨h1,h2⟩:=Mi.mp hp;obtain⟨i1,i2⟩:=ih h2;rw[JJ];cases q:(ow.getD a none).map (a,·) with
    |none=>exact⟨i1,fun x hx=>JL _ (i2 x hx)⟩
    |some p=>
     have ep:p.1=a:=by
      cases hq:ow.getD a none with
      |none=>rw[hq]at q;cases q
      |some i=>rw[hq]at q;cases q;rfl
     show (p.1::List.map _ _).Pairwise _/\∀x∈p.1::List.map _ _,x∈a::l;rw[ep]
     exact⟨Mi.mpr ⟨fun x hx=>h1 x (i2 x hx),i1⟩,fun x hx=>by
      rcases JN.mp hx with z|z
      ·rw[z];exact JK
      ·exact JL _ (i2 x z)⟩
  exact(gen _ Mu).1
 have hnd:live.Nodup:=by
  have:=hfst.imp (fun h=>JE h);exact List.Pairwise.of_map (·.1) (fun a b h e=>h (by rw[e])) this
 have hsz:∀j i,(j,i)∈live->i<es.size:=fun j i h=>by
  have:=O.lt j i ((hlive j i).mp h).2;simpa using this
 have hsnd:(live.map (·.2)).Perm (List.range es.size):=by
  refine(List.perm_ext_iff_of_nodup ?_ Me).mpr fun i=>?_
  ·refine List.Pairwise.map _ (fun a b h=>?_) (List.Pairwise.and_mem.mp hnd);obtain⟨ha,hb,hne⟩:=h;intro e;have q1:=((hlive a.1 a.2).mp ha).2;have q2:=((hlive b.1 b.2).mp hb).2;rw[<- e]at q2;exact hne (Prod.ext (O.inj _ _ _ q1 q2) e)
  ·rw [JG, Mc];constructor
   ·rintro⟨p,hp,e⟩;rw[<- e];exact hsz p.1 p.2 hp
   ·intro hi;obtain⟨j,hj,q,_⟩:=O.all i (es[i].1) (by rw[KA,Ln,Mv hi];rfl);exact⟨(j,i),(hlive j i).mpr ⟨hj,q⟩,rfl⟩
 let Z':List (Nat×Int×Value):=live.filterMap fun p=>(es[p.2]?).map fun e=>(p.1,e)
 have hZ1:Z'.map (·.1)=live.map (·.1):=by
  have gen:∀l:List (Nat×Nat),(∀p∈l,p.2<es.size)->(l.filterMap fun p=>(es[p.2]?).map fun e=>(p.1,e)).map (·.1)=l.map (·.1):=by
   intro l
   induction l with
   |nil=>intro _;rfl
   |cons p l ih=>
    intro h;rw[JJ,Mv (h p JK)];show p.1::List.map _ _=p.1::List.map _ _;rw[ih fun q hq=>h q (JL _ hq)]
  exact gen live fun p hp=>hsz p.1 p.2 hp
 have hZ2:Z'.map (·.2)=(live.map (·.2)).filterMap (es[·]?):=by
  have gen:∀l:List (Nat×Nat),(l.filterMap fun p=>(es[p.2]?).map fun e=>(p.1,e)).map (·.2)=(l.map (·.2)).filterMap (es[·]?):=by
   intro l
   induction l with
   |nil=>rfl
   |cons p l ih=>
    rw[JJ,K7,JJ];cases es[p.2]? with
    |none=>exact ih
    |some e=>show e::List.map _ _=e::_;rw[ih]
  exact gen live
 have hes:(List.range es.size).filterMap (es[·]?)=es.toList:=by
  have q:=tu es.toList;rw[JX]at q;simpa only[Ln] using q
 refine⟨{mask,place:=(live.map (·.1)).toArray,dummies:=#[],finger:=t.finger,led:=t.led,moves:=t.movedTo mask,plain:=t.plain},(live.map (·.2)).toArray,Z',?_,⟨?_,?_,?_,fun z hz=>?_,rfl,fun z hz=>?_⟩,?_,rfl,rfl,rfl,hsnd⟩
 ·unfold SetTable.relaid SetTable.laid;rw[hm,ea,e1];rfl
 ·show (live.map (·.1))=_;rw[hZ1]
 ·rw[hZ2];simp
 ·rw[hZ1];exact hfst
 ·have : z.1 ∈ live.map (·.1) := by rw [<- hZ1]; exact Mg hz
  obtain⟨p,hp,q⟩:=Mc.mp this;rw[<- q];exact((hlive p.1 p.2).mp hp).1
 ·obtain⟨p,hp,q⟩:=Ke.mp hz;rw[Mv (hsz p.1 p.2 hp)]at q;have ez:z=(p.1,es[p.2]'(hsz p.1 p.2 hp)):=(Jv q).symm;obtain⟨hj,ho⟩:=(hlive p.1 p.2).mp hp;obtain⟨j,a1,a2,pre,post,a3,a4⟩:=O.all p.2 (es[p.2]'(hsz p.1 p.2 hp)).1 (by rw[KA,Ln,Mv (hsz p.1 p.2 hp)];rfl);have ejp:j=p.1:=O.inj _ _ _ a2 ho;refine⟨pre,post,by rw[ez];rw[ejp]at a3;exact a3,fun k hk=>?_⟩;obtain⟨i',hi'⟩:=a4 k hk;rw[hZ1];have hkm:k<=mask:=iA (h:=(es[p.2]'(hsz p.1 p.2 hp)).1) (by rw[a3];simp[hk]);exact Mc.mpr ⟨(k,i'),(hlive k i').mpr ⟨hkm,hi'⟩,rfl⟩
 ·rw[hZ2,<- hes];exact hsnd.filterMap _
def prs:List (List Int):=((List.range 36).filter fun n=>n / 6<n%6).map fun n=>[((n / 6:Nat):Int),((n%6:Nat):Int)]
def hsh(ks:List Int):Int:=reduceHash (Builtin.Tuple.tupleHashOf (ks.map hashInt))
theorem zx{prog:Program}{w:World}(ks:List Int):tupleKeyHash (intKind prog w) ks=hsh ks:=rfl
def DZ(mask:Nat):Bool:=prs.all fun ks=>(List.range (mask+1)).all fun j=>(cx mask (hsh ks)).contains j
theorem IZ:DZ 7=true:=by decide +kernel
theorem DG:DZ 31=true:=by decide +kernel
theorem HA:(prs.map hsh).Nodup:=by decide +kernel
theorem wz:prs.length=15:=by decide +kernel
theorem uW{mask:Nat}(h:DZ mask=true){ks:List Int}(hk:ks∈prs):∀j,j<=mask->j∈cx mask (hsh ks):=fun j hj=>by
 have a:=Mw.mp h ks hk;have b:=Mw.mp a j (JG.mpr (by omega));simpa using b
theorem FX{l:List (List Int)}(h:(l.map hsh).Nodup){a b:List Int}(ha:a∈l)(hb:b∈l)(e:hsh a=hsh b):a=b:=by
 induction l with
 |nil=>simp at ha
 |cons c l ih=>
  rw[K7]at h;obtain⟨h1,h2⟩:=Kr.mp h;rcases JN.mp ha with qa|qa <;> rcases JN.mp hb with qb|qb
  ·rw[qa,qb]
  ·exact absurd (by rw[<- qa,e];exact Mg qb) h1
  ·exact absurd (by rw[<- qb,<- e];exact Mg qa) h1
  ·exact ih h2 qa qb
theorem C2{a b:List Int}(ha:a∈prs)(hb:b∈prs)(e:hsh a=hsh b):a=b:=FX HA ha hb e
theorem wy{a b:Int}(h1:0<=a)(h2:a<b)(h3:b<6):[a,b]∈prs:=by
 have key:∀x:Nat,x<6->∀y:Nat,y<6->x<y->[(x:Int),(y:Int)]∈prs:=by decide +kernel
 have:=key a.toNat (by omega) b.toNat (by omega) (by omega);rw[Mx h1,Mx (by omega)]at this;exact this
end RS
namespace RS
open PySem PyProof.Rows
abbrev KP:=List Int×Addr
structure dz(w:World)(h:Heap)(a:Addr)(qs:List (Int×Value))(o:Obj)(es:Array (Int×Value))(ep:Nat)(t:SetTable)(Z:List (Nat×Int×Value)):Prop where
 ho:h.get? a=some o
 ex:o.ExactSet
 hd:o.data=.set es ep t
 tab:pT t es Z
 plain:t.plain=true
 led:t.led=!w.params.followText "set-order"
 big:(t.mask=7/\Z.length<=4)\/(t.mask=31/\Z.length<=18)
 perm:(Z.map (·.2)).Perm qs
def uH(p:KP):Int×Value:=(hsh p.1,Value.ref p.2)
def bO(w:World)(h:Heap)(a:Addr)(ps:List KP):Prop:=∃o es ep t Z,dz w h a (ps.map uH) o es ep t Z/\(∀p∈ps,p.1∈prs)/\(ps.map (·.1)).Nodup
theorem dz.len{w:World}{h:Heap}{a:Addr}{ps:List (Int×Value)}{o es ep t Z}(S:dz w h a ps o es ep t Z):Z.length=ps.length:=by
 have:=S.perm.length_eq;simpa using this
theorem jI{ps:List KP}(hk:∀p∈ps,p.1∈prs)(hn:(ps.map (·.1)).Nodup):ps.length<=15:=by
 have:=iw hn (l2:=prs) (fun x hx=>by obtain⟨p,hp,e⟩:=Mc.mp hx;rw[<- e];exact hk p hp);rw[KE,wz]at this;exact this
theorem dz.fits{w:World}{h:Heap}{a:Addr}{ps:List (Int×Value)}{o es ep t Z}(S:dz w h a ps o es ep t Z):t.fits es.size=true:=by
 unfold SetTable.fits;rw[S.tab.fill,S.tab.size.1,S.tab.size.2];rcases S.big with⟨h1,h2⟩|⟨h1,h2⟩ <;> simp[h1] <;> omega
theorem dz.cov{w:World}{h:Heap}{a:Addr}{ps:List (Int×Value)}{o es ep t Z}(S:dz w h a ps o es ep t Z){k:List Int}(hk:k∈prs):∀j,j<=t.mask->j∈cx t.mask (hsh k):=by
 rcases S.big with⟨h1,h2⟩|⟨h1,h2⟩ <;> rw[h1]
 ·exact uW IZ hk
 ·exact uW DG hk
theorem bO.keeps{w:World}{h h':Heap}{a:Addr}{ps:List KP}(S:bO w h a ps)(k:∀o,h.get? a=some o->h'.get? a=some o):bO w h' a ps:=by
 obtain⟨o,es,ep,t,Z,S,hk,hn⟩:=S;exact⟨o,es,ep,t,Z,⟨k o S.ho,S.ex,S.hd,S.tab,S.plain,S.led,S.big,S.perm⟩,hk,hn⟩
section
variable{prog:Program}{w:World}{A:Around}{E:Value->Shared->Prop}{s:Shared}
abbrev Tk(prog:Program)(w:World)(h:Heap)(k:List Int)(r:Addr):Prop:=IsTupleKey (intKind prog w) h k r
theorem items_int{k:List Int}{vs:List Value}(h:ItemsAre (intKind prog w) k vs):∀v∈vs,∃i t,v=.int i t:=by
 induction h with
 |nil=>intro v hv;simp at hv
 | @cons k v' ks vs h1 _ ih=>
  intro v hv;rcases JN.mp hv with q|q
  ·obtain⟨t,e⟩:=Jw (k:=k) (v:=v') h1;exact⟨k,t,by rw[q,e]⟩
  ·exact ih v q
theorem tG{k:List Int}{r:Addr}{Q:Bool->Shared->Prop}(hk:Tk prog w s.heap k r)(h:Q false s):wpAny (model prog w) A (ofAClassStatement 8 (.ref r)) Q E s:=by
 have hT:=hk.typeIs;obtain⟨o,items,n,ho,hc,hd,hi⟩:=hk;unfold ofAClassStatement;refine J1 (K3 hT ?_);dsimp only;simp only[Ls,KO];refine J1 (J8 ?_);simp only[My,Lu,KN];refine J1 (LL ho hd ?_);dsimp only;refine J1 ?_;show wpAny _ _ (forIn items _ _) _ _ s;rw[<- Array.forIn_toList];refine Mz _ (fun rest r s'=>r.1=none/\s'=s/\∀v∈rest,∃i t,v=.int i t) _ ?_ ?_ _ _ ⟨rfl,rfl,items_int hi⟩
 ·rintro v rest r s' ⟨hr, rfl, hall⟩
  obtain⟨i,t,e⟩:=hall v JK;subst e;unfold ofAClassStatement;refine J1 (J8 ?_);simp only[Lu,KN];exact J8 ⟨rfl,rfl,fun u hu'=>hall u (JL _ hu')⟩
 ·rintro ⟨r1, r2⟩ s' ⟨hr, rfl, _⟩
  simp only at hr;subst hr;exact J8 h
theorem pP{k:List Int}{r:Addr}{Q:Bool->Shared->Prop}(hk:Tk prog w s.heap k r)(h:Q true s):wpAny (model prog w) A (hashByValue 8 (.ref r)) Q E s:=by
 have hT:=hk.typeIs;obtain⟨o,items,n,ho,hc,hd,hi⟩:=hk;unfold hashByValue;refine J1 (wpAny_specialOf hT F.slot_tuple_hash.lookup ?_);dsimp only;refine J1 (LL ho hd ?_);refine J1 ?_;show wpAny _ _ (forIn items _ _) _ _ s;rw[<- Array.forIn_toList];refine Mz _ (fun rest r s'=>r.1=none/\s'=s/\∀v∈rest,∃i t,v=.int i t) _ ?_ ?_ _ _ ⟨rfl,rfl,items_int hi⟩
 ·rintro v rest r s' ⟨hr, rfl, hall⟩
  obtain⟨i,t,e⟩:=hall v JK;subst e;unfold hashByValue;refine J1 (J8 ?_);simp only[My,Lu,KN];exact J8 ⟨rfl,rfl,fun u hu'=>hall u (JL _ hu')⟩
 ·rintro ⟨r1, r2⟩ s' ⟨hr, rfl, _⟩
  simp only at hr;subst hr;exact J8 h
theorem AD{k:List Int}{r:Addr}{ys:List Value}{Q:Bool->Shared->Prop}(hk:Tk prog w s.heap k r)(hy:∀y∈ys,∃k' r',y=.ref r'/\Tk prog w s.heap k' r')(h:Q false s):wpAny (model prog w) A (searchCouldBeSeen (.ref r) ys) Q E s:=by
 unfold searchCouldBeSeen;refine J1 ?_;refine Mz _ (fun rest r' s'=>r'.1=none/\s'=s/\∀y∈rest,∃k' r',y=.ref r'/\Tk prog w s.heap k' r') _ ?_ ?_ _ _ ⟨rfl,rfl,hy⟩
 ·rintro v rest q s' ⟨hr, rfl, hall⟩
  obtain⟨k',r',e,hk'⟩:=hall v JK;subst e;have hrest:=fun u hu'=>hall u (JL _ hu');dsimp only;by_cases hv:(r == r' || carriedByValue (Value.ref r)&&carriedByValue (Value.ref r'))=true
  ·rw[Jz hv];exact J8 ⟨rfl,rfl,hrest⟩
  ·rw[JA hv];refine J1 (wpAny_eqIsQuiet_tuple hk ?_);simp only[My,Lu,KN];refine J1 (wpAny_eqIsQuiet_tuple hk' ?_);simp only[My,Lu,KN];refine J1 (tG hk ?_);simp only[Lu,KN];refine J1 (tG hk' ?_);simp only[Lu,KN];exact J8 ⟨rfl,rfl,hrest⟩
 ·rintro ⟨r1, r2⟩ s' ⟨hr, rfl, _⟩
  simp only at hr;subst hr;exact J8 h
end
end RS
namespace RS
open PySem PyProof.Rows
section
variable{prog:Program}{w:World}{A:Around}{E:Value->Shared->Prop}{s:Shared}
theorem zD{h:Heap}{a:Addr}{ps:List KP}{o es ep t Z}(S:dz w h a (ps.map uH) o es ep t Z){z:Nat×Int×Value}(hz:z∈Z):∃p∈ps,z.2=(hsh p.1,Value.ref p.2):=by
 have:z.2∈Z.map (·.2):=Mg hz;obtain⟨p,hp,e⟩:=Mc.mp (S.perm.mem_iff.mp this);exact⟨p,hp,e.symm⟩
theorem Ge{h:Heap}{a:Addr}{ps:List KP}{o es ep t Z}(S:dz w h a (ps.map uH) o es ep t Z){p:KP}(hp:p∈ps):∃z∈Z,z.2=(hsh p.1,Value.ref p.2):=by
 have:uH p∈ps.map uH:=Mg hp;obtain⟨z,hz,e⟩:=Mc.mp (S.perm.mem_iff.mpr this);exact⟨z,hz,e⟩
theorem xi{a r:Addr}{k:List Int}{ps:List KP}{o es ep t Z}{Q:SetFound->Shared->Prop}(S:dz w s.heap a (ps.map uH) o es ep t Z)(hks:∀p∈ps,p.1∈prs)(hk:k∈prs)(hr:Tk prog w s.heap k r)(hps:∀p∈ps,Tk prog w s.heap p.1 p.2)(hu:A.units<cLine)
  (h1:k∈ps.map (·.1)->Q (.there none) s)
  (h2:k∉ps.map (·.1)->∀j pre post,j<=t.mask->j∉Z.map (·.1)->cx t.mask (hsh k)=pre++j::post->(∀x∈pre,x∈Z.map (·.1))->Q (.free j false) s) :
  wpAny (model prog w) A (setSearch a (.ref r) (hsh k) true) Q E s:=by
 have hodd:t.gaveWay=false:=by
  unfold SetTable.gaveWay;rcases S.big with⟨q,_⟩|⟨q,_⟩ <;> rw[q] <;> decide
 have hz:Z.length<=t.mask:=by rcases S.big with⟨q,q2⟩|⟨q,q2⟩ <;> omega
 unfold setSearch setSearchFrom;refine J1 (MC S.ho S.hd S.fits ?_);dsimp only;rw[hodd];simp only[Lu,KN];generalize hpr:SetTable.probe t _ (hsh k) (Option.getD none (t.probeStart (hsh k)))=pr
 have key:∀(hA:Nat->Int) pr,(∀i z,Z[i]?=some z->hA i=z.2.1)->t.probe hA (hsh k) (t.probeStart (hsh k))=pr ->
   (∃i z nx,Z[i]?=some z/\z.2.1=hsh k/\pr=some (.candidate z.1 i nx)) \/
   ((∀z∈Z,z.2.1≠hsh k)/\∃j pre post,pr=some (.empty j none)/\j<=t.mask/\j∉Z.map (·.1)/\cx t.mask (hsh k)=pre++j::post/\∀x∈pre,x∈Z.map (·.1)):=fun hA pr hAe e=>by
  subst e;exact S.tab.search (S.cov hk) hz hA hAe
 rcases key _ pr (fun i z hi=>by show (Option.map (·.1) es[i]?).getD 0=_;rw[S.tab.hashAt hi];rfl) hpr with⟨i,z,nx,hi,ez,e⟩|⟨hno,j,pre,post,e,hj,hn,e2,hp⟩
 ·subst e;dsimp only;have hzm:z∈Z:=KC hi;obtain⟨p,hp,ep'⟩:=zD S hzm;have ek:p.1=k:=C2 (hks p hp) hk (by rw[<- ez,ep']);have hin:k∈ps.map (·.1):=by rw[<- ek];exact Mg hp
  have rest:wpAny (model prog w) A (do
    let some (_,y):=es[i]? | unsupported "internal:set-entry"
    let equal <- holding [y] (eqBool y (.ref r))
    let (es',_,t') <- setState a
    if true&&equal then return SetFound.there none
    let some same:=t'.sameMemory t.moves t.mask|unsupported "set.changed-during-lookup:is-the-new-block-at-the-old-address"
    let still <- match (if same then t'.slot z.1 else .empty) with
     |.live i'=>match es'[i']? with
      |some (_,y')=>do pure (if <- isSame y' y then some i' else none)
      |none=>pure none
     |_=>pure none
    match still with
    |none=>rule "set.search.anew";setSearchFrom a (.ref r) (hsh k) true 99999 none
    |some i'=>if equal then return .there (some i') else setSearchFrom a (.ref r) (hsh k) true 99999 (some nx)) Q E s:=by
   rw[S.tab.hashAt hi,ep'];dsimp only;refine J1 (J2 (wpAny_eqBool_tuple hu (hps p hp) hr ?_));refine J1 (MC S.ho S.hd S.fits ?_);dsimp only;rw[ek,Lp rfl];simp only[MD,KO];exact J8 (h1 hin)
  by_cases hl:(!t.led)=true
  ·rw [Jz hl];refine J1 (AD hr (fun y hy=>?_) ?_)
   ·obtain ⟨e', he', q⟩ := Mc.mp hy
    have he2:e'∈es.toList:=by
     have:=Array.mem_filter.mp (Kj.mp he');exact Kj.mpr this.1
    rw[S.tab.ents]at he2;obtain⟨z',hz',q2⟩:=Mc.mp he2;obtain⟨p',hp',q3⟩:=zD S hz';exact⟨p'.1,p'.2,by rw[<- q,<- q2,q3],hps p' hp'⟩
   ·simp only[Lu,KN];exact rest
  ·rw[JA hl];exact rest
 ·subst e;dsimp only;refine J8 (h2 (fun hin=>?_) j pre post hj hn e2 hp);obtain⟨p,hpm,ek⟩:=Mc.mp hin;obtain⟨z,hzm,ez⟩:=Ge S hpm;exact hno z hzm (by rw[ez,<- ek])
end
end RS
namespace RS
open PySem PyProof.Rows
def gH(ps:List KP)(k:List Int)(r:Addr):List KP:=if k∈ps.map (·.1) then ps else ps++[(k,r)]
section
variable{prog:Program}{w:World}{A:Around}{E:Value->Shared->Prop}{s:Shared}
theorem zc{a r:Addr}{k:List Int}{ps:List KP}{Q:Bool->Shared->Prop}(S:bO w s.heap a ps)(hk:k∈prs)(hr:Tk prog w s.heap k r)(hps:∀p∈ps,Tk prog w s.heap p.1 p.2)(hu:A.units<cLine)
  (h:∀b h',Heap.SameBut a s.heap h'->bO w h' a (gH ps k r)->Q b {s with heap:=h'}):wpAny (model prog w) A (setAddHashed a (.ref r) (hsh k)) Q E s:=by
 obtain⟨o,es,ep,t,Z,S,hk0,hn0⟩:=S;unfold setAddHashed setAddHashedIn;refine J2 (J1 (MC S.ho S.hd S.fits ?_));dsimp only;have hsc:byScan (Value.ref r) es=false:=rfl;rw[hsc];simp only[Lu,KN];refine J1 (xi S hk0 hk hr hps hu (fun hin=>?_) fun hin j pre post hj hn e hp=>?_)
 ·dsimp only;refine J8 ?_;have q:=h false s.heap (Heap.SameBut.refl a s.heap) (by unfold gH;rw[Jz hin];exact⟨o,es,ep,t,Z,S,hk0,hn0⟩);cases s;exact q
 ·dsimp only;refine J1 (MC S.ho S.hd S.fits ?_);dsimp only;obtain⟨Z',T',hperm,et⟩:=S.tab.put (x:=Value.ref r) hj hn e hp;have e2:(t.put j).2=SetTable.below t.place j:=rfl;have hpl:(t.put j).1.plain=true:=by rw[et];exact S.plain
  have hled:(t.put j).1.led=t.led:=by rw[et]
  have hmask:(t.put j).1.mask=t.mask:=by rw[et]
  have hperm':(Z'.map (·.2)).Perm ((ps++[(k,r)]).map uH):=by
   have q1:=hperm.map (·.2);refine q1.trans ?_;rw[K7,Mj];refine List.Perm.trans (List.Perm.cons _ S.perm) ?_;exact(List.perm_append_singleton _ _).symm
  have hkeys:∀p∈ps++[(k,r)],p.1∈prs:=fun p hp'=>by
   rcases JP.mp hp' with q|q
   ·exact hk0 p q
   ·rw[LH]at q;rw[q];exact hk
  have hnd:((ps++[(k,r)]).map (·.1)).Nodup:=by
   rw[Mj];refine MF.mpr ⟨hn0,by simp,fun x hx y hy=>?_⟩;simp at hy;rw[hy];rintro rfl;exact hin hx
  have hlen15:=jI hkeys hnd;have hZ':Z'.length=ps.length+1:=by rw[hperm.length_eq,Lx,S.len,KE]
  have hesz:(SetTable.insertAt es (t.put j).2 (hsh k,Value.ref r)).size=Z'.length:=T'.size.2;have hadd:gH ps k r=ps++[(k,r)]:=by unfold gH;rw[JA hin]
  rw[hadd]at h;rw[KD,Lm]at hlen15;generalize ht1:(t.put j).1=t1 at *;generalize hes1:SetTable.insertAt es (t.put j).2 (hsh k,Value.ref r)=es1 at *;have hline:es1.size<=sizeLine:=by rw[hesz,hZ'];exact JH hlen15 (by decide)
  rw[hpl];simp only[KO];refine J1 (pP hr ?_);simp only[KO];refine J1 (MH S.ho S.hd ?_ hline)
  have hg:(s.heap.update a (Obj.putSet es1 t1)).get? a=some {o with data:=.set es1 (ep+1) t1}:=by
   have:=La (Obj.putSet es1 t1) S.ho (by rw[MJ es1 t1 S.hd];rfl);rw[MJ es1 t1 S.hd]at this;exact this
  have hsb1:=LN s.heap a (Obj.putSet es1 t1);have hfill:t1.fill=ps.length+1:=by rw[T'.fill,hZ']
  by_cases hfull:t1.tooFull=true
  ·simp only [hfull, MK, MD, KO]
   have hm7:t.mask=7/\ps.length=4:=by
    unfold SetTable.tooFull at hfull;rw[hfill,hmask]at hfull;have hf:(ps.length+1)*5 ≥ t.mask*3:=by simpa using hfull
    have hl:=S.len;rw[KE]at hl;rcases S.big with⟨q,q2⟩|⟨q,q2⟩
    ·rw[q]at hf;exact⟨q,by omega⟩
    ·rw[q]at hf;omega
   have hes0:es.size=4:=by rw[S.tab.size.2,S.len,KE,hm7.2]
   have hsz1:es1.size=5:=by rw[hesz,hZ',hm7.2]
   have hgr:SetTable.grown (es.size+1)=20:=by rw[hes0];rfl
   rw[hgr];unfold setRelay
   have hfits1:t1.fits es1.size=true:=by
    unfold SetTable.fits;rw[T'.fill,T'.size.1,hesz,hmask,hm7.1,hZ',hm7.2];rfl
   refine J1 (J1 (MC hg rfl hfits1 ?_));dsimp only;rw[JA (by decide)]
   obtain⟨t2,order,Z2,er,T2,hp2,hm2,hl2,hpl2,_⟩:=oH (t:=t1) (es:=es1) (wanted:=20) (mask:=31) (by rfl) (by rw[hsz1];decide) (fun e' he'=>by
    rw[T'.ents]at he';obtain⟨p,hp',q⟩:=Mc.mp (hperm'.mem_iff.mp he');rw[<- q]
    exact uW DG (hkeys p hp'))
   rw[er]
   have hZ2:Z2.length=5:=by
    have:=hp2.length_eq;simp at this;omega
   have hes2:(order.filterMap (es1[·]?)).size=5:=by rw[T2.size.2,hZ2]
   have hne:((order.filterMap (es1[·]?)).size != es1.size)=false:=by rw[hes2,hsz1];rfl
   refine J1 ?_;show wpAny _ A (if ((order.filterMap (es1[·]?)).size != es1.size)=true then _ else _) _ _ _;rw[hne];simp only[Lu,KN];refine J8 ?_;refine MH hg rfl ?_ (by rw[hes2];decide)
   have hg2:((s.heap.update a (Obj.putSet es1 t1)).update a (Obj.putSet (order.filterMap (es1[·]?)) t2)).get? a=some {o with data:=.set (order.filterMap (es1[·]?)) (ep+1+1) t2}:=by
    have:=La (Obj.putSet (order.filterMap (es1[·]?)) t2) hg (by rw[MJ _ t2 rfl];rfl);rw[MJ _ t2 rfl]at this;exact this
   refine J8 ?_;refine h true _ (hsb1.trans (LN _ a _)) ⟨_,_,_,t2,Z2,⟨hg2,S.ex,rfl,T2,by rw[hpl2];exact hpl,by rw[hl2,hled];exact S.led,.inr ⟨hm2,by omega⟩,?_⟩,hkeys,hnd⟩;refine hp2.trans ?_;rw[T'.ents];exact hperm'
  ·have hf : t1.tooFull = false := by simpa using hfull
   simp only[hf,Bool.and_false,Lu,KN];refine J8 ?_;refine h true _ hsb1 ⟨_,_,_,t1,Z',⟨hg,S.ex,rfl,T',hpl,by rw[hled];exact S.led,?_,hperm'⟩,hkeys,hnd⟩;unfold SetTable.tooFull at hf;rw[hfill,hmask]at hf;have hf':¬ ((ps.length+1)*5 ≥ t.mask*3):=by simpa using hf
   rw[hmask,hZ'];rcases S.big with⟨q,q2⟩|⟨q,q2⟩
   ·rw[q]at hf'⊢;exact .inl ⟨rfl,by omega⟩
   ·rw[q]at hf'⊢;exact .inr ⟨rfl,by omega⟩
end
def eA(qs:List KP):List KP:=qs.foldl (fun ps p=>gH ps p.1 p.2) []
theorem uw(qs:List KP)(p:KP):eA (qs++[p])=gH (eA qs) p.1 p.2:=by unfold eA;rw[ML];rfl
theorem oC{ps:List KP}{k:List Int}{r:Addr}{p:KP}(h:p∈gH ps k r):p∈ps\/p=(k,r):=by
 unfold gH at h;split at h
 ·exact .inl h
 ·rcases JP.mp h with q | q
  ·exact .inl q
  ·exact .inr (LH.mp q)
theorem mY:∀{qs ps:List KP}{p:KP},p∈qs.foldl (fun ps p=>gH ps p.1 p.2) ps->p∈ps\/p∈qs
 |[],_,_,h=>.inl h
 |q::qs,ps,p,h=>by
  rw[Lk]at h;rcases mY h with z|z
  ·rcases oC z with z | z
   ·exact .inl z
   ·exact .inr (by rw[z];exact JK)
  ·exact .inr (JL _ z)
theorem kF{qs:List KP}{p:KP}(h:p∈eA qs):p∈qs:=(mY h).elim (fun z=>by simp at z) id
theorem oS{ps:List KP}{k:List Int}{r:Addr}(h:(ps.map (·.1)).Nodup):((gH ps k r).map (·.1)).Nodup:=by
 unfold gH;split
 ·exact h
 ·rename_i hn;rw[Mj];refine MF.mpr ⟨h,by simp,fun x hx y hy=>?_⟩;simp at hy;rw[hy];rintro rfl;exact hn hx
theorem j8:∀{qs ps:List KP},(ps.map (·.1)).Nodup->((qs.foldl (fun ps p=>gH ps p.1 p.2) ps).map (·.1)).Nodup
 |[],_,h=>h
 |q::qs,ps,h=>by rw[Lk];exact j8 (oS h)
theorem sd{qs:List KP}:((eA qs).map (·.1)).Nodup:=j8 (ps:=[]) Ms
def j5 (w:World):Bool:=!w.params.followText "set-order"
theorem jx {w:World}{h:Heap}{a:Addr} (e:h.get? a=some {cls:=.type "set",dict:=none,data:=.set #[] 0 (.fresh 0 0 (j5 w))}):bO w h a []:=
 ⟨_,_,_,_,[],⟨e,⟨rfl,rfl,rfl⟩,rfl,⟨rfl,rfl,List.Pairwise.nil,fun z hz=>by simp at hz,rfl,fun z hz=>by simp at hz⟩,rfl,rfl,.inl ⟨rfl,by decide⟩,List.Perm.nil⟩,fun p hp=>by simp at hp,Ms⟩
section
variable{prog:Program}{w:World}{A:Around}{R:Result->Shared->Prop}{I:Addr}{fp wr:List Addr}{G:Array GenState->Array GenState->Prop}{P:Nat->Value->Prop}{St:Nat->Shared->Prop}
structure yG(prog:Program)(w:World)(u:Nat)(S:Addr)(vs:List Value)(J:Nat->Heap->Prop):Prop where
 keep:∀i h h',(∀b o,b<=S->h.get? b=some o->h'.get? b=some o)->J i h->J i h'
 add:∀(A:Around)(i:Nat)(v:Value)(s:Shared)(E:Value->Shared->Prop)(Q:Bool->Shared->Prop),A.units<=u->vs[i]?=some v->J i s.heap ->
  (∀b h' tk,s.toks<=tk->Heap.SameBut S s.heap h'->J (i+1) h'->Q b {s with heap:=h',toks:=tk})->wpAny (model prog w) A (setAdd S v) Q E s
theorem tK{u:Nat}{vs:List Value}{J:Nat->Heap->Prop}(W:WalksS prog w A.in1 I fp wr G vs.length P St)(S:Addr)(hSf:S∉fp)(hwr:∀b∈wr,S<b)(hP:∀(i:Nat) v,P i v->vs[i]?=some v)(hJ:yG prog w u S vs J)(hu:A.units+1<=u) :
  ∀(k i:Nat)(s:Shared),vs.length-i=k->i<=vs.length->St i s->J i s.heap ->
   (∀s',Moved (S::wr) G s s'->J vs.length s'.heap->R (.ok (.ret .none)) s') ->
   codeAny (model prog w) A (.builtin "set.update.loop" ⟨[.ref S,.ref I],[]⟩) R s:=by
 have hSw:S∉wr:=fun h=>hSf (W.sub _ h);have hsub:∀b∈wr,b∈S::wr:=fun b hb=>JL _ hb;have hle:∀b,b<=S->b∉wr:=fun b hb z=>JD _ (JC (hwr b z) hb);intro k
 induction k with
 |zero=>
  intro i s ek hi hst hS hR;have hin:i=vs.length:=by omega
  subst hin;refine MM F.entry_set_update_loop ?_;rw[MN MP _];show wpAny _ A.in1 (pyNext (.ref I) >>= _) _ _ s;refine J1 (W.done s _ _ hst fun s' hm=>?_);show wpAny _ A.in1 (ret Value.none) _ _ s';exact J8 (hR s' (hm.mono hsub) (hJ.keep _ _ _ (fun b o hb e=>hm.heap b o (hle b hb) e) hS))
 |succ k ih=>
  intro i s ek hi hst hS hR;have hlt:i<vs.length:=by omega
  refine MM F.entry_set_update_loop ?_;rw[MN MP _];show wpAny _ A.in1 (pyNext (.ref I) >>= _) _ _ s;refine J1 (W.item i s _ _ hlt hst fun v s' hPv hst' hm=>?_);have hv:=hP i v hPv;have hS':=hJ.keep i _ s'.heap (fun b o hb e=>hm.heap b o (hle b hb) e) hS;show wpAny _ A.in1 (holding [v] (setAdd S v) >>= _) _ _ s';refine J1 (J2 ?_);refine hJ.add A.in1 i v s' _ _ (by show A.units+1<=u;exact hu) hv hS' fun b h' tk ht hsb hS2=>?_;have hkeep:∀b o,b≠S->s'.heap.get? b=some o->h'.get? b=some o:=fun b o hb e=>(hsb.2 b hb).trans e;refine J8 ⟨plainId_quiet MP _,ih (i+1) _ (by omega) hlt (W.frame _ s' _ _ hst' ht fun b hb o e=>hkeep b o (fun z=>hSf (by rw[<- z];exact hb)) e) hS2 fun s'' hm'' hS''=>?_⟩;refine hR s'' (Moved.trans W.gtrans ((hm.mono hsub).then_heap ht fun b o hb e=>?_) hm'') hS'';exact hkeep b o (fun z=>hb (by rw[z];exact JK)) e
end
section
variable{prog:Program}{w:World}{A:Around}{E:Value->Shared->Prop}{s:Shared}
theorem lB(a:Value){Q1:Value->Shared->Prop}
  (h:Q1 (.ref s.heap.objs.size) {s with heap:=s.heap.push {cls:=.type "set",dict:=none,data:=.set #[] 0 (.fresh 0 0 (j5 w))}}) :
  codeAny (model prog w) A (.call (.builtin "set.__new__") ⟨[.type "set",a],[]⟩) (wants Q1 E) s:=by
 refine LC ?_;show wpAny _ A.in1 (do checkBuiltinCall "set.__new__" ⟨[.type "set",a],[]⟩;again (.builtin "set.__new__" ⟨[.type "set",a],[]⟩)) _ _ s;refine J1 (LR (F.newCall_set_1 a) (J8 ⟨plainId_quiet F.plain_set_new _,MM F.entry_set_new ?_⟩));rw[MN F.plain_set_new _];unfold Builtin.«set.__new__» Builtin.Frozenset.newClass;have hsub:=sub_set_self;obtain⟨hp,g,d,tk,os⟩:=s;dsimp only
 wp_walk
 refine LD (J8 ?_);dsimp only;simp only[newObj];refine J1 (wpAny_alloc (J8 ?_));exact J8 h
namespace F
theorem sub_list_set:isSubtype (.type "list") (.type "set")=pure false:=by rw[MQ];kernel_rfl
theorem sub_list_frozenset:isSubtype (.type "list") (.type "frozenset")=pure false:=by rw[MQ];kernel_rfl
end F
theorem lu{l:Addr}{items:Array Value}{J:Nat->Heap->Prop}{Q:Value->Shared->Prop}
  (hh:A.handled=none) (hl:s.heap.IsList l items) (hJ:yG prog w (A.units+20) s.heap.objs.size items.toList J)
  (h0:∀h',(∀b o,s.heap.get? b=some o->h'.get? b=some o)->h'.get? s.heap.objs.size=some {cls:=.type "set",dict:=none,data:=.set #[] 0 (.fresh 0 0 (j5 w))}->J 0 h')
  (h:∀(h':Heap)(tk:Nat),J items.size h'->(∀b o,b<s.heap.objs.size->s.heap.get? b=some o->h'.get? b=some o)->Q (.ref s.heap.objs.size) {s with heap:=h',toks:=tk}) :
  wpAny (model prog w) A (call (.type "set") [.ref l]) Q E s:=by
 obtain⟨c,tl,hmro⟩:=MR.mro;have hmade:=MR.made;have hsub:=MR.sub;refine Kl (LC ?_);show wpAny _ _ (callAny (.type "set") _) _ _ _;refine J8 ⟨MU _ (by decide +kernel),MM PySem.F.entry_type_call ?_⟩;rw[Around.under_plain (weight_type_call_type "set" [.ref l] []) rfl];have h1:=MR.notType;have h2:=MR.canCreate;have hct:=PySem.F.typeCall_set_1 (.ref l)
 repeat (any_goals (first|assumption|wp_step))
 refine Km (lB (.ref l) (E:=E) (Q1:=fun obj s1=>obj=.ref s.heap.objs.size/\s1={s with heap:=s.heap.push {cls:=.type "set",dict:=none,data:=.set #[] 0 (.fresh 0 0 (j5 w))}}) ⟨rfl,rfl⟩) fun r s1 hr=>?_;cases r with
 |error e=>exact hr
 |ok fl=>
  cases fl with
  |ret obj=>
   obtain⟨rfl,rfl⟩:=hr;generalize hled:j5 w=led;have hS:(s.heap.push {cls:=.type "set",dict:=none,data:=.set #[] 0 (.fresh 0 0 led)}).get? s.heap.objs.size=some {cls:=.type "set",dict:=none,data:=.set #[] 0 (.fresh 0 0 led)}:=Kb _ rfl;have hTy:Shared.TypeIs {s with heap:=s.heap.push {cls:=.type "set",dict:=none,data:=.set #[] 0 (.fresh 0 0 led)}} (.ref s.heap.objs.size) "set" := ⟨_,hS,rfl⟩;have hli:=MR.init.lookup;have hbi:=MR.init.bind (.ref s.heap.objs.size)
   repeat (any_goals (first|assumption|wp_step))
   refine Km (MV (R:=wants (fun r s2=>r=.none/\∃h' tk,s2={s with heap:=h',toks:=tk}/\J items.size h' /\
     (∀b o,b<s.heap.objs.size->s.heap.get? b=some o->h'.get? b=some o)) E) MR.init.plain PySem.F.entry_set_init (check_set_init_1 hTy ?_)) fun r2 s2 hr2=>?_
   ·obtain ⟨ol, hol, hcl, nl, hdl⟩ := hl;obtain⟨ocls,odict,odata,oslots⟩:=ol;simp only at hcl hdl;subst hcl;subst hdl;have hol':(s.heap.push {cls:=.type "set",dict:=none,data:=.set #[] 0 (.fresh 0 0 led)}).get? l=some {cls:=.type "list",dict:=odict,data:=.seq items nl,slots:=oslots}:=Ka _ hol;have hsls:=F.sub_list_set;have hslf:=F.sub_list_frozenset;have hne:(Value.type "list" == Value.type "dict")=false:=by decide
    have hl1:(s.heap.push {cls:=.type "set",dict:=none,data:=.set #[] 0 (.fresh 0 0 led)}).IsList l items:=⟨_,hol',rfl,nl,rfl⟩;unfold Builtin.«set.__init__» noKeywords Builtin.Frozenset.updateFrom;generalize hPI:pyIter=PI
    wp_walk
    subst hPI;refine MW hl1 ?_;refine J1 (MX ?_);have hlS:l<s.heap.objs.size:=JB hol;have hh3:A.in1.in1.in1.handled=none:=by simp[hh]
    have hneI:l≠(s.heap.push {cls:=.type "set",dict:=none,data:=.set #[] 0 (.fresh 0 0 led)}).objs.size:=by
     rw[LA];exact JE (Lz hlS)
    have hSf:s.heap.objs.size ∉ [(s.heap.push {cls:=.type "set",dict:=none,data:=.set #[] 0 (.fresh 0 0 led)}).objs.size,l]:=by
     rw[LA];simp only[JN,LH,LU,LV,not_or];exact⟨JE (Ly _),J7 hlS⟩
    have W:=(Walks.list (prog:=prog) (w:=w) hh3 (s.heap.push {cls:=.type "set",dict:=none,data:=.set #[] 0 (.fresh 0 0 led)}).objs.size l hneI items).toS;rw[show items.size=items.toList.length by rw[JX]]at W
    refine tK W s.heap.objs.size hSf (fun b hb=>?_) (fun i v hv=>by rw[Ln];exact hv) hJ (by simp only[Around.in1];omega) (items.toList.length-0) 0 _ (by omega) (LG _)
     ⟨⟨_,Kb _ rfl,rfl,rfl⟩,?hL⟩ ?hS0 ?hR
    case hL=>
     obtain⟨o,ho,rest⟩:=hl1;exact⟨o,Ka _ ho,rest⟩
    case hS0=>
     refine h0 _ (fun b o e=>Ka _ (Ka _ e)) ?_;rw[hled];exact Ka _ hS
    case hR=>
     intro s' hm hS';obtain⟨h',g',d',tk',os'⟩:=s';have eg:g'=s.gens:=hm.gens;have ed:d'=s.drawn:=hm.drawn;have eo:os'=s.os:=hm.os;subst eg;subst ed;subst eo;show wpAny _ _ _ _ _ _;refine J8 ?_;show wpAny _ _ (ret Value.none) _ _ _;refine J8 ⟨rfl,h',tk',rfl,by rw[JX]at hS';exact hS',fun b o hb e=>?_⟩;have hb1:b≠s.heap.objs.size:=JE hb
     have hb2:b≠(s.heap.push {cls:=.type "set",dict:=none,data:=.set #[] 0 (.fresh 0 0 led)}).objs.size:=by
      rw[LA];exact JE (Lz hb)
     exact hm.heap b o (by simp only[JN,LH,LU,LV,not_or];exact⟨hb1,hb2⟩) (Ka _ (Ka _ e))
    ·rw[LA]at hb;rw[LH.mp hb];exact Ly _
   ·cases r2 with
    |error e=>exact hr2
    |ok fl2=>
     cases fl2 with
     |ret r=>
      obtain⟨rfl,h',tk,rfl,hS',hk'⟩:=hr2
      repeat (any_goals (first|assumption|wp_step))
      exact h _ _ hS' hk'
     |_=>exact hr2.elim
  |_=>exact hr.elim
namespace F
theorem sub_tuple_set:isSubtype (.type "tuple") (.type "set")=pure false:=by rw[MQ];kernel_rfl
theorem sub_tuple_frozenset:isSubtype (.type "tuple") (.type "frozenset")=pure false:=by rw[MQ];kernel_rfl
end F
theorem j6{l:Addr}{items:Array Value}{J:Nat->Heap->Prop}{Q:Value->Shared->Prop}
  (hh:A.handled=none) (hl:s.heap.IsTuple l items) (hJ:yG prog w (A.units+20) s.heap.objs.size items.toList J)
  (h0:∀h',(∀b o,s.heap.get? b=some o->h'.get? b=some o)->h'.get? s.heap.objs.size=some {cls:=.type "set",dict:=none,data:=.set #[] 0 (.fresh 0 0 (j5 w))}->J 0 h')
  (h:∀(h':Heap)(tk:Nat),J items.size h'->(∀b o,b<s.heap.objs.size->s.heap.get? b=some o->h'.get? b=some o)->Q (.ref s.heap.objs.size) {s with heap:=h',toks:=tk}) :
  wpAny (model prog w) A (call (.type "set") [.ref l]) Q E s:=by
 obtain⟨c,tl,hmro⟩:=MR.mro;have hmade:=MR.made;have hsub:=MR.sub;refine Kl (LC ?_);show wpAny _ _ (callAny (.type "set") _) _ _ _;refine J8 ⟨MU _ (by decide +kernel),MM PySem.F.entry_type_call ?_⟩;rw[Around.under_plain (weight_type_call_type "set" [.ref l] []) rfl];have h1:=MR.notType;have h2:=MR.canCreate;have hct:=PySem.F.typeCall_set_1 (.ref l)
 repeat (any_goals (first|assumption|wp_step))
 refine Km (lB (.ref l) (E:=E) (Q1:=fun obj s1=>obj=.ref s.heap.objs.size/\s1={s with heap:=s.heap.push {cls:=.type "set",dict:=none,data:=.set #[] 0 (.fresh 0 0 (j5 w))}}) ⟨rfl,rfl⟩) fun r s1 hr=>?_;cases r with
 |error e=>exact hr
 |ok fl=>
  cases fl with
  |ret obj=>
   obtain⟨rfl,rfl⟩:=hr;generalize hled:j5 w=led;have hS:(s.heap.push {cls:=.type "set",dict:=none,data:=.set #[] 0 (.fresh 0 0 led)}).get? s.heap.objs.size=some {cls:=.type "set",dict:=none,data:=.set #[] 0 (.fresh 0 0 led)}:=Kb _ rfl;have hTy:Shared.TypeIs {s with heap:=s.heap.push {cls:=.type "set",dict:=none,data:=.set #[] 0 (.fresh 0 0 led)}} (.ref s.heap.objs.size) "set" := ⟨_,hS,rfl⟩;have hli:=MR.init.lookup;have hbi:=MR.init.bind (.ref s.heap.objs.size)
   repeat (any_goals (first|assumption|wp_step))
   refine Km (MV (R:=wants (fun r s2=>r=.none/\∃h' tk,s2={s with heap:=h',toks:=tk}/\J items.size h' /\
     (∀b o,b<s.heap.objs.size->s.heap.get? b=some o->h'.get? b=some o)) E) MR.init.plain PySem.F.entry_set_init (check_set_init_1 hTy ?_)) fun r2 s2 hr2=>?_
   ·obtain ⟨ol, hol, hcl, nl, hdl⟩ := hl;obtain⟨ocls,odict,odata,oslots⟩:=ol;simp only at hcl hdl;subst hcl;subst hdl;have hol':(s.heap.push {cls:=.type "set",dict:=none,data:=.set #[] 0 (.fresh 0 0 led)}).get? l=some {cls:=.type "tuple",dict:=odict,data:=.seq items nl,slots:=oslots}:=Ka _ hol;have hsls:=F.sub_tuple_set;have hslf:=F.sub_tuple_frozenset;have hne:(Value.type "tuple" == Value.type "dict")=false:=by decide
    have hl1:(s.heap.push {cls:=.type "set",dict:=none,data:=.set #[] 0 (.fresh 0 0 led)}).IsTuple l items:=⟨_,hol',rfl,nl,rfl⟩;unfold Builtin.«set.__init__» noKeywords Builtin.Frozenset.updateFrom;generalize hPI:pyIter=PI
    wp_walk
    subst hPI;refine LS hl1 ?_;refine J1 (MX ?_);have hlS:l<s.heap.objs.size:=JB hol;have hh3:A.in1.in1.in1.handled=none:=by simp[hh]
    have hneI:l≠(s.heap.push {cls:=.type "set",dict:=none,data:=.set #[] 0 (.fresh 0 0 led)}).objs.size:=by
     rw[LA];exact JE (Lz hlS)
    have hSf:s.heap.objs.size ∉ [(s.heap.push {cls:=.type "set",dict:=none,data:=.set #[] 0 (.fresh 0 0 led)}).objs.size,l]:=by
     rw[LA];simp only[JN,LH,LU,LV,not_or];exact⟨JE (Ly _),J7 hlS⟩
    have W:=(Walks.tuple (prog:=prog) (w:=w) hh3 (s.heap.push {cls:=.type "set",dict:=none,data:=.set #[] 0 (.fresh 0 0 led)}).objs.size l hneI items).toS;rw[show items.size=items.toList.length by rw[JX]]at W
    refine tK W s.heap.objs.size hSf (fun b hb=>?_) (fun i v hv=>by rw[Ln];exact hv) hJ (by simp only[Around.in1];omega) (items.toList.length-0) 0 _ (by omega) (LG _)
     ⟨⟨_,Kb _ rfl,rfl,rfl⟩,?hL⟩ ?hS0 ?hR
    case hL=>
     obtain⟨o,ho,rest⟩:=hl1;exact⟨o,Ka _ ho,rest⟩
    case hS0=>
     refine h0 _ (fun b o e=>Ka _ (Ka _ e)) ?_;rw[hled];exact Ka _ hS
    case hR=>
     intro s' hm hS';obtain⟨h',g',d',tk',os'⟩:=s';have eg:g'=s.gens:=hm.gens;have ed:d'=s.drawn:=hm.drawn;have eo:os'=s.os:=hm.os;subst eg;subst ed;subst eo;show wpAny _ _ _ _ _ _;refine J8 ?_;show wpAny _ _ (ret Value.none) _ _ _;refine J8 ⟨rfl,h',tk',rfl,by rw[JX]at hS';exact hS',fun b o hb e=>?_⟩;have hb1:b≠s.heap.objs.size:=JE hb
     have hb2:b≠(s.heap.push {cls:=.type "set",dict:=none,data:=.set #[] 0 (.fresh 0 0 led)}).objs.size:=by
      rw[LA];exact JE (Lz hb)
     exact hm.heap b o (by simp only[JN,LH,LU,LV,not_or];exact⟨hb1,hb2⟩) (Ka _ (Ka _ e))
    ·rw[LA]at hb;rw[LH.mp hb];exact Ly _
   ·cases r2 with
    |error e=>exact hr2
    |ok fl2=>
     cases fl2 with
     |ret r=>
      obtain⟨rfl,h',tk,rfl,hS',hk'⟩:=hr2
      repeat (any_goals (first|assumption|wp_step))
      exact h _ _ hS' hk'
     |_=>exact hr2.elim
  |_=>exact hr.elim
theorem oR{qs:List KP}{S:Addr}{u:Nat}(hk:∀p∈qs,p.1∈prs)(hS:∀p∈qs,p.2<S)(hu:u<cLine):yG prog w u S (qs.map fun p=>Value.ref p.2) (fun i h=>bO w h S (eA (qs.take i))/\∀p∈qs,Tk prog w h p.1 p.2):=by
 have keepT:∀{h1 h2:Heap}{q:KP},q∈qs->(∀b o,b<S->h1.get? b=some o->h2.get? b=some o)->Tk prog w h1 q.1 q.2->Tk prog w h2 q.1 q.2:=fun {h1 h2 q} hq kk t=>by
  obtain⟨o,items,n,ho,r⟩:=t;exact⟨o,items,n,kk _ o (hS q hq) ho,r⟩
 refine⟨fun i h h' hk' ⟨j1,j2⟩=>⟨j1.keeps fun o e=>hk' S o (Kc _) e,fun p hp=>keepT hp (fun b o hb e=>hk' b o (JI hb) e) (j2 p hp)⟩,fun A i v s E Q hA hv ⟨j1,j2⟩ hQ=>?_⟩;rw[KA]at hv;cases e:qs[i]? with
 |none=>rw[e]at hv;cases hv
 |some p=>
  rw[e]at hv;cases hv;have hpm:p∈qs:=KC e;unfold setAdd;refine J2 ?_;refine J1 (wpAny_pyHash_tuple (by omega) (j2 p hpm) ?_);rw[zx];refine zc (s:={s with toks:=s.toks+(p.1.length+1)}) j1 (hk p hpm) (j2 p hpm) (fun q hq=>j2 q (Mp (kF hq))) (by omega) fun b h' hsb hS2=>?_;have etk:qs.take (i+1)=qs.take i++[p]:=by rw[MY,e];rfl
  refine hQ b h' _ (Nat.le_add_right _ _) hsb ⟨by rw[etk,uw];exact hS2,fun q hq=>keepT hq (fun b o hb e=>(hsb.2 b (JE hb)).trans e) (j2 q hq)⟩
theorem zt{qs:List KP}(hT:∀p∈qs,Tk prog w s.heap p.1 p.2):∀p∈qs,p.2<s.heap.objs.size:=fun p hp=>by
 obtain⟨o,_,_,ho,_⟩:=hT p hp;exact JB ho
theorem t9{l:Addr}{items:Array Value}{qs:List KP}{Q:Value->Shared->Prop}
  (hh:A.handled=none) (hl:s.heap.IsList l items) (hi:items.toList=qs.map fun p=>Value.ref p.2) (hk:∀p∈qs,p.1∈prs) (hT:∀p∈qs,Tk prog w s.heap p.1 p.2) (hu:A.units+20<cLine)
  (h:∀(h':Heap)(tk:Nat),bO w h' s.heap.objs.size (eA qs)->(∀b o,b<s.heap.objs.size->s.heap.get? b=some o->h'.get? b=some o)->Q (.ref s.heap.objs.size) {s with heap:=h',toks:=tk}) :
  wpAny (model prog w) A (call (.type "set") [.ref l]) Q E s:=by
 have hlen:items.size=qs.length:=by rw[<- JX,hi,KE]
 refine lu hh hl (hi ▸ oR hk (zt hT) hu) (fun h' k e=>⟨jx e,fun p hp=>?_⟩) fun h' tk ⟨j1,_⟩=>h h' tk ?_
 ·obtain⟨o,its,n,ho,rest⟩:=hT p hp;exact⟨o,its,n,k _ _ ho,rest⟩
 ·rw[hlen,MZ]at j1;exact j1
theorem rW{l:Addr}{items:Array Value}{qs:List KP}{Q:Value->Shared->Prop}
  (hh:A.handled=none) (hl:s.heap.IsTuple l items) (hi:items.toList=qs.map fun p=>Value.ref p.2) (hk:∀p∈qs,p.1∈prs) (hT:∀p∈qs,Tk prog w s.heap p.1 p.2) (hu:A.units+20<cLine)
  (h:∀(h':Heap)(tk:Nat),bO w h' s.heap.objs.size (eA qs)->(∀b o,b<s.heap.objs.size->s.heap.get? b=some o->h'.get? b=some o)->Q (.ref s.heap.objs.size) {s with heap:=h',toks:=tk}) :
  wpAny (model prog w) A (call (.type "set") [.ref l]) Q E s:=by
 have hlen:items.size=qs.length:=by rw[<- JX,hi,KE]
 refine j6 hh hl (hi ▸ oR hk (zt hT) hu) (fun h' k e=>⟨jx e,fun p hp=>?_⟩) fun h' tk ⟨j1,_⟩=>h h' tk ?_
 ·obtain⟨o,its,n,ho,rest⟩:=hT p hp;exact⟨o,its,n,k _ _ ho,rest⟩
 ·rw[hlen,MZ]at j1;exact j1
end
end RS
namespace RS
open PySem PySem.W PyProof.Rows
structure dU(n:Nat)(p:Array Nat):Prop where
 size:p.size=n
 perm:p.toList.Perm (List.range n)
def at'(key:Nat->Int)(p:Array Nat)(k:Nat):Int:=key (p.getD k 0)
def A9(key:Nat->Int)(p:Array Nat)(m:Nat):Prop:=∀i j,i<j->j<m->at' key p i<at' key p j
def Bm(key:Nat->Int)(p:Array Nat)(m:Nat):Prop:=∀i j,i<j->j<m->at' key p j<at' key p i
section
variable{n:Nat}{key:Nat->Int}{cmp:Nat->Nat->(Bool->Shared->Prop)->Shared->Prop}{s:Shared}{p:Array Nat}
theorem dU.lt(g:dU n p){k:Nat}(hk:k<n):p.getD k 0<n:=by
 have hs:k<p.size:=by rw[g.size];exact hk
 have:p[k]∈p.toList:=by rw[Kj];exact Array.getElem_mem hs
 have:=g.perm.mem_iff.mp this;rw[JG]at this;simpa[Array.getD,hs] using this
theorem dU.inj(g:dU n p){k k':Nat}(hk:k<n)(hk':k'<n)(e:p.getD k 0=p.getD k' 0):k=k':=by
 have hs:k<p.toList.length:=by rw[JX,g.size];exact hk
 have hs':k'<p.toList.length:=by rw[JX,g.size];exact hk'
 have nd:p.toList.Nodup:=g.perm.nodup_iff.mpr Me;refine(JS (h₀:=hs) (h₁:=hs') nd).mp ?_;have h1:k<p.size:=by rw[g.size];exact hk
 have h2:k'<p.size:=by rw[g.size];exact hk'
 simpa[Array.getD,h1,h2] using e
variable(hkey:∀i j,i<n->j<n->key i=key j->i=j)(hc:∀i j,i<n->j<n->∀C:Bool->Shared->Prop,C (decide (key i<key j)) s->cmp i j C s)
include hkey in
theorem y8(g:dU n p){k k':Nat}(hk:k<n)(hk':k'<n)(h:k≠k'):at' key p k≠at' key p k':=fun e=>h (g.inj hk hk' (hkey _ _ (g.lt hk) (g.lt hk') e))
include hkey hc
theorem uY(g:dU n p):∀(f m:Nat)(Q:Nat->Shared->Prop),1<=m->m+f<=n->A9 key p m->(∀m',m<=m'->m'<=m+f->A9 key p m'->(m'=m+f\/at' key p m'<at' key p (m'-1))->Q m' s)->(kas_asc p f m).kasWp cmp Q s
 |0,m,Q,h1,h2,ha,hQ=>hQ m (Kc _) (Kc _) ha (.inl rfl)
 |f+1,m,Q,h1,h2,ha,hQ=>by
  show cmp (p.getD m 0) (p.getD (m-1) 0) _ s;refine hc _ _ (g.lt (by omega)) (g.lt (by omega)) _ ?_;by_cases hlt:key (p.getD m 0)<key (p.getD (m-1) 0)
  ·rw[Lp hlt];(show (if true=true then _ else _:KasT _).kasWp cmp _ s);rw[Jz rfl];exact hQ m (Kc _) (by omega) ha (.inr hlt)
  ·rw [Jx hlt]; (show (if false = true then _ else _ : KasT _).kasWp cmp _ s); rw [JA J6];have hne:=y8 hkey g (k:=m) (k':=m-1) (by omega) (by omega) (by omega);have hgt:at' key p (m-1)<at' key p m:=by unfold at' at *;omega
   refine uY g f (m+1) Q (by omega) (by omega) (fun i j hij hj=>?_) (fun m' a b c d=>hQ m' (by omega) (by omega) c (d.elim (fun e=>.inl (by omega)) .inr));by_cases ej:j=m
   ·subst ej;by_cases ei:i=j-1
    ·rw[ei];exact hgt
    ·have:=ha i (j-1) (by omega) (by omega);omega
   ·exact ha i j hij (by omega)
theorem wW(g:dU n p):∀(f m:Nat)(Q:Array Nat×Nat×Nat->Shared->Prop),1<=m->m+f<=n->Bm key p m->(∀m',m<=m'->m'<=m+f->Bm key p m'->Q (p,m',0) s)->(kas_desc f p m 0).kasWp cmp Q s
 |0,m,Q,h1,h2,ha,hQ=>hQ m (Kc _) (Kc _) ha
 |f+1,m,Q,h1,h2,ha,hQ=>by
  show cmp (p.getD m 0) (p.getD (m-1) 0) _ s;refine hc _ _ (g.lt (by omega)) (g.lt (by omega)) _ ?_;by_cases hlt:key (p.getD m 0)<key (p.getD (m-1) 0)
  ·rw [Lp hlt]; (show (if true = true then _ else _ : KasT _).kasWp cmp _ s); rw [Jz rfl, JA (by omega)];refine wW g f (m+1) Q (by omega) (by omega) (fun i j hij hj=>?_) (fun m' a b c=>hQ m' (by omega) (by omega) c);by_cases ej:j=m
   ·subst ej;by_cases ei:i=j-1
    ·rw[ei];exact hlt
    ·have:=ha i (j-1) (by omega) (by omega);have:at' key p j<at' key p (j-1):=hlt;omega
   ·exact ha i j hij (by omega)
  ·rw [Jx hlt]; (show (if false = true then _ else _ : KasT _).kasWp cmp _ s); rw [JA J6];show cmp (p.getD (m-1) 0) (p.getD m 0) _ s;refine hc _ _ (g.lt (by omega)) (g.lt (by omega)) _ ?_;have hne:=y8 hkey g (k:=m) (k':=m-1) (by omega) (by omega) (by omega);have hgt:key (p.getD (m-1) 0)<key (p.getD m 0):=by unfold at' at hne;omega
   rw[Lp hgt];(show (if true=true then _ else _:KasT _).kasWp cmp _ s);rw[Jz rfl];exact hQ m (Kc _) (by omega) ha
omit hkey hc in
theorem oj{p p':Array Nat}{k k':Nat}(h:p[k]?=p'[k']?):at' key p k=at' key p' k':=by
 unfold at';rw[Mn,Mn,h]
omit hkey hc in
theorem qu{p':Array Nat}(g:dU n p)(h:p'.Perm p)(hs:p'.size=p.size):dU n p':=⟨hs.trans g.size,(Array.perm_iff_toList_perm.mp h).trans g.perm⟩
omit hkey hc in
theorem B4(g:dU n p){m:Nat}(hm:m<=n)(hd:Bm key p m):dU n (kas_rev p 0 m)/\A9 key (kas_rev p 0 m) m:=by
 have hs:m<=p.size:=by rw[g.size];exact hm
 refine⟨qu g (mirror_perm _ _ _ _) (mirror_size _ _ _ _),fun i j hij hj=>?_⟩;have ei:at' key (kas_rev p 0 m) i=at' key p (0+m-1-i):=oj (by unfold kas_rev;rw[getElem?_mirror_all hs,Jz ⟨LG _,by omega⟩]);have ej:at' key (kas_rev p 0 m) j=at' key p (0+m-1-j):=oj (by unfold kas_rev;rw[getElem?_mirror_all hs,Jz ⟨LG _,by omega⟩]);rw[ei,ej];exact hd _ _ (by omega) (by omega)
theorem zM(g:dU n p){m:Nat}(h1:1<=m)(hm:m<=n)(hd:Bm key p m)(Q:Nat×Array Nat->Shared->Prop)(hQ:∀m' p',dU n p'->1<=m'->m'<=n->A9 key p' m'->Q (m',p') s):(kas_tail3 m n p).kasWp cmp Q s:=by
 obtain⟨g',ha⟩:=B4 (key:=key) g hm hd;unfold kas_tail3;rw[M7];exact uY hkey hc g' (n-m) m _ h1 (by omega) ha fun m' a b c d=>hQ m' _ g' (by omega) (by omega) c
theorem AZ(g:dU n p)(h2:2<=n)(Q:Nat×Array Nat->Shared->Prop)(hQ:∀m' p',dU n p'->1<=m'->m'<=n->A9 key p' m'->Q (m',p') s):(kas_count n p).kasWp cmp Q s:=by
 unfold kas_count;rw[M7];refine uY hkey hc g (n-1) 1 _ (Kc _) (by omega) (fun i j hij hj=>by omega) fun m a b c d=>?_;by_cases e:m=n
 ·rw[Jz (by simpa using e)];exact hQ m p g a (by omega) c
 ·rw [JA (by simpa using e)];by_cases h1:m>1
  ·rw[Jz h1];show cmp (p.getD 0 0) (p.getD (m-1) 0) _ s;refine hc _ _ (g.lt (by omega)) (g.lt (by omega)) _ ?_;have:at' key p 0<at' key p (m-1):=c 0 (m-1) (by omega) (by omega);rw[Lp (show key (p.getD 0 0)<key (p.getD (m-1) 0) from this)];(show (if true=true then _ else _:KasT _).kasWp cmp _ s);rw[Jz rfl];exact hQ m p g a (by omega) c
  ·rw [JA h1];have em:m=1:=by omega
   subst em;unfold kas_descPart;rw[M7];have hlt:at' key p 1<at' key p 0:=d.elim (fun e'=>by omega) id;refine wW hkey hc g (n-(1+1)) (1+1) _ (by omega) (by omega) (fun i j hij hj=>?_) fun m' a' b' c'=>?_
   ·have ei : i = 0 := by omega
    have ej:j=1:=by omega
    rw[ei,ej];exact hlt
   ·show (if (0:Nat)>0 then _ else _:KasT (Nat×Array Nat)).kasWp cmp Q s;rw[JA (by omega)];exact zM hkey hc g (by omega) (by omega) c' Q hQ
theorem ot(g:dU n p){k:Nat}(hk:k<n)(ha:A9 key p k):∀(f l r:Nat)(Q:Nat->Shared->Prop),l<=r->r<=k->r-l<=f->(∀i,i<l->at' key p i<at' key p k)->(∀i,r<=i->i<k->at' key p k<at' key p i) ->
  (∀l',l'<=k->(∀i,i<l'->at' key p i<at' key p k)->(∀i,l'<=i->i<k->at' key p k<at' key p i)->Q l' s)->(kas_place p k f l r).kasWp cmp Q s
 |0,l,r,Q,h1,h2,h3,ha1,hb1,hQ=>by
  have e:l=r:=by omega
  subst e;exact hQ l h2 ha1 hb1
 |f+1,l,r,Q,h1,h2,h3,ha1,hb1,hQ=>by
  unfold kas_place;by_cases e:l ≥ r
  ·rw [Jz e];have e':l=r:=by omega
   subst e';exact hQ l h2 ha1 hb1
  ·rw [JA e];show cmp (p.getD k 0) (p.getD ((l+r) / 2) 0) _ s;refine hc _ _ (g.lt hk) (g.lt (by omega)) _ ?_;by_cases hlt:key (p.getD k 0)<key (p.getD ((l+r) / 2) 0)
   ·rw [Lp hlt]; (show (if true = true then _ else _ : KasT _).kasWp cmp _ s); rw [Jz rfl];refine ot g hk ha f l ((l+r) / 2) Q (by omega) (by omega) (by omega) ha1 (fun i hi hik=>?_) hQ;by_cases ei:i=(l+r) / 2
    ·rw[ei];exact hlt
    ·have:=ha ((l+r) / 2) i (by omega) hik;have:at' key p k<at' key p ((l+r) / 2):=hlt;omega
   ·rw [Jx hlt]; (show (if false = true then _ else _ : KasT _).kasWp cmp _ s); rw [JA J6];have hne:=y8 hkey g (k:=k) (k':=(l+r) / 2) hk (by omega) (by omega);have hgt:at' key p ((l+r) / 2)<at' key p k:=by unfold at' at *;omega
    refine ot g hk ha f ((l+r) / 2+1) r Q (by omega) h2 (by omega) (fun i hi=>?_) hb1 hQ;by_cases ei:i=(l+r) / 2
    ·rw[ei];exact hgt
    ·have:=ha i ((l+r) / 2) (by omega) (by omega);omega
theorem zJ:∀(f:Nat)(p:Array Nat)(k:Nat)(Q:Array Nat->Shared->Prop),dU n p->k+f=n->A9 key p k->(∀p',dU n p'->A9 key p' n->Q p' s)->(kas_bin f p k).kasWp cmp Q s
 |0,p,k,Q,g,hk,ha,hQ=>by
  have e:k=n:=by omega
  rw[e]at ha;exact hQ p g ha
 |f+1,p,k,Q,g,hk,ha,hQ=>by
  unfold kas_bin;rw[M7];refine ot hkey hc g (by omega) ha k 0 k _ (LG _) (Kc _) (by omega) (fun i hi=>by omega) (fun i h1 h2=>by omega) fun l hl ha1 hb1=>?_;have hs:k<p.size:=by rw[g.size];omega
  refine zJ f _ (k+1) Q (qu g (bubble_perm _ _ _) (bubble_size _ _ _)) (by omega) (fun i j hij hj=>?_) hQ
  have hb:∀x,at' key (bubble p k (k-l)) x=if x=l then at' key p k else if l<x/\x<=k then at' key p (x-1) else at' key p x:=fun x=>by
   have e:=getElem?_bubble hs (k-l) (by omega) x;have el:k-(k-l)=l:=by omega
   rw[el]at e;by_cases e1:x=l
   ·rw[Jz e1]at e⊢;exact oj e
   ·rw [JA e1] at e ⊢;by_cases e2:l<x/\x<=k
    ·rw[Jz e2]at e⊢;exact oj e
    ·rw[JA e2]at e⊢;exact oj e
  rw[hb i,hb j];by_cases i1:i=l
  ·rw[Jz i1,JA (by omega),Jz ⟨by omega,by omega⟩];exact hb1 (j-1) (by omega) (by omega)
  ·rw [JA i1];by_cases i2:l<i/\i<=k
   ·rw[Jz i2,JA (by omega),Jz ⟨by omega,by omega⟩];exact ha (i-1) (j-1) (by omega) (by omega)
   ·rw [JA i2];have hi:i<l:=by omega
    by_cases j1:j=l
    ·rw[Jz j1];exact ha1 i hi
    ·rw [JA j1];by_cases j2:l<j/\j<=k
     ·rw [Jz j2];by_cases ej:i=j-1
      ·omega
      ·exact ha i (j-1) (by omega) (by omega)
     ·rw[JA j2];exact ha i j hij (by omega)
theorem BL(h2:2<=n)(Q:Array Nat->Shared->Prop)(hQ:∀p',dU n p'->A9 key p' n->Q p' s):(kas_sort n).kasWp cmp Q s:=by
 unfold kas_sort;rw[M7];have g0:dU n (List.toArray (List.range n)):=⟨by simp,by simp⟩;refine AZ hkey hc g0 h2 _ fun m p' g h1 hm ha=>?_;show (if m<n then _ else _:KasT (Array Nat)).kasWp cmp Q s;by_cases e:m<n
 ·rw [Jz e];have em:max m 1=m:=by omega
  rw[em];exact zJ hkey hc (n-m) p' m Q g (by omega) ha hQ
 ·rw [JA e];have em:m=n:=by omega
  rw[em]at ha;exact hQ p' g ha
end
def pS(k:List Int):Int:=k.getD 0 0*6+k.getD 1 0
theorem gD{k:List Int}(h:k∈prs):∃a b:Int,k=[a,b]/\0<=a/\a<b/\b<6:=by
 have key:∀k∈prs,0<=k.getD 0 0/\k.getD 0 0<k.getD 1 0/\k.getD 1 0<6/\k=[k.getD 0 0,k.getD 1 0]:=by decide +kernel
 obtain⟨h1,h2,h3,h4⟩:=key k h;exact⟨_,_,h4,h1,h2,h3⟩
theorem C9{k k':List Int}(h:k∈prs)(h':k'∈prs)(e:pS k=pS k'):k=k':=by
 obtain⟨a,b,rfl,h1,h2,h3⟩:=gD h;obtain⟨c,d,rfl,h4,h5,h6⟩:=gD h';have e':a*6+b=c*6+d:=e;have:a=c:=by omega
 have:b=d:=by omega
 subst_vars;rfl
section
variable{prog:Program}{w:World}{A:Around}{E:Value->Shared->Prop}{s:Shared}
theorem uO {h:Heap}{a b:Int}{r:Addr} (t:Tk prog w h [a,b] r):∃o n t1 t2,h.get? r=some o/\o.cls=.type "tuple" /\ o.data=.seq #[.int a t1,.int b t2] n:=by
 obtain⟨o,items,n,ho,hc,hd,hi⟩:=t;cases hi':items.toList with
 |nil=>rw[hi']at hi;cases hi
 |cons v1 r1=>
  rw[hi']at hi;cases hi with
  |cons h1 t1=>
   cases t1 with
   |cons h2 t2=>
    cases t2;obtain⟨x1,e1⟩:=Jw (k:=a) h1;obtain⟨x2,e2⟩:=Jw (k:=b) h2
    have e:items=#[.int a x1,.int b x2]:=by
     apply Array.toList_inj.mp;rw[hi',e1,e2]
    exact⟨o,n,x1,x2,ho,hc,by rw[hd,e]⟩
theorem Cr{x y:Addr}{k k':List Int}{Q:Bool->Shared->Prop}(hx:Tk prog w s.heap k x)(hy:Tk prog w s.heap k' y)(hk:k∈prs)(hk':k'∈prs)(h:Q (decide (pS k<pS k')) s) :
  wpAny (model prog w) A (keyLt' (tuples' true) (.ref x) (.ref y)) Q E s:=by
 obtain⟨a,b,rfl,h1,h2,h3⟩:=gD hk;obtain⟨c,d,rfl,h4,h5,h6⟩:=gD hk';obtain⟨o,n,t1,t2,ho,_,hd⟩:=uO hx;obtain⟨o',n',t1',t2',ho',_,hd'⟩:=uO hy;have h':Q (decide (a*6+b<c*6+d)) s:=h;refine kat_lt ho hd ho' hd' ?_;show KatLex prog w A true (decide (2<2)) Q [(.int a t1,.int c t1'),(.int b t2,.int d t2')] 0 s;refine kat_cons (Jy ?_);by_cases e1:a=c
 ·rw [show (a == c) = true by simpa using e1];refine kat_yes (kat_cons (Jy ?_));by_cases e2:b=d
  ·rw [show (b == d) = true by simpa using e2];refine kat_yes (kat_nil ?_);have:decide (a*6+b<c*6+d)=decide (2<2):=by rw[M9];omega
   rw[<- this];exact h'
  ·rw [show (b == d) = false by simpa using e2];refine kat_no ?_;show wpAny _ A (oneLt' false _ _) Q _ s;refine kat_one _ _ (lt_int ?_);have:decide (a*6+b<c*6+d)=decide (b<d):=by rw[M9];omega
   show Q _ s;rw[<- this];exact h'
 ·rw [show (a == c) = false by simpa using e1];refine kat_no ?_;show wpAny _ A (keyLt' oneType' _ _) Q _ s;refine kat_lt_int ?_;have:decide (a*6+b<c*6+d)=decide (a<c):=by rw[M9];omega
  rw[<- this];exact h'
end
def gL(ps:List KP):Prop:=ps.Pairwise fun p q=>pS p.1<pS q.1
def aU(ps:List KP):List Value:=ps.map fun p=>Value.ref p.2
section
variable{prog:Program}{w:World}{A:Around}{E:Value->Shared->Prop}{s:Shared}
theorem wg{h:Heap}:∀{ps:List KP},(∀p∈ps,p.1∈prs)->(∀p∈ps,Tk prog w h p.1 p.2)->∃fs,KatTups h (aU ps) fs/\fs.length=ps.length/\∀v∈fs,∃i t,v=Value.int i t
 |[],_,_=>⟨[],KatTups.nil,rfl,fun v hv=>by simp at hv⟩
 |p::ps,hk,ht=>by
  obtain⟨fs,h1,h2,h3⟩:=wg (ps:=ps) (fun q hq=>hk q (JL _ hq)) (fun q hq=>ht q (JL _ hq));obtain⟨a,b,e,_⟩:=gD (hk p JK);have t:=ht p JK;rw[e]at t;obtain⟨o,n,t1,t2,ho,hc,hd⟩:=uO t;refine⟨.int a t1::fs,KatTups.cons ho hc hd rfl h1,by rw[Lx,Lx,h2],fun v hv=>?_⟩;rcases JN.mp hv with q|q
  ·exact⟨a,t1,q⟩
  ·exact h3 v q
theorem Fd{ps:List KP}(hk:∀p∈ps,p.1∈prs)(hn:(ps.map (·.1)).Nodup){p:Array Nat}(g:dU ps.length p)(ha:A9 (fun i=>pS (ps.getD i ([],0)).1) p ps.length) :
  ∃out:List KP,(p.toList.map fun i=>(aU ps).getD i Value.none)=aU out/\out.Perm ps/\gL out:=by
 refine⟨p.toList.map fun i=>ps.getD i ([],0),?_,?_,?_⟩
 ·unfold aU;rw[LY];refine LZ fun i hi=>?_;have hi':i<ps.length:=JG.mp (g.perm.mem_iff.mp hi);simp[Na,hi']
 ·refine (g.perm.map _).trans ?_
  have:(List.range ps.length).map (fun i=>ps.getD i ([],0))=ps:=by
   apply Nb;intro i;rw[KA];by_cases hi:i<ps.length
   ·rw[Nd hi];simp[hi]
   ·rw[Nf (by simpa using hi),Nf (by omega)];rfl
  rw[this]
 ·unfold gL;rw[Ng];refine List.pairwise_iff_getElem.mpr fun i j hi hj hij=>?_;have hi':i<p.size:=by simpa using hi
  have hj':j<p.size:=by simpa using hj
  have:=ha i j hij (by rw[<- g.size];exact hj');unfold at' at this;simpa[Array.getD,hi',hj'] using this
theorem vb {a:Addr}{ps:List KP}{n:Nat}{P:PySem.Fin->Shared->Prop} (ho:s.heap.get? a=some (seqObj "list" (aU ps).toArray n)) (hk:∀p∈ps,p.1∈prs) (hn:(ps.map (·.1)).Nodup) (hT:∀p∈ps,Tk prog w s.heap p.1 p.2)
  (h:∀out:List KP,out.Perm ps->gL out->P (.done (.ret .none)) {s with heap:=sortedHeap s.heap a (aU ps) (aU out).toArray}) :
  wpAny (model prog w) A (Builtin.«list.sort» ⟨[.ref a],[]⟩) P E s:=by
 have hlen:=jI hk hn;have hvl:(aU ps).length=ps.length:=by unfold aU;rw[KE]
 rw[list_sort_plain];have hal:a<s.heap.objs.size:=JB ho;refine J1 (listItems_at ho rfl ?_);refine J1 (Nh ho rfl ?_ (by rw[Ki,hvl];exact JH hlen (by decide)) (LG _));obtain⟨e1,ho1⟩:∃e1,(s.heap.update a (Obj.mapSeq fun _=>#[])).get? a=some (seqObj "list" #[] e1):=⟨_,Ni ho (fun _=>#[])⟩;refine J1 (seqEpoch_at ho1 rfl ?_);refine J1 (wpAny_newTuple ?_);refine J1 (Nj ?_);refine J2 ?_
 have ho6:(((s.heap.update a (Obj.mapSeq fun _=>#[])).push (seqObj "tuple" (aU ps).toArray 0)).push (seqObj "list" #[] 0)).get? a=some (seqObj "list" #[] e1):=by
  rw[LW _ _ _ (by rw[Nk,Nl];exact JE (Lz hal)),LW _ _ _ (by rw[Nl];exact JE hal)];exact ho1
 show wpAny (model prog w) A _ P E {s with heap:=((s.heap.update a (Obj.mapSeq fun _=>#[])).push (seqObj "tuple" (aU ps).toArray 0)).push (seqObj "list" #[] 0)};dsimp only
 have hna:∀p∈ps,p.2≠a:=fun p hp e=>by
  obtain⟨o,items,m,ho',hc',_⟩:=hT p hp;rw[e,ho]at ho';have:=Jv ho';subst this;exact absurd (show Value.type "list" = Value.type "tuple" from hc') (by decide)
 generalize hS:({s with heap:=((s.heap.update a (Obj.mapSeq fun _=>#[])).push (seqObj "tuple" (aU ps).toArray 0)).push (seqObj "list" #[] 0)}:Shared)=s1;have eh1:s1.heap=((s.heap.update a (Obj.mapSeq fun _=>#[])).push (seqObj "tuple" (aU ps).toArray 0)).push (seqObj "list" #[] 0):=by rw[<- hS]
 have hT1:∀p∈ps,Tk prog w s1.heap p.1 p.2:=fun p hp=>by
  obtain⟨o,items,m,ho',rest⟩:=hT p hp;refine⟨o,items,m,?_,rest⟩;rw[eh1];refine Ka _ (Ka _ ?_);rw[Np _ _ _ _ (hna p hp)];exact ho'
 rw[<- eh1]at ho6
 have hfin:∀out:List KP,out.Perm ps->gL out->P (.done (.ret .none)) {s1 with heap:=s1.heap.update a (Obj.mapSeq fun _=>(aU out).toArray)}:=fun out h1 h2=>by
  have q:=h out h1 h2;rw[<- hS];exact q
 have hszv:(aU ps).toArray.size=ps.length:=by rw[Ki,hvl]
 by_cases h2:(aU ps).toArray.size<2
 ·rw [Jz h2, Jz h2];refine J1 (J8 ?_);rw[StateT.run_pure];refine J1 (J8 ?_);dsimp only;refine J1 (seqEpoch_at ho6 rfl ?_)
  have eo:(arrOf (SortSt.mk' general' ((aU ps).toArray.zip (aU ps).toArray) #[] 7 none)).map (·.2)=(aU ps).toArray:=by
   show (((aU ps).toArray.zip (aU ps).toArray)).map (·.2)=_;apply Array.toList_inj.mp;rw[Array.toList_map,Array.toList_zip];exact List.map_snd_zip (Kc _)
  rw[eo];refine J1 (Nh ho6 rfl ?_ (LG _) (by show (aU ps).toArray.size<=_;rw[hszv];exact JH hlen (by decide)));simp only[Nq,Lu,KN];refine J8 (hfin ps (List.Perm.refl _) ?_);rw[hszv]at h2
  match ps,h2 with
  |[],_=>exact List.Pairwise.nil
  |[_],_=>exact List.pairwise_singleton _ _
  |_::_::_,h=>rw[Lx,Lx]at h;omega
 ·rw [JA h2, JA h2];rw[hszv]at h2;obtain⟨fs,k1,k2,k3⟩:=wg hk hT1;refine J1 (kat_kind (T:=Value.type "int") k1 (by omega) (fun v hv=>?_) (by rfl) ?_)
  ·obtain⟨i,t,e⟩:=k3 v hv;rw[e];exact .now
  ·have et : (Value.type "int" != Value.type "tuple") = true := by decide
   rw[et]
   refine J1 (JV (kat_run (ks:=aU ps) (vs:=aU ps) (Q:=fun st' s'=>s'=s1/\failedOf st'=none/\∃out:List KP,out.Perm ps/\gL out/\(arrOf st').map (·.2)=(aU out).toArray)
    (G:=fun p s'=>s'=s1/\∃out:List KP,(p.toList.map fun i=>(aU ps).getD i Value.none)=aU out/\out.Perm ps/\gL out) rfl (by rw[hvl];omega) (by rw[hvl];omega) ?_ ?_) ?_ fun _ _ e=>e)
   ·rintro p st' s' hp har hf ⟨e, out, o1, o2, o3⟩
    exact⟨e,hf,out,o2,o3,by rw[kat_snds rfl har,o1]⟩
   ·rw [hvl];refine BL (key:=fun i=>pS (ps.getD i ([],0)).1) (fun i j hi hj e=>?_) (fun i j hi hj C hC=>?_) (by omega) _ (fun p g ha=>⟨rfl,Fd hk hn g ha⟩)
    ·have hi' : ps.getD i ([], 0) = ps[i] := by simp [Na, hi]
     have hj':ps.getD j ([],0)=ps[j]:=by simp[Na,hj]
     simp only[hi',hj']at e;have e2:=C9 (hk _ (Nr hi)) (hk _ (Nr hj)) e;have hil:i<(ps.map (·.1)).length:=by rw[KE];exact hi
     have hjl:j<(ps.map (·.1)).length:=by rw[KE];exact hj
     exact(JS (h₀:=hil) (h₁:=hjl) hn).mp (by simpa using e2)
    ·unfold kas_ask;have gi:(aU ps).getD i Value.none=.ref ps[i].2:=by unfold aU;simp[Na,hi]
     have gj:(aU ps).getD j Value.none=.ref ps[j].2:=by unfold aU;simp[Na,hj]
     have hi':ps.getD i ([],0)=ps[i]:=by simp[Na,hi]
     have hj':ps.getD j ([],0)=ps[j]:=by simp[Na,hj]
     rw[gi,gj];simp only[hi',hj']at hC;exact Cr (hT1 _ (Nr hi)) (hT1 _ (Nr hj)) (hk _ (Nr hi)) (hk _ (Nr hj)) hC
   ·rintro ⟨⟨⟩, st'⟩ s' ⟨rfl, hf, out, o1, o2, o3⟩
    dsimp only;refine J1 (seqEpoch_at ho6 rfl ?_);rw[o3];refine J1 (Nh ho6 rfl ?_ (LG _) (by show (aU out).toArray.size<=_;rw[Ki];unfold aU;rw[KE,o1.length_eq];exact JH hlen (by decide)));rw[hf];simp only[Nq,Lu,KN];exact J8 (hfin out o1 o2)
end
end RS
namespace RS
open PySem PySem.W PyProof.Rows
namespace Fx
theorem slot_setiter_next:Slot "set_iterator" "__next__" "set_iterator.__next__" :=
 .of (owner:="set_iterator") (n:="__next__") (by rw[typeLookup_type,builtinLookup_eq_fast];kernel_rfl) (by decide +kernel) (by decide +kernel) (by decide +kernel)
  (by first|exact .inl (by decide +kernel)|exact .inr (by decide +kernel)) (by rw[MQ];kernel_rfl)
theorem entry_setiter_next:entryFor table "set_iterator.__next__" = some Builtin.«set_iterator.__next__»:=entryFor_of_fast (by kernel_rfl)
theorem args_setiter_next (a:Value):argsOk "set_iterator.__next__" ⟨[a],[]⟩:=by unfold argsOk;kernel_rfl
theorem entry_set_iter:entryFor table "set.__iter__" = some Builtin.«frozenset.__iter__»:=
 entryFor_alias (id':="frozenset.__iter__") (by kernel_rfl) rfl (by decide +kernel) (by kernel_rfl)
end Fx
def dj (h:Heap) (I S:Addr) (i n ep slot:Nat):Prop:=h.get? I=some {cls:=.type "set_iterator",dict:=none,data:=.fields #[.int (slot:Int) 0,.int (i:Int) 0,.ref S,.int (n:Int) 0,.int (ep:Int) 0],slots:=#[]}
def dm (w:World) (S:Addr) (ep:Nat) (es:Array (Int×Value)):List (Int×Value):=if w.params.followText "set-order" then (pickOrder (w.params.setOrder S ep) es).toList else es.toList
def cU (w:World) (Z:List (Nat×Int×Value)) (i:Nat):Nat:=if w.params.followText "set-order" then 0 else if i=0 then 0 else (Z.getD (i-1) (0,0,.none)).1+1
theorem qg{α:Type}(next:Nat->Nat):∀(fuel k:Nat)(left:List α)(out:Array α),left.length=fuel->(pickOrder.go next fuel k left out).toList.Perm (out.toList++left)
 |0,k,left,out,h=>by
  have:left=[]:=List.length_eq_zero_iff.mp h;subst this;show out.toList.Perm (out.toList++[]);rw[Kk]
 |fuel+1,k,left,out,h=>by
  have hlt:next k%left.length<left.length:=Nat.mod_lt _ (by omega)
  show (match left[next k%left.length]? with|some x=>_|none=>_:Array α).toList.Perm _;rw[Nt hlt];show (pickOrder.go next fuel (k+1) (left.eraseIdx (next k%left.length)) (out.push left[next k%left.length])).toList.Perm _;refine(qg next fuel (k+1) _ _ (by rw[List.length_eraseIdx_of_lt hlt];omega)).trans ?_;rw[Array.toList_push,Lj];refine List.Perm.append_left _ ?_;rw[List.singleton_append,List.eraseIdx_eq_take_drop_succ]
  have q:(left.take (next k%left.length)++left[next k%left.length]::left.drop (next k%left.length+1))=left:=by
   rw[List.getElem_cons_drop];exact Mh _ _
  have q2:=(List.perm_middle (a:=left[next k%left.length]) (l₁:=left.take (next k%left.length)) (l₂:=left.drop (next k%left.length+1))).symm;rw[q]at q2;exact q2
theorem jt{w:World}{S:Addr}{ep:Nat}{es:Array (Int×Value)}:(dm w S ep es).Perm es.toList:=by
 unfold dm;split
 ·have:=qg (w.params.setOrder S ep) es.size 0 es.toList #[] (by simp);simpa[pickOrder] using this
 ·exact List.Perm.refl _
theorem A4 {t:SetTable}{es:Array (Int×Value)}{Z:List (Nat×Int×Value)} (T:pT t es Z) {w:World} (hb:w.params.followText "set-order" = false) {i:Nat} (hi:i<=Z.length):SetTable.below t.place (cU w Z i)=i:=by
 have r:A8 t.place.toList:=by rw[T.place];exact T.ris
 obtain⟨b1,b2,b3⟩:=kE r (cU w Z i);have hsz:=T.size.1
 have gz:∀k,k<Z.length->t.place.getD k (cU w Z i)=(Z.getD k (0,0,.none)).1:=fun k hk=>by
  have e:t.place[k]?=some (Z[k]).1:=by rw[<- Ln,T.place,KA,Nt hk];rfl
  rw[Mn,e,Na,Nt hk];rfl
 have hris:∀a b,a<b->b<Z.length->(Z.getD a (0,0,.none)).1<(Z.getD b (0,0,.none)).1:=fun a b hab hbz=>by
  rw[<- gz a (by omega),<- gz b hbz];exact rB r _ a b hab (by omega)
 have hs:cU w Z i=if i=0 then 0 else (Z.getD (i-1) (0,0,.none)).1+1:=by
  unfold cU;rw[hb,JA J6]
 by_cases h0:i=0
 ·rw [Jz h0] at hs;rw[hs]at b2⊢;by_cases hz:SetTable.below t.place 0=0
  ·rw[hz,h0]
  ·have:=b2 0 (by omega);omega
 ·rw [JA h0] at hs
  have hlo:¬ SetTable.below t.place (cU w Z i)<=i-1:=fun hle=>by
   have:=b3 (i-1) hle (by omega);rw[gz _ (by omega)]at this;omega
  have hhi:¬ i<SetTable.below t.place (cU w Z i):=fun hlt=>by
   have:=b2 i hlt;have hiz:i<Z.length:=by omega
   rw[gz i hiz]at this;have:=hris (i-1) i (by omega) hiz;omega
  omega
section
variable{prog:Program}{w:World}{A:Around}{E:Value->Shared->Prop}{s:Shared}
theorem sY{a:Addr}{ps:List (Int×Value)}{o es ep t Z}{i:Nat}{Q:Option (Value×Nat)->Shared->Prop}(S:dz w s.heap a ps o es ep t Z)(hi:i<=Z.length)
  (h:Q (((dm w a ep es)[i]?).map fun e=>(e.2,cU w Z (i+1))) s):wpAny (model prog w) A (setNext a (cU w Z i) i ep) Q E s:=by
 unfold setNext;refine J1 (MC S.ho S.hd S.fits ?_);dsimp only;unfold setsByText;refine J1 (J1 (LD (J8 ?_)));cases hb:w.params.followText "set-order" with
 |true=>
  have e1:dm w a ep es=(pickOrder (w.params.setOrder a ep) es).toList:=by unfold dm;rw[hb,Jz rfl]
  have e2:∀j,cU w Z j=0:=fun j=>by unfold cU;rw[hb,Jz rfl]
  rw[e1,e2]at h;show wpAny _ _ (if (w.params.followText "set-order")=true then _ else _) _ _ _;rw[hb,Jz rfl];rw[JA (by simp)];refine J1 ?_;unfold setWalk;refine J1 (MC S.ho S.hd S.fits ?_);dsimp only;unfold setsByText;refine J1 (J1 (LD (J8 ?_)));show wpAny _ _ (if (w.params.followText "set-order")=true then _ else _) _ _ _;rw[hb,Jz rfl];refine J1 (LD (J8 (J8 ?_)));rw[e2,<- Ln];exact h
 |false=>
  have e1:dm w a ep es=es.toList:=by unfold dm;rw[hb,JA J6]
  have hled:t.led=true:=by rw[S.led,hb];rfl
  show wpAny _ _ (if (w.params.followText "set-order")=true then _ else _) _ _ _;rw[hb,JA J6];have hdr:(!t.plain&&decide (es.size>1))=false:=by rw[S.plain];rfl
  show wpAny _ _ (if (!t.plain&&decide (es.size>1))=true then _ else _) _ _ _;rw[hdr,JA J6];refine J1 ?_;show wpAny _ _ (if (!t.led && !es.isEmpty)=true then _ else _) _ _ _;rw[hled];simp only[My,Bool.false_and,Lu,KN];refine J8 (J8 ?_);rw[A4 S.tab hb hi];rw[e1,Ln]at h;by_cases hlt:i<Z.length
  ·have ez : Z[i]? = some Z[i] := Nt hlt;have ee:=S.tab.hashAt ez;have ep':t.place[i]?=some (Z[i]).1:=by rw[<- Ln,S.tab.place,KA,ez];rfl
   rw[ee,ep'];rw[ee]at h
   have es':cU w Z (i+1)=(Z[i]).1+1:=by
    unfold cU;rw[hb,JA J6,JA (by omega),Nat.add_sub_cancel,Na,ez];rfl
   rw[es']at h;exact h
  ·have : es[i]? = none := by rw [Mr, S.tab.size.2]; omega
   rw[this];rw[this]at h;exact h
end
end RS
namespace RS
open PySem PySem.W PyProof.Rows
section
variable{prog:Program}{w:World}{A:Around}{E:Value->Shared->Prop}{s:Shared}
theorem dj.typeIs {I S:Addr}{i n ep slot:Nat} (h:dj s.heap I S i n ep slot):s.TypeIs (.ref I) "set_iterator" := ⟨_,h,rfl⟩
theorem fG {a:Addr}{ps:List (Int×Value)}{o es ep t Z} (S:dz w s.heap a ps o es ep t Z):s.TypeIs (.ref a) "set" := ⟨o,S.ho,S.ex.1⟩
theorem z8{a:Addr}{ps:List (Int×Value)}{o es ep t Z}{Q:Value->Shared->Prop}(S:dz w s.heap a ps o es ep t Z)
  (hQ:Q (.ref s.heap.objs.size) {s with heap:=s.heap.push {cls:=.type "set_iterator",data:=.fields #[.int ((0:Nat):Int) 0,.int ((0:Nat):Int) 0,.ref a,.int (Z.length:Int) 0,.int (ep:Int) 0]}}) :
  wpAny (model prog w) A (pyIter (.ref a)) Q E s:=by
 refine wpAny_pyIter_slot (fG S) PySem.F.slot_set_iter (K0 PySem.F.slot_set_iter (fG S) Fx.entry_set_iter ?_ (PySem.F.args_set_iter_1 _));unfold Builtin.«frozenset.__iter__» Builtin.Frozenset.sizeOf;refine J1 (m:=Builtin.Frozenset.slot0 "__iter__" _) (LR (a:=a) rfl ?_);refine J1 (J1 (Nu S.ho S.hd S.fits (J8 ?_)));unfold setDrawn;refine J1 (J1 (MC S.ho S.hd S.fits ?_));dsimp only;unfold setsByText;refine J1 (J1 (LD (J8 (J8 ?_))));have hdr:(!w.params.followText "set-order" && (!t.plain&&decide (es.size>1)))=false:=by rw[S.plain];simp
 show wpAny _ _ (if (!w.params.followText "set-order" && (!t.plain&&decide (es.size>1)))=true then _ else _) _ _ _;rw[hdr,JA J6];refine J1 (J8 ?_);refine J1 (wpAny_setEpoch_of S.ho S.hd S.fits ?_);refine J1 (K5 (J8 ⟨_,rfl, "set_iterator",_,⟨_,Kb _ rfl,rfl⟩,Fx.slot_setiter_next.lookup,?_⟩));rw[S.tab.size.2];exact hQ
theorem z9{I a:Addr}{ps:List (Int×Value)}{o es ep t Z}{i:Nat}{v:Int×Value}{Q:Option Value->Shared->Prop}(S:dz w s.heap a ps o es ep t Z)(hit:dj s.heap I a i Z.length ep (cU w Z i))(hv:(dm w a ep es)[i]?=some v)
  (hQ:∀h',dj h' I a (i+1) Z.length ep (cU w Z (i+1))->Heap.SameBut I s.heap h'->Q (some v.2) {s with heap:=h'}):wpAny (model prog w) A (pyNext (.ref I)) Q E s:=by
 have hT:=hit.typeIs;have hoi:=hit;unfold dj at hoi
 have hil:i<Z.length:=by
  have:=(JR.mp hv).1;rw[jt.length_eq,JX,S.tab.size.2]at this;exact this
 unfold pyNext;refine J1 (wpAny_attempt (KY (name:=Str.ofString "__next__") hT Fx.slot_setiter_next (K0 Fx.slot_setiter_next hT Fx.entry_setiter_next ?_ (Fx.args_setiter_next _))));unfold Builtin.«set_iterator.__next__»;refine J1 (m:=slotArgs "__next__" 0 _) (LR (a:=(.ref I,[])) rfl ?_);dsimp only;unfold fieldsOf;refine J1 (J1 (J9 hoi ?_));refine J8 ?_;refine J1 (Nu S.ho S.hd S.fits ?_);rw[S.tab.size.2];simp only[Nq,Lu,KN,KM];refine J1 (sY S (JI hil) ?_);rw[hv];dsimp only[Option.map_some];refine J1 (Nv hoi (by simp) fun h1 e1 sb1=>?_);refine J1 (Nv (s:={s with heap:=h1}) e1 (by simp) fun h2 e2 sb2=>?_);refine J8 ⟨v.2,rfl,J8 (hQ h2 ?_ (sb1.trans sb2))⟩;unfold dj;rw[e2];simp[rawInt]
theorem BV{I a:Addr}{ps:List (Int×Value)}{o es ep t Z}{Q:Option Value->Shared->Prop}(hh:A.handled=none)(S:dz w s.heap a ps o es ep t Z)(hit:dj s.heap I a Z.length Z.length ep (cU w Z Z.length))
  (hQ:∀h',Heap.ExtBut I s.heap h'->Q none {s with heap:=h'}):wpAny (model prog w) A (pyNext (.ref I)) Q E s:=by
 have hT:=hit.typeIs;have hoi:=hit;unfold dj at hoi
 have hv:(dm w a ep es)[Z.length]?=none:=by
  rw[List.getElem?_eq_none_iff,jt.length_eq,JX,S.tab.size.2];exact Kc _
 unfold pyNext;refine J1 (wpAny_attempt (KY (name:=Str.ofString "__next__") hT Fx.slot_setiter_next (K0 Fx.slot_setiter_next hT Fx.entry_setiter_next ?_ (Fx.args_setiter_next _))));unfold Builtin.«set_iterator.__next__»;refine J1 (m:=slotArgs "__next__" 0 _) (LR (a:=(.ref I,[])) rfl ?_);dsimp only;unfold fieldsOf;refine J1 (J1 (J9 hoi ?_));refine J8 ?_;refine J1 (Nu S.ho S.hd S.fits ?_);rw[S.tab.size.2];simp only[Nq,Lu,KN,KM];refine J1 (sY S (Kc _) ?_);rw[hv];dsimp only[Option.map_none];refine J1 (Nv hoi (by simp) fun h1 e1 sb1=>?_);refine J1 ?_;simp only[newExc,newTuple];refine J1 (K5 ?_ (by size_fits));refine J1 (m:=firstArgMember _ _) (LR (a:=Value.none) (by first|rfl|(simp only[firstArgMember];rfl)) ?_);refine K5 ?_ (by size_fits);simp only[raiseNew];refine J1 (wpAny_handled ?_);rw[show A.in1.handled=none from hh];refine J1 (J8 (wpAny_throw ?_));refine J1 (wpAny_isInstance (T:="StopIteration") (b:=true) ⟨_,Kb _ rfl,rfl⟩ isSubtype_stop ?_);exact J8 (hQ _ ((sb1.extBut.push _).push _))
end
end RS
namespace RS
open PySem PySem.W PyProof.Rows
namespace Fx
theorem entry_extend_loop:entryFor table "list.extend.loop" = some Builtin.«list.extend.loop»:=entryFor_of_fast (by kernel_rfl)
theorem plain_extend_loop:plainId "list.extend.loop" = true:=by decide +kernel
theorem split_set_len:splitId "set.__len__" = some ("set", "__len__"):=by decide +kernel
end Fx
section
variable{prog:Program}{w:World}{A:Around}{E:Value->Shared->Prop}{s:Shared}
theorem uk{a:Addr}{ps:List (Int×Value)}{o es ep t Z}{Q:Bool->Shared->Prop}(S:dz w s.heap a ps o es ep t Z)(h:Q false s):wpAny (model prog w) A (Builtin.List.listLengthHint (.ref a)) Q E s:=by
 unfold Builtin.List.listLengthHint;refine J1 (wpAny_specialOf (fG S) PySem.F.slot_set_len.lookup ?_);dsimp only;rw[Fx.split_set_len];dsimp only;refine J1 (wpAny_isInstance (fG S) sub_set_self ?_);simp only[My,Lu,KN];rw[Jz (by rfl)];refine J1 (K3 (fG S) ?_);exact J8 h
theorem um{R:Result->Shared->Prop}{I a L:Addr}{ps:List (Int×Value)}{o es ep t Z}(hh:A.handled=none)(hIa:I≠a)(hIL:I≠L)(hLa:L≠a)(hz:Z.length<=100) :
  ∀(k i n:Nat) (s:Shared),Z.length-i=k->i<=Z.length->dz w s.heap a ps o es ep t Z->dj s.heap I a i Z.length ep (cU w Z i)->s.heap.get? L=some (seqObj "list" (((dm w a ep es).take i).map (·.2)).toArray n) ->
   (∀h' m,(∀b u,b≠I->b≠L->s.heap.get? b=some u->h'.get? b=some u)->h'.get? L=some (seqObj "list" ((dm w a ep es).map (·.2)).toArray m)->R (.ok (.ret (.ref L))) {s with heap:=h'}) ->
   codeAny (model prog w) A (.builtin "list.extend.loop" ⟨[.ref L,.ref I,.ref L],[]⟩) R s:=by
 intro k
 induction k with
 |zero=>
  intro i n s ek hi S hit hL hR;have e:i=Z.length:=by omega
  subst e;refine MM Fx.entry_extend_loop ?_;rw[MN Fx.plain_extend_loop _];show wpAny _ A.in1 (pyNext (.ref I) >>= _) _ _ s;refine J1 (BV (by simpa using hh) S hit fun h' eb=>?_);show wpAny _ A.in1 (ret (.ref L)) _ _ _;refine J8 (hR h' n (fun b u hb _ q=>eb b u hb q) ?_);rw[Mb (by rw[jt.length_eq,JX,S.tab.size.2];exact Kc _)]at hL;exact eb L _ (JO hIL) hL
 |succ k ih=>
  intro i n s ek hi S hit hL hR;have hil:i<(dm w a ep es).length:=by rw[jt.length_eq,JX,S.tab.size.2];omega
  refine MM Fx.entry_extend_loop ?_;rw[MN Fx.plain_extend_loop _];show wpAny _ A.in1 (pyNext (.ref I) >>= _) _ _ s;refine J1 (z9 S hit (Nt hil) fun h' hit' sb=>?_);have hL':h'.get? L=some (seqObj "list" (((dm w a ep es).take i).map (·.2)).toArray n):=(sb.2 L (JO hIL)).trans hL
  have hsz:(((dm w a ep es).take i).map (·.2)).toArray.size<=100:=by
   rw[Ki,KE,Ku];omega
  show wpAny _ A.in1 (Builtin.List.listUpdate (.ref L) _ >>= _) _ _ _;refine J1 (Nh (s:={s with heap:=h'}) hL' rfl ?_ (JH hsz (by decide)) (by rw[Array.size_push];exact JH (Nat.succ_le_succ hsz) (by decide)));have hL2:=Ni hL' (·.push ((dm w a ep es)[i]).2)
  have eL:(((dm w a ep es).take i).map (·.2)).toArray.push ((dm w a ep es)[i]).2=(((dm w a ep es).take (i+1)).map (·.2)).toArray:=by
   have q:(dm w a ep es).take (i+1)=(dm w a ep es).take i++[(dm w a ep es)[i]]:=by rw[MY,Nt hil];rfl
   rw[q,Mj,List.push_toArray];rfl
  rw[eL]at hL2;have hsb2:=LN h' L (Obj.mapSeq (·.push ((dm w a ep es)[i]).2));refine J8 ⟨plainId_quiet Fx.plain_extend_loop _,ih (i+1) _ _ (by omega) (by omega) ?_ ?_ hL2 fun h'' m kk hm=>?_⟩
  ·refine⟨?_,S.ex,S.hd,S.tab,S.plain,S.led,S.big,S.perm⟩;exact(hsb2.2 a (JO hLa)).trans ((sb.2 a (JO hIa)).trans S.ho)
  ·exact(hsb2.2 I hIL).trans hit'
  ·refine hR h'' m (fun b u hb1 hb2 q=>kk b u hb1 hb2 ?_) hm;exact(hsb2.2 b hb2).trans ((sb.2 b hb1).trans q)
theorem lA{α β:Type}{f:α->β}{l m:List β}(h:l.Perm m):∀ps:List α,m=ps.map f->∃qs:List α,qs.Perm ps/\l=qs.map f:=by
 induction h with
 |nil=>
  intro ps e;have:ps=[]:=List.map_eq_nil_iff.mp e.symm;exact⟨[],by rw[this],rfl⟩
 |cons x _ ih=>
  intro ps e;cases ps with
  |nil=>cases e
  |cons p ps=>
   rw[K7]at e;obtain⟨qs,h1,h2⟩:=ih ps (L8 e).2;exact⟨p::qs,h1.cons p,by rw[K7,<- h2,(L8 e).1]⟩
 |swap x y l=>
  intro ps e
  match ps,e with
  |p::q::r,e=>
   rw[K7,K7]at e;obtain⟨e1,e2⟩:=L8 e;obtain⟨e2,e3⟩:=L8 e2;exact⟨q::p::r,List.Perm.swap _ _ _,by rw[K7,K7,e1,e2,e3]⟩
 |trans _ _ ih1 ih2=>
  intro ps e;obtain⟨qs,h1,h2⟩:=ih2 ps e;obtain⟨rs,h3,h4⟩:=ih1 qs h2;exact⟨rs,h3.trans h1,h4⟩
theorem mX{a:Addr}{ps:List (Int×Value)}{o es ep t Z}{Q:List Value->Shared->Prop}(hh:A.handled=none)(S:dz w s.heap a ps o es ep t Z)(hz:Z.length<=100)
  (h:∀qs:List (Int×Value),qs.Perm ps->∀h',(∀b u,s.heap.get? b=some u->h'.get? b=some u)->s.heap.objs.size<=h'.objs.size->Q (qs.map (·.2)) {s with heap:=h'}):wpAny (model prog w) A (collect (.ref a)) Q E s:=by
 have hal:a<s.heap.objs.size:=JB S.ho;unfold collect;refine J1 (MX (MM entry_proto_collect' ?_));show wpAny _ _ (do again (.builtin "list.__iadd__" ⟨[<- newList [],.ref a],[]⟩)) _ _ s;refine J1 (Nj (J8 ⟨MU _ (by decide +kernel),MM entry_list_iadd' ?_⟩));show wpAny _ _ (Builtin.List.listExtendWith (.ref s.heap.objs.size) (.ref a) (.ref s.heap.objs.size)) _ _ {s with heap:=s.heap.push (seqObj "list" #[] 0)};have S1:dz w (s.heap.push (seqObj "list" #[] 0)) a ps o es ep t Z:=⟨Ka _ S.ho,S.ex,S.hd,S.tab,S.plain,S.led,S.big,S.perm⟩;unfold Builtin.List.listExtendWith;refine J1 (K3 (fG (s:={s with heap:=s.heap.push (seqObj "list" #[] 0)}) S1) ?_)
 have hsame:Builtin.List.listSameRef (.ref s.heap.objs.size) (.ref a)=false:=by
  show (s.heap.objs.size == a)=false;simpa using J7 hal
 rw[hsame,JA (by decide)];refine J1 (z8 (s:={s with heap:=s.heap.push (seqObj "list" #[] 0)}) S1 ?_);dsimp only;generalize hH:(s.heap.push (seqObj "list" #[] 0)).push {cls:=.type "set_iterator",data:=.fields #[.int ((0:Nat):Int) 0,.int ((0:Nat):Int) 0,.ref a,.int (Z.length:Int) 0,.int (ep:Int) 0]}=H2;have eI:(s.heap.push (seqObj "list" #[] 0)).objs.size=s.heap.objs.size+1:=by rw[Nk]
 have hk2:∀b u,s.heap.get? b=some u->H2.get? b=some u:=fun b u q=>by rw[<- hH];exact Ka _ (Ka _ q)
 have S2:dz w H2 a ps o es ep t Z:=⟨hk2 a o S.ho,S.ex,S.hd,S.tab,S.plain,S.led,S.big,S.perm⟩;have hL2:H2.get? s.heap.objs.size=some (seqObj "list" #[] 0):=by rw[<- hH];exact Ka _ (Kb _ rfl)
 have hI2:H2.get? (s.heap.objs.size+1)=some {cls:=.type "set_iterator",data:=.fields #[.int ((0:Nat):Int) 0,.int ((0:Nat):Int) 0,.ref a,.int (Z.length:Int) 0,.int (ep:Int) 0]}:=by
  rw[<- hH,<- eI];exact Kb _ rfl
 rw[eI];refine J1 (J2 (uk (s:={s with heap:=H2}) S2 ?_));rw[Jz (by rfl)];refine J1 (LF ?_);refine J1 ?_;unfold Builtin.List.listTouch;refine J1 (Nh (s:={s with heap:=H2}) hL2 rfl ?_ (LG _) (by decide));have hL3:=Ni hL2 (·.push Value.none);refine Nh (s:={s with heap:=H2.update s.heap.objs.size (Obj.mapSeq (·.push Value.none))}) hL3 rfl ?_ (by decide) (by decide);have hL4:=Ni hL3 (·.pop);have sb3:=LN H2 s.heap.objs.size (Obj.mapSeq (·.push Value.none));have sb4:=(sb3.trans (LN (H2.update s.heap.objs.size (Obj.mapSeq (·.push Value.none))) s.heap.objs.size (Obj.mapSeq (·.pop))));generalize hH4:(H2.update s.heap.objs.size (Obj.mapSeq (·.push Value.none))).update s.heap.objs.size (Obj.mapSeq (·.pop))=H4 at hL4 sb4;have neL:a≠s.heap.objs.size:=JE hal;have neI:s.heap.objs.size+1≠s.heap.objs.size:=Nat.succ_ne_self _;refine J8 ⟨MU _ (by decide +kernel),?_⟩
 refine um (by simpa using hh) (J7 (Lz hal)) neI (JO neL) hz (Z.length-0) 0 _ {s with heap:=H4} (by omega) (LG _)
  ⟨(sb4.2 a neL).trans S2.ho,S.ex,S.hd,S.tab,S.plain,S.led,S.big,S.perm⟩ ?_ (by rw[List.take_zero];exact hL4) fun h' m kk hm=>?_
 ·unfold dj;have e0:cU w Z 0=0:=by unfold cU;split <;> simp
  rw[e0];exact(sb4.2 _ neI).trans hI2
 ·dsimp only;refine J1 (J9 hm ?_);refine J8 ?_;have hp:(dm w a ep es).Perm ps:=jt.trans (by rw[S.tab.ents];exact S.perm)
  have fin:=h (dm w a ep es) hp h' fun b u q=>by
   have hb:b<s.heap.objs.size:=JB q;exact kk b u (JE (Lz hb)) (JE hb) ((sb4.2 b (JE hb)).trans (hk2 b u q))
  exact fin (JI (JB hm))
theorem uo{a:Addr}{ps:List KP}{Q:List Value->Shared->Prop}(hh:A.handled=none)(S:bO w s.heap a ps)
  (h:∀qs:List KP,qs.Perm ps->∀h',(∀b u,s.heap.get? b=some u->h'.get? b=some u)->s.heap.objs.size<=h'.objs.size->Q (aU qs) {s with heap:=h'}):wpAny (model prog w) A (collect (.ref a)) Q E s:=by
 obtain⟨o,es,ep,t,Z,S,hk,hn⟩:=S;have h15:=jI hk hn;refine mX hh S (by rw[S.len,KE];omega) fun qs hq h' k1 k2=>?_;obtain⟨rs,q1,q2⟩:=lA hq ps rfl;have q3:qs.map (·.2)=aU rs:=by rw[q2,LY];rfl
 rw[q3];exact h rs q1 h' k1 k2
theorem xt{x:Value}{ps:List KP}{Q:Value->Shared->Prop}(hk:∀p∈ps,p.1∈prs)(hn:(ps.map (·.1)).Nodup)(hT:∀p∈ps,Tk prog w s.heap p.1 p.2)
  (hcol:∀Q':List Value->Shared->Prop,(∀qs:List KP,qs.Perm ps->∀h',(∀b u,s.heap.get? b=some u->h'.get? b=some u)->s.heap.objs.size<=h'.objs.size->Q' (aU qs) {s with heap:=h'})->wpAny (model prog w) A.in1 (collect x) Q' E s)
  (h:∀out:List KP,out.Perm ps->gL out->∀h' D,s.heap.objs.size<=D->(∀b u,s.heap.get? b=some u->h'.get? b=some u)->(∃n,h'.get? D=some (seqObj "list" (aU out).toArray n))->Q (.ref D) {s with heap:=h'}) :
  wpAny (model prog w) A (call (.builtin "sorted") [x]) Q E s:=by
 refine Nw kind_sorted plain_sorted entry_sorted (args_sorted1 _) ?_;unfold Builtin.«sorted»;refine J1 (m:=checkCount "sorted" 1 1 _) (J8 ?_);refine J1 (hcol _ fun qs hqs h1 k1 hsz=>?_);have hkq:∀p∈qs,p.1∈prs:=fun p hp=>hk p (hqs.mem_iff.mp hp);have hnq:(qs.map (·.1)).Nodup:=(hqs.map _).nodup_iff.mpr hn;have hlen:=jI hkq hnq;have hvl:(aU qs).length<=15:=by unfold aU;rw[KE];exact hlen
 refine J1 (Nj ?_ (JH hvl (by decide)));have hoL:(h1.push (seqObj "list" (aU qs).toArray 0)).get? h1.objs.size=some (seqObj "list" (aU qs).toArray 0):=Kb _ rfl;have hnn:∀b u,h1.get? b=some u->b≠h1.objs.size:=fun b u q=>JE (JB q);refine J1 (J2 (K0 slot_list_sort (s:={s with heap:=h1.push (seqObj "list" (aU qs).toArray 0)}) ⟨_,hoL,rfl⟩ Nx ?body (args_list_sort _)))
 case body=>
  refine vb (s:={s with heap:=h1.push (seqObj "list" (aU qs).toArray 0)}) hoL hkq hnq (fun p hp=>?_) fun out h2 h3=>?_
  ·obtain⟨o,its,n,ho,rest⟩:=hT p (hqs.mem_iff.mp hp);exact⟨o,its,n,Ka _ (k1 _ _ ho),rest⟩
  ·refine ⟨_, rfl, J8 ⟨_, rfl, h out (h2.trans hqs) h3 _ h1.objs.size hsz (fun b u q => ?_) ?_⟩⟩
   ·have hb:=hnn b u (k1 b u q);unfold sortedHeap;rw[Np _ _ _ _ hb];refine Ka _ (Ka _ ?_);rw[Np _ _ _ _ hb];exact Ka _ (k1 b u q)
   ·unfold sortedHeap;have g1:=Ni hoL (fun _=>#[]);have g2:=Ka (seqObj "list" #[] 0) (Ka (seqObj "tuple" (aU qs).toArray 0) g1);exact⟨_,Ni g2 (fun _=>(aU out).toArray)⟩
theorem va{a:Addr}{ps:List KP}{Q:Value->Shared->Prop}(hh:A.handled=none)(S:bO w s.heap a ps)(hT:∀p∈ps,Tk prog w s.heap p.1 p.2)
  (h:∀out:List KP,out.Perm ps->gL out->∀h' D,s.heap.objs.size<=D->(∀b u,s.heap.get? b=some u->h'.get? b=some u)->(∃n,h'.get? D=some (seqObj "list" (aU out).toArray n))->Q (.ref D) {s with heap:=h'}) :
  wpAny (model prog w) A (call (.builtin "sorted") [.ref a]) Q E s:=by
 obtain⟨o,es,ep,t,Z,S0,hk,hn⟩:=id S;exact xt hk hn hT (fun Q' hq=>uo (by simpa using hh) S hq) h
end
end RS
namespace RS
open PySem PySem.W PyProof.Rows
theorem pT.free{t:SetTable}{es:Array (Int×Value)}{Z:List (Nat×Int×Value)}(T:pT t es Z){h:Int}(cov:∀j,j<=t.mask->j∈cx t.mask h)(hz:Z.length<=t.mask)(hA:Nat->Int)(hne:∀i,hA i≠h) :
  ∃j pre post,t.probe hA h (t.probeStart h)=some (.empty j none)/\j<=t.mask/\j∉Z.map (·.1)/\cx t.mask h=pre++j::post/\∀k∈pre,k∈Z.map (·.1):=by
 obtain⟨j0,hj0,hn0⟩:=qv (m:=t.mask) (l:=Z.map (·.1)) (by rw[KE];exact hz);obtain⟨pre,j,post,e,hs,hp⟩:=iT (fun j=>j∉Z.map (·.1)) (cx t.mask h) ⟨j0,cov j0 hj0,hn0⟩
 have el:(xa t.mask (SetTable.turns t.mask) (SetTable.bits h%(t.mask+1)) (SetTable.bits h)).length=pre.length+1+post.length:=by
  show (cx t.mask h).length=_;rw[e,KD,Lx];omega
 have hw:gI t (pre.length+1+post.length) (t.probeStart h)=pre++j::post:=by
  have q:=om t (SetTable.turns t.mask) (SetTable.bits h%(t.mask+1)) (SetTable.bits h) none;rw[el]at q;exact q.trans e
 have hlen:pre.length<10*SetTable.turns t.mask:=by
  have q:=rq t.mask (SetTable.turns t.mask) (SetTable.bits h%(t.mask+1)) (SetTable.bits h);omega
 have occ:∀k∈pre,k∈Z.map (·.1):=fun k hk=>Md fun q=>hp k hk q
 have hpre:∀k∈pre,∃i,t.slot k=.live i/\hA i≠h:=fun k hk=>by
  obtain⟨z,hzm,ez⟩:=Mc.mp (occ k hk);obtain⟨i,hi⟩:=Mf hzm;exact⟨i,ez ▸ T.slot_live hi,hne i⟩
 obtain⟨g1,g2⟩:=rE t hA h pre j post (10*SetTable.turns t.mask) (t.probeStart h) hw hlen rfl hpre;exact⟨j,pre,post,g1 (T.slot_empty hs),iA (h:=h) (by rw[e];simp),hs,e,occ⟩
abbrev KI:=Int×Tok
def yE(p:KI):Int×Value:=(hashInt p.1,Value.int p.1 p.2)
def ins:List Int:=[0,1,2,3,4,5]
theorem C0{i:Int}:i∈ins↔0<=i/\i<6:=by
 unfold ins;simp only[JN,LU,LV];omega
def DY(mask:Nat):Bool:=ins.all fun k=>(List.range (mask+1)).all fun j=>(cx mask (hashInt k)).contains j
theorem HG:DY 7=true:=by decide +kernel
theorem zG:DY 31=true:=by decide +kernel
theorem rL{mask:Nat}(h:DY mask=true){k:Int}(hk:k∈ins):∀j,j<=mask->j∈cx mask (hashInt k):=fun j hj=>by
 have a:=Mw.mp h k hk;have b:=Mw.mp a j (JG.mpr (by omega));simpa using b
theorem qq{a b:Int}(ha:a∈ins)(hb:b∈ins)(e:hashInt a=hashInt b):a=b:=by
 have key:∀x∈ins,∀y∈ins,hashInt x=hashInt y->x=y:=by decide +kernel
 exact key a ha b hb e
def cM(w:World)(h:Heap)(a:Addr)(ps:List KI):Prop:=∃o es ep t Z,dz w h a (ps.map yE) o es ep t Z/\(∀p∈ps,p.1∈ins)/\(ps.map (·.1)).Nodup
theorem jv{ps:List KI}(hk:∀p∈ps,p.1∈ins)(hn:(ps.map (·.1)).Nodup):ps.length<=6:=by
 have:=iw hn (l2:=ins) (fun x hx=>by obtain⟨p,hp,e⟩:=Mc.mp hx;rw[<- e];exact hk p hp);rw[KE]at this;exact this
theorem cM.keeps{w:World}{h h':Heap}{a:Addr}{ps:List KI}(S:cM w h a ps)(k:∀o,h.get? a=some o->h'.get? a=some o):cM w h' a ps:=by
 obtain⟨o,es,ep,t,Z,S,hk,hn⟩:=S;exact⟨o,es,ep,t,Z,⟨k o S.ho,S.ex,S.hd,S.tab,S.plain,S.led,S.big,S.perm⟩,hk,hn⟩
theorem IY{w:World}{h:Heap}{a:Addr}{ps:List (Int×Value)}{o es ep t Z}(S:dz w h a ps o es ep t Z){k:Int}(hk:k∈ins):∀j,j<=t.mask->j∈cx t.mask (hashInt k):=by
 rcases S.big with⟨h1,h2⟩|⟨h1,h2⟩ <;> rw[h1]
 ·exact rL HG hk
 ·exact rL zG hk
def sD(ps:List KI)(k:Int)(t:Tok):List KI:=if k∈ps.map (·.1) then ps else ps++[(k,t)]
section
variable{prog:Program}{w:World}{A:Around}{E:Value->Shared->Prop}{s:Shared}
theorem qc{a:Addr}{k:Int}{tk:Tok}{ps0:List (Int×Value)}{o es ep t Z}(S:dz w s.heap a ps0 o es ep t Z){Q:ScanMet->Shared->Prop} :
  ∀(l:List (Int×Value))(n:Nat),(∀e∈l,∃p:KI,e=yE p/\p.1∈ins)->k∈ins->((∃e∈l,e.1=hashInt k)->∀i,Q (.found i) s)->((∀e∈l,e.1≠hashInt k)->Q .absent s)->wpAny (model prog w) A (setScanFrom a (.int k tk) (hashInt k) true l n) Q E s
 |[],n,_,_,h1,h2=>by
  unfold setScanFrom;exact J8 (h2 fun e he=>by simp at he)
 |e::l,n,hl,hk,h1,h2=>by
  obtain⟨p,rfl,hp⟩:=hl e JK;show wpAny _ _ (setScanFrom a _ _ true ((hashInt p.1,Value.int p.1 p.2)::l) n) _ _ _;unfold setScanFrom;by_cases he:hashInt p.1=hashInt k
  ·rw[Jz (by simpa using he)];have ek:=qq hp hk he;refine J1 (m:=setEpoch a) (wpAny_setEpoch_of S.ho S.hd S.fits ?_);refine J1 (Jy ?_);rw[ek];simp only[Ls,MD,KO];exact J8 (h1 ⟨_,JK,he⟩ _)
  ·rw [JA (by simpa using he)];refine qc S l (n+1) (fun x hx=>hl x (JL _ hx)) hk (fun⟨x,hx,ex⟩=>h1 ⟨x,JL _ hx,ex⟩) fun hx=>h2 fun x hxm=>?_;rcases JN.mp hxm with z|z
   ·rw[z];exact he
   ·exact hx x z
theorem Dh{a:Addr}{k:Int}{tk:Tok}{ps:List KI}{Q:Bool->Shared->Prop}(S:cM w s.heap a ps)(hk:k∈ins)
  (h:∀b h',Heap.SameBut a s.heap h'->cM w h' a (sD ps k tk)->Q b {s with heap:=h'}):wpAny (model prog w) A (setAddHashed a (.int k tk) (hashInt k)) Q E s:=by
 obtain⟨o,es,ep,t,Z,S,hk0,hn0⟩:=S
 have hent:∀e∈es.toList,∃p∈ps,e=yE p:=fun e he=>by
  rw[S.tab.ents]at he;obtain⟨p,hp,q⟩:=Mc.mp (S.perm.mem_iff.mp he);exact⟨p,hp,q.symm⟩
 have hto:∀p∈ps,yE p∈es.toList:=fun p hp=>by
  rw[S.tab.ents];exact S.perm.mem_iff.mpr (Mg hp)
 have hlen6:=jv hk0 hn0;have hZl:Z.length=ps.length:=by rw[S.len,KE]
 have hesz0:es.size=ps.length:=by rw[S.tab.size.2,hZl]
 have hz:Z.length<=t.mask:=by rcases S.big with⟨q,q2⟩|⟨q,q2⟩ <;> omega
 unfold setAddHashed setAddHashedIn;refine J2 (J1 (MC S.ho S.hd S.fits ?_));dsimp only
 have hsc:byScan (Value.int k tk) es=true:=by
  unfold byScan;have h1:decide (es.size<scanBound)=true:=Lp (by rw[hesz0];unfold scanBound;omega)
  have h2:es.all (fun x=>x.2.scannable)=true:=by
   rw[<- Array.all_toList,Mw];intro e he;obtain⟨p,_,rfl⟩:=hent e he;rfl
  rw[h1,h2];rfl
 rw[hsc];simp only[KO];refine J1 ?_;unfold setAddByScan;refine J1 (LF ?_);refine J1 ?_;show wpAny _ _ (setScanFrom a (.int k tk) (hashInt k) true es.toList 0) _ _ _;refine qc S es.toList 0 (fun e he=>by obtain⟨p,hp,e'⟩:=hent e he;exact⟨p,e',hk0 p hp⟩) hk (fun hex i=>?_) fun hno=>?_
 ·obtain ⟨e, he, q⟩ := hex;obtain⟨p,hp,rfl⟩:=hent e he;have ek:p.1=k:=qq (hk0 p hp) hk q;refine J8 (J8 ?_)
  have q:=h false s.heap (Heap.SameBut.refl a s.heap) (by
   unfold sD;rw[Jz (by rw[<- ek];exact Mg hp)];exact⟨o,es,ep,t,Z,S,hk0,hn0⟩)
  cases s;exact q
 ·have hin:k∉ps.map (·.1):=fun hx=>by
   obtain⟨p,hp,e⟩:=Mc.mp hx;exact hno _ (hto p hp) (by rw[<- e];rfl)
  dsimp only;obtain⟨j,pre,post,epr,hj,hn,e,hp⟩:=S.tab.free (IY S hk) hz (fun _=>hashInt k+1) (fun _=>by omega);obtain⟨Z',T',hperm,et⟩:=S.tab.put (x:=Value.int k tk) hj hn e hp
  have hfree:t.freeSlot (hashInt k)=some (j,false):=by
   unfold SetTable.freeSlot;rw[epr];rfl
  have hpl:(t.put j).1.plain=true:=by rw[et];exact S.plain
  have hled:(t.put j).1.led=t.led:=by rw[et]
  have hmask:(t.put j).1.mask=t.mask:=by rw[et]
  have hperm':(Z'.map (·.2)).Perm ((ps++[(k,tk)]).map yE):=by
   refine(hperm.map (·.2)).trans ?_;rw[K7,Mj];refine List.Perm.trans (List.Perm.cons _ S.perm) ?_;exact(List.perm_append_singleton _ _).symm
  have hkeys:∀p∈ps++[(k,tk)],p.1∈ins:=fun p hp'=>by
   rcases JP.mp hp' with q|q
   ·exact hk0 p q
   ·rw[LH]at q;rw[q];exact hk
  have hnd:((ps++[(k,tk)]).map (·.1)).Nodup:=by
   rw[Mj];refine MF.mpr ⟨hn0,by simp,fun x hx y hy=>?_⟩;simp at hy;rw[hy];rintro rfl;exact hin hx
  have hlen:=jv hkeys hnd;have hZ':Z'.length=ps.length+1:=by rw[hperm.length_eq,Lx,hZl]
  have hesz:(SetTable.insertAt es (t.put j).2 (hashInt k,Value.int k tk)).size=Z'.length:=T'.size.2;have hadd:sD ps k tk=ps++[(k,tk)]:=by unfold sD;rw[JA hin]
  rw[hadd]at h;rw[KD,Lm]at hlen
  have hfit:(t.put j).1.fits (SetTable.insertAt es (t.put j).2 (hashInt k,Value.int k tk)).size=true:=by
   unfold SetTable.fits;rw[T'.fill,T'.size.1,hesz,hmask];rcases S.big with⟨q,q2⟩|⟨q,q2⟩ <;> simp[q] <;> omega
  have hlay:layNew t es (hashInt k) (.int k tk)=(SetTable.insertAt es (t.put j).2 (hashInt k,Value.int k tk),(t.put j).1,false,false):=by
   unfold layNew;rw[hfree];dsimp only;unfold SetTable.orStandIn;rw[hfit];rfl
  rw[hlay];dsimp only;generalize ht1:(t.put j).1=t1 at *;generalize hes1:SetTable.insertAt es (t.put j).2 (hashInt k,Value.int k tk)=es1 at *;have hline:es1.size<=sizeLine:=by rw[hesz,hZ'];exact JH hlen (by decide)
  refine J1 (J8 ?_);refine J1 (J8 ?_);rw[hpl];simp only[KO];refine J1 (m:=hashByValue 8 (.int k tk)) (J8 ?_);simp only[KO];refine J1 (MH S.ho S.hd ?_ hline)
  have hg:(s.heap.update a (Obj.putSet es1 t1)).get? a=some {o with data:=.set es1 (ep+1) t1}:=by
   have:=La (Obj.putSet es1 t1) S.ho (by rw[MJ es1 t1 S.hd];rfl);rw[MJ es1 t1 S.hd]at this;exact this
  have hsb1:=LN s.heap a (Obj.putSet es1 t1);have hfill:t1.fill=ps.length+1:=by rw[T'.fill,hZ']
  by_cases hfull:t1.tooFull=true
  ·simp only [hfull, MK, MD, KO]
   have hm7:t.mask=7/\ps.length=4:=by
    unfold SetTable.tooFull at hfull;rw[hfill,hmask]at hfull;have hf:(ps.length+1)*5 ≥ t.mask*3:=by simpa using hfull
    rcases S.big with⟨q,q2⟩|⟨q,q2⟩
    ·rw[q]at hf;exact⟨q,by omega⟩
    ·rw[q]at hf;omega
   have hsz1:es1.size=5:=by rw[hesz,hZ',hm7.2]
   have hgr:SetTable.grown es1.size=20:=by rw[hsz1];rfl
   rw[hgr]
   obtain⟨t2,order,Z2,er,T2,hp2,hm2,hl2,hpl2,hord⟩:=oH (t:=t1) (es:=es1) (wanted:=20) (mask:=31) (by rfl) (by rw[hsz1];decide) (fun e' he'=>by
    rw[T'.ents]at he';obtain⟨p,hp',q⟩:=Mc.mp (hperm'.mem_iff.mp he');rw[<- q]
    exact rL zG (hkeys p hp'))
   have hZ2:Z2.length=5:=by
    have:=hp2.length_eq;simp at this;omega
   have hes2:(order.filterMap (es1[·]?)).size=5:=by rw[T2.size.2,hZ2]
   have hrel:relayAll t1 es1 20=(order.filterMap (es1[·]?),t2,false):=by
    unfold relayAll;rw[er];dsimp only
    have c1:coversAll order es1.size=true:=by
     unfold coversAll;exact List.isPerm_iff.mpr hord
    have c2:t2.fits (order.filterMap (es1[·]?)).size=true:=by
     unfold SetTable.fits;rw[T2.fill,T2.size.1,hes2,hm2,hZ2];rfl
    rw[c1,c2];rfl
   rw[hrel];dsimp only;refine J1 (J1 (J8 (J8 ?_)));refine J1 (MH hg rfl ?_ (by rw[hes2];decide))
   have hg2:((s.heap.update a (Obj.putSet es1 t1)).update a (Obj.putSet (order.filterMap (es1[·]?)) t2)).get? a=some {o with data:=.set (order.filterMap (es1[·]?)) (ep+1+1) t2}:=by
    have:=La (Obj.putSet (order.filterMap (es1[·]?)) t2) hg (by rw[MJ _ t2 rfl];rfl);rw[MJ _ t2 rfl]at this;exact this
   refine J8 (J8 ?_);refine h true _ (hsb1.trans (LN _ a _)) ⟨_,_,_,t2,Z2,⟨hg2,S.ex,rfl,T2,by rw[hpl2];exact hpl,by rw[hl2,hled];exact S.led,.inr ⟨hm2,by omega⟩,?_⟩,hkeys,hnd⟩;refine hp2.trans ?_;rw[T'.ents];exact hperm'
  ·have hf : t1.tooFull = false := by simpa using hfull
   simp only[hf,Bool.and_false,Lu,KN];refine J8 (J8 ?_);refine h true _ hsb1 ⟨_,_,_,t1,Z',⟨hg,S.ex,rfl,T',hpl,by rw[hled];exact S.led,?_,hperm'⟩,hkeys,hnd⟩;unfold SetTable.tooFull at hf;rw[hfill,hmask]at hf;have hf':¬ ((ps.length+1)*5 ≥ t.mask*3):=by simpa using hf
   rw[hmask,hZ'];rcases S.big with⟨q,q2⟩|⟨q,q2⟩
   ·rw[q]at hf'⊢;exact .inl ⟨rfl,by omega⟩
   ·rw[q]at hf'⊢;exact .inr ⟨rfl,by omega⟩
end
end RS
namespace PySem
open Sem (wp)
theorem qE(o:Obj)(f):(o.mapFields f).dict=o.dict:=by
 obtain⟨c,d,dt,sl⟩:=o;cases dt <;> rfl
namespace Heap
def TracedD(h base:Heap)(e:Addr)(cls a0:Value)(dx:Option Addr):Prop:=
 ∃oe vs T oT ts,h.get? e=some oe/\(oe.cls=cls/\oe.dict=dx/\vs[0]?=some a0)/\oe.data=.fields vs/\vs[1]?=some (.ref T)/\base.get? T=none/\T≠e/\h.get? T=some oT/\oT.data=.fields ts/\ts[3]?=some .none
def TracedAtD(h base:Heap)(e:Addr)(cls a0:Value)(dx:Option Addr)(fl:Value):Prop:=
 ∃oe vs T oT ts,h.get? e=some oe/\(oe.cls=cls/\oe.dict=dx/\vs[0]?=some a0)/\oe.data=.fields vs/\vs[1]?=some (.ref T)/\base.get? T=none/\T≠e/\h.get? T=some oT/\oT.data=.fields ts/\ts[3]?=some fl
theorem TracedD.at{h base:Heap}{e:Addr}{cls a0:Value}{dx:Option Addr}(x:h.TracedD base e cls a0 dx):h.TracedAtD base e cls a0 dx .none:=x
def NotedD(base:Heap)(l:List Env)(e:Addr)(cls a0:Value)(dx:Option Addr)(fl:Value)(h h':Heap):Prop:=
 base.StaysIn h'/\h'.FunFrames base l/\h'.TracedAtD base e cls a0 dx fl/\∀b o,h.get? b=some o->(∀vs,o.data≠.fields vs)->∃sl,h'.get? b=some {o with slots:=sl}
end Heap
section
variable{M:Model}{A:Around}{E:Value->Shared->Prop}{s:Shared}
def kG(base:Heap)(l:List Env)(e:Addr)(cls a0:Value)(dx:Option Addr)(h h':Heap):Prop:=
 base.StaysIn h'/\h'.FunFrames base l/\h'.TracedD base e cls a0 dx /\
  ∀b o,h.get? b=some o->(∀vs,o.data≠.fields vs)->∃sl,h'.get? b=some {o with slots:=sl}
theorem iY{base:Heap}{env:Env}{outer:List Env}{L e:Addr}{oe:Obj}{vs:Array Value}{head a0:Value}{hadNext:Bool}{Q:Unit->Shared->Prop}
  (hfr:A.frames=some (env::outer)) (hl:s.heap.FunFrames base (env::outer)) (hf:env.frame=some L)
  (he:s.heap.get? e=some oe) (hkb:base.StaysIn s.heap) (hen:base.get? e=none) (hd:oe.data=.fields vs) (hsz:1<vs.size) (h0:vs[0]?=some a0)
  (h:∀h',kG base (env::outer) e oe.cls a0 oe.dict s.heap h'->Q () {s with heap:=h'}) :
  wpAny M A (do let a <- frameOf env;let pl <- entryPlaceOf L hadNext;let b <- EntryCells.newEntry head a .none (rawInt L) .none pl;setField (.ref e) 1 b) (fun _ s'=>wpAny M A (setFlight (.ref e) none) Q E s') E s:=by
 have hene:e∉(env::outer).filterMap (·.frame):=fun hm=>by
  obtain⟨_,o,ho,hnf⟩:=hl.mem hm;rw[he]at ho;injection ho with ho;subst ho;exact hnf vs hd
 refine J1 (wpAny_frameOf_fun hfr hl hf fun h₁ hs₁=>?_);refine J1 (wpAny_entryPlaceOf fun pl hpl=>?_);unfold EntryCells.newEntry newFields;refine J1 (K5 ?_ (hpl.sizeOk5 _ _ _ _ _));have he₁:h₁.get? e=some oe:=(hs₁.2.1 e hene).trans he;have kb₁:base.StaysIn h₁:=fun b o hbo=>(hs₁.2.1 b fun hm=>by rw[(hl.mem hm).1]at hbo;cases hbo).trans (hkb b o hbo);have he₂:=Ka (h:=h₁) {cls:=.type "traceback",dict:=none,data:=.fields ([head,.ref L,.none,rawInt L,.none]++(if pl.isEmpty then List.replicate 6 Value.none else pl)).toArray} he₁;refine LM he₂ hd hsz ?_;have hTe:h₁.objs.size≠e:=J7 (JB he₁);have hd₃:=LP hd (·.setIfInBounds 1 (Value.ref h₁.objs.size));have he₃:=La (Obj.mapFields (·.setIfInBounds 1 (Value.ref h₁.objs.size))) he₂ (LO hd₃)
 have hT₃:=(Lb (h₁.push {cls:=.type "traceback",dict:=none,data:=.fields ([head,.ref L,.none,rawInt L,.none]++(if pl.isEmpty then List.replicate 6 Value.none else pl)).toArray})
  (Obj.mapFields (·.setIfInBounds 1 (Value.ref h₁.objs.size))) (JO hTe)).trans (Kb h₁ rfl)
 unfold setFlight;refine J1 (KR he₃ hd₃ (x:=.ref h₁.objs.size) (by simp[hsz]) ?_);rw[Jz (show (Value.ref h₁.objs.size != Value.none)=true from by simp)];refine LM hT₃ rfl (by simp only[Ki,KD,Lx,L7] <;> omega) (h _ ?_)
 have keep:∀b o,b≠e->h₁.get? b=some o ->
   (((h₁.push { cls := .type "traceback", dict := none, data := .fields ([head, .ref L, .none, rawInt L, .none] ++ (if pl.isEmpty then List.replicate 6 Value.none else pl)).toArray }).update e (Obj.mapFields (·.setIfInBounds 1 (Value.ref h₁.objs.size)))).update h₁.objs.size
     (Obj.mapFields (·.setIfInBounds 3 ((none:Option Addr).elim Value.none fun f=>rawInt f)))).get? b=some o:=fun b o hbe hb=>by
  have hbT:h₁.objs.size≠b:=J7 (JB hb);rw[Lb _ _ hbT,Lb _ _ (JO hbe)];exact Ka _ hb
 have noRecord:∀b o,s.heap.get? b=some o->(∀vs,o.data≠.fields vs)->b≠e:=fun b o hb hnf q=>by
  rw[q,he]at hb;injection hb with hb;subst hb;exact hnf vs hd
 refine⟨fun b o hbo=>keep b o (fun q=>by rw[q,hen]at hbo;cases hbo) (kb₁ b o hbo),hl.of_keeps fun b o hb hnf=>?_,?_,fun b o hb hnf=>?_⟩
 ·obtain⟨sl,hs⟩:=hs₁.2.2 b o hb;exact⟨_,keep b _ (noRecord b o hb hnf) hs,rfl⟩
 ·refine⟨_,_,h₁.objs.size,_,_,?_,⟨LQ _ _,qE _ _,by rw[Ny (by decide)];exact h0⟩,hd₃,by simp[hsz],kb₁.fresh,hTe,La _ hT₃ (LO (LP rfl _)),LP rfl _,by first|(simp;done)|(rcases hpl with rfl|⟨_,_,_,_,_,_,_,rfl⟩ <;> simp)⟩;rw[Lb _ _ hTe];exact he₃
 ·obtain⟨sl,hs⟩:=hs₁.2.2 b o hb;exact⟨sl,keep b _ (noRecord b o hb hnf) hs⟩
theorem jF{base:Heap}{env:Env}{outer:List Env}{L e:Addr}{oe:Obj}{vs:Array Value}{a0:Value}{Q:Unit->Shared->Prop}
  (hfr:A.frames=some (env::outer)) (hl:s.heap.FunFrames base (env::outer)) (hf:env.frame=some L)
  (he:s.heap.get? e=some oe) (hkb:base.StaysIn s.heap) (hen:base.get? e=none) (hd:oe.data=.fields vs) (h1:vs[1]?=some .none) (h0:vs[0]?=some a0)
  (h:∀h',kG base (env::outer) e oe.cls a0 oe.dict s.heap h'->Q () {s with heap:=h'}):wpAny M A (leaving env (.ref e)) Q E s:=by
 unfold leaving noteFrame;simp only[hf];refine J1 (J1 (KR he hd h1 ?_));rw[JA (by decide)];exact iY hfr hl hf he hkb hen hd (Ma.mp h1).1 h0 h
theorem jS{base:Heap}{env:Env}{outer:List Env}{L e:Addr}{cls a0:Value}{dx:Option Addr}{Q:Unit->Shared->Prop}
  (hfr:A.frames=some (env::outer)) (hl:s.heap.FunFrames base (env::outer)) (hf:env.frame=some L) (ht:s.heap.TracedD base e cls a0 dx) (hkb:base.StaysIn s.heap) (hen:base.get? e=none)
  (h:∀h',kG base (env::outer) e cls a0 dx s.heap h'->Q () {s with heap:=h'}):wpAny M A (leaving env (.ref e)) Q E s:=by
 obtain⟨oe,vs,T,oT,ts,he,⟨hcls,hdx,h0⟩,hd,h1,hnT,hTe,hT,hdT,h3⟩:=ht;subst hcls hdx;unfold leaving noteFrame;simp only[hf];refine J1 (J1 (KR he hd h1 ?_));rw[Jz (show (Value.ref T != Value.none)=true from by simp)];refine J1 (KR hT hdT h3 ?_);rw[JA (show ¬ ((Value.none == rawInt L)=true) from by simp[rawInt])];refine J1 (LM hT hdT (Ma.mp h3).1 ?_);have other:∀b,b≠T->(s.heap.update T (Obj.mapFields (·.setIfInBounds 3 Value.none))).get? b=s.heap.get? b:=fun b hb=>Lb _ _ (JO hb)
 have noRecord:∀b o,s.heap.get? b=some o->(∀vs,o.data≠.fields vs)->b≠T:=fun b o hb hnf q=>by
  rw[q,hT]at hb;injection hb with hb;subst hb;exact hnf ts hdT
 refine iY hfr (hl.of_keeps fun b o hb hnf=>⟨o,(other b (noRecord b o hb hnf)).trans hb,rfl⟩) hf ((other e (JO hTe)).trans he)
  (fun b o hbo=>(other b fun q=>by rw[q,hnT]at hbo;cases hbo).trans (hkb b o hbo)) hen hd (Ma.mp h1).1 h0
  fun h' ⟨x1,x2,x3,x4⟩=>h h' ⟨x1,x2,x3,fun b o hb hnf=>x4 b o ((other b (noRecord b o hb hnf)).trans hb) hnf⟩
def bz(base:Heap)(l:List Env)(e:Addr)(cls a0:Value)(dx:Option Addr)(h:Heap):Prop:=
 base.StaysIn h/\base.get? e=none/\h.FunFrames base l/\h.TracedD base e cls a0 dx
theorem bz.there{base h:Heap}{l:List Env}{e:Addr}{cls a0:Value}{dx:Option Addr}(x:bz base l e cls a0 dx h):∃ob,h.get? e=some ob/\ob.cls=cls:=by
 obtain⟨_,_,_,oe,_,_,_,_,he,hc,_⟩:=x;exact⟨oe,he,hc.1⟩
theorem my{base:Heap}{env:Env}{outer:List Env}{L e:Addr}{cls a0:Value}{dx:Option Addr}{Q:Unit->Shared->Prop}
  (hfr:A.frames=some (env::outer)) (hf:env.frame=some L) (hfl:bz base (env::outer) e cls a0 dx s.heap)
  (hQ:∀h',bz base outer e cls a0 dx h'->s.heap.UpToSlots h'->Q () {s with heap:=h'}):wpAny M A (leaving env (.ref e)) Q E s:=by
 obtain⟨f1,f2,f3,f4⟩:=hfl;refine jS hfr f3 hf f4 f1 f2 fun h' hL=>?_;obtain⟨k1,⟨_,_,k2⟩,k3,k4⟩:=hL;exact hQ h' ⟨k1,f2,k2,k3⟩ k4
theorem rQ{base:Heap}{env:Env}{outer:List Env}{L e:Addr}{oe:Obj}{vs:Array Value}{head a0:Value}{hadNext:Bool}{Q:Unit->Shared->Prop}
  (hfr:A.frames=some (env::outer)) (hl:s.heap.FunFrames base (env::outer)) (hf:env.frame=some L)
  (he:s.heap.get? e=some oe) (hkb:base.StaysIn s.heap) (hen:base.get? e=none) (hd:oe.data=.fields vs) (hsz:1<vs.size) (h0:vs[0]?=some a0)
  (h:∀h',Heap.NotedD base (env::outer) e oe.cls a0 oe.dict (rawInt L) s.heap h'->Q () {s with heap:=h'}) :
  wpAny M A (do let a <- frameOf env;let pl <- entryPlaceOf L hadNext;let b <- EntryCells.newEntry head a .none (rawInt L) .none pl;setField (.ref e) 1 b) Q E s:=by
 have hene:e∉(env::outer).filterMap (·.frame):=fun hm=>by
  obtain⟨_,o,ho,hnf⟩:=hl.mem hm;rw[he]at ho;injection ho with ho;subst ho;exact hnf vs hd
 refine J1 (wpAny_frameOf_fun hfr hl hf fun h₁ hs₁=>?_);refine J1 (wpAny_entryPlaceOf fun pl hpl=>?_);unfold EntryCells.newEntry newFields;refine J1 (K5 ?_ (hpl.sizeOk5 _ _ _ _ _));have he₁:h₁.get? e=some oe:=(hs₁.2.1 e hene).trans he;have kb₁:base.StaysIn h₁:=fun b o hbo=>(hs₁.2.1 b fun hm=>by rw[(hl.mem hm).1]at hbo;cases hbo).trans (hkb b o hbo);have he₂:=Ka (h:=h₁) {cls:=.type "traceback",dict:=none,data:=.fields ([head,.ref L,.none,rawInt L,.none]++(if pl.isEmpty then List.replicate 6 Value.none else pl)).toArray} he₁;refine LM he₂ hd hsz (h _ ?_);have hTe:h₁.objs.size≠e:=J7 (JB he₁);have hd₃:=LP hd (·.setIfInBounds 1 (Value.ref h₁.objs.size));have he₃:=La (Obj.mapFields (·.setIfInBounds 1 (Value.ref h₁.objs.size))) he₂ (LO hd₃)
 have hT₃:=(Lb (h₁.push {cls:=.type "traceback",dict:=none,data:=.fields ([head,.ref L,.none,rawInt L,.none]++(if pl.isEmpty then List.replicate 6 Value.none else pl)).toArray})
  (Obj.mapFields (·.setIfInBounds 1 (Value.ref h₁.objs.size))) (JO hTe)).trans (Kb h₁ rfl)
 have keep:∀b o,b≠e->h₁.get? b=some o ->
   ((h₁.push {cls:=.type "traceback",dict:=none,data:=.fields ([head,.ref L,.none,rawInt L,.none]++(if pl.isEmpty then List.replicate 6 Value.none else pl)).toArray}).update e (Obj.mapFields (·.setIfInBounds 1 (Value.ref h₁.objs.size)))).get? b=some o:=
  fun b o hbe hb=>by
   rw[Lb _ _ (JO hbe)];exact Ka _ hb
 have noRecord:∀b o,s.heap.get? b=some o->(∀vs,o.data≠.fields vs)->b≠e:=fun b o hb hnf q=>by
  rw[q,he]at hb;injection hb with hb;subst hb;exact hnf vs hd
 refine⟨fun b o hbo=>keep b o (fun q=>by rw[q,hen]at hbo;cases hbo) (kb₁ b o hbo),hl.of_keeps fun b o hb hnf=>?_,?_,fun b o hb hnf=>?_⟩
 ·obtain⟨sl,hs⟩:=hs₁.2.2 b o hb;exact⟨_,keep b _ (noRecord b o hb hnf) hs,rfl⟩
 ·exact⟨_,_,h₁.objs.size,_,_,he₃,⟨LQ _ _,qE _ _,by rw[Ny (by decide)];exact h0⟩,hd₃,by simp[hsz],kb₁.fresh,hTe,hT₃,rfl,by first|(simp;done)|(rcases hpl with rfl|⟨_,_,_,_,_,_,_,rfl⟩ <;> simp)⟩
 ·obtain⟨sl,hs⟩:=hs₁.2.2 b o hb;exact⟨sl,keep b _ (noRecord b o hb hnf) hs⟩
theorem jR{base:Heap}{env:Env}{outer:List Env}{L e:Addr}{cls a0:Value}{dx:Option Addr}{Q:Unit->Shared->Prop}
  (hfr:A.frames=some (env::outer)) (hl:s.heap.FunFrames base (env::outer)) (hf:env.frame=some L) (ht:s.heap.TracedD base e cls a0 dx) (hkb:base.StaysIn s.heap) (hen:base.get? e=none)
  (h:∀h',Heap.NotedD base (env::outer) e cls a0 dx (rawInt L) s.heap h'->Q () {s with heap:=h'}):wpAny M A (noteFrame (.ref e) env) Q E s:=by
 obtain⟨oe,vs,T,oT,ts,he,⟨hcls,hdx,h0⟩,hd,h1,hnT,hTe,hT,hdT,h3⟩:=ht;subst hcls hdx;unfold noteFrame;simp only[hf];refine J1 (KR he hd h1 ?_);rw[Jz (show (Value.ref T != Value.none)=true from by simp)];refine J1 (KR hT hdT h3 ?_);rw[JA (show ¬ ((Value.none == rawInt L)=true) from by simp[rawInt])];refine J1 (LM hT hdT (Ma.mp h3).1 ?_);have other:∀b,b≠T->(s.heap.update T (Obj.mapFields (·.setIfInBounds 3 Value.none))).get? b=s.heap.get? b:=fun b hb=>Lb _ _ (JO hb)
 have noRecord:∀b o,s.heap.get? b=some o->(∀vs,o.data≠.fields vs)->b≠T:=fun b o hb hnf q=>by
  rw[q,hT]at hb;injection hb with hb;subst hb;exact hnf ts hdT
 refine rQ hfr (hl.of_keeps fun b o hb hnf=>⟨o,(other b (noRecord b o hb hnf)).trans hb,rfl⟩) hf ((other e (JO hTe)).trans he)
  (fun b o hbo=>(other b fun q=>by rw[q,hnT]at hbo;cases hbo).trans (hkb b o hbo)) hen hd (Ma.mp h1).1 h0
  fun h' ⟨x1,x2,x3,x4⟩=>h h' ⟨x1,x2,x3,fun b o hb hnf=>x4 b o ((other b (noRecord b o hb hnf)).trans hb) hnf⟩
theorem fw{base:Heap}{l:List Env}{e:Addr}{cls a0:Value}{dx:Option Addr}{fl:Value}{Q:Unit->Shared->Prop}
  (hkb:base.StaysIn s.heap) (hl:s.heap.FunFrames base l) (ht:s.heap.TracedAtD base e cls a0 dx fl)
  (h:∀h',base.StaysIn h'->h'.FunFrames base l->h'.TracedD base e cls a0 dx->(∀b o,s.heap.get? b=some o->(∀vs,o.data≠.fields vs)->h'.get? b=some o)->Q () {s with heap:=h'}) :
  wpAny M A (setFlight (.ref e) none) Q E s:=by
 obtain⟨oe,vs,T,oT,ts,he,hcls,hd,h1,hnT,hTe,hT,hdT,h3⟩:=ht;have hsz3:3<ts.size:=(Ma.mp h3).1
 have other:∀b,b≠T->(s.heap.update T (Obj.mapFields (·.setIfInBounds 3 ((none:Option Addr).elim Value.none fun f=>rawInt f)))).get? b=s.heap.get? b:=
  fun b hb=>Lb _ _ (JO hb)
 have noRecord:∀b o,s.heap.get? b=some o->(∀vs,o.data≠.fields vs)->b≠T:=fun b o hb hnf q=>by
  rw[q,hT]at hb;injection hb with hb;subst hb;exact hnf ts hdT
 unfold setFlight;refine J1 (KR he hd h1 ?_);rw[Jz (show (Value.ref T != Value.none)=true from by simp)]
 refine LM hT hdT hsz3 (h _ (fun b o hbo=>(other b fun q=>by rw[q,hnT]at hbo;cases hbo).trans (hkb b o hbo))
  (hl.of_keeps fun b o hb hnf=>⟨o,(other b (noRecord b o hb hnf)).trans hb,rfl⟩) ?_ fun b o hb hnf=>(other b (noRecord b o hb hnf)).trans hb)
 exact⟨oe,vs,T,_,_,(other e (JO hTe)).trans he,hcls,hd,h1,hnT,hTe,La _ hT (LO (LP hdT _)),LP hdT _,by simp[hsz3]⟩
def oV(base:Heap)(l:List Env)(e:Addr)(cls a0:Value)(dx:Option Addr)(L:Addr)(h:Heap):Prop:=
 base.StaysIn h/\base.get? e=none/\h.FunFrames base l/\h.TracedAtD base e cls a0 dx (rawInt L)
theorem nh{base:Heap}{env:Env}{outer:List Env}{L e:Addr}{cls a0:Value}{dx:Option Addr}{Q:Unit->Shared->Prop}
  (hfr:A.frames=some (env::outer)) (hf:env.frame=some L) (hfl:bz base (env::outer) e cls a0 dx s.heap)
  (hQ:∀h',oV base (env::outer) e cls a0 dx L h'->s.heap.UpToSlots h'->Q () {s with heap:=h'}):wpAny M A (noteFrame (.ref e) env) Q E s:=by
 obtain⟨f1,f2,f3,f4⟩:=hfl;refine jR hfr f3 hf f4 f1 f2 fun h' hN=>?_;obtain⟨k1,k2,k3,k4⟩:=hN;exact hQ h' ⟨k1,f2,k2,k3⟩ k4
theorem rP{base:Heap}{l:List Env}{e L:Addr}{cls a0:Value}{dx:Option Addr}{Q:Unit->Shared->Prop}(hh:oV base l e cls a0 dx L s.heap)
  (hQ:∀h',bz base l e cls a0 dx h'->s.heap.UpToSlots h'->Q () {s with heap:=h'}):wpAny M A (setFlight (.ref e) none) Q E s:=by
 obtain⟨f1,f2,f3,f4⟩:=hh;exact fw f1 f3 f4 fun h' k1 k2 k3 k4=>hQ h' ⟨k1,f2,k2,k3⟩ fun b o hb hn=>⟨o.slots,k4 b o hb hn⟩
theorem kH{base:Heap}{l:List Env}{e:Addr}{cls a0:Value}{dx:Option Addr}{Q:Unit->Shared->Prop}(hh:bz base l e cls a0 dx s.heap)
  (hQ:∀h',bz base l e cls a0 dx h'->s.heap.UpToSlots h'->Q () {s with heap:=h'}):wpAny M A (setFlight (.ref e) none) Q E s:=by
 obtain⟨f1,f2,f3,f4⟩:=hh;exact fw f1 f3 f4.at fun h' k1 k2 k3 k4=>hQ h' ⟨k1,f2,k2,k3⟩ fun b o hb hn=>⟨o.slots,k4 b o hb hn⟩
theorem lH{base:Heap}{env:Env}{outer:List Env}{L e:Addr}{oe:Obj}{vs:Array Value}{a0:Value}{Q:Unit->Shared->Prop}
  (hfr:A.frames=some (env::outer)) (hf:env.frame=some L) (hkb:base.StaysIn s.heap) (hl:s.heap.FunFrames base (env::outer)) (hen:base.get? e=none) (he:s.heap.get? e=some oe) (hd:oe.data=.fields vs) (h1:vs[1]?=some .none) (h0:vs[0]?=some a0)
  (hQ:∀h',bz base outer e oe.cls a0 oe.dict h'->s.heap.UpToSlots h'->Q () {s with heap:=h'}):wpAny M A (leaving env (.ref e)) Q E s:=by
 refine jF hfr hl hf he hkb hen hd h1 h0 fun h' hL=>?_;obtain⟨k1,⟨_,_,k2⟩,k3,k4⟩:=hL;exact hQ h' ⟨k1,hen,k2,k3⟩ k4
end
end PySem
namespace PySem
open Sem (wp)
section
variable{prog:Program}{w:World}{A:Around}{E:Value->Shared->Prop}{h:Heap}{g:Array GenState}{d:Drawn}{t:Nat}{os:OsState}
variable{nm q:Str}{C N:Addr}{bs bm bmB:List Value}{hdct:Bool}{sn:List Str}{sub:List Value}{ab:Bool}{col:Option Bool}{dd:Option Addr}{k0 k1 k2 k3 k5:Option Value}{B newId initId:String}
theorem t6(F:ExcBaseFacts B newId initId bmB)(T:OwnTail h bmB bm){mN:Str->Option Value}{rest:List Value}{fI:Addr}{oI:Obj}{Q:Fin->Shared->Prop}
  (hC:h.get? C=some (excClassObj nm q C N bs bm hdct sn sub ab col dd k0 k1 k2 k3 k5 newId)) (hn:h.Ns N mN) (hi:mN "__init__" = some (.ref fI))
  (hfI:h.get? fI=some oI) (hfc:oI.cls=.type "function")
  (hq : ∀ h' e, Heap.MadeExcOf h h' e (.ref C) rest ->
   wpAny (model prog w) A (call (.ref fI) (.ref e::rest)) (fun r s'=>r=.none/\Q (.done (.ret (.ref e))) s') E ⟨h',g,d,t,os⟩) (hrest:rest.length<=sizeLine:=by size_fits) :
  wpAny (model prog w) A (Builtin.«type.__call__» ⟨.ref C::rest,[]⟩) Q E ⟨h,g,d,t,os⟩:=by
 repeat (first|with_reducible refine Nz hC ?_|with_reducible refine wpAny_madeBy_exc hC ?_|wp_step)
 refine codeAny_call_builtin_code (MU _ F.quiet) (wpAny_check_new_subT F T hC ?_);refine codeAny_exc_new_subT F T hC ?_ hrest;show wpAny _ _ _ _ _ _
 have hC₁:=Ka {cls:=.ref C,data:=.fields #[.ref h.objs.size,.none,.none,.none,.bool false,.none]}
  (Ka {cls:=.type "tuple",data:=.seq rest.toArray} hC)
 have hfI₁:=Ka {cls:=.ref C,data:=.fields #[.ref h.objs.size,.none,.none,.none,.bool false,.none]}
  (Ka {cls:=.type "tuple",data:=.seq rest.toArray} hfI)
 have hn₁:((h.push {cls:=.type "tuple",data:=.seq rest.toArray}).push {cls:=.ref C,data:=.fields #[.ref h.objs.size,.none,.none,.none,.bool false,.none]}).Ns N mN:=
  let ⟨o,es,ep,e,r⟩:=hn;⟨o,es,ep,Ka _ (Ka _ e),r⟩
 have hget:((h.push {cls:=.type "tuple",data:=.seq rest.toArray}).push
   {cls:=.ref C,data:=.fields #[.ref h.objs.size,.none,.none,.none,.bool false,.none]}).get? (h.objs.size+1)=some
   {cls:=.ref C,data:=.fields #[.ref h.objs.size,.none,.none,.none,.bool false,.none]}:=by heap_get
 have hcC:(Value.ref C::bm).contains (.ref C)=true:=by simp
 have T₁:=T.keeps (h':=(h.push {cls:=.type "tuple",data:=.seq rest.toArray}).push {cls:=.ref C,data:=.fields #[.ref h.objs.size,.none,.none,.none,.bool false,.none]})
  fun b o e=>Ka _ (Ka _ e)
 unfold isInstance
 repeat (first|with_reducible refine Nz hget ?_|(with_reducible refine wpAny_isSubtype_exc hC₁ ?_;rw[hcC])|wp_step)
 show wpAny _ _ (typeLookup (.ref C) _) _ _ _;refine wpAny_typeLookup_tail hC₁ hn₁ T₁ F.mroIs F.init.lookup ?_;rw[hi];refine J2 (J1 ?_);unfold bindSpecial;refine J1 (K3 (T:="function") ⟨_,hfI₁,hfc⟩ ?_);rw[Jz (by decide)];refine J8 (J1 (JV (hq _ (h.objs.size+1) ⟨fun b o hb=>Ka _ (Ka _ hb),JM (Li _),h.objs.size,hget,JM (Kc _),?_⟩) (fun r s' hr=>?_) fun _ _ x=>x))
 ·exact Ka _ (Heap.get?_push_at rfl rfl)
 ·obtain ⟨rfl, hQ⟩ := hr
  wp_walk
  exact hQ
theorem vL(F:ExcBaseFacts B newId initId bmB)(T:OwnTail h bmB bm){mN:Str->Option Value}{rest:List Value}{fI:Addr}{oI:Obj}{Q:Value->Shared->Prop}
  (hC:h.get? C=some (excClassObj nm q C N bs bm hdct sn sub ab col dd k0 k1 k2 k3 k5 newId)) (hn:h.Ns N mN) (hi:mN "__init__" = some (.ref fI))
  (hfI:h.get? fI=some oI) (hfc:oI.cls=.type "function")
  (hq : ∀ h' e, Heap.MadeExcOf h h' e (.ref C) rest ->
   wpAny (model prog w) (A.under (.builtin "type.__call__" ⟨.ref C::rest,[]⟩)) (call (.ref fI) (.ref e::rest)) (fun r s'=>r=.none/\Q (.ref e) s') E ⟨h',g,d,t,os⟩) (hrest:rest.length<=sizeLine:=by size_fits) :
  wpAny (model prog w) A (call (.ref C) rest) Q E ⟨h,g,d,t,os⟩:=by
 have f1:=tc_lookup;have f2:=tc_bind (.ref C);have hT:(⟨h,g,d,t,os⟩:Shared).TypeIs (.ref C) "type" := ⟨_,hC,rfl⟩;refine Kl (LC ?_);show wpAny _ _ (callAny (.ref C) _) _ _ _
 repeat (any_goals (first|assumption|with_reducible refine Nz hC ?_|wp_step))
 refine⟨rfl,?_⟩;refine codeAny_call_builtin_at (MU _ (by decide +kernel)) entry_typeCall (wpAny_check_type_call_sub hC (t6 (hrest:=hrest) F T hC hn hi hfI hfc fun h' e hm=>?_));exact hq h' e hm
end
section
variable{M:Model}{A:Around}{E:Value->Shared->Prop}{env:Env}
variable{nm q:Str}{C N:Addr}{bs bm:List Value}{hdct:Bool}{sn:List Str}{sub:List Value}{ab:Bool}{col:Option Bool}{dd:Option Addr}{k0 k1 k2 k3 k5:Option Value}{newId:String}
theorem jy {s:Shared}{x:Sem Value}{Q:Flow->Shared->Prop} (hbase:bm.contains (.type "BaseException")=true) (hh:A.handled=none)
  (h : wpAny M A x (fun v s₁ => ∃ e dx t, v = .ref e /\ s₁.heap.get? C = some (excClassObj nm q C N bs bm hdct sn sub ab col dd k0 k1 k2 k3 k5 newId) /\
   s₁.heap.get? e=some {cls:=.ref C,dict:=dx,data:=.fields #[.ref t,.none,.none,.none,.bool false,.none]}/\E (.ref e) s₁) E s) :
  wpAny M A (raiseStmt env (some x) none) Q E s:=by
 have hcB:(Value.ref C::bm).contains (.type "BaseException")=true:=by rw[List.contains_cons,hbase,Bool.or_true]
 unfold raiseStmt;refine J1 (JV h (fun v s₁ h₁=>?_) fun _ _ x=>x);obtain⟨e,dx,t,rfl,hC,he,hE⟩:=h₁;obtain⟨hp,g,d,tk,os⟩:=s₁
 repeat (first|with_reducible refine Nz he ?_|with_reducible refine Nz hC ?_|(with_reducible refine wpAny_isSubtype_exc hC ?_;rw[hcB])|wp_step)
 exact wpAny_raiseNew_none hh hE
end
section
variable{prog:Program}{w:World}{A:Around}{E:Value->Shared->Prop}{s:Shared}{env:Env}
variable{nm q:Str}{C N:Addr}{bs bm bmB:List Value}{hdct:Bool}{sn:List Str}{sub:List Value}{ab:Bool}{col:Option Bool}{dd:Option Addr}{k0 k1 k2 k3 k5:Option Value}{B newId initId:String}
theorem uy(F:ExcBaseFacts B newId initId bmB){mN:Str->Option Value}{x:Str}{np cpos pos:Pos}{args:List Expr}{Q:Flow->Shared->Prop}
  (hbase:bm.contains (.type "BaseException")=true) (hh:A.handled=none) (hplain:(backTo cpos (starEach args env)).any (·.1)=false) {fI:Addr} (hi:mN "__init__" = some (.ref fI))
  (h : wpAny (model prog w) A (eval (.Name x np) env) (fun f s₁ => f = .ref C /\ wpAny (model prog w) A (evalArgs (.ref C) true (backTo cpos (starEach args env)) [])
   (fun a s₂ => a.kw = [] /\ a.pos.length <= sizeLine /\ s₂.heap.get? C = some (excClassObj nm q C N bs bm hdct sn sub ab col dd k0 k1 k2 k3 k5 newId) /\ s₂.heap.Ns N mN /\ OwnTail s₂.heap bmB bm /\
    (∃ oI, s₂.heap.get? fI = some oI /\ oI.cls = .type "function") /\ ∀ h' e, Heap.MadeExcOf s₂.heap h' e (.ref C) a.pos ->
     wpAny (model prog w) (A.under (.builtin "type.__call__" ⟨.ref C::a.pos,[]⟩)) (call (.ref fI) (.ref e::a.pos)) (fun r s₃=>r=.none/\∃dx t,s₃.heap.get? C=some (excClassObj nm q C N bs bm hdct sn sub ab col dd k0 k1 k2 k3 k5 newId) /\
      s₃.heap.get? e=some {cls:=.ref C,dict:=dx,data:=.fields #[.ref t,.none,.none,.none,.bool false,.none]}/\E (.ref e) s₃) E {s₂ with heap:=h'}) E s₁) E s) :
  wpAny (model prog w) A (exec (.Raise (some (.Call (.Name x np) args [] cpos)) none pos) env) Q E s:=by
 rw[arm_exec_Raise]
 first
  |refine J1 (J3 (jy (C:=C) (nm:=nm) (q:=q) (N:=N) (bs:=bs) (bm:=bm) (hdct:=hdct) (sn:=sn) (sub:=sub) (ab:=ab) (col:=col) (dd:=dd) (k0:=k0) (k1:=k1) (k2:=k2) (k3:=k3) (k5:=k5) (newId:=newId) hbase hh (J1 (JV (NB (JV h (fun f s₁ h₁=>?_) fun _ _ x=>x)) (fun v s₃ h₃=>J1 (J3 (J8 h₃))) fun _ _ x=>x))))
  |(simp only[evalOpt,Option.map];refine J1 (J3 (jy (C:=C) (nm:=nm) (q:=q) (N:=N) (bs:=bs) (bm:=bm) (hdct:=hdct) (sn:=sn) (sub:=sub) (ab:=ab) (col:=col) (dd:=dd) (k0:=k0) (k1:=k1) (k2:=k2) (k3:=k3) (k5:=k5) (newId:=newId) hbase hh (J1 (JV (NB (JV h (fun f s₁ h₁=>?_) fun _ _ x=>x)) (fun v s₃ h₃=>J1 (J3 (J8 h₃))) fun _ _ x=>x)))))
  |(refine J1 (J3 (jy (C:=C) (nm:=nm) (q:=q) (N:=N) (bs:=bs) (bm:=bm) (hdct:=hdct) (sn:=sn) (sub:=sub) (ab:=ab) (col:=col) (dd:=dd) (k0:=k0) (k1:=k1) (k2:=k2) (k3:=k3) (k5:=k5) (newId:=newId) hbase hh ?_));refine J1 (JV (NB (JV h (fun f s₁ h₁=>?_) fun _ _ x=>x)) (fun v s₃ h₃=>J1 (J3 (J8 h₃))) fun _ _ x=>x))
 obtain⟨rfl,h₁⟩:=h₁;unfold callWith;refine J1 (J2 (JV h₁ (fun a s₂ h₂=>J1 (J3 ?_)) fun _ _ x=>x));obtain⟨apos,akw⟩:=a;obtain⟨hkw,hlen,hC,hn,T,⟨oI,hfI,hfc⟩,h₂⟩:=h₂;obtain rfl:akw=[]:=hkw;obtain⟨hp,g,d,tk,os⟩:=s₂;simp only[hplain];refine J1 (wpAny_keeperOf_exc hC ?_);refine J1 (vL (hrest:=hlen) F T hC hn hi hfI hfc fun h' e hm=>JV (h₂ h' e hm) (fun r s' hr=>?_) fun _ _ x=>x);obtain⟨hr,dx,t,q1,q2,q3⟩:=hr;exact⟨hr,J1 (J2 (wpAny_point (J8 ⟨e,dx,t,rfl,q1,q2,q3⟩)))⟩
end
end PySem
namespace L2
open PySem PySem.Spec PyProof.Rows
theorem cA.thr{P:Program}{w:World}{H:Hp}{h:Heap}{a:Addr}{o:HO}(x:cA P w H h a o):∃ob,h.get? a=some ob:=by
 cases o with
 |lst xs=>obtain⟨_,_,_,_,e⟩:=x;exact⟨_,e⟩
 |tup xs=>obtain⟨_,_,_,ob,e,_⟩:=x;exact⟨_,e⟩
 |dK kvs=>obtain⟨_,_,_,_,o,_,_,e,_⟩:=x;exact⟨_,e⟩
 |dT kvs=>obtain⟨_,_,_,_,o,_,_,e,_⟩:=x;exact⟨_,e⟩
 |set S n=>obtain⟨o,_,_,_,e,_⟩:=x;exact⟨_,e⟩
 |ins C dx fs=>obtain⟨_,_,_,e,_⟩:=x;exact⟨_,e⟩
 |own y=>obtain⟨_,e⟩:=x;exact⟨_,e⟩
 |xd fs=>obtain⟨_,⟨_,_,_,e,_⟩,_⟩:=x;exact⟨_,e⟩
 |rng lo hi=>obtain⟨_,_,_,e⟩:=x;exact⟨_,e⟩
 |frz ob u=>obtain⟨e,_⟩:=x;exact⟨_,e⟩
 |tbl ps=>exact⟨_,show h.get? a=some _ from x⟩
 |met f y=>exact⟨_,show h.get? a=some _ from x⟩
 |ext φ=>obtain⟨_,⟨_,e⟩,_⟩:=x;exact⟨_,e⟩
theorem yJ{fs:List Addr}{H0 H':Hp}{h0 h1 h' B:Heap}(u:Un fs [] H0 H' h0 h1)(hB:∀b o,h0.get? b=some o->b∉fs->∃o',B.get? b=some o')(k1:B.StaysIn h1)(k2:B.StaysIn h')(up:h1.UpToSlots h')
  (hf:∀b∈fs,H0 b=none/\∃o,h0.get? b=some o/\∀vs,o.data≠.fields vs):Un fs [] H0 H' h0 h' where
 keep:=fun b o e n hb hx=>by
  obtain⟨o',q⟩:=hB b o e hb;have q1:=k1 b o' q;rw[u.keep b o e n hb hx]at q1;cases q1;exact k2 b o q
 slot:=fun b o e n hb hx=>by
  obtain⟨sl,q⟩:=u.slot b o e n hb hx;obtain⟨_,o1,e1,nf⟩:=hf b hb;rw[e]at e1;cases e1;obtain⟨sl',q'⟩:=up b _ q nf;exact⟨sl',q'⟩
 free:=u.free
 there:=fun b o e hx=>by
  by_cases hb:b∈fs
  ·obtain⟨n,o1,e1,nf⟩:=hf b hb;rw[e]at e1;cases e1;obtain⟨sl,q⟩:=u.slot b o e n hb hx;obtain⟨sl',q'⟩:=up b _ q nf;exact⟨_,q'⟩
  ·obtain⟨o',q⟩:=hB b o e hb;exact⟨o',k2 b o' q⟩
 tups:=u.tups
 frzs:=u.frzs
 tbls:=u.tbls
def je(ea C:Addr)(dx:Option Addr):HO:=.ext fun h=>∃oe,h.get? ea=some oe/\oe.cls=.ref C/\oe.dict=dx/\W.notCls oe=true
def yy(P:Program)(w:World):sj:=fun outer H s E e s'=>
 ∃ea C a0 dx B H',e=.ref ea/\s'.os=s.os/\AllBare s'.gens/\Un (nM outer) [] H H' s.heap s'.heap/\lM P w H' B/\bz B outer ea (.ref C) a0 dx s'.heap/\H' ea=none /\
  (∀b o,s.heap.get? b=some o->b∉nM outer->∃o',B.get? b=some o')/\E (.ref C) (some ea) (bx H' ea (je ea C dx))
section
variable{P:Program}{w:World}{K:W.Frag}{mg:Str->Option Value}{base:Heap}{N:List Str}{qual:Str}{scope:Scope}{f:Addr}{cdv:Value}{A:Around}{outer:List Env}{s0:Shared}{H0:Hp}{E:XK}
abbrev lL(P:Program)(w:World)(K:W.Frag)(mg:Str->Option Value)(base:Heap)(N:List Str)(qual:Str)(scope:Scope)(f:Addr)(cdv:Value)(A:Around)(outer:List Env)(s0:Shared)(H0:Hp)(E:XK):Cx:=nQ (yy P w) P w K mg base N qual scope f cdv A outer s0 H0 E
theorem C3{b:Addr}(hb:b∈nM (envOfC qual scope s0.heap.objs.size f cdv::outer)):b=s0.heap.objs.size\/b∈nM outer:=by
 obtain⟨env,he,hf⟩:=Ke.mp hb;rcases JN.mp he with rfl|he
 ·exact .inl (Jv hf).symm
 ·exact .inr (Ke.mpr ⟨env,he,hf⟩)
theorem mV{pins:List (Addr×Obj)}{σ:St}{H:Hp}{s:Shared}(I:aP (lL P w K mg base N qual scope f cdv A outer s0 H0 E) pins σ H s){b:Addr}{o:Obj}(e:s0.heap.get? b=some o)(hb:b∉nM outer) :
  (∃o',s.heap.get? b=some o')/\b∉nM (envOfC qual scope s0.heap.objs.size f cdv::outer):=
 ⟨I.base.there b o e (fun z => by cases z), fun z => by
  rcases C3 z with z|z
  ·exact absurd (JB e) (by rw[z];exact JD _)
  ·exact hb z⟩
theorem qx{pins:List (Addr×Obj)}{σ:St}{H:Hp}{s:Shared}(I:aP (lL P w K mg base N qual scope f cdv A outer s0 H0 E) pins σ H s):∀b∈nM outer,H0 b=none/\∃o,s0.heap.get? b=some o/\∀vs,o.data≠.fields vs:=
 fun b hb=>⟨I.ok.frf b hb,(I.ok.funs.mem hb).2⟩
theorem Hr:l5 (yy P w) (lL P w K mg base N qual scope f cdv A outer s0 H0 E) E:=by
 intro pins σ H s e s' I hc;obtain⟨ea,C,a0,dx,B,H',rfl,os,bare,un,hok,fl,hn,bk,q⟩:=hc;have J:=I.call' os un (hok.kept fl.1) bare (ch:=[]) (fun b z=>absurd z (by simp))
 have hB:∀b o,s0.heap.get? b=some o->b∉nM outer->∃o',B.get? b=some o':=fun b o e hb=>by
  obtain⟨⟨o1,e1⟩,nb⟩:=mV I e hb;exact bk b o1 e1 nb
 refine my I.ok.frames rfl fl fun h' fl' up=>?_;exact⟨ea,C,a0,dx,B,H',rfl,J.os,bare,yJ J.base hB fl.1 fl'.1 up (qx I),hok,fl',hn,hB,q⟩
end
structure Cx.Fn(X:Cx):Prop where
 ex:X.ex=[]
 stk:X.stack=X.env::X.outer
 fr:X.env.frame=some X.env.locals
section
variable{X:Cx}{pins pins':List (Addr×Obj)}{σ:St}{H:Hp}{s:Shared}{E:XK}
end
theorem wL{X:Cx}(F:X.Fn){b:Addr}(hb:b∈nM X.stack):b=X.env.locals\/b∈X.fs:=by
 rw[F.stk]at hb;obtain⟨env,he,hf⟩:=Ke.mp hb;rcases JN.mp he with rfl|he
 ·rw[F.fr]at hf;exact .inl (Jv hf).symm
 ·exact .inr (Ke.mpr ⟨env,he,hf⟩)
theorem wY{h h':Heap}{c:Addr}{v:Option Value}(x:h.IsCell c v)(up:h.UpToSlots h'):h'.IsCell c v:=by
 obtain⟨o,ho,hd⟩:=x;obtain⟨sl,q⟩:=up c o ho fun vs z=>by rw[hd]at z;cases z
 exact⟨_,q,hd⟩
section
variable{X:Cx}{pins:List (Addr×Obj)}{σ:St}{H:Hp}{s:Shared}{h' B:Heap}{ea C:Addr}{a0:Value}{dx:Option Addr}
theorem aP.up(F:X.Fn)(I:aP X pins σ H s)(hok:lM X.prog X.w H B)(c1:∀b o,X.s₀.heap.get? b=some o->b∉X.fs->∃o',B.get? b=some o')(c2:∀p∈X.pn++pins,∃o',B.get? p.1=some o')
  (k1:B.StaysIn s.heap) (k2:B.StaysIn h') (up:s.heap.UpToSlots h'):aP X pins σ H {s with heap:=h'}:=by
 have hb:Un X.fs [] X.H₀ H X.s₀.heap h':=yJ (by rw[<- F.ex];exact I.base) c1 k1 k2 up fun b hb=>⟨I.ok.frf b hb,(I.ok.funs.mem hb).2⟩;refine⟨I.ok,I.os,I.bare,by rw[F.ex];exact hb,?_,fun x c e=>?_,I.free,I.freeC,fun p hp=>?_,hok.kept k2,I.len⟩
 ·obtain ⟨m, hn, hl⟩ := I.loc;refine⟨m,up.ns hn,fun i x v a b c=>?_⟩;obtain⟨u,r,l⟩:=hl i x v a b c;refine⟨u,r,?_⟩;rcases l with l|⟨k,c,e,hc⟩
  ·exact .inl l
  ·exact .inr ⟨k,c,e,wY hc up⟩
 ·obtain⟨v,hv⟩:=I.cell x c e;exact⟨v,wY hv up⟩
 ·obtain⟨p1,p2⟩:=I.pin p hp;obtain⟨o',e⟩:=c2 p hp;have e1:=k1 _ _ e;rw[p1]at e1;cases e1;exact⟨k2 _ _ e,p2⟩
theorem Un.track{fs ex:List Addr}{H0:Hp}{h0 h:Heap}{o:HO}(u:Un fs ex H0 H h0 h)(hn:h0.get? ea=none)(hH:H ea=none):Un fs ex H0 (bx H ea o) h0 h where
 keep:=u.keep
 slot:=u.slot
 free:=fun b ob e n hx=>by rw[aJ fun z=>by rw[z,hn]at e;cases e];exact u.free b ob e n hx
 there:=u.there
 tups:=fun b xs q=>by have:=u.tups b xs q;rw[aJ (bB this hH)];exact this
 frzs:=fun b ob xs q=>by have:=u.frzs b ob xs q;rw[aJ (bB this hH)];exact this
 tbls:=fun b ps q=>by obtain⟨m,this⟩:=u.tbls b ps q;exact⟨m,by rw[aJ (bB this hH)];exact this⟩
theorem aP.track(F:X.Fn)(I:aP X pins σ H s)(c1:∀b o,X.s₀.heap.get? b=some o->b∉X.fs->∃o',B.get? b=some o')(c2:∀p∈X.pn++pins,∃o',B.get? p.1=some o')
  (fl:bz B X.stack ea (.ref C) a0 dx s.heap) (hH:H ea=none):aP X pins σ (bx H ea (je ea C dx)) s:=by
 obtain⟨f1,f2,f3,oe,vs,T,oT,ts,he,⟨hc,hdx,_⟩,hd,_⟩:=fl
 have hn:X.s₀.heap.get? ea=none:=by
  cases z:X.s₀.heap.get? ea with
  |none=>rfl
  |some o=>
   by_cases hf:ea∈X.fs
   ·obtain⟨_,o1,e1,nf⟩:=I.ok.funs.mem hf;obtain⟨sl,e2⟩:=I.base.slot ea o1 e1 (I.ok.frf ea hf) hf (by rw[F.ex];exact fun z=>by cases z);rw[he]at e2;cases e2;exact absurd hd (nf vs)
   ·obtain⟨o',e⟩:=c1 ea o z hf;rw[f2]at e;cases e
 have nl:X.env.locals≠ea:=fun z=>by
  obtain⟨m,⟨o',es,ep,ho',hd',_⟩,_⟩:=I.loc;rw[z,he]at ho';cases ho';rw[hd]at hd';cases hd'
 refine⟨I.ok,I.os,I.bare,I.base.track hn hH,I.loc,I.cell,by rw[aJ nl];exact I.free,fun x c e=>?_,fun p hp=>?_,fun b u q=>?_,I.len⟩
 ·rw [aJ fun z => ?_]
  ·exact I.freeC x c e
  ·obtain⟨v,o',ho',hd'⟩:=I.cell x c e;rw[z,he]at ho';cases ho';rw[hd]at hd';cases hd'
 ·obtain ⟨p1, p2, p3, p4, p5⟩ := I.pin p hp;refine⟨p1,?_,p3,p4,p5⟩;rw[aJ fun z=>?_]
  ·exact p2
  ·obtain⟨o',e⟩:=c2 p hp;rw[z,f2]at e;cases e
 ·by_cases hb : b = ea
  ·subst hb;rw[aS]at q;cases q;refine⟨⟨oe,he,hc,hdx,by unfold W.notCls;rw[hd]⟩,⟨oe,he⟩,fun h1 h2 a k=>?_⟩;obtain⟨o,e,c⟩:=a;exact⟨o,k o e,c⟩
  ·rw[aJ hb]at q;exact(I.hok b u q).stay (fun _ _ _ r=>r) (fun c r=>by rw[aJ (bB r hH)];exact r) fun c xs r=>by rw[aJ (bB r hH)];exact r
end
abbrev Cx.hnd(X:Cx)(ea:Addr):Cx:={X with A:=X.A.mark (some (.ref ea)),calm:=false,xe:=fun _ _=>False}
theorem aP.hnd{X:Cx}{pins:List (Addr×Obj)}{σ:St}{H:Hp}{s:Shared}{ea:Addr}(I:aP X pins σ H s):aP (X.hnd ea) pins σ H s:=
 ⟨⟨I.ok.mod, I.ok.kind, I.ok.glob, I.ok.blt, I.ok.above, I.ok.inj, I.ok.has, I.ok.cab, (fun z => by cases z), I.ok.frames, I.ok.stk, I.ok.exf, I.ok.bs, I.ok.bsz, I.ok.noex, I.ok.exfs, I.ok.funs, I.ok.frf⟩,
   I.os,I.bare,I.base,I.loc,I.cell,I.free,I.freeC,I.pin,I.hok,I.len⟩
theorem aP.unhnd{X:Cx}{pins:List (Addr×Obj)}{σ:St}{H:Hp}{s:Shared}{ea:Addr}(ok:X.Ok)(I:aP (X.hnd ea) pins σ H s):aP X pins σ H s:=
 ⟨ok,I.os,I.bare,I.base,I.loc,I.cell,I.free,I.freeC,I.pin,I.hok,I.len⟩
theorem aP.forget{X:Cx}{pins:List (Addr×Obj)}{σ:St}{H:Hp}{s:Shared}{h':Heap}{t':Nat}{m:Str->Option Value}(I:aP X pins σ H s)(hn:h'.Ns X.env.locals m)(sb:Heap.SameBut X.env.locals s.heap h') :
  aP X pins (List.replicate X.N.length none) H {s with heap:=h',toks:=t'}:=by
 have ne:∀b o,X.s₀.heap.get? b=some o->b≠X.env.locals:=fun b o e z=>by
  have:=I.ok.above;rw[z]at e;exact absurd (JB e) (Nat.not_lt.mpr this)
 have same:∀b,b≠X.env.locals->h'.get? b=s.heap.get? b:=fun b hb=>sb.2 b hb;refine⟨I.ok,I.os,I.bare,⟨fun b o e n hb hx=>?_,fun b o e n hb hx=>?_,I.base.free,fun b o e hx=>?_,I.base.tups,I.base.frzs,I.base.tbls⟩,⟨m,hn,fun i x v _ e=>?_⟩,fun x c e=>?_,I.free,I.freeC,fun p hp=>?_,fun b u q=>?_,by simp⟩
 ·rw[same b (ne b o e)];exact I.base.keep b o e n hb hx
 ·rw[same b (ne b o e)];exact I.base.slot b o e n hb hx
 ·rw[same b (ne b o e)];exact I.base.there b o e hx
 ·rw[Kx]at e;split at e <;> cases e
 ·obtain⟨v,o,ho,hd⟩:=I.cell x c e;exact⟨v,o,by rw[same c (I.cne x c e)];exact ho,hd⟩
 ·obtain⟨p1,p2,p3,p4⟩:=I.pin p hp;exact⟨by rw[same _ p3];exact p1,p2,p3,p4⟩
 ·have nb : ∀ c u, H c = some u -> c ≠ X.env.locals := fun c u e z => by rw [z, I.free] at e; cases e
  exact(I.hok b u q).stay (fun c v hc r=>by
   rw[same c]
   ·exact r
   ·rcases hc with rfl | hc
    ·exact nb _ _ q
    ·exact nb _ _ hc) (fun _ r=>r) fun _ _ r=>r
structure dS(k:Nat)(A:Around):Prop where
 dp:A.depth+3*k+5<recursionLimit
 un:A.units+16*k+200<cLine
 gd:A.guards=some []
theorem dg.h{k:Nat}{A:Around}(r:dg k A):dS k A:=⟨r.dp,r.un,r.gd⟩
theorem dS.mark{k:Nat}{A:Around}(r:dS k A)(e:Option Value):dS k (A.mark e):=⟨r.dp,r.un,r.gd⟩
theorem dS.mono{j k:Nat}{A:Around}(r:dS k A)(h:j<=k):dS j A:=⟨by have:=r.dp;omega,by have:=r.un;omega,r.gd⟩
theorem dS.deeper{k:Nat}{A:Around}(r:dS (k+1) A)(env:Env):dS k (A.deeper env):=
 ⟨by have:=r.dp;show A.depth+1+3*k+5<_;omega,by have:=r.un;show A.units+3+16*k+200<_;omega,r.gd⟩
theorem dS.depth{k:Nat}{A:Around}(r:dS k A):A.depth<recursionLimit:=by have:=r.dp;omega
theorem dS.units{k:Nat}{A:Around}(r:dS k A):A.units+64<cLine:=by have:=r.un;omega
structure sQ(P:Program)(w:World)(K:W.Frag)(mg:Str->Option Value)(base:Heap)(CX:sj)(k:Nat)(f:Addr)(fd:FuncData)(ps:List Str)(sp:Sp):Prop where
 len:∀vs H Q E,sp vs H Q E->vs.length=ps.length
 run:∀(A:Around)(outer:List Env)(s:Shared)(H:Hp)(args:Args)(us:List Value)(vs:List V)(Q:VK)(E:XK),dS k A->qU P w K mg base A outer s H->BindsTo s fd args (ps.zip us)->aW vs us->sp vs H Q E ->
  codeAny (model P w) A (.call (.ref f) args) (CR CX outer P w H s Q E) s
section
variable{X:Cx}{CX:sj}{k:Nat}{f C:Addr}{fd:FuncData}{ps:List Str}{sp:Sp}{dvs:List V}{ds:List Value}{E:XK}{x m:Str}{p pos apos:Pos}{e o:Expr}{es:List Expr}{ta:TE}{t:TA}
theorem B2{pins:List (Addr×Obj)}{σ:St}{H:Hp}{s:Shared}{Q:VK}{us:List Value}{vs:List V}(F:sQ X.prog X.w X.K X.mg X.base CX k f fd ps sp)(hr:dS k X.A)(hb:dr X.K fd ps ds)(hd:aW dvs ds)(hx:l5 CX X E)
  (I:aP X pins σ H s) (r:aW vs us) (h:sp (vs++dvs) H Q E):wpAny (model X.prog X.w) X.A (call (.ref f) us) (EP X pins σ Q) X.xe s:=by
 have r2:aW (vs++dvs) (us++ds):=r.append hd;have hl:(us++ds).length=ps.length:=by rw[<- r2.length];exact F.len _ _ _ _ h
 refine Kl (Km (F.run X.A X.stack s H ⟨us,[]⟩ (us++ds) (vs++dvs) Q E hr I.env0 (hb s us I.kIn hl) r2 h) fun r s' hq=>?_);cases r with
 |error e=>exact hx pins σ H s e s' I hq
 |ok fl=>
  cases fl with
  |ret u=>exact I.after hq
  |next=>exact False.elim hq
  |brk=>exact False.elim hq
  |cont=>exact False.elim hq
theorem Ay(F:sQ X.prog X.w X.K X.mg X.base CX k f fd ps sp)(hr:dS k X.A)(hg:Gl X x)(hm:X.mg x=some (.ref f))(hk:W.keepIn X.K (.ref f)=true)(hb:dr X.K fd ps ds)(hd:aW dvs ds)(hx:l5 CX X E)
  (ha:PA X (e::es) t) (hdb:(x == ("__debug__" : Str))=false:=by decide) (he:starEach (e::es) X.env=(false,eval e X.env)::starEach es X.env:=by rfl) (hpl:(backTo pos (starEach es X.env)).any (·.1)=false:=by rfl) :
  PE X (.Call (.Name x p) (e::es) [] pos) (pY sp dvs E t):=by
 intro pins s σ H Q I h;refine Ko (jH I hg hm ?_ hdb);refine W.callWith_K (h₀:=X.base) I.ok.mod.kin hk (cT (ha pos pins s σ H _ I h) fun us s1 ⟨vs,H1,I1,r,q⟩=>⟨I1.kIn,?_⟩) he hpl;exact B2 F hr hb hd hx I1 r q
end
def nZ(CX:sj)(P:Program)(w:World)(K:W.Frag)(mg:Str->Option Value)(base:Heap)(N:List Str)(qual:Str)(scope:Scope)(f:Addr)(cd:Value)(A:Around)(outer:List Env)(s:Shared)(H:Hp)(E:XK):Cx where
 prog:=P
 w:=w
 K:=K
 mg:=mg
 base:=base
 A:=A.deeper (envOfC qual scope s.heap.objs.size f cd)
 N:=N
 s₀:=s
 H₀:=H
 env:=envOfC qual scope s.heap.objs.size f cd
 outer:=outer
 stack:=envOfC qual scope s.heap.objs.size f cd::outer
 ex:=[]
 calm:=false
 fn:=fun _=>true
 pn:=[]
 xe:=fun e s'=>wpAny (model P w) (A.deeper (envOfC qual scope s.heap.objs.size f cd)) (leaving (envOfC qual scope s.heap.objs.size f cd) e) (fun _ s''=>CX outer H s E e s'') (fun e' s''=>CX outer H s E e' s'') s'
theorem vx{CX:sj}{P:Program}{w:World}{K:W.Frag}{mg:Str->Option Value}{base:Heap}{N ps:List Str}{qual:Str}{scope:Scope}{f:Addr}{cd:Value}{A:Around}{outer:List Env}{s s1:Shared}{H:Hp}{E:XK}{us:List Value}{vs:List V}
  (S:aX N ps scope) (e0:qU P w K mg base A outer s H) (hl:vs.length=ps.length) (r:aW vs us)
  (x:InCallC s s.heap.objs.size (bindL (envOfC qual scope s.heap.objs.size f cd).kindOf (ps.zip us) fun _=>none) (cellsFrom (s.heap.objs.size+1) scope.names []) (bindC (envOfC qual scope s.heap.objs.size f cd).kindOf (ps.zip us) fun _=>none) s1) :
  aP (nZ CX P w K mg base N qual scope f cd A outer s H E) [] (start N vs) H s1:=by
 have hpl:ps.length<=N.length:=by have:=JY List.length S.pre;rw[Ku]at this;omega
 obtain⟨h1,tk,rfl,hk⟩:=x.done;have noA:∀b:Addr,b∉(nZ CX P w K mg base N qual scope f cd A outer s H E).ex:=fun b z=>absurd (show b∈([]:List Addr) from z) (by simp)
 refine⟨⟨e0.mod,S.kind,rfl,rfl,Kc _,fun y z c h1 h2=>?_,fun y hy=>?_,fun y c _ h=>?_,(fun z=>by cases z),Around.frames_deeper e0.frames,.inr ⟨rfl,rfl⟩,fun b z=>absurd z (noA b),e0.bs,e0.bsz,fun b _ _=>noA b,fun b z=>absurd z (noA b),e0.funs,e0.frf⟩,
  rfl,e0.bare,Un.kept hk,⟨_,x.toInCall.ns,fun i y v h1 h2 h3=>?_⟩,fun y c h=>⟨_,x.cell y c h⟩,e0.hok.fresh (Kc _),fun y c h=>?_,fun p hp=>absurd (show p∈([]:List (Addr×Obj)) from hp) (by simp),e0.hok.kept hk,?_⟩
 ·exact name_of_addr x.apart (Kv h1) (Kv h2)
 ·have hy : scope.names.lookup y = some .cell \/ scope.names.lookup y = some .free := hy;rcases hy with hy|hy
  ·exact lj hy
  ·exact absurd rfl (S.nofree _ (Kv hy))
 ·exact JI (x.above y c (Kv h))
 ·have hi:i<vs.length:=by
   unfold start at h2;by_cases hi:i<vs.length
   ·exact hi
   ·rw[Kw (by simpa using hi)]at h2;rw[Kx]at h2;split at h2 <;> cases h2
  have ha:vs[i]?=some v:=by
   unfold start at h2;rw[Ky (by simpa using hi),KA]at h2;cases e:vs[i]? with
   |none=>rw[e]at h2;cases h2
   |some a=>rw[e]at h2;cases h2;rfl
  obtain⟨u,hu,rv⟩:=r.get ha
  have hp:ps[i]?=some y:=by
   rw[<- S.pre,KB (by omega)];exact h1
  have ndP:ps.Nodup:=by rw[<- S.pre];exact S.nd.sublist (List.take_sublist _ _)
  refine⟨u,rv,?_⟩;rcases S.par y (KC hp) with k|k
  ·exact .inl ⟨k,mw ndP hp hu k⟩
  ·obtain⟨c,e⟩:=lj (n:=s.heap.objs.size+1) k;refine .inr ⟨.inl k,c,e,?_⟩;have q:=x.cell y c e;rw[mx ndP hp hu (by show scope.names.lookup y≠_;rw[k];decide)]at q;exact q
 ·exact e0.hok.fresh (JI (x.above y c (Kv h)))
 ·unfold start;show _=N.length;rw[KD,KE,List.length_replicate];omega
theorem F6{CX:sj}{P:Program}{w:World}{K:W.Frag}{mg:Str->Option Value}{base:Heap}{k:Nat}{f:Addr}{name qual:Str}{params:Arguments}{body:List Stmt}{scope:Scope}{dV kV doc pm cdv ct oc:Value}{an od:Option Addr}
  {osl:Array (Option Value)}{N ps:List Str}{sp:Sp} (lk:K.lookup f=some ⟨oc,od,.func (W.fnOf name qual params body scope dV kV doc pm an cdv ct),osl⟩) (hcd:W.codeIn K cdv qual=true) (S:aX N ps scope)
  (len:∀vs H Q E,sp vs H Q E->vs.length=ps.length)
  (hbody : ∀ (A : Around) (outer : List Env) (s : Shared) (H : Hp) (vs : List V) (Q : VK) (E : XK), dS k (A.deeper (envOfC qual scope s.heap.objs.size f cdv)) -> sp vs H Q E ->
   ∃t,gU (nZ CX P w K mg base N qual scope f cdv A outer s H E) body t/\t {nx:=fun _ H'=>Q .non H',rt:=Q} (start N vs) H) :
  sQ P w K mg base CX (k+1) f (W.fnOf name qual params body scope dV kV doc pm an cdv ct) ps sp:=by
 refine⟨len,fun A outer s H args us vs Q E hr e0 hb r hsp=>?_⟩;have hl:=len _ _ _ _ hsp;have KX:K.In s.heap:=e0.mod.kin.keeps fun b o e=>(e0.bs b o e).1;have lim:s.heap.NoLimit:=e0.mod.nolimit.keeps fun b o e=>(e0.bs b o e).1
 have hkind:∀y∈ps.zip us,scope.names.lookup y.1=some .local\/(scope.names.lookup y.1=some .cell/\((cellsFrom (s.heap.objs.size+1) scope.names []).lookup y.1).isSome=true):=fun⟨n,v⟩ hy=>by
  rcases S.par n (Ks hy).1 with q|q
  ·exact .inl q
  ·exact .inr ⟨q,W.cellsFrom_some _ _ _ (.inl q)⟩
 refine codeAny_call_function hr.depth (KX _ _ lk) rfl S.co S.gen rfl (W.codeRec_of KX hcd) (hb _ _ _ _ ?_);refine wpAny_newFunctionEnv_cells S.kind hkind fun env he s1 x=>?_;subst he;refine⟨lim.keeps x.toInCall.keep,codeAny_func ?_⟩;obtain⟨t,ht,hq⟩:=hbody A outer s H vs Q E (hr.deeper _) hsp;have I:aP (nZ CX P w K mg base N qual scope f cdv A outer s H E) [] (start N vs) H s1:=vx S e0 hl r x;refine JV (ht [] s1 (start N vs) H _ I hq) (fun fl s' hs=>?_) fun e s' hs=>hs
 have fin:∀{σ':St}{H':Hp}{v:V}{u:Value},aP (nZ CX P w K mg base N qual scope f cdv A outer s H E) [] σ' H' s'->bE v u->Q v H'->CE outer P w H s Q u s':=
  fun {σ' H' v u} J rv q=>⟨v,H',J.os,J.bare,J.base,J.hok,rv,q⟩
 cases fl with
 |ret u=>
  obtain⟨v,σ',H',J,rv,q⟩:=hs;exact fin J rv q
 |next=>
  obtain⟨σ',H',J,q⟩:=hs;exact fin (v:=V.non) (u:=Value.none) J rfl q
 |brk=>
  obtain⟨_,_,_,q⟩:=hs;exact False.elim q
 |cont=>
  obtain⟨_,_,_,q⟩:=hs;exact False.elim q
section
variable{P:Program}{w:World}{K:W.Frag}{mg:Str->Option Value}{base:Heap}
theorem gT.okH{x qual:Str}{st:Stmt}{f:Addr}{fd:FuncData}{N ps:List Str}{k:Nat}{sp:Sp}(F:gT K x qual st f fd)(S:aX N ps (au st))(len:∀vs H Q E,sp vs H Q E->vs.length=ps.length)
  (hbody : ∀ (cdv : Value) (A : Around) (outer : List Env) (s : Shared) (H : Hp) (vs : List V) (Q : VK) (E : XK), dS k (A.deeper (envOfC qual (au st) s.heap.objs.size f cdv)) -> sp vs H Q E ->
   ∃t,gU (nZ uD P w K mg base N qual (au st) f cdv A outer s H E).nox (bC st) t/\t {nx:=fun _ H'=>Q .non H',rt:=Q} (start N vs) H):sQ P w K mg base uD (k+1) f fd ps sp:=by
 obtain⟨oc,od,kV,doc,pm,an,cdv,ct,osl,rfl,lk,hcd⟩:=F.ex;refine F6 lk hcd S len fun A outer s H vs Q E hr hsp=>?_;obtain⟨t,h,q⟩:=hbody cdv A outer s H vs Q E hr hsp;exact⟨t,h.nox,q⟩
end
end L2
namespace PySem.W
open PySem PySem.Spec PySem.Calls PyProof.Rows
section
variable{prog:Program}{w:World}{A:Around}{E:Value->Shared->Prop}{s:Shared}{K:Frag}{x D:Addr}{a g:Value}{name:Str}{h:Heap}{M:Model}
theorem uj (X:K.In h) (ha:findIn K (.ref D) name=some (some a)) (hg:specialIn K a "__get__" = some (some g)) (ht:takesIn K a=some true):Looks M h (Builtin.ObjectAttr.find (.ref x) (.ref D) name) (.bind g a):=
 (NC X ha).andThen ((show Looks M h (Builtin.ObjectAttr.getOf (some a)) (some g) from looks_specialIn X hg).andThen ((show Looks M h (Builtin.ObjectAttr.dataDescriptor? (some a) (some g)) (some (g,a)) from (looks_takesIn X ht).andThen .now).andThen (Looks.tag .now)))
theorem vF {R:Result->Shared->Prop} (X:K.In s.heap) (L:Looks (model prog w) s.heap (typeOf (.ref x)) (.ref D)) (hm:mroIn K D (.type "object")=some true) (hr:R (.ok (.ret (.ref D))) s) :
  codeAny (model prog w) A (.call (.builtin "getset_descriptor.__get__") ⟨[.builtin "object.__class__",.ref x,.ref D],[]⟩) R s:=by
 obtain⟨hh,g,d,t,os⟩:=s;have L0:Looks (model prog w) hh (typeOf (.ref x)) (.ref D):=L;have L1:Looks (model prog w) hh (isSubtype (.ref D) (.type "object")) true:=looks_mroIn X hm;have hT5:(⟨hh,g,d,t,os⟩:Shared).TypeIs (.builtin "object.__class__") "getset_descriptor" := F.typeOf_object_class;have ow:(".".intercalate ("object.__class__".cutAt '.').dropLast) = "object" := by decide +kernel
 refine MV F.slot_gs_get.plain F.entry_gs_get (F.slot_gs_get.check _ _ _ _ _ _ _ _ hT5 (F.args_gs_get _ _ _) ?_)
 repeat (any_goals (first|assumption|with_reducible refine L0.at ?_|(rw[ow])|with_reducible refine L1.at ?_|wp_step))
 refine⟨MU _ (by decide +kernel),MM KF.entry_class ?_⟩;unfold Builtin.«object.__class__»
 repeat (any_goals (first|assumption|with_reducible refine L0.at ?_|wp_step))
theorem tQ {hh:Heap}{g:Array GenState}{d:Drawn}{t:Nat}{os:OsState}{M:Model}{nameV:Value}{Q:Unit->Shared->Prop} (X:K.In hh) (L0:Looks M hh (typeOf (.ref x)) (.ref D)) (hmB:mroIn K D (.type "BaseException")=some true) (hq:Q () ⟨hh,g,d,t,os⟩) :
  wpAny M A (checkBuiltinCall "BaseException.__getattribute__" ⟨[.ref x,nameV],[]⟩) Q E ⟨hh,g,d,t,os⟩:=by
 have hk:builtinKind "BaseException.__getattribute__" = some .slot:=by decide +kernel
 have hsplit:splitId "BaseException.__getattribute__" = some ("BaseException", "__getattribute__"):=by decide +kernel
 have ha:=F.args_bexc_ga (.ref x) nameV;have L1:=looks_mroIn (M:=M) X hmB;simp only[checkBuiltinCall,hk,hsplit];refine J1 ?_
 ·unfold isInstance
  repeat (first|lk|wp_step)
  exact hq
theorem AU {tk:Tok}{Q:Fin->Shared->Prop} (X:K.In s.heap) (L:Looks (model prog w) s.heap (typeOf (.ref x)) (.ref D)) (ha:findIn K (.ref D) "__class__" = some (some (.builtin "object.__class__"))) (hn:specialIn K (.builtin "object.__class__") "__get__" = some (some (.builtin "getset_descriptor.__get__"))) (htk:takesIn K (.builtin "object.__class__")=some true) (hm:mroIn K D (.type "object")=some true) (hq:Q (.done (.ret (.ref D))) s) :
  wpAny (model prog w) A (Builtin.«object.__getattribute__» ⟨[.ref x,.str "__class__" tk],[]⟩) Q E s:=by
 obtain⟨hh,g,d,t,os⟩:=s;have L0:Looks (model prog w) hh (typeOf (.ref x)) (.ref D):=L;have f3:Looks (model prog w) hh (Builtin.ObjectAttr.find (.ref x) (.ref D) "__class__") (.bind (.builtin "getset_descriptor.__get__") (.builtin "object.__class__")):=uj X ha hn htk;unfold Builtin.«object.__getattribute__»
 repeat (any_goals (first|assumption|with_reducible refine L0.at ?_|with_reducible refine f3.at ?_|wp_step))
 refine vF (s:=⟨hh,g,d,t,os⟩) X L hm ?_
 repeat (any_goals (first|assumption|wp_step))
theorem x8 {Q:Option Value->Shared->Prop} (X:K.In s.heap) (L:Looks (model prog w) s.heap (typeOf (.ref x)) (.ref D)) (hga:findIn K (.ref D) "__getattribute__" = some (some (.builtin "BaseException.__getattribute__"))) (hgn:findIn K (.ref D) "__getattr__" = some none)
  (ha:findIn K (.ref D) "__class__" = some (some (.builtin "object.__class__"))) (hn:specialIn K (.builtin "object.__class__") "__get__" = some (some (.builtin "getset_descriptor.__get__"))) (htk:takesIn K (.builtin "object.__class__")=some true) (hm:mroIn K D (.type "object")=some true) (hmB:mroIn K D (.type "BaseException")=some true) (hq:Q (some (.ref D)) {s with toks:=s.toks+1}) :
  wpAny (model prog w) A (getAttr? (.ref x) "__class__") Q E s:=by
 obtain⟨hh,g,d,t,os⟩:=s;have L0:Looks (model prog w) hh (typeOf (.ref x)) (.ref D):=L;have L1:Looks (model prog w) hh (typeLookup (.ref D) "__getattribute__") (some (.builtin "BaseException.__getattribute__")):=NC X hga;have L2:Looks (model prog w) hh (typeLookup (.ref D) "__getattr__") none:=NC X hgn;have f3:=ND.ga.bind (.ref x);have hx2:(Value.builtin "BaseException.__getattribute__" == Value.builtin "object.__getattribute__")=false:=by decide +kernel
 have hx1:(onTheHeap (Value.ref D)&&Value.builtin "BaseException.__getattribute__" == Value.builtin "object.__getattribute__")=false:=by rw[hx2];rfl
 have hx0:(false&&onTheHeap (Value.builtin "BaseException.__getattribute__"))=false:=rfl;unfold getAttr? getAttrBy?
 repeat (any_goals (first|assumption|with_reducible refine L0.at ?_|with_reducible refine L1.at ?_|with_reducible refine L2.at ?_|wp_step))
 refine MV ND.ga.plain F.entry_bexc_ga (tQ X L0 hmB (AU (tk:=t) X L0 ha hn htk hm ?_))
 repeat (any_goals (first|assumption|wp_step))
end
def excCls (K:Frag) (D:Addr):Bool:=findIn K (.ref D) "__getattribute__" == some (some (.builtin "BaseException.__getattribute__"))&&findIn K (.ref D) "__getattr__" == some none&&(clsIn K D).isSome&&findIn K (.ref D) "__class__" == some (some (.builtin "object.__class__")) &&
 mroIn K D (.type "object") == some true&&mroIn K D (.type "BaseException") == some true&&specialIn K (.builtin "object.__class__") "__get__" == some (some (.builtin "getset_descriptor.__get__"))&&takesIn K (.builtin "object.__class__") == some true
section
variable{K:Frag}{x D:Addr}
theorem kitx_exc(e:excCls K D=true):KitX K (.ref x) (.ref D) (fun h=>∃ox,h.get? x=some ox/\ox.cls=.ref D):=by
 unfold excCls at e;simp only[K4,NF]at e;obtain⟨⟨⟨⟨⟨⟨⟨hga,hgn⟩,hc⟩,ha⟩,hm⟩,hmB⟩,hn⟩,htk⟩:=e
 exact {
  ty:=fun _ _ _ ⟨ox,h1,h2⟩=>h2 ▸ (Looks.ld h1).andThen .now
  it:=fun _ _ X _=>by
   obtain⟨cdD,hcD⟩:=Kt.mp hc;unfold clsIn at hcD;split at hcD
   ·rename_i c' d' cd' sl' ho;intro A' Q' E' s' k q;unfold isType loadHead;exact J1 (wpAny_loadPart (k _ _ (X _ _ ho)) (J8 q))
   ·cases hcD
  ne:=fun h tp dd its n sl X htp=>by
   obtain⟨cdD,hcD⟩:=Kt.mp hc;refine Bool.eq_false_iff.mpr fun q=>?_;have e:D=tp:=Value.ref.inj (NF.mp q);subst e;unfold clsIn at hcD;split at hcD
   ·rename_i c' d' cd' sl' ho;have z:=(X _ _ ho).symm.trans htp;cases z
   ·cases hcD
  ca:=fun {prog w A E Q s} X ⟨ox,h1,h2⟩ h=>x8 X (h2 ▸ (Looks.ld h1).andThen .now) hga hgn ha hn htk hm hmB h}
end
end PySem.W
namespace L2
open PySem PySem.Spec PyProof.Rows
def GG(K:W.Frag)(u:Value):List V->Hp->VK->Prop:=fun xs H Q=>∃a D b v,xs=[.ref a,v]/\bE v u/\(∃dx,H a=some (je a D dx))/\W.excCls K D=true/\W.kitOne K (.ref D) u=some b/\Q (.bl b) H
theorem tY {X:Cx}{u:Value} (hu:∀v w,bE v u->bE v w->w=u):cB X (.builtin "isinstance") (GG X.K u):=by
 intro pins s σ H xs us Q I r h;obtain⟨a,D,b,v,rfl,rv,⟨dx,ea⟩,hc,e,q⟩:=h;cases r with
 |cons r1 r2=>
  cases r2 with
  |cons r3 r4=>
   cases r4;cases (show _=Value.ref a from r1);have z:=hu v _ rv r3;subst z;obtain⟨⟨oe,h1,h2,_⟩,_⟩:=(show cA X.prog X.w H s.heap a (je a D dx) from I.hok a _ ea);exact W.kia_one (W.kitx_exc hc) I.kIn ⟨oe,h1,h2⟩ e (fun z=>nomatch z) fun tk=>⟨.bl b,H,I.tok _,rfl,q⟩
end L2
namespace L2
open PySem PySem.Spec PyProof.Rows RS
inductive D where
 |non|bl (b:Bool)|int (i:Int)|str (x:Str)|tup (xs:List D)|frz (xs:List D)|obj (n:Nat)
inductive O where
 |lst (xs:List D)|set (ks:List (List Int))|iset (ks:List Int)|dic|exc (c:Str)|exn (c:Str) (fs:List (Str×Int))
abbrev aA:=List O
abbrev Ro:=List (Option D)
def Dm(K:W.Frag)(H:Hp)(a:Addr)(xs:List V):Prop:=
 (∃ o, H a = some (.frz o (.lst xs))) \/
  ∃(o:Obj) (its:Array Value) (n:Nat),K.lookup a=some o/\o.cls=.type "list" /\ o.dict=none/\o.data=.seq its n/\its.size<=sizeLine/\aW xs its.toList
theorem Dm.sq{K:W.Frag}{H:Hp}{a:Addr}{xs:List V}(h:Dm K H a xs):eP K H a xs:=by
 rcases h with⟨o,h⟩|h
 ·exact .inl (.inr ⟨o,h⟩)
 ·exact .inr h
section
variable(K:W.Frag)(H:Hp)(α:List Addr)
mutual
def aM:D->V->Prop
 |.non,v=>v=.non
 |.bl b,v=>v=.bl b
 |.int i,v=>v=.int i
 |.str x,v=>v=.str x
 |.tup xs,v=>∃a vs,v=.ref a/\eK K H a vs/\Reps xs vs
 |.frz xs,v=>∃a vs,v=.ref a/\Dm K H a vs/\Reps xs vs
 |.obj n,v=>∃a,v=.ref a/\α[n]?=some a
def Reps:List D->List V->Prop
 |[],vs=>vs=[]
 |x::xs,vs=>∃v r,vs=v::r/\aM x v/\Reps xs r
end
end
structure i9(K:W.Frag)(H H':Hp)(α α':List Addr):Prop where
 tup:∀a xs,eK K H a xs->eK K H' a xs
 frz:∀a xs,Dm K H a xs->Dm K H' a xs
 pre:∀(n:Nat) a,α[n]?=some a->α'[n]?=some a
 xds:∀a fs,H a=some (.xd fs)->H' a=some (.xd fs)
section
variable{K:W.Frag}{H H' H1 H2:Hp}{α α' α1 α2:List Addr}
theorem i9.refl:i9 K H H α α:=⟨fun _ _ h=>h,fun _ _ h=>h,fun _ _ h=>h,fun _ _ h=>h⟩
theorem i9.trans(a:i9 K H H1 α α1)(b:i9 K H1 H2 α1 α2):i9 K H H2 α α2:=
 ⟨fun c xs h=>b.tup c xs (a.tup c xs h),fun c xs h=>b.frz c xs (a.frz c xs h),fun n c h=>b.pre n c (a.pre n c h),fun c fs h=>b.xds c fs (a.xds c fs h)⟩
mutual
theorem aM.mono(e:i9 K H H' α α'):∀{d:D}{v:V},aM K H α d v->aM K H' α' d v
 |.non,_,h=>by simp only[aM]at h⊢;exact h
 |.bl _,_,h=>by simp only[aM]at h⊢;exact h
 |.int _,_,h=>by simp only[aM]at h⊢;exact h
 |.str _,_,h=>by simp only[aM]at h⊢;exact h
 |.tup xs,_,h=>by
  simp only[aM]at h⊢;obtain⟨a,vs,rfl,h1,h2⟩:=h;exact⟨a,vs,rfl,e.tup a vs h1,Reps.mono e h2⟩
 |.frz xs,_,h=>by
  simp only[aM]at h⊢;obtain⟨a,vs,rfl,h1,h2⟩:=h;exact⟨a,vs,rfl,e.frz a vs h1,Reps.mono e h2⟩
 |.obj n,_,h=>by
  simp only[aM]at h⊢;obtain⟨a,rfl,h1⟩:=h;exact⟨a,rfl,e.pre n a h1⟩
theorem Reps.mono(e:i9 K H H' α α'):∀{ds:List D}{vs:List V},Reps K H α ds vs->Reps K H' α' ds vs
 |[],_,h=>by simp only[Reps]at h⊢;exact h
 |d::ds,_,h=>by
  simp only[Reps]at h⊢;obtain⟨v,r,rfl,h1,h2⟩:=h;exact⟨v,r,rfl,aM.mono e h1,Reps.mono e h2⟩
end
theorem Reps.nil:Reps K H α [] []:=by simp only[Reps]
theorem Reps.cons{d:D}{ds:List D}{v:V}{vs:List V}(h1:aM K H α d v)(h2:Reps K H α ds vs):Reps K H α (d::ds) (v::vs):=by
 simp only[Reps];exact⟨v,vs,rfl,h1,h2⟩
theorem Reps.length:∀{ds:List D}{vs:List V},Reps K H α ds vs->vs.length=ds.length
 |[],vs,h=>by simp only[Reps]at h;rw[h];rfl
 |d::ds,vs,h=>by
  simp only[Reps]at h;obtain⟨v,r,rfl,h1,h2⟩:=h;simp[Reps.length h2]
theorem Reps.get:∀{ds:List D}{vs:List V}{i:Nat}{d:D},Reps K H α ds vs->ds[i]?=some d->∃v,vs[i]?=some v/\aM K H α d v
 |[],_,_,_,_,e=>by simp at e
 |d::ds,vs,i,x,h,e=>by
  simp only[Reps]at h;obtain⟨v,r,rfl,h1,h2⟩:=h;cases i with
  |zero=>simp at e;subst e;exact⟨v,rfl,h1⟩
  |succ i=>exact Reps.get (i:=i) h2 (by simpa using e)
theorem Reps.append:∀{ds es:List D}{vs ws:List V},Reps K H α ds vs->Reps K H α es ws->Reps K H α (ds++es) (vs++ws)
 |[],_,vs,_,h,g=>by simp only[Reps]at h;subst h;exact g
 |d::ds,_,vs,_,h,g=>by
  simp only[Reps]at h;obtain⟨v,r,rfl,h1,h2⟩:=h;exact Reps.cons h1 (Reps.append h2 g)
theorem Reps.take:∀{ds:List D}{vs:List V}(n:Nat),Reps K H α ds vs->Reps K H α (ds.take n) (vs.take n)
 |[],vs,n,h=>by simp only[Reps]at h;subst h;simpa using Reps.nil
 |d::ds,vs,n,h=>by
  simp only[Reps]at h;obtain⟨v,r,rfl,h1,h2⟩:=h;cases n with
  |zero=>exact Reps.nil
  |succ n=>exact Reps.cons h1 (Reps.take n h2)
theorem Reps.drop:∀{ds:List D}{vs:List V}(n:Nat),Reps K H α ds vs->Reps K H α (ds.drop n) (vs.drop n)
 |[],vs,n,h=>by simp only[Reps]at h;subst h;simpa using Reps.nil
 |d::ds,vs,n,h=>by
  cases n with
  |zero=>exact h
  |succ n=>
   simp only[Reps]at h;obtain⟨v,r,rfl,h1,h2⟩:=h;exact Reps.drop n h2
theorem Reps.set{d:D}{v:V}(q:aM K H α d v):∀{ds:List D}{vs:List V}(n:Nat),Reps K H α ds vs->Reps K H α (ds.set n d) (vs.set n v)
 |[],vs,n,h=>by simp only[Reps]at h;subst h;simpa using Reps.nil
 |e::ds,vs,n,h=>by
  simp only[Reps]at h;obtain⟨v',r,rfl,h1,h2⟩:=h;cases n with
  |zero=>exact Reps.cons q h2
  |succ n=>exact Reps.cons h1 (Reps.set q n h2)
theorem Reps.eraseIdx:∀{ds:List D}{vs:List V}(n:Nat),Reps K H α ds vs->Reps K H α (ds.eraseIdx n) (vs.eraseIdx n)
 |[],vs,n,h=>by simp only[Reps]at h;subst h;simpa using Reps.nil
 |e::ds,vs,n,h=>by
  simp only[Reps]at h;obtain⟨v',r,rfl,h1,h2⟩:=h;cases n with
  |zero=>exact h2
  |succ n=>exact Reps.cons h1 (Reps.eraseIdx n h2)
theorem Reps.reverse:∀{ds:List D}{vs:List V},Reps K H α ds vs->Reps K H α ds.reverse vs.reverse
 |[],vs,h=>by simp only[Reps]at h;subst h;exact Reps.nil
 |d::ds,vs,h=>by
  simp only[Reps]at h;obtain⟨v,r,rfl,h1,h2⟩:=h;rw[Le,Le];exact Reps.append (Reps.reverse h2) (Reps.cons h1 Reps.nil)
theorem Reps.one{d:D}{vs:List V}(h:Reps K H α [d] vs):∃v,vs=[v]/\aM K H α d v:=by
 simp only[Reps]at h;obtain⟨v,r,rfl,h1,rfl⟩:=h;exact⟨v,rfl,h1⟩
theorem Reps.two{d e:D}{vs:List V}(h:Reps K H α [d,e] vs):∃v u,vs=[v,u]/\aM K H α d v/\aM K H α e u:=by
 simp only[Reps]at h;obtain⟨v,r,rfl,h1,u,r',rfl,h2,rfl⟩:=h;exact⟨v,u,rfl,h1,h2⟩
theorem Reps.snoc{d:D}{ds:List D}{v:V}{vs:List V}(h:Reps K H α ds vs)(q:aM K H α d v):Reps K H α (ds++[d]) (vs++[v]):=h.append (Reps.cons q Reps.nil)
theorem Reps.ints:∀{ns:List Int}{vs:List V},Reps K H α (ns.map D.int) vs->vs=ns.map V.int
 |[],vs,h=>by simp only[K6,Reps]at h;exact h
 |n::ns,vs,h=>by
  simp only[K7,Reps]at h;obtain⟨v,r,rfl,h1,h2⟩:=h;simp only[aM]at h1;rw[h1,Reps.ints h2];rfl
theorem h7:∀(ns:List Int),Reps K H α (ns.map D.int) (ns.map V.int)
 |[]=>Reps.nil
 |n::ns=>Reps.cons (by simp only[aM]) (h7 ns)
theorem aE{xs:List D}{v:V}:aM K H α (.tup xs) v↔∃a vs,v=.ref a/\eK K H a vs/\Reps K H α xs vs:=by simp only[aM]
theorem bh{xs:List D}{v:V}:aM K H α (.frz xs) v↔∃a vs,v=.ref a/\Dm K H a vs/\Reps K H α xs vs:=by simp only[aM]
theorem aN{n:Nat}{v:V}:aM K H α (.obj n) v↔∃a,v=.ref a/\α[n]?=some a:=by simp only[aM]
theorem aq{n:Int}{v:V}:aM K H α (.int n) v↔v=.int n:=by simp only[aM]
theorem aQ{n:Bool}{v:V}:aM K H α (.bl n) v↔v=.bl n:=by simp only[aM]
theorem bc{n:Str}{v:V}:aM K H α (.str n) v↔v=.str n:=by simp only[aM]
theorem bu{v:V}:aM K H α .non v↔v=.non:=by simp only[aM]
end
def pE(K:W.Frag)(w:World)(H:Hp)(α:List Addr):O->Addr->Prop
 |.lst xs,a=>∃vs,H a=some (.lst vs)/\Reps K H α xs vs
 |.set ks,a=>∃ps:List KP,ps.map (·.1)=ks/\H a=some (.ext fun h=>bO w h a ps)/\(∀p∈ps,p.1∈prs)/\(ps.map (·.1)).Nodup/\∀p∈ps,eK K H p.2 (p.1.map V.int)
 |.iset ks,a=>∃ps:List KI,ps.map (·.1)=ks/\H a=some (.ext fun h=>cM w h a ps)/\ks.length<=6
 |.dic,a=>H a=some (.dK [])
 |.exc c,a=>∃C dx,W.nsIn K mainGlobals c=some (some (.ref C))/\H a=some (je a C dx)
 |.exn c fs,a=>∃C dx,W.nsIn K mainGlobals c=some (some (.ref C))/\H a=some (je a C (some dx))/\H dx=some (.xd (fs.map fun p=>(p.1,V.int p.2)))
structure dF(K:W.Frag)(w:World)(H:Hp)(α:List Addr)(μ:aA):Prop where
 len:α.length=μ.length
 nd:α.Nodup
 ob:∀(n:Nat) o a,μ[n]?=some o->α[n]?=some a->pE K w H α o a
section
variable{K:W.Frag}{w:World}{H H':Hp}{α α':List Addr}{μ:aA}
theorem pE.live{o:O}{a:Addr}(h:pE K w H α o a):H a≠none:=by
 cases o with
 |lst xs=>obtain⟨vs,e,_⟩:=h;rw[e];exact fun z=>by cases z
 |set ks=>obtain⟨ps,_,e,_⟩:=h;rw[e];exact fun z=>by cases z
 |iset ks=>obtain⟨ps,_,e,_⟩:=h;rw[e];exact fun z=>by cases z
 |dic=>have e:H a=some (.dK []):=h;rw[e];exact fun z=>by cases z
 |exc c=>obtain⟨C,dx,_,e⟩:=h;rw[e];exact fun z=>by cases z
 |exn c fs=>obtain⟨C,dx,_,e,_⟩:=h;rw[e];exact fun z=>by cases z
theorem pE.mono{o:O}{a:Addr}(h:pE K w H α o a)(e:i9 K H H' α α')(ha:H' a=H a):pE K w H' α' o a:=by
 cases o with
 |lst xs=>obtain⟨vs,q,r⟩:=h;exact⟨vs,ha.trans q,r.mono e⟩
 |set ks=>obtain⟨ps,h1,q,h2,h3,h4⟩:=h;exact⟨ps,h1,ha.trans q,h2,h3,fun p hp=>e.tup _ _ (h4 p hp)⟩
 |iset ks=>obtain⟨ps,h1,q,h2⟩:=h;exact⟨ps,h1,ha.trans q,h2⟩
 |dic=>exact ha.trans h
 |exc c=>obtain⟨C,dx,h1,q⟩:=h;exact⟨C,dx,h1,ha.trans q⟩
 |exn c fs=>obtain⟨C,dx,h1,q,q2⟩:=h;exact⟨C,dx,h1,ha.trans q,e.xds dx _ q2⟩
theorem dF.at(S:dF K w H α μ){n:Nat}{o:O}(e:μ[n]?=some o):∃a,α[n]?=some a/\pE K w H α o a:=by
 have hn:n<μ.length:=(JR.mp e).1;have hn':n<α.length:=by rw[S.len];exact hn
 exact⟨α[n],Nt hn',S.ob n o _ e (Nt hn')⟩
theorem dF.live(S:dF K w H α μ){a:Addr}(h:a∈α):H a≠none:=by
 obtain⟨n,hn,e⟩:=List.getElem_of_mem h;have hm:n<μ.length:=by rw[<- S.len];exact hn
 exact(S.ob n _ a (Nt hm) (by rw[<- e];exact Nt hn)).live
theorem dF.fresh(S:dF K w H α μ){p:Addr}(h:H p=none):p∉α:=fun z=>S.live z h
theorem dF.same(S:dF K w H α μ)(e:i9 K H H' α α)(h:∀a,H a≠none->H' a=H a):dF K w H' α μ:=
 ⟨S.len,S.nd,fun n o a h1 h2=>(S.ob n o a h1 h2).mono e (h a (S.ob n o a h1 h2).live)⟩
theorem bt{p:Addr}{o:HO}(h:H p=none):i9 K H (bx H p o) α α:=by
 refine⟨fun a xs q=>?_,fun a xs q=>?_,fun _ _ z=>z,fun a fs q=>by rw[aJ (bB q h)];exact q⟩
 ·rcases q with (q | ⟨x, q⟩) | q
  ·exact .inl (.inl (by rw[aJ (bB q h)];exact q))
  ·exact .inl (.inr ⟨x,by rw[aJ (bB q h)];exact q⟩)
  ·exact .inr q
 ·rcases q with ⟨x, q⟩ | q
  ·exact .inl ⟨x,by rw[aJ (bB q h)];exact q⟩
  ·exact .inr q
theorem gZ{p:Addr}{vs:List V}{o:HO}(h:H p=some (.lst vs)):i9 K H (bx H p o) α α:=by
 refine⟨fun a xs q=>?_,fun a xs q=>?_,fun _ _ z=>z,fun a fs q=>by rw[aJ (mK q h (by intro z;cases z))];exact q⟩
 ·rcases q with (q | ⟨x, q⟩) | q
  ·exact .inl (.inl (by rw[aJ (mK q h (by intro z;cases z))];exact q))
  ·exact .inl (.inr ⟨x,by rw[aJ (mK q h (by intro z;cases z))];exact q⟩)
  ·exact .inr q
 ·rcases q with ⟨x, q⟩ | q
  ·exact .inl ⟨x,by rw[aJ (mK q h (by intro z;cases z))];exact q⟩
  ·exact .inr q
theorem gN(β:List Addr):i9 K H H α (α++β):=⟨fun _ _ h=>h,fun _ _ h=>h,fun n a h=>by rw[Ky (JR.mp h).1];exact h,fun _ _ h=>h⟩
theorem dF.tuple(S:dF K w H α μ){p:Addr}{vs:List V}(h:H p=none):dF K w (bx H p (.tup vs)) α μ:=
 S.same (bt h) fun a ha=>aJ fun z=>ha (by rw[z];exact h)
theorem dF.more(S:dF K w H α μ){p:Addr}{o:O}{ho:HO}(h:H p=none)(q:pE K w (bx H p ho) (α++[p]) o p):dF K w (bx H p ho) (α++[p]) (μ++[o]):=by
 refine⟨by simp[S.len],?_,fun n o' a h1 h2=>?_⟩
 ·rw[MF];exact⟨S.nd,by simp,fun x hx y hy z=>by simp at hy;subst hy;subst z;exact S.fresh h hx⟩
 ·by_cases hn : n < μ.length
  ·rw[Ky hn]at h1;rw[Ky (by rw[S.len];exact hn)]at h2;exact(S.ob n o' a h1 h2).mono ((bt h).trans (gN [p])) (aJ fun z=>(S.ob n o' a h1 h2).live (by rw[z];exact h))
  ·have hn':n=μ.length:=by
    have:=(JR.mp h1).1;simp at this;omega
   subst hn';rw[Kw (Kc _)]at h1;rw[Kw (by rw[S.len];exact Kc _),S.len]at h2;simp at h1 h2;subst h1;subst h2;exact q
theorem dF.put(S:dF K w H α μ){n:Nat}{a:Addr}{xs ys:List D}{us vs:List V}(h1:μ[n]?=some (.lst xs))(h2:α[n]?=some a)(h3:H a=some (.lst us))(q:Reps K H α ys vs):dF K w (bx H a (.lst vs)) α (μ.set n (.lst ys)):=by
 have e:=gZ (K:=K) (α:=α) (o:=.lst vs) h3;refine⟨by simp[S.len],S.nd,fun m o b g1 g2=>?_⟩;have hn:n<μ.length:=(JR.mp h1).1;by_cases hm:m=n
 ·subst hm;rw[JT hn]at g1;cases g1;rw[h2]at g2;cases g2;exact⟨vs,aS,q.mono e⟩
 ·rw[JU (fun z=>hm z.symm)]at g1;refine(S.ob m o b g1 g2).mono e (aJ fun z=>hm ?_);subst z;have i1:=(JR.mp g2);have i2:=(JR.mp h2);obtain⟨l1,e1⟩:=i1;obtain⟨l2,e2⟩:=i2;exact(JS S.nd).mp (e1.trans e2.symm)
end
structure cj(K:W.Frag)(H:Hp)(α:List Addr)(ρ:Ro)(σ:St):Prop where
 len:ρ.length=σ.length
 at':∀(i:Nat) d,ρ[i]?=some (some d)->∃v,σ[i]?=some (some v)/\aM K H α d v
theorem cj.mono{K:W.Frag}{H H':Hp}{α α':List Addr}{ρ:Ro}{σ:St}(e:i9 K H H' α α')(R:cj K H α ρ σ):cj K H' α' ρ σ:=
 ⟨R.len,fun i d h=>let ⟨v,h1,h2⟩:=R.at' i d h;⟨v,h1,h2.mono e⟩⟩
theorem cj.set{K:W.Frag}{H:Hp}{α:List Addr}{ρ:Ro}{σ:St}{d:D}{v:V}(R:cj K H α ρ σ)(i:Nat)(q:aM K H α d v):cj K H α (ρ.set i (some d)) (σ.set i (some v)):=by
 refine⟨by simp[R.len],fun j d' h=>?_⟩;by_cases hj:j=i
 ·subst hj;have hl:j<ρ.length:=by have:=(JR.mp h).1;simpa using this
  rw[JT hl]at h;cases h;exact⟨v,by rw[JT (by rw[<- R.len];exact hl)],q⟩
 ·rw[JU (fun z=>hj z.symm)]at h⊢;exact R.at' j d' h
structure DX where
 cls:Str
 args:List (Str×Int)
inductive ai(β:Type) where
 |ok (a:β) (μ:aA)|exc (x:DX) (μ:aA)|bad
def ai.bind{β γ:Type}(o:ai β)(g:β->aA->ai γ):ai γ:=match o with
 |.ok a μ=>g a μ
 |.exc x μ=>.exc x μ
 |.bad=>.bad
@[simp] theorem aa {β γ:Type}{a:β}{μ:aA}{g:β->aA->ai γ}:(ai.ok a μ).bind g=g a μ:=NG (NH _)
inductive SO where
 |next (ρ:Ro) (μ:aA)|ret (d:D) (μ:aA)|brk (ρ:Ro) (μ:aA)|cnt (ρ:Ro) (μ:aA)|exc (x:DX) (μ:aA)|bad
def ai.bindS{β:Type}(o:ai β)(g:β->aA->SO):SO:=match o with
 |.ok a μ=>g a μ
 |.exc x μ=>.exc x μ
 |.bad=>.bad
@[simp] theorem ae {β:Type}{a:β}{μ:aA}{g:β->aA->SO}:(ai.ok a μ).bindS g=g a μ:=NG (NH _)
def SO.bind(o:SO)(g:Ro->aA->SO):SO:=match o with
 |.next ρ μ=>g ρ μ
 |o=>o
structure Pa where
 K:W.Frag
 w:World
 xw:DX->aA->Hp->List Addr->Prop
abbrev Pa.S(p:Pa):=dF p.K p.w
abbrev Pa.X(p:Pa):=i9 p.K
abbrev Pa.R(p:Pa):=aM p.K
abbrev Pa.Rs(p:Pa):=Reps p.K
def aB{β:Type}(p:Pa)(H:Hp)(α:List Addr)(o:ai β)(R:β->aA->Hp->List Addr->Prop):Prop:=match o with
 |.ok a μ'=>∀H' α',p.X H H' α α'->p.S H' α' μ'->R a μ' H' α'
 |.exc x μ'=>∀H' α',p.X H H' α α'->p.S H' α' μ'->p.xw x μ' H' α'
 |.bad=>False
def dA(p:Pa)(H:Hp)(α:List Addr)(o:SO)(D:kL):Prop:=match o with
 |.next ρ' μ'=>∀H' α' σ',p.X H H' α α'->p.S H' α' μ'->cj p.K H' α' ρ' σ'->D.nx σ' H'
 |.brk ρ' μ'=>∀H' α' σ',p.X H H' α α'->p.S H' α' μ'->cj p.K H' α' ρ' σ'->D.bk σ' H'
 |.cnt ρ' μ'=>∀H' α' σ',p.X H H' α α'->p.S H' α' μ'->cj p.K H' α' ρ' σ'->D.ct σ' H'
 |.ret d μ'=>∀H' α' v,p.X H H' α α'->p.S H' α' μ'->p.R H' α' d v->D.rt v H'
 |.exc x μ'=>∀H' α',p.X H H' α α'->p.S H' α' μ'->p.xw x μ' H' α'
 |.bad=>False
section
variable{p:Pa}{H H1:Hp}{α α1:List Addr}{β γ:Type}
theorem aB.imp{o:ai β}{R R':β->aA->Hp->List Addr->Prop}(h:aB p H α o R)(k:∀a μ' H' α',p.X H H' α α'->p.S H' α' μ'->R a μ' H' α'->R' a μ' H' α'):aB p H α o R':=by
 cases o with
 |ok a μ=>exact fun H' α' e s=>k a μ H' α' e s (h H' α' e s)
 |exc x μ=>exact h
 |bad=>exact h
theorem aB.from{o:ai β}{R:β->aA->Hp->List Addr->Prop}(e:p.X H H1 α α1)(h:aB p H α o R):aB p H1 α1 o R:=by
 cases o with
 |ok a μ=>exact fun H' α' e' s=>h H' α' (e.trans e') s
 |exc x μ=>exact fun H' α' e' s=>h H' α' (e.trans e') s
 |bad=>exact h
theorem aB.bind{o:ai β}{g:β->aA->ai γ}{R:γ->aA->Hp->List Addr->Prop}(h:aB p H α (o.bind g) R):aB p H α o (fun a μ1 H1 α1=>aB p H1 α1 (g a μ1) R):=by
 cases o with
 |ok a μ=>exact fun H' α' e s=>aB.from e h
 |exc x μ=>exact h
 |bad=>exact h
theorem aB.now{a:β}{μ:aA}{R:β->aA->Hp->List Addr->Prop}(h:aB p H α (.ok a μ) R)(s:p.S H α μ):R a μ H α:=h H α i9.refl s
theorem dA.from{o:SO}{D:kL}(e:p.X H H1 α α1)(h:dA p H α o D):dA p H1 α1 o D:=by
 cases o with
 |next ρ μ=>exact fun H' α' σ' e' s r=>h H' α' σ' (e.trans e') s r
 |brk ρ μ=>exact fun H' α' σ' e' s r=>h H' α' σ' (e.trans e') s r
 |cnt ρ μ=>exact fun H' α' σ' e' s r=>h H' α' σ' (e.trans e') s r
 |ret d μ=>exact fun H' α' v e' s r=>h H' α' v (e.trans e') s r
 |exc x μ=>exact fun H' α' e' s=>h H' α' (e.trans e') s
 |bad=>exact h
theorem aB.bindS{o:ai β}{g:β->aA->SO}{D:kL}(h:dA p H α (o.bindS g) D):aB p H α o (fun a μ1 H1 α1=>dA p H1 α1 (g a μ1) D):=by
 cases o with
 |ok a μ=>exact fun H' α' e s=>dA.from e h
 |exc x μ=>exact h
 |bad=>exact h
end
abbrev ME:=Ro->aA->ai D
abbrev MT:=Ro->aA->ai Bool
abbrev MA:=Ro->aA->ai (List D)
abbrev MS:=Ro->aA->SO
abbrev MG:=D->Ro->aA->ai Ro
abbrev RV(p:Pa)(Q:VK):D->aA->Hp->List Addr->Prop:=fun d _ H' α'=>∀v,p.R H' α' d v->Q v H'
def tD(p:Pa)(f:ME):TE:=fun σ H Q=>∃α ρ μ,p.S H α μ/\cj p.K H α ρ σ/\aB p H α (f ρ μ) (RV p Q)
def gE(p:Pa)(f:MT):TT:=fun σ H Q=>∃α ρ μ,p.S H α μ/\cj p.K H α ρ σ/\aB p H α (f ρ μ) (fun b _ H' _=>Q b H')
def i8(p:Pa)(f:MA):TA:=fun σ H Q=>∃α ρ μ,p.S H α μ/\cj p.K H α ρ σ/\aB p H α (f ρ μ) (fun ds _ H' α'=>∀vs,p.Rs H' α' ds vs->Q vs H')
def fK(p:Pa)(f:MS):TS:=fun D σ H=>∃α ρ μ,p.S H α μ/\cj p.K H α ρ σ/\dA p H α (f ρ μ) D
def pj(p:Pa)(g:MG):TG:=fun v σ H Q=>∃α ρ μ d,p.S H α μ/\cj p.K H α ρ σ/\p.R H α d v/\aB p H α (g d ρ μ) (fun ρ' _ H' α'=>∀σ',cj p.K H' α' ρ' σ'->Q σ' H')
theorem PE.weak{X:Cx}{e:Expr}{t t':TE}(h:PE X e t)(k:∀σ H Q,t' σ H Q->t σ H Q):PE X e t':=fun pins s σ H Q I q=>h pins s σ H Q I (k σ H Q q)
theorem PT.weak{X:Cx}{e:Expr}{t t':TT}(h:PT X e t)(k:∀σ H Q,t' σ H Q->t σ H Q):PT X e t':=fun pins s σ H Q I q=>h pins s σ H Q I (k σ H Q q)
theorem PW.weak{X:Cx}{e:Expr}{t t':TT}(h:PW X e t)(k:∀σ H Q,t' σ H Q->t σ H Q):PW X e t':=fun wh pins s σ H Q I q=>h wh pins s σ H Q I (k σ H Q q)
theorem PA.weak{X:Cx}{e:List Expr}{t t':TA}(h:PA X e t)(k:∀σ H Q,t' σ H Q->t σ H Q):PA X e t':=fun pos pins s σ H Q I q=>h pos pins s σ H Q I (k σ H Q q)
theorem PS.weak{X:Cx}{e:Stmt}{t t':TS}(h:PS X e t)(k:∀D σ H,t' D σ H->t D σ H):PS X e t':=fun pins s σ H Q I q=>h pins s σ H Q I (k Q σ H q)
theorem gU.weak{X:Cx}{e:List Stmt}{t t':TS}(h:gU X e t)(k:∀D σ H,t' D σ H->t D σ H):gU X e t':=fun pins s σ H Q I q=>h pins s σ H Q I (k Q σ H q)
def ah(i:Nat):ME:=fun ρ μ=>match ρ[i]? with
 |some (some d)=>.ok d μ
 |_=>.bad
def cC(d:D):ME:=fun _ μ=>.ok d μ
def az(op:D->D->aA->ai D)(fa fb:ME):ME:=fun ρ μ=>(fa ρ μ).bind fun a μ1=>(fb ρ μ1).bind fun b μ2=>op a b μ2
def i7(op:D->aA->ai D)(fa:ME):ME:=fun ρ μ=>(fa ρ μ).bind fun a μ1=>op a μ1
def av:MA:=fun _ μ=>.ok [] μ
def af(fa:ME)(fr:MA):MA:=fun ρ μ=>(fa ρ μ).bind fun a μ1=>(fr ρ μ1).bind fun r μ2=>.ok (a::r) μ2
def ax(f:List D->aA->ai D)(fa:MA):ME:=fun ρ μ=>(fa ρ μ).bind f
def bT(fa:MA):ME:=ax (fun ds μ=>if ds.length<=sizeLine then .ok (.tup ds) μ else .bad) fa
def dy(fa:MA):ME:=ax (fun ds μ=>if ds.length<=sizeLine then .ok (.obj μ.length) (μ++[.lst ds]) else .bad) fa
def yt:D->aA->ai Bool
 |.bl b,μ=>.ok b μ
 |_,_=>.bad
def fL(f:ME):MT:=fun ρ μ=>(f ρ μ).bind yt
def kN(f g:MT):MT:=fun ρ μ=>(f ρ μ).bind fun b μ1=>if b=true then g ρ μ1 else .ok false μ1
def kr(f g:MT):MT:=fun ρ μ=>(f ρ μ).bind fun b μ1=>if b=true then .ok true μ1 else g ρ μ1
def dP(f:MT):MT:=fun ρ μ=>(f ρ μ).bind fun b μ1=>.ok (!b) μ1
def gK(f g:ME):ME:=fun ρ μ=>(f ρ μ).bind fun a μ1=>(yt a μ1).bind fun b μ2=>if b=true then g ρ μ2 else .ok (.bl false) μ2
def uK(f g:ME):ME:=fun ρ μ=>(f ρ μ).bind fun a μ1=>(yt a μ1).bind fun b μ2=>if b=true then .ok (.bl true) μ2 else g ρ μ2
def sN(f:ME):ME:=fun ρ μ=>(f ρ μ).bind fun a μ1=>(yt a μ1).bind fun b μ2=>.ok (.bl (!b)) μ2
def pU(p:Pa)(op:D->D->aA->ai D)(r:R2):Prop:=∀a b v y H α μ Q,p.S H α μ->p.R H α a v->p.R H α b y->aB p H α (op a b μ) (RV p Q)->r v y H Q
def Jg(p:Pa)(op:D->aA->ai D)(r:V->Hp->VK->Prop):Prop:=∀a v H α μ Q,p.S H α μ->p.R H α a v->aB p H α (op a μ) (RV p Q)->r v H Q
def uA(p:Pa)(f:List D->aA->ai D)(r:List V->Hp->VK->Prop):Prop:=∀ds vs H α μ Q,p.S H α μ->p.Rs H α ds vs->aB p H α (f ds μ) (RV p Q)->r vs H Q
section
variable{p:Pa}
theorem lZ{d:D}{μ:aA}{H:Hp}{α:List Addr}{R:Bool->aA->Hp->List Addr->Prop}{v:V}(h:aB p H α (yt d μ) R)(r:p.R H α d v)(s:p.S H α μ):∃b,d=.bl b/\v=.bl b/\R b μ H α:=by
 cases d with
 |bl b=>exact⟨b,rfl,aQ.mp r,h.now s⟩
 |non=>exact h.elim
 |int i=>exact h.elim
 |str x=>exact h.elim
 |tup xs=>exact h.elim
 |frz xs=>exact h.elim
 |obj n=>exact h.elim
variable{X:Cx}{a b c:Expr}{es:List Expr}{fa fb fc:ME}{pos:Pos}
theorem EE{i:Nat}{x:Str}(h:PE X (.Name x pos) (Gx i)):PE X (.Name x pos) (tD p (ah i)):=h.weak fun σ H Q ⟨α,ρ,μ,S,R,P⟩=>by
 unfold ah at P;cases e:ρ[i]? with
 |none=>rw[e]at P;exact P.elim
 |some o=>
  rw[e]at P;cases o with
  |none=>exact P.elim
  |some d=>
   obtain⟨v,h1,h2⟩:=R.at' i d e;exact⟨v,h1,P.now S v h2⟩
theorem yB{e:Expr}{v:V}{d:D}(h:PE X e (tC v))(r:∀H α,p.R H α d v):PE X e (tD p (cC d)):=h.weak fun σ H Q ⟨α,ρ,μ,S,R,P⟩=>P.now S v (r H α)
theorem lT{op:Operator}{o:D->D->aA->ai D}{r:R2}(ho:iH X (binaryOp op) r)(hd:pU p o r)(ha:PE X a (tD p fa))(hb:PE X b (tD p fb)):PE X (.BinOp a op b pos) (tD p (az o fa fb)):=
 (Hm ho ha hb).weak fun σ H Q ⟨α,ρ,μ,S,R,P⟩=>⟨α,ρ,μ,S,R,P.bind.imp fun x μ1 H1 α1 X1 S1 P1 v rv=>⟨α1,ρ,μ1,S1,R.mono X1,P1.bind.imp fun y μ2 H2 α2 X2 S2 P2 u ru=>hd x y v u H2 α2 μ2 Q S2 (rv.mono X2) ru P2⟩⟩
theorem EJ{op:CmpOp}{o:D->D->aA->ai D}{r:R2}(ho:iH X (compareOp op) r)(hd:pU p o r)(ha:PE X a (tD p fa))(hb:PE X b (tD p fb))(hm:behindInMarks op b=false):PE X (.Compare a [op] [b] pos) (tD p (az o fa fb)):=
 (Cp ho ha hb hm).weak fun σ H Q ⟨α,ρ,μ,S,R,P⟩=>⟨α,ρ,μ,S,R,P.bind.imp fun x μ1 H1 α1 X1 S1 P1 v rv=>⟨α1,ρ,μ1,S1,R.mono X1,P1.bind.imp fun y μ2 H2 α2 X2 S2 P2 u ru=>hd x y v u H2 α2 μ2 Q S2 (rv.mono X2) ru P2⟩⟩
theorem En{op:CmpOp}{o:D->D->aA->ai D}{r:R2}(ho:iH X (compareOp op) r)(hd:pU p o r)(ha:PE X a (tD p fa))(hb:PE X b (tD p fb))(hm:behindInMarks op b=false):PT X (.Compare a [op] [b] pos) (gE p (fL (az o fa fb))):=
 (B8 ho ha hb hm).weak fun σ H Q ⟨α, ρ, μ, S, R, P⟩ => ⟨α, ρ, μ, S, R, P.bind.bind.imp fun x μ1 H1 α1 X1 S1 P1 v rv => ⟨α1, ρ, μ1, S1, R.mono X1, P1.bind.imp fun y μ2 H2 α2 X2 S2 P2 u ru =>
  hd x y v u H2 α2 μ2 _ S2 (rv.mono X2) ru (P2.imp fun d μ3 H3 α3 X3 S3 P3 z rz=>by
   obtain⟨k,_,e,q⟩:=lZ P3 rz S3
   exact⟨k,e,q⟩)⟩⟩
theorem Hb{op:UnaryOp}{o:D->aA->ai D}{r:V->Hp->VK->Prop}(ho:HV X (unaryOp op) r)(hd:Jg p o r)(ha:PE X a (tD p fa)):PE X (.UnaryOp op a pos) (tD p (i7 o fa)):=
 (Hk ho ha).weak fun σ H Q ⟨α,ρ,μ,S,R,P⟩=>⟨α,ρ,μ,S,R,P.bind.imp fun x μ1 H1 α1 X1 S1 P1 v rv=>hd x v H1 α1 μ1 Q S1 rv P1⟩
theorem EL:PA X [] (i8 p av):=oa.weak fun σ H Q ⟨α,ρ,μ,S,R,P⟩=>P.now S [] Reps.nil
theorem B0{fr:MA}(ha:PE X a (tD p fa))(hr:PA X es (i8 p fr))(hs:starEach (a::es) X.env=(false,eval a X.env)::starEach es X.env):PA X (a::es) (i8 p (af fa fr)):=
 (gX ha hr hs).weak fun σ H Q ⟨α,ρ,μ,S,R,P⟩=>⟨α,ρ,μ,S,R,P.bind.imp fun x μ1 H1 α1 X1 S1 P1 v rv=>⟨α1,ρ,μ1,S1,R.mono X1,P1.bind.imp fun y μ2 H2 α2 X2 S2 P2 us ru=>P2.now S2 _ (Reps.cons (rv.mono X2) ru)⟩⟩
theorem EF{k:Nat}{fr:MA}(h:PA X es (i8 p fr)):PE X (.Tuple es k pos) (tD p (bT fr)):=
 (E3 h).weak fun σ H Q ⟨α, ρ, μ, S, R, P⟩ => ⟨α, ρ, μ, S, R, P.bind.imp fun ds μ1 H1 α1 X1 S1 P1 vs rv => by
  by_cases hl:ds.length<=sizeLine
  ·rw[Jz hl]at P1;refine⟨by rw[rv.length];exact hl,fun q hq=>?_⟩;exact P1 _ _ (bt hq) (S1.tuple hq) _ (aE.mpr ⟨q,vs,rfl,eK.of aS,rv.mono (bt hq)⟩)
  ·rw [JA hl] at P1
   exact P1.elim⟩
theorem cN{H:Hp}{α:List Addr}{μ:aA}{ds:List D}{vs:List V}{q:Addr}(S:p.S H α μ)(hq:H q=none)(rv:p.Rs H α ds vs) :
  p.X H (bx H q (.lst vs)) α (α++[q])/\p.S (bx H q (.lst vs)) (α++[q]) (μ++[.lst ds])/\p.R (bx H q (.lst vs)) (α++[q]) (.obj μ.length) (.ref q):=by
 have X1:p.X H (bx H q (.lst vs)) α (α++[q]):=(bt hq).trans (gN [q]);exact⟨X1,S.more hq ⟨vs,aS,rv.mono X1⟩,aN.mpr ⟨q,rfl,by rw[<- S.len];simp⟩⟩
theorem EH{fr:MA}(h:PA X es (i8 p fr)):PE X (.List es pos) (tD p (dy fr)):=
 (E8 h).weak fun σ H Q ⟨α, ρ, μ, S, R, P⟩ => ⟨α, ρ, μ, S, R, P.bind.imp fun ds μ1 H1 α1 X1 S1 P1 vs rv => by
  by_cases hl:ds.length<=sizeLine
  ·rw[Jz hl]at P1;refine⟨by rw[rv.length];exact hl,fun q hq=>?_⟩;obtain⟨x1,x2,x3⟩:=cN S1 hq rv;exact P1 _ _ x1 x2 _ x3
  ·rw [JA hl] at P1
   exact P1.elim⟩
variable{ft gt:MT}{rest:List Expr}
theorem El(ha:PT X a (gE p ft))(hb:PW X (.BoolOp .And (b::rest) pos) (gE p gt)):PW X (.BoolOp .And (a::b::rest) pos) (gE p (kN ft gt)):=
 (ET ha hb).weak fun σ H Q ⟨α, ρ, μ, S, R, P⟩ => ⟨α, ρ, μ, S, R, P.bind.imp fun k μ1 H1 α1 X1 S1 P1 => by
  cases k with
  |true=>rw[Jz rfl]at P1⊢;exact⟨α1,ρ,μ1,S1,R.mono X1,P1⟩
  |false=>rw[JA J6]at P1⊢;exact P1.now S1⟩
theorem G6(ha:PT X a (gE p ft))(hb:PW X (.BoolOp .Or (b::rest) pos) (gE p gt)):PW X (.BoolOp .Or (a::b::rest) pos) (gE p (kr ft gt)):=
 (Hi ha hb).weak fun σ H Q ⟨α, ρ, μ, S, R, P⟩ => ⟨α, ρ, μ, S, R, P.bind.imp fun k μ1 H1 α1 X1 S1 P1 => by
  cases k with
  |true=>rw[Jz rfl]at P1⊢;exact P1.now S1
  |false=>rw[JA J6]at P1⊢;exact⟨α1,ρ,μ1,S1,R.mono X1,P1⟩⟩
theorem Em(ha:PT X a (gE p ft)):PT X (.UnaryOp .Not a pos) (gE p (dP ft)):=
 (EU ha).weak fun σ H Q ⟨α,ρ,μ,S,R,P⟩=>⟨α,ρ,μ,S,R,P.bind.imp fun k μ1 H1 α1 X1 S1 P1=>P1.now S1⟩
theorem EK(ha:PE X a (tD p fa))(hb:PE X (.BoolOp .And (b::rest) pos) (tD p fb)):PE X (.BoolOp .And (a::b::rest) pos) (tD p (gK fa fb)):=
 (Fb ha hb).weak fun σ H Q ⟨α, ρ, μ, S, R, P⟩ => ⟨α, ρ, μ, S, R, P.bind.imp fun d μ1 H1 α1 X1 S1 P1 v rv => by
  obtain⟨k,_,e,q⟩:=lZ P1.bind rv S1;refine⟨k,e,?_⟩;cases k with
  |true=>rw[Jz rfl]at q⊢;exact⟨α1,ρ,μ1,S1,R.mono X1,q⟩
  |false=>rw[JA J6]at q⊢;exact q.now S1 _ (aQ.mpr rfl)⟩
theorem Hc(ha:PE X a (tD p fa))(hb:PE X (.BoolOp .Or (b::rest) pos) (tD p fb)):PE X (.BoolOp .Or (a::b::rest) pos) (tD p (uK fa fb)):=
 (Hl ha hb).weak fun σ H Q ⟨α, ρ, μ, S, R, P⟩ => ⟨α, ρ, μ, S, R, P.bind.imp fun d μ1 H1 α1 X1 S1 P1 v rv => by
  obtain⟨k,_,e,q⟩:=lZ P1.bind rv S1;refine⟨k,e,?_⟩;cases k with
  |true=>rw[Jz rfl]at q⊢;exact q.now S1 _ (aQ.mpr rfl)
  |false=>rw[JA J6]at q⊢;exact⟨α1,ρ,μ1,S1,R.mono X1,q⟩⟩
theorem EG(ha:PE X a (tD p fa)):PE X (.UnaryOp .Not a pos) (tD p (sN fa)):=
 (E6 ha).weak fun σ H Q ⟨α, ρ, μ, S, R, P⟩ => ⟨α, ρ, μ, S, R, P.bind.imp fun d μ1 H1 α1 X1 S1 P1 v rv => by
  obtain⟨k,_,e,q⟩:=lZ P1.bind rv S1
  exact⟨k,e,q.now S1 _ (aQ.mpr rfl)⟩⟩
theorem Ae{id:String}{x:Str}{px:Pos}{f:List D->aA->ai D}{fr:MA}{r:List V->Hp->VK->Prop}(hc:cB X (.builtin id) r)(hd:uA p f r)(hg:Gl X x)(hm:X.mg x=none)(hv:bootBuiltins x=some (.builtin id))(ha:PA X (a::es) (i8 p fr))
  (hn:x ≠ "__name__") (hdb:(x == ("__debug__" : Str))=false) (he:starEach (a::es) X.env=(false,eval a X.env)::starEach es X.env) (hpl:(backTo pos (starEach es X.env)).any (·.1)=false):PE X (.Call (.Name x px) (a::es) [] pos) (tD p (ax f fr)):=
 (k6 hc hg hm hv ha hn hdb he hpl).weak fun σ H Q ⟨α,ρ,μ,S,R,P⟩=>⟨α,ρ,μ,S,R,P.bind.imp fun ds μ1 H1 α1 X1 S1 P1 vs rv=>hd ds vs H1 α1 μ1 Q S1 rv P1⟩
theorem xy{T:String}{x:Str}{px:Pos}{f:List D->aA->ai D}{fr:MA}{r:List V->Hp->VK->Prop}(hc:cB X (.type T) r)(hd:uA p f r)(hg:Gl X x)(hm:X.mg x=none)(hv:bootBuiltins x=some (.type T))(ha:PA X (a::es) (i8 p fr))
  (hn:x ≠ "__name__") (hdb:(x == ("__debug__" : Str))=false) (he:starEach (a::es) X.env=(false,eval a X.env)::starEach es X.env) (hpl:(backTo pos (starEach es X.env)).any (·.1)=false):PE X (.Call (.Name x px) (a::es) [] pos) (tD p (ax f fr)):=
 (qh hc hg hm hv ha hn hdb he hpl).weak fun σ H Q ⟨α,ρ,μ,S,R,P⟩=>⟨α,ρ,μ,S,R,P.bind.imp fun ds μ1 H1 α1 X1 S1 P1 vs rv=>hd ds vs H1 α1 μ1 Q S1 rv P1⟩
end
def bV(f:ME):MS:=fun ρ μ=>(f ρ μ).bindS fun d μ'=>.ret d μ'
def cy:MS:=fun ρ μ=>.next ρ μ
def bo(f g:MS):MS:=fun ρ μ=>(f ρ μ).bind g
def i5(c:MT)(f g:MS):MS:=fun ρ μ=>(c ρ μ).bindS fun b μ1=>if b=true then f ρ μ1 else g ρ μ1
def bw(f:ME)(g:MG):MS:=fun ρ μ=>(f ρ μ).bindS fun d μ1=>(g d ρ μ1).bindS fun ρ' μ2=>.next ρ' μ2
def j4(f:ME):MS:=fun ρ μ=>(f ρ μ).bindS fun _ μ1=>.next ρ μ1
def ak(i:Nat):MG:=fun d ρ μ=>.ok (ρ.set i (some d)) μ
abbrev Be:=List D->Ro->aA->ai Ro
def fW:Be:=fun ds ρ μ=>match ds with
 |[]=>.ok ρ μ
 |_::_=>.bad
def bA(g:MG)(u:Be):Be:=fun ds ρ μ=>match ds with
 |[]=>.bad
 |d::r=>(g d ρ μ).bind fun ρ' μ'=>u r ρ' μ'
def fV(n:Nat)(u:Be):MG:=fun d ρ μ=>match d with
 |.tup xs=>if xs.length=n then u xs ρ μ else .bad
 |_=>.bad
def uG(o i v:D)(μ:aA):ai Unit:=match o,i with
 |.obj n,.int k=>match μ[n]? with
  |some (.lst xs)=>match vQ xs.length k with
   |some j=>.ok () (μ.set n (.lst (xs.set j v)))
   |none=>.bad
  |_=>.bad
 |_,_=>.bad
def nY(fo fi:ME):MG:=fun d ρ μ=>(fo ρ μ).bind fun o μ1=>(fi ρ μ1).bind fun i μ2=>(uG o i d μ2).bind fun _ μ3=>.ok ρ μ3
def sv(p:Pa)(g:Be):Ba:=fun vs σ H Q=>∃α ρ μ ds,p.S H α μ/\cj p.K H α ρ σ/\p.Rs H α ds vs/\aB p H α (g ds ρ μ) (fun ρ' _ H' α'=>∀σ',cj p.K H' α' ρ' σ'->Q σ' H')
theorem PG.weak{X:Cx}{e:Expr}{t t':TG}(h:PG X e t)(k:∀v σ H Q,t' v σ H Q->t v σ H Q):PG X e t':=fun pins s σ H v u Q I r q=>h pins s σ H v u Q I r (k v σ H Q q)
theorem uB.weak{X:Cx}{e:List Expr}{t t':Ba}(h:uB X e t)(k:∀v σ H Q,t' v σ H Q->t v σ H Q):uB X e t':=fun pins s σ H v u Q I r q=>h pins s σ H v u Q I r (k v σ H Q q)
theorem PI.weak{X:Cx}{tg e:Expr}{t t':TI}(h:PI X tg e t)(k:∀σ H R,t' σ H R->t σ H R):PI X tg e t':=fun pins s σ H Q I q=>h pins s σ H Q I (k σ H Q q)
section
variable{p:Pa}{X:Cx}{a b c e tg:Expr}{es:List Expr}{f:ME}{g:MG}{u:Be}{pos:Pos}{st:Stmt}{sts:List Stmt}{fs gs:MS}{ft:MT}
theorem Es:gU X [] (fK p cy):=B9.weak fun D σ H ⟨α,ρ,μ,S,R,P⟩=>P H α σ i9.refl S R
theorem Aa{t u:TS}{D:kL}{σ:St}{H:Hp}{α:List Addr}{o:SO}{k:MS}(h:dA p H α (o.bind k) D)
  (hk:∀D σ H,fK p k D σ H->u D σ H):dA p H α o {D with nx:=u D}:=by
 cases o with
 |next ρ μ=>exact fun H' α' σ' e s r=>hk _ _ _ ⟨α',ρ,μ,s,r,dA.from e h⟩
 |brk ρ μ=>exact h
 |cnt ρ μ=>exact h
 |ret d μ=>exact h
 |exc x μ=>exact h
 |bad=>exact h
theorem BH(h1:PS X st (fK p fs))(h2:gU X sts (fK p gs)):gU X (st::sts) (fK p (bo fs gs)):=
 (An h1 h2).weak fun D σ H ⟨α,ρ,μ,S,R,P⟩=>⟨α,ρ,μ,S,R,Aa (t:=fK p fs) (σ:=σ) P fun _ _ _ z=>z⟩
theorem Er(h1:PS X st (fK p fs)):gU X [st] (fK p fs):=wx h1
theorem Ep(h:PE X e (tD p f)):PS X (.Return (some e) pos) (fK p (bV f)):=
 (EW h).weak fun D σ H ⟨α,ρ,μ,S,R,P⟩=>⟨α,ρ,μ,S,R,(aB.bindS P).imp fun d μ1 H1 α1 X1 S1 P1 v rv=>P1 H1 α1 v i9.refl S1 rv⟩
theorem G7{A B:List Stmt}(hc:PT X c (gE p ft))(ha:gU X A (fK p fs))(hb:gU X B (fK p gs)):PS X (.If c A B pos) (fK p (i5 ft fs gs)):=
 (Hj hc ha hb).weak fun D σ H ⟨α, ρ, μ, S, R, P⟩ => ⟨α, ρ, μ, S, R, (aB.bindS P).imp fun k μ1 H1 α1 X1 S1 P1 => by
  cases k with
  |true=>rw[Jz rfl]at P1⊢;exact⟨α1,ρ,μ1,S1,R.mono X1,P1⟩
  |false=>rw[JA J6]at P1⊢;exact⟨α1,ρ,μ1,S1,R.mono X1,P1⟩⟩
theorem t4{D:kL}{σ:St}{H:Hp}(h:fK p (bw f g) D σ H):yA (tD p f) (pj p g) D σ H:=by
 obtain⟨α,ρ,μ,S,R,P⟩:=h;exact⟨α,ρ,μ,S,R,(aB.bindS P).imp fun d μ1 H1 α1 X1 S1 P1 v rv=>⟨α1,ρ,μ1,d,S1,R.mono X1,rv,(aB.bindS P1).imp fun ρ' μ2 H2 α2 X2 S2 P2 σ' r'=>P2 H2 α2 σ' i9.refl S2 r'⟩⟩
theorem Eu(he:PE X e (tD p f))(hg:PG X tg (pj p g))(hs:swapsWithSole [tg] e pos.line X.env=pure false)(hw:swappedStores [tg] e X.env=pure none)
  (h1:(assignEach [tg] X.env).map (·.2)=[assign tg X.env]):PS X (.Assign [tg] e pos) (fK p (bw f g)):=(EY he hg hs hw h1).weak fun D σ H h=>t4 h
theorem oN{i:Nat}{v:V}{σ:St}{H:Hp}{Q:St->Hp->Prop}(h:pj p (ak i) v σ H Q):sJ i v σ H Q:=by
 obtain⟨α,ρ,μ,d,S,R,r,P⟩:=h;exact P.now S _ (R.set i r)
theorem BS{i:Nat}{x:Str}(hN:X.N.Nodup)(hi:X.N[i]?=some x)(hx:uC X.env.scope x)(hf:X.fn x=true\/X.env.scope.names.lookup x=some .local):PG X (.Name x pos) (pj p (ak i)):=
 (Ck hN hi hx hf).weak fun v σ H Q h=>oN h
theorem Eo{i:Nat}{x:Str}{pos':Pos}(hN:X.N.Nodup)(hi:X.N[i]?=some x)(hx:uC X.env.scope x)(he:PE X e (tD p f))(hs:swapsWith e (some (.Name x pos')) pos.line X.env=pure false)(hf:X.fn x=true\/X.env.scope.names.lookup x=some .local) :
  PS X (.Assign [.Name x pos'] e pos) (fK p (bw f (ak i))):=(EV hN hi hx he hs hf).weak fun D σ H h=>by
 obtain⟨α,ρ,μ,S,R,P⟩:=t4 h;exact⟨α,ρ,μ,S,R,P.imp fun d μ1 H1 α1 X1 S1 P1 v rv=>oN (P1 v rv)⟩
theorem BG(he:PE X e (tD p f))(hs:swapsWith e none pos.line X.env=pure false):PS X (.Expr e pos) (fK p (j4 f)):=
 (Ce he hs).weak fun D σ H ⟨α,ρ,μ,S,R,P⟩=>⟨α,ρ,μ,S,R,(aB.bindS P).imp fun d μ1 H1 α1 X1 S1 P1 v rv=>P1 H1 α1 σ i9.refl S1 (R.mono X1)⟩
theorem BR:uB X [] (sv p fW):=Cj.weak fun vs σ H Q ⟨α,ρ,μ,ds,S,R,r,P⟩=>by
 cases ds with
 |nil=>simp only[Reps]at r;exact⟨r,P.now S σ R⟩
 |cons d ds=>exact P.elim
theorem z6(h1:PG X e (pj p g))(h2:uB X es (sv p u))(hs:(assignEach (e::es) X.env).map (·.2)=assign e X.env::(assignEach es X.env).map (·.2)):uB X (e::es) (sv p (bA g u)):=
 (As h1 h2 hs).weak fun vs σ H Q ⟨α, ρ, μ, ds, S, R, r, P⟩ => by
  cases ds with
  |nil=>exact P.elim
  |cons d ds=>
   simp only[Reps]at r;obtain⟨v,vr,rfl,r1,r2⟩:=r;refine⟨v,vr,rfl,α,ρ,μ,d,S,R,r1,?_⟩;exact(aB.bind (o:=g d ρ μ) P).imp fun ρ' μ1 H1 α1 X1 S1 P1 σ' r'=>⟨α1,ρ',μ1,ds,S1,r',r2.mono X1,P1⟩
theorem EC{k n:Nat}(hK:X.K=p.K)(hc:X.calm=true)(h:uB X es (sv p u))(hn:(assignEach es X.env).length=n)(hst:(assignEach es X.env).findIdx? (·.1)=none):PG X (.Tuple es k pos) (pj p (fV n u)):=
 (E1 hc h hn hst).weak fun v σ H Q ⟨α, ρ, μ, d, S, R, r, P⟩ => by
  cases d with
  |tup xs=>
   obtain⟨a,vs,rfl,h1,h2⟩:=aE.mp r;have P':aB p H α (if xs.length=n then u xs ρ μ else .bad) _:=P;by_cases hl:xs.length=n
   ·rw[Jz hl]at P';exact⟨a,vs,rfl,by rw[hK];exact h1,by rw[h2.length];exact hl,α,ρ,μ,xs,S,R,h2,P'⟩
   ·rw[JA hl]at P';exact P'.elim
  |non=>exact P.elim
  |bl b=>exact P.elim
  |int i=>exact P.elim
  |str x=>exact P.elim
  |frz xs=>exact P.elim
  |obj n=>exact P.elim
theorem BW{o i d:D}{μ:aA}{H:Hp}{α:List Addr}{R:Unit->aA->Hp->List Addr->Prop}{vo vi v:V}(S:p.S H α μ)(ro:p.R H α o vo)(ri:p.R H α i vi)(rv:p.R H α d v)(P:aB p H α (uG o i d μ) R) :
  Dv vo vi v H fun H'=>∃μ',p.X H H' α α/\p.S H' α μ'/\R () μ' H' α:=by
 unfold uG at P;split at P
 ·rename_i n k;split at P
  ·rename_i xs hx;split at P
   ·rename_i j hj;obtain⟨a,ea,us,hH,rr⟩:=S.at hx;obtain⟨a',rfl,ea'⟩:=aN.mp ro;rw[ea]at ea';cases ea';rw[aq.mp ri];have q:=rr.set rv j;refine⟨a,us,k,j,rfl,rfl,hH,by rw[rr.length];exact hj,_,gZ hH,S.put hx ea hH q,?_⟩;exact P _ _ (gZ hH) (S.put hx ea hH q)
   ·exact P.elim
  ·exact P.elim
 ·exact P.elim
theorem ED{o i:Expr}{fo fi:ME}(ho:PE X o (tD p fo))(hi:PE X i (tD p fi))
  (ha : ∀ v, assign (.Subscript o i pos) X.env v = (do
   let ov <- holding [v] (eval o X.env)
   let iv <- holding [v,ov] (eval i X.env)
   standAt pos
   holding [v,ov,iv] (setItem ov iv v)
   release [v,ov,iv] [])):PG X (.Subscript o i pos) (pj p (nY fo fi)):=
 (E2 ho hi z7 ha).weak fun v σ H Q ⟨α, ρ, μ, d, S, R, r, P⟩ => ⟨α, ρ, μ, S, R, (aB.bind P).imp fun od μ1 H1 α1 X1 S1 P1 vo ro => ⟨α1, ρ, μ1, S1, R.mono X1, (aB.bind P1).imp fun id μ2 H2 α2 X2 S2 P2 vi ri => by
  obtain⟨pp,xs,k,j,e1,e2,e3,e4,μ3,x3,s3,q⟩:=BW S2 (ro.mono X2) ri ((r.mono X1).mono X2) (aB.bind P2)
  exact⟨pp,xs,k,j,e1,e2,e3,e4,q.now s3 σ (((R.mono X1).mono X2).mono x3)⟩⟩⟩
end
inductive nu where
 |fix (xs:List D)|own (n:Nat) (xs:List D)|eno (n:Nat) (xs:List D)
def gn:Nat->List D->List D
 |_,[]=>[]
 |i,x::r=>.tup [.int i,x]::gn (i+1) r
theorem qD:∀{xs:List D}{k i:Nat},(gn k xs)[i]?=(xs[i]?).map fun x=>D.tup [.int ((k+i:Nat):Int),x]
 |[],_,_=>by simp[gn]
 |x::r,k,0=>by simp[gn]
 |x::r,k,i+1=>by
  simp only[gn,List.getElem?_cons_succ];rw[qD (xs:=r) (k:=k+1) (i:=i)];congr 1;funext y;congr 4;omega
theorem qC:∀{xs:List D}{k:Nat},(gn k xs).length=xs.length
 |[],_=>rfl
 |x::r,k=>by simp[gn,qC (xs:=r)]
def nu.items:nu->List D
 |.fix xs=>xs
 |.own _ xs=>xs
 |.eno _ xs=>gn 0 xs
def bW:nu->aA->Prop
 |.fix _,_=>True
 |.own n xs,μ=>μ[n]?=some (.lst xs)
 |.eno n xs,μ=>μ[n]?=some (.lst xs)
def uN(p:Pa)(J:It)(src:nu)(H0:Hp)(α0:List Addr):Prop:=
 ∀H2 α2 μ2,p.X H0 H2 α0 α2->p.S H2 α2 μ2->bW src μ2 ->
  (∀(i:Nat) d,src.items[i]?=some d->J.go i H2/\∀x H3,J.yld i H2 x H3->p.X H2 H3 α2 α2/\p.S H3 α2 μ2/\p.R H3 α2 d x)/\J.stop src.items.length H2
abbrev MI:=Ro->aA->ai nu
def sm(p:Pa)(f:MI):TI:=fun σ H R=>∃α ρ μ,p.S H α μ/\cj p.K H α ρ σ/\aB p H α (f ρ μ) (fun src μ' H' α'=>∀J,bW src μ'->uN p J src H' α'->R J H')
def SO.loop(o:SO)(k:Ro->aA->SO):SO:=match o with
 |.next ρ μ=>k ρ μ
 |.cnt ρ μ=>k ρ μ
 |.brk ρ μ=>.next ρ μ
 |.ret d μ=>.ret d μ
 |.exc x μ=>.exc x μ
 |.bad=>.bad
open Classical in
def d7(src:nu)(g:MG)(fb:MS):List D->Ro->aA->SO
 |[],ρ,μ=>if bW src μ then .next ρ μ else .bad
 |d::r,ρ,μ=>if bW src μ then (g d ρ μ).bindS fun ρ' μ'=>(fb ρ' μ').loop (d7 src g fb r) else .bad
def kf(fi:MI)(g:MG)(fb:MS):MS:=fun ρ μ=>(fi ρ μ).bindS fun src μ1=>d7 src g fb src.items ρ μ1
def jo(c:MT)(fb:MS):Nat->Ro->aA->SO
 |0,_,_=>.bad
 |n+1,ρ,μ=>(c ρ μ).bindS fun b μ1=>if b=true then (fb ρ μ1).loop (jo c fb n) else .next ρ μ1
def qZ(n:Nat)(c:MT)(fb:MS):MS:=jo c fb n
section
variable{p:Pa}{X:Cx}{tg iter c:Expr}{fi:MI}{g:MG}{fb:MS}{ft:MT}{body:List Stmt}{pos:Pos}
theorem qk{H:Hp}{α:List Addr}{o:SO}{k:Ro->aA->SO}{D:kL}{N:St->Hp->Prop}(h:dA p H α (o.loop k) D)
  (hN:∀ρ μ H' α' σ',p.X H H' α α'->p.S H' α' μ->cj p.K H' α' ρ σ'->dA p H' α' (k ρ μ) D->N σ' H'):dA p H α o {D with nx:=N,ct:=N,bk:=D.nx}:=by
 cases o with
 |next ρ μ=>exact fun H' α' σ' e s r=>hN ρ μ H' α' σ' e s r (dA.from e h)
 |cnt ρ μ=>exact fun H' α' σ' e s r=>hN ρ μ H' α' σ' e s r (dA.from e h)
 |brk ρ μ=>exact h
 |ret d μ=>exact h
 |exc x μ=>exact h
 |bad=>exact h
theorem Et(hp:PassesOwn (model X.prog X.w) X.A X.env X.xe)(hc:X.calm=true)(hi:PI X tg iter (sm p fi))(hg:PG X tg (pj p g))(hb:gU X body (fK p fb))(hs:∀x,foldedSetIterable iter X.env x=pure x) :
  PS X (.For tg iter body [] pos) (fK p (kf fi g fb)):=(EX hp hc hi hg hb hs).weak fun D σ H ⟨α,ρ,μ,S,R,P⟩=>by
 refine⟨α,ρ,μ,S,R,(aB.bindS P).imp fun src μ1 H1 α1 X1 S1 P1 J hok hJ=>?_⟩
 refine⟨fun i m σ2 H2=>m=src.items.length-i/\i<=src.items.length/\∃α2 ρ2 μ2,p.X H1 H2 α1 α2/\p.S H2 α2 μ2/\cj p.K H2 α2 ρ2 σ2/\dA p H2 α2 (d7 src g fb (src.items.drop i) ρ2 μ2) D,
  ⟨_,rfl,LG _,α1,ρ,μ1,i9.refl,S1,R.mono X1,by simpa using P1⟩,?_⟩
 rintro i m σ2 H2 ⟨rfl,hi,α2,ρ2,μ2,X2,S2,R2,P2⟩
 by_cases hlt:i<src.items.length
 ·rw [NI hlt] at P2;unfold d7 at P2;by_cases ho:bW src μ2
  ·rw [Jz ho] at P2;obtain⟨hgo,hy⟩:=(hJ H2 α2 μ2 X2 S2 ho).1 i _ (Nt hlt)
   refine .inr ⟨hgo,fun σ' H'=>i+1<=src.items.length/\∃α2 ρ2 μ2,p.X H1 H' α1 α2/\p.S H' α2 μ2/\cj p.K H' α2 ρ2 σ'/\dA p H' α2 (d7 src g fb (src.items.drop (i+1)) ρ2 μ2) D,
    fun σ' H' ⟨h1,h2⟩=>⟨_,by omega,rfl,h1,h2⟩,fun x H3 yx=>?_⟩
   obtain⟨X3,S3,R3⟩:=hy x H3 yx;refine⟨α2,ρ2,μ2,_,S3,R2.mono X3,R3,(aB.from X3 (aB.bindS P2)).imp fun ρ4 μ4 H4 α4 X4 S4 P4 σ4 R4=>⟨α4,ρ4,μ4,S4,R4,qk P4 fun ρ5 μ5 H5 α5 σ5 X5 S5 R5 P5=>⟨hlt,α5,ρ5,μ5,((X2.trans X3).trans X4).trans X5,S5,R5,P5⟩⟩⟩
  ·rw[JA ho]at P2;exact P2.elim
 ·have e : i = src.items.length := by omega
  subst e;rw[NJ]at P2;unfold d7 at P2;by_cases ho:bW src μ2
  ·rw[Jz ho]at P2;exact .inl ⟨(hJ H2 α2 μ2 X2 S2 ho).2,P2 H2 α2 σ2 i9.refl S2 R2⟩
  ·rw[JA ho]at P2;exact P2.elim
theorem zR{n:Nat}(hp:PassesOwn (model X.prog X.w) X.A X.env X.xe)(hc:PT X c (gE p ft))(hb:gU X body (fK p fb)):PS X (.While c body [] pos) (fK p (qZ n ft fb)):=
 (Ao hp hc hb).weak fun D σ H ⟨α, ρ, μ, S, R, P⟩ => by
  refine⟨fun m σ2 H2=>∃α2 ρ2 μ2,p.S H2 α2 μ2/\cj p.K H2 α2 ρ2 σ2/\dA p H2 α2 (jo ft fb m ρ2 μ2) D,⟨n,α,ρ,μ,S,R,P⟩,?_⟩
  rintro m σ2 H2 ⟨α2,ρ2,μ2,S2,R2,P2⟩
  cases m with
  |zero=>exact P2.elim
  |succ m=>
   unfold jo at P2;refine⟨α2,ρ2,μ2,S2,R2,(aB.bindS P2).imp fun k μ3 H3 α3 X3 S3 P3=>?_⟩;cases k with
   |true=>
    rw[Jz rfl]at P3⊢
    exact⟨fun σ' H'=>∃α2 ρ2 μ2,p.S H' α2 μ2/\cj p.K H' α2 ρ2 σ'/\dA p H' α2 (jo ft fb m ρ2 μ2) D,fun σ' H' h=>⟨m,Ly _,h⟩,
     α3,ρ2,μ3,S3,R2.mono X3,qk P3 fun ρ5 μ5 H5 α5 σ5 X5 S5 R5 P5=>⟨α5,ρ5,μ5,S5,R5,P5⟩⟩
   |false=>
    rw[JA J6]at P3⊢;exact P3 H3 α3 σ2 i9.refl S3 (R2.mono X3)
end
section
variable{p:Pa}{X:Cx}{tg iter:Expr}
theorem xV{H:Hp}{α:List Addr}{μ:aA}{n:Nat}{xs:List D}{a:Addr}(S:p.S H α μ)(hn:μ[n]?=some (.lst xs))(ha:α[n]?=some a):uN p (HY p.K a) (.own n xs) H α:=by
 intro H2 α2 μ2 X2 S2 ho;obtain⟨a',ea,vs,hH,rr⟩:=S2.at ho;rw[X2.pre n a ha]at ea;cases ea;refine⟨fun i d hd=>?_,vs,eP.of hH,by rw[rr.length];exact Kc _⟩;obtain⟨v,hv,rv⟩:=rr.get hd;refine⟨⟨vs,v,eP.of hH,hv⟩,fun x H3 ⟨e,hx⟩=>?_⟩;subst e;have:=hx vs (eP.of hH);rw[hv]at this;cases this;exact⟨i9.refl,S2,rv⟩
theorem AO{H:Hp}{α:List Addr}{xs:List D}{vs:List V}{a:Addr}(h:Dm p.K H a vs)(r:p.Rs H α xs vs):uN p (HY p.K a) (.fix xs) H α:=by
 intro H2 α2 μ2 X2 S2 ho;have h2:=(X2.frz a vs h).sq;have rr:=r.mono X2;refine⟨fun i d hd=>?_,vs,h2,by rw[rr.length];exact Kc _⟩;obtain⟨v,hv,rv⟩:=rr.get hd;refine⟨⟨vs,v,h2,hv⟩,fun x H3 ⟨e,hx⟩=>?_⟩;subst e;have:=hx vs h2;rw[hv]at this;cases this;exact⟨i9.refl,S2,rv⟩
theorem AN{H:Hp}{α:List Addr}{xs:List D}{vs:List V}{a:Addr}(h:eK p.K H a vs)(r:p.Rs H α xs vs):uN p (Iq p.K a) (.fix xs) H α:=by
 intro H2 α2 μ2 X2 S2 ho;have h2:=X2.tup a vs h;have rr:=r.mono X2;refine⟨fun i d hd=>?_,vs,h2,by rw[rr.length];exact Kc _⟩;obtain⟨v,hv,rv⟩:=rr.get hd;refine⟨⟨vs,v,h2,hv⟩,fun x H3 ⟨e,hx⟩=>?_⟩;subst e;have:=hx vs h2;rw[hv]at this;cases this;exact⟨i9.refl,S2,rv⟩
def br(lo:Int)(n:Nat):List D:=(List.range n).map fun(i:Nat)=>D.int (lo+(i:Int))
theorem tM{H:Hp}{α:List Addr}(lo:Int)(n:Nat):uN p (Gq lo n) (.fix (br lo n)) H α:=by
 intro H2 α2 μ2 X2 S2 ho;refine⟨fun i d hd=>?_,by simp[nu.items,br,Gq]⟩;have hd':(br lo n)[i]?=some d:=hd;unfold br at hd';rw[KA]at hd';by_cases hi:i<n
 ·rw[Nd hi]at hd';cases hd';refine⟨hi,fun x H3 ⟨e,hx⟩=>?_⟩;subst e;subst hx;exact⟨i9.refl,S2,aq.mpr rfl⟩
 ·rw[Nf (by simpa using hi)]at hd';cases hd'
def sx(d:D)(μ:aA):ai nu:=match d with
 |.tup xs=>.ok (.fix xs) μ
 |.frz xs=>.ok (.fix xs) μ
 |.obj n=>match μ[n]? with
  |some (.lst xs)=>.ok (.own n xs) μ
  |_=>.bad
 |_=>.bad
def jd(f:ME):MI:=fun ρ μ=>(f ρ μ).bind sx
def IS(K:W.Frag)(tl:TE):TI:=fun σ H R=>tl σ H fun x H1=>∃a,x=.ref a/\(((∃xs,eP K H1 a xs)/\R (HY K a) H1)\/((∃xs,eK K H1 a xs)/\R (Iq K a) H1))
theorem EZ{l:Expr}{tl:TE}(hl:PE X l tl):PI X tg l (IS X.K tl):=by
 intro pins s σ H R I h;refine cT (hl pins s σ H _ I h) fun v s1 ⟨x,H1,I1,r1,q1⟩=>?_;obtain⟨a,e,q⟩:=q1;subst e;cases r1;rcases q with⟨⟨xs,hq⟩,q⟩|⟨⟨xs,hq⟩,q⟩
 ·obtain ⟨its, rv, p, hz⟩ := I1.list hq;refine MW p.isList ?_;refine⟨s1.heap.objs.size,[s1.heap.objs.size],_,_,H1,rfl,I1.kept (t':=s1.toks) fun b o e=>Ka _ e,xj a _,⟨_,Kb _ rfl,rfl,rfl⟩,fun b hb=>?_,q⟩;have e:b=s1.heap.objs.size:=by simpa using hb
  subst e;exact I1.fpOk (Kc _) (I1.hok.fresh (Kc _))
 ·obtain ⟨its, rv, p, hz⟩ := I1.tuple hq;refine LS (show s1.heap.IsTuple a its.toArray from p) ?_;refine⟨s1.heap.objs.size,[s1.heap.objs.size],_,_,H1,rfl,I1.kept (t':=s1.toks) fun b o e=>Ka _ e,u4 a _,⟨_,Kb _ rfl,rfl,rfl⟩,fun b hb=>?_,q⟩;have e:b=s1.heap.objs.size:=by simpa using hb
  subst e;exact I1.fpOk (Kc _) (I1.hok.fresh (Kc _))
theorem EB{l:Expr}{f:ME}(hK:X.K=p.K)(hl:PE X l (tD p f)):PI X tg l (sm p (jd f)):=(EZ hl).weak fun σ H R ⟨α,ρ,μ,S,Rr,P⟩=>by
 refine⟨α,ρ,μ,S,Rr,(aB.bind P).imp fun d μ1 H1 α1 X1 S1 P1 v rv=>?_⟩;rw[hK];cases d with
 |tup xs=>
  obtain⟨a,vs,rfl,h1,h2⟩:=aE.mp rv;exact⟨a,rfl,.inr ⟨⟨vs,h1⟩,P1.now S1 _ trivial (AN h1 h2)⟩⟩
 |frz xs=>
  obtain⟨a,vs,rfl,h1,h2⟩:=bh.mp rv;exact⟨a,rfl,.inl ⟨⟨vs,h1.sq⟩,P1.now S1 _ trivial (AO h1 h2)⟩⟩
 |obj n=>
  obtain⟨a,rfl,ha⟩:=aN.mp rv;unfold sx at P1;dsimp only at P1;split at P1
  ·rename_i xs hx;obtain⟨a',ea,vs,hH,rr⟩:=S1.at hx;rw[ha]at ea;cases ea;exact⟨a,rfl,.inl ⟨⟨vs,eP.of hH⟩,P1.now S1 _ hx (xV S1 hx ha)⟩⟩
  ·exact P1.elim
 |non=>exact P1.elim
 |bl b=>exact P1.elim
 |int i=>exact P1.elim
 |str x=>exact P1.elim
def ja(ds:List D)(μ:aA):ai nu:=match ds with
 |[.int j]=>if -(2^62)<=j/\j<2^62 then .ok (.fix (br 0 j.toNat)) μ else .bad
 |_=>.bad
def nO(ds:List D)(μ:aA):ai nu:=match ds with
 |[.int i,.int j]=>if -(2^62)<=i/\i<2^62/\-(2^62)<=j/\j<2^62 then .ok (.fix (br i (j-i).toNat)) μ else .bad
 |_=>.bad
def fS(f:List D->aA->ai nu)(fa:MA):MI:=fun ρ μ=>(fa ρ μ).bind f
theorem xv {a:Expr}{fa:MA}{px pos:Pos} (hg:Gl X "range") (hm:X.mg "range" = none) (ha:PA X [a] (i8 p fa)) (hs:starEach [a] X.env=[(false,eval a X.env)]):PI X tg (.Call (.Name "range" px) [a] [] pos) (sm p (fS ja fa)):=
 (xG hg hm ha hs).weak fun σ H R ⟨α, ρ, μ, S, Rr, P⟩ => ⟨α, ρ, μ, S, Rr, (aB.bind P).imp fun ds μ1 H1 α1 X1 S1 P1 vs rv => by
  unfold ja at P1;split at P1
  ·rename_i j;obtain⟨v,rfl,r1⟩:=rv.one;rw[aq.mp r1];split at P1
   ·rename_i hj;exact⟨j,rfl,hj.1,hj.2,P1.now S1 _ trivial (tM 0 _)⟩
   ·exact P1.elim
  ·exact P1.elim⟩
theorem xu {a b:Expr}{fa:MA}{px pos:Pos} (hg:Gl X "range") (hm:X.mg "range" = none) (ha:PA X [a,b] (i8 p fa)) (hs:starEach [a,b] X.env=[(false,eval a X.env),(false,eval b X.env)]) (hs2:starEach [b] X.env=[(false,eval b X.env)]):PI X tg (.Call (.Name "range" px) [a,b] [] pos) (sm p (fS nO fa)):=
 (xF hg hm ha hs hs2).weak fun σ H R ⟨α, ρ, μ, S, Rr, P⟩ => ⟨α, ρ, μ, S, Rr, (aB.bind P).imp fun ds μ1 H1 α1 X1 S1 P1 vs rv => by
  unfold nO at P1;split at P1
  ·rename_i i j;obtain⟨v,u,rfl,r1,r2⟩:=rv.two;rw[aq.mp r1,aq.mp r2];split at P1
   ·rename_i hj;exact⟨i,j,rfl,hj,P1.now S1 _ trivial (tM i _)⟩
   ·exact P1.elim
  ·exact P1.elim⟩
theorem qm{b:Bool}{src:nu}{xs:List D}{H:Hp}{α:List Addr}{a:Addr}(hi:src.items=gn 0 xs)
  (hs:∀H2 α2 μ2,p.X H H2 α α2->p.S H2 α2 μ2->bW src μ2->∃vs,Sq b p.K H2 a vs/\p.Rs H2 α2 xs vs ):uN p (Ir b p.K a) src H α:=by
 intro H2 α2 μ2 X2 S2 ho;obtain⟨vs,h2,rr⟩:=hs H2 α2 μ2 X2 S2 ho;rw[hi];refine⟨fun i d hd=>?_,vs,h2,by rw[rr.length,qC]⟩;rw[qD]at hd;cases e:xs[i]? with
 |none=>rw[e]at hd;cases hd
 |some y=>
  rw[e]at hd;cases hd;obtain⟨v,hv,rv⟩:=rr.get e;refine⟨⟨vs,v,h2,hv⟩,fun x H3 ⟨q,w,e1,hq,e2,hx⟩=>?_⟩;subst e1 e2;have:=hx vs h2;rw[hv]at this;cases this;refine⟨bt hq,S2.tuple hq,aE.mpr ⟨q,_,rfl,eK.of aS,?_⟩⟩;rw[Mt];exact Reps.cons (aq.mpr rfl) (Reps.cons (rv.mono (bt hq)) Reps.nil)
def mO(ds:List D)(μ:aA):ai nu:=match ds with
 |[.tup xs]=>.ok (.fix (gn 0 xs)) μ
 |[.obj n]=>match μ[n]? with
  |some (.lst xs)=>.ok (.eno n xs) μ
  |_=>.bad
 |_=>.bad
theorem BQ {a:Expr}{fa:MA}{px pos tpos:Pos}{elts:List Expr}{k1:Nat} (hK:X.K=p.K) (hg:Gl X "enumerate") (hm:X.mg "enumerate" = none) (ha:PA X [a] (i8 p fa)) (hs:starEach [a] X.env=[(false,eval a X.env)]) :
  PI X (.Tuple elts k1 tpos) (.Call (.Name "enumerate" px) [a] [] pos) (sm p (fS mO fa)):=
 (Ci hg hm ha hs).weak fun σ H R ⟨α, ρ, μ, S, Rr, P⟩ => ⟨α, ρ, μ, S, Rr, (aB.bind P).imp fun ds μ1 H1 α1 X1 S1 P1 vs rv => by
  rw[hK];unfold mO at P1;split at P1
  ·rename_i xs;obtain⟨v,rfl,r1⟩:=rv.one;obtain⟨a,us,rfl,h1,h2⟩:=aE.mp r1;exact⟨a,false,rfl,⟨us,h1⟩,P1.now S1 _ trivial (qm (b:=false) rfl fun H2 α2 μ2 X2 S2 _=>⟨us,X2.tup a us h1,h2.mono X2⟩)⟩
  ·rename_i n;split at P1
   ·rename_i xs hx;obtain⟨v,rfl,r1⟩:=rv.one;obtain⟨a,rfl,ha⟩:=aN.mp r1;obtain⟨a',ea,us,hH,rr⟩:=S1.at hx;rw[ha]at ea;cases ea;refine⟨a,true,rfl,⟨us,eP.of hH⟩,P1.now S1 _ hx (qm (b:=true) rfl fun H2 α2 μ2 X2 S2 ho=>?_)⟩;obtain⟨a2,ea2,us2,hH2,rr2⟩:=S2.at (show μ2[n]?=some (.lst xs) from ho);rw[X2.pre n a ha]at ea2;cases ea2;exact⟨us2,eP.of hH2,rr2⟩
   ·exact P1.elim
  ·exact P1.elim⟩
end
def ai.nox{β:Type}(o:ai β):ai β:=match o with
 |.exc _ _=>.bad
 |o=>o
@[simp] theorem ag {β:Type}{a:β}{μ:aA}:(ai.ok a μ).nox=.ok a μ:=NG (NH _)
abbrev Pa.nx(p:Pa):Pa:=⟨p.K,p.w,fun _ _ _ _=>False⟩
theorem eC{β γ:Type}{p:Pa}{H:Hp}{α:List Addr}{o:ai β}{k:β->aA->ai γ}{R:γ->aA->Hp->List Addr->Prop}(h:aB p H α (o.nox.bind k) R):aB p.nx H α o (fun a μ1 H1 α1=>aB p H1 α1 (k a μ1) R):=by
 cases o with
 |ok a μ=>exact fun H' α' e s=>aB.from e h
 |exc x μ=>exact False.elim h
 |bad=>exact h
def f9(cap:List (Option Nat))(ρ:Ro):Ro:=cap.map fun o=>o.bind fun j=>(ρ[j]?).join
theorem cj.cap{K:W.Frag}{H:Hp}{α:List Addr}{ρ:Ro}{σ:St}(R:cj K H α ρ σ)(cap:List (Option Nat)):cj K H α (f9 cap ρ) (n5 cap σ):=by
 refine⟨by simp[f9,n5],fun i d h=>?_⟩;unfold f9 at h;unfold n5;rw[KA]at h⊢;cases e:cap[i]? with
 |none=>rw[e]at h;cases h
 |some o=>
  rw[e]at h;cases o with
  |none=>simp at h
  |some j=>
   simp at h⊢
   obtain⟨v,h1,h2⟩:=R.at' j d (by
    cases e2:ρ[j]? with
    |none=>rw[e2]at h;simp at h
    |some x=>rw[e2]at h;simp at h;rw[h])
   exact⟨v,by rw[h1];rfl,h2⟩
def sH(n:Nat)(y:D)(μ:aA):ai Unit:=match μ[n]? with
 |some (.lst ys)=>if ys.length<sizeLine then .ok () (μ.set n (.lst (ys++[y]))) else .bad
 |_=>.bad
open Classical in
def compLoop(src:nu)(n:Nat)(g:MG)(t:MT)(e:ME):List D->Ro->aA->ai D
 |[],_,μ=>if bW src μ then .ok (.obj n) μ else .bad
 |d::r,ρ,μ=>if bW src μ then (g d ρ μ).nox.bind fun ρ1 μ1=>(t ρ1 μ1).nox.bind fun b μ2=>if b=true then (e ρ1 μ2).nox.bind fun y μ3=>(sH n y μ3).bind fun _ μ4=>compLoop src n g t e r ρ1 μ4 else compLoop src n g t e r ρ1 μ2 else .bad
def dh(fi:MI)(cap:List (Option Nat))(g:MG)(t:MT)(e:ME):ME:=fun ρ μ=>(fi ρ μ).bind fun src μ1=>compLoop src μ1.length g t e src.items (f9 cap ρ) (μ1++[.lst []])
def cc:MT:=fun _ μ=>.ok true μ
theorem Ak{p:Pa}{n:Nat}{y:D}{μ:aA}{H:Hp}{α:List Addr}{R:Unit->aA->Hp->List Addr->Prop}{v:V}{acc:Addr}(S:p.S H α μ)(ha:α[n]?=some acc)(rv:p.R H α y v)(P:aB p H α (sH n y μ) R) :
  ∃ys,H acc=some (.lst ys)/\ys.length<sizeLine/\∃μ',p.X H (bx H acc (.lst (ys++[v]))) α α/\p.S (bx H acc (.lst (ys++[v]))) α μ'/\R () μ' (bx H acc (.lst (ys++[v]))) α:=by
 unfold sH at P;split at P
 ·rename_i xs hx;obtain⟨a,ea,us,hH,rr⟩:=S.at hx;rw[ha]at ea;cases ea;split at P
  ·rename_i hl;have q:=rr.snoc rv;exact⟨us,hH,by rw[rr.length];exact hl,_,gZ hH,S.put hx ha hH q,P _ _ (gZ hH) (S.put hx ha hH q)⟩
  ·exact P.elim
 ·exact P.elim
section
variable{p:Pa}{X:Cx}{tg iter elt:Expr}{ifs:List Expr}{scope:Scope}{Nc:List Str}{cap:List (Option Nat)}{fi:MI}{g:MG}{t:MT}{e:ME}{pos pos':Pos}
theorem qG{σ:St}{H:Hp}{Q:VK}(h:tD p (dh fi cap g t e) σ H Q):yL (sm p fi) cap (pj p.nx g) (gE p.nx t) (tD p.nx e) σ H Q:=by
 obtain⟨α,ρ,μ,S,R,P⟩:=h;refine⟨α,ρ,μ,S,R,(aB.bind P).imp fun src μ1 H1 α1 X1 S1 P1 J hok hJ acc hacc=>?_⟩;obtain⟨x1,s1,_⟩:=cN (ds:=[]) (vs:=[]) S1 hacc Reps.nil;have hn:(α1++[acc])[μ1.length]?=some acc:=by rw[<- S1.len];simp
 refine⟨fun i m σ2 H2=>m=src.items.length-i/\i<=src.items.length/\∃α2 ρ2 μ2,p.X H1 H2 α1 α2/\p.S H2 α2 μ2/\cj p.K H2 α2 ρ2 σ2/\α2[μ1.length]?=some acc/\aB p H2 α2 (compLoop src μ1.length g t e (src.items.drop i) ρ2 μ2) (RV p Q),
  ⟨_,rfl,LG _,α1++[acc],f9 cap ρ,μ1++[.lst []],x1,s1,((R.mono X1).cap cap).mono x1,hn,by simpa using aB.from x1 P1⟩,?_⟩
 rintro i m σ2 H2 ⟨rfl,hi,α2,ρ2,μ2,X2,S2,R2,a2,P2⟩
 by_cases hlt:i<src.items.length
 ·rw [NI hlt] at P2;unfold compLoop at P2;by_cases ho:bW src μ2
  ·rw [Jz ho] at P2;obtain⟨hgo,hy⟩:=(hJ H2 α2 μ2 X2 S2 ho).1 i _ (Nt hlt)
   refine .inr ⟨hgo,fun σ' H'=>i+1<=src.items.length/\∃α2 ρ2 μ2,p.X H1 H' α1 α2/\p.S H' α2 μ2/\cj p.K H' α2 ρ2 σ'/\α2[μ1.length]?=some acc/\aB p H' α2 (compLoop src μ1.length g t e (src.items.drop (i+1)) ρ2 μ2) (RV p Q),
    fun σ' H' ⟨h1,h2⟩=>⟨_,by omega,rfl,h1,h2⟩,fun x H3 yx=>?_⟩
   obtain⟨X3,S3,R3⟩:=hy x H3 yx;refine⟨α2,ρ2,μ2,_,S3,R2.mono X3,R3,(aB.from (p:=p.nx) X3 (eC P2)).imp fun ρ4 μ4 H4 α4 X4 S4 P4 σ4 R4=>?_⟩;refine⟨α4,ρ4,μ4,S4,R4,(eC P4).imp fun b μ5 H5 α5 X5 S5 P5=>?_⟩;have xx:p.X H1 H5 α1 α5:=((X2.trans X3).trans X4).trans X5;have a5:α5[μ1.length]?=some acc:=X5.pre _ _ (X4.pre _ _ (X3.pre _ _ a2));cases b with
   |false=>
    rw[JA J6]at P5;refine GN ?_;exact⟨hlt,α5,ρ4,μ5,xx,S5,R4.mono X5,a5,P5⟩
   |true=>
    rw[Jz rfl]at P5;refine GM ?_;refine⟨α5,ρ4,μ5,S5,R4.mono X5,(eC P5).imp fun y μ6 H6 α6 X6 S6 P6 v rv=>?_⟩;obtain⟨ys,e1,e2,μ7,x7,s7,q7⟩:=Ak (p:=p) S6 (X6.pre _ _ a5) rv (aB.bind P6);exact⟨ys,e1,e2,hlt,α6,ρ4,μ7,(xx.trans X6).trans x7,s7,((R4.mono X5).mono X6).mono x7,X6.pre _ _ a5,q7⟩
  ·rw[JA ho]at P2;exact P2.elim
 ·have e : i = src.items.length := by omega
  subst e;rw[NJ]at P2;unfold compLoop at P2;by_cases ho:bW src μ2
  ·rw[Jz ho]at P2;exact .inl ⟨(hJ H2 α2 μ2 X2 S2 ho).2,P2 H2 α2 i9.refl S2 _ (aN.mpr ⟨acc,rfl,a2⟩)⟩
  ·rw[JA ho]at P2;exact P2.elim
theorem BC{X:Cx}:sh X [] (gE p cc):=fun pins s σ H Q I h=>by
 obtain⟨α,ρ,μ,S,R,P⟩:=h;exact B7 pins s σ H Q I (P.now S)
theorem BB{X:Cx}{c:Expr}{t:MT}(h:PT X c (gE p t)):sh X [c] (gE p t):=B6 h
theorem BX(hc:X.calm=true)(S:bS X.N X.env scope Nc cap)(hi:PI X tg iter (sm p fi))
  (hg:∀cl C s H fp,PG (ij X Nc scope cl C s H fp) tg (pj p.nx g)) (ht:∀cl C s H fp,sh (ij X Nc scope cl C s H fp) ifs (gE p.nx t)) (he:∀cl C s H fp,PE (ij X Nc scope cl C s H fp) elt (tD p.nx e))
  (hs:∀x,foldedSetIterable iter X.env x=pure x):PE X (.ListComp elt [⟨tg,iter,ifs,0⟩] scope pos) (tD p (dh fi cap g t e)):=
 (Co hc S hi hg ht he hs).weak fun σ H Q h=>qG h
theorem BF{i:Nat}{x:Str}{pos1:Pos}{pos2:Pos}(hc:X.calm=true)(hN:X.N.Nodup)(hix:X.N[i]?=some x)(hx:X.env.scope.names.lookup x=some .local)(S:bS X.N X.env scope Nc cap)(hi:PI X tg iter (sm p fi))
  (hg:∀cl C s H fp,PG (ij X Nc scope cl C s H fp) tg (pj p.nx g)) (ht:∀cl C s H fp,sh (ij X Nc scope cl C s H fp) ifs (gE p.nx t)) (he:∀cl C s H fp,PE (ij X Nc scope cl C s H fp) elt (tD p.nx e))
  (hsw:swapsWith (.ListComp elt [⟨tg,iter,ifs,0⟩] scope pos) (some (.Name x pos1)) pos2.line X.env=pure true) (hs:∀x,foldedSetIterable iter X.env x=pure x) :
  PS X (.Assign [.Name x pos1] (.ListComp elt [⟨tg,iter,ifs,0⟩] scope pos) pos2) (fK p (bw (dh fi cap g t e) (ak i))):=
 (Cc hc hN hix hx S hi hg ht he hsw hs).weak fun D σ H h => by
  obtain⟨α,ρ,μ,S,R,P⟩:=h;refine qG ⟨α,ρ,μ,S,R,(aB.bindS P).imp fun d μ1 H1 α1 X1 S1 P1 v rv=>?_⟩;exact P1 H1 α1 _ i9.refl S1 ((R.mono X1).set i rv)
end
abbrev MB:=Nat->Ro->aA->ai Ro
open Classical in
def jj(src:nu)(n:Nat)(g:MG)(t:MT)(fb:MB):List D->Ro->aA->ai Ro
 |[],ρ,μ=>if bW src μ then .ok ρ μ else .bad
 |d::r,ρ,μ=>if bW src μ then (g d ρ μ).nox.bind fun ρ1 μ1=>(t ρ1 μ1).nox.bind fun b μ2=>if b=true then (fb n ρ1 μ2).nox.bind fun ρ2 μ3=>jj src n g t fb r ρ2 μ3 else jj src n g t fb r ρ1 μ2 else .bad
section
variable{p:Pa}
def Gs(p:Pa)(fb:MB)(acc:Addr):Bb:=fun σ H N=>∃α ρ μ n,p.S H α μ/\cj p.K H α ρ σ/\α[n]?=some acc/\aB p H α (fb n ρ μ) (fun ρ' _ H' α'=>∀σ',cj p.K H' α' ρ' σ'->N σ' H')
theorem vt{src:nu}{n:Nat}{g:MG}{t:MT}{fb:MB}{acc:Addr}{J:It}{H1 H0:Hp}{α1 α0:List Addr}{ρ:Ro}{μ1:aA}{σ:St}{N:St->Hp->Prop}(X0:p.X H0 H1 α0 α1)(S1:p.S H1 α1 μ1)(R:cj p.K H1 α1 ρ σ)(hn:α1[n]?=some acc)(hJ:uN p J src H0 α0)
  (P1:aB p H1 α1 (jj src n g t fb src.items ρ μ1) (fun ρ' _ H' α'=>∀σ',cj p.K H' α' ρ' σ'->N σ' H')):Ij J (pj p.nx g) (gE p.nx t) (Gs p.nx fb acc) N σ H1:=by
 refine⟨fun i m σ2 H2=>m=src.items.length-i/\i<=src.items.length/\∃α2 ρ2 μ2,p.X H0 H2 α0 α2/\p.S H2 α2 μ2/\cj p.K H2 α2 ρ2 σ2/\α2[n]?=some acc/\aB p H2 α2 (jj src n g t fb (src.items.drop i) ρ2 μ2) (fun ρ' _ H' α'=>∀σ',cj p.K H' α' ρ' σ'->N σ' H'),
  ⟨_,rfl,LG _,α1,ρ,μ1,X0,S1,R,hn,by simpa using P1⟩,?_⟩
 rintro i m σ2 H2 ⟨rfl,hi,α2,ρ2,μ2,X2,S2,R2,a2,P2⟩
 by_cases hlt:i<src.items.length
 ·rw [NI hlt] at P2;unfold jj at P2;by_cases ho:bW src μ2
  ·rw [Jz ho] at P2;obtain⟨hgo,hy⟩:=(hJ H2 α2 μ2 X2 S2 ho).1 i _ (Nt hlt)
   refine .inr ⟨hgo,fun σ' H'=>i+1<=src.items.length/\∃α2 ρ2 μ2,p.X H0 H' α0 α2/\p.S H' α2 μ2/\cj p.K H' α2 ρ2 σ'/\α2[n]?=some acc/\aB p H' α2 (jj src n g t fb (src.items.drop (i+1)) ρ2 μ2) (fun ρ' _ H' α'=>∀σ',cj p.K H' α' ρ' σ'->N σ' H'),
    fun σ' H' ⟨h1,h2⟩=>⟨_,by omega,rfl,h1,h2⟩,fun x H3 yx=>?_⟩
   obtain⟨X3,S3,R3⟩:=hy x H3 yx;refine⟨α2,ρ2,μ2,_,S3,R2.mono X3,R3,(aB.from (p:=p.nx) X3 (eC P2)).imp fun ρ4 μ4 H4 α4 X4 S4 P4 σ4 R4=>?_⟩;refine⟨α4,ρ4,μ4,S4,R4,(eC P4).imp fun b μ5 H5 α5 X5 S5 P5=>?_⟩;have xx:p.X H0 H5 α0 α5:=((X2.trans X3).trans X4).trans X5;have a5:α5[n]?=some acc:=X5.pre _ _ (X4.pre _ _ (X3.pre _ _ a2));cases b with
   |false=>
    rw[JA J6]at P5;refine GN ?_;exact⟨hlt,α5,ρ4,μ5,xx,S5,R4.mono X5,a5,P5⟩
   |true=>
    rw[Jz rfl]at P5;refine GM ?_;refine⟨α5,ρ4,μ5,n,S5,R4.mono X5,a5,(eC P5).imp fun ρ6 μ6 H6 α6 X6 S6 P6 σ' r'=>?_⟩;exact⟨hlt,α6,ρ6,μ6,xx.trans X6,S6,r',X6.pre _ _ a5,P6⟩
  ·rw[JA ho]at P2;exact P2.elim
 ·have e : i = src.items.length := by omega
  subst e;rw[NJ]at P2;unfold jj at P2;by_cases ho:bW src μ2
  ·rw[Jz ho]at P2;exact .inl ⟨(hJ H2 α2 μ2 X2 S2 ho).2,P2.now S2 _ R2⟩
  ·rw[JA ho]at P2;exact P2.elim
variable{X:Cx}{elt:Expr}{cl0 cl:Comprehension}{rest:List Comprehension}{scope:Scope}{Nc:List Str}{cap:List (Option Nat)}{fi:MI}{g:MG}{t:MT}{fb:MB}{pos:Pos}{e:Expr}{d:Nat}{acc:Addr}
end
mutual
def D.low(n:Nat):D->Prop
 |.tup xs=>D.lows n xs
 |.frz xs=>D.lows n xs
 |.obj m=>m<n
 |_=>True
def D.lows(n:Nat):List D->Prop
 |[]=>True
 |x::xs=>x.low n/\D.lows n xs
end
def O.low(n:Nat):O->Prop
 |.lst xs=>D.lows n xs
 |_=>True
section
variable{K:W.Frag}{H:Hp}{α α':List Addr}
mutual
theorem aM.low:∀{d:D}{v:V},aM K H α d v->d.low α.length
 |.non,_,_=>trivial
 |.bl _,_,_=>trivial
 |.int _,_,_=>trivial
 |.str _,_,_=>trivial
 |.tup xs,_,h=>by
  obtain⟨a,vs,rfl,h1,h2⟩:=aE.mp h;simp only[D.low];exact Reps.low h2
 |.frz xs,_,h=>by
  obtain⟨a,vs,rfl,h1,h2⟩:=bh.mp h;simp only[D.low];exact Reps.low h2
 |.obj n,_,h=>by
  obtain⟨a,rfl,h1⟩:=aN.mp h;simp only[D.low];exact(JR.mp h1).1
theorem Reps.low:∀{ds:List D}{vs:List V},Reps K H α ds vs->D.lows α.length ds
 |[],_,_=>trivial
 |d::ds,_,h=>by
  simp only[Reps]at h;obtain⟨v,r,rfl,h1,h2⟩:=h;simp only[D.lows];exact⟨aM.low h1,Reps.low h2⟩
end
mutual
theorem aM.cut{n:Nat}(e:∀m,m<n->α'[m]?=α[m]?):∀{d:D}{v:V},aM K H α' d v->d.low n->aM K H α d v
 |.non,_,h,_=>by simp only[aM]at h⊢;exact h
 |.bl _,_,h,_=>by simp only[aM]at h⊢;exact h
 |.int _,_,h,_=>by simp only[aM]at h⊢;exact h
 |.str _,_,h,_=>by simp only[aM]at h⊢;exact h
 |.tup xs,_,h,b=>by
  obtain⟨a,vs,rfl,h1,h2⟩:=aE.mp h;simp only[D.low]at b;exact aE.mpr ⟨a,vs,rfl,h1,Reps.cut e h2 b⟩
 |.frz xs,_,h,b=>by
  obtain⟨a,vs,rfl,h1,h2⟩:=bh.mp h;simp only[D.low]at b;exact bh.mpr ⟨a,vs,rfl,h1,Reps.cut e h2 b⟩
 |.obj m,_,h,b=>by
  obtain⟨a,rfl,h1⟩:=aN.mp h;simp only[D.low]at b;exact aN.mpr ⟨a,rfl,by rw[<- e m b];exact h1⟩
theorem Reps.cut{n:Nat}(e:∀m,m<n->α'[m]?=α[m]?):∀{ds:List D}{vs:List V},Reps K H α' ds vs->D.lows n ds->Reps K H α ds vs
 |[],_,h,_=>by simp only[Reps]at h⊢;exact h
 |d::ds,_,h,b=>by
  simp only[Reps]at h⊢;obtain⟨v,r,rfl,h1,h2⟩:=h;simp only[D.lows]at b;exact⟨v,r,rfl,aM.cut e h1 b.1,Reps.cut e h2 b.2⟩
end
end
def DW(μ μ':aA)(d:D):Prop:=d.low μ.length/\μ.length<=μ'.length/\∀(i:Nat) o,i<μ.length->μ'[i]?=some o->μ[i]?=some o\/o.low μ.length
open Classical in
def mF(μ:aA)(o:ai D):ai D:=match o with
 |.ok d μ'=>if DW μ μ' d then .ok d (μ'.take μ.length) else .ok d μ'
 |o=>o
theorem nF{p:Pa}{H:Hp}{α:List Addr}{μ:aA}{o:ai D}{Q:VK}(S:p.S H α μ)(P:aB p H α (mF μ o) (RV p Q)):aB p H α o (RV p Q):=by
 cases o with
 |exc x μ'=>exact P
 |bad=>exact P
 |ok d μ'=>
  unfold mF at P;dsimp only at P;by_cases hg:DW μ μ' d
  ·rw [Jz hg] at P;obtain⟨g1,g2,g3⟩:=hg;intro H' α' e s v rv
   have al:∀m,m<μ.length->α'[m]?=α[m]?:=fun m hm=>by
    have hm':m<α.length:=by rw[S.len];exact hm
    rw[Nt hm'];exact e.pre m _ (Nt hm')
   refine P H' α ⟨e.tup,e.frz,fun _ _ z=>z,e.xds⟩ ⟨by rw[Ku,S.len];omega,S.nd,fun n o a h1 h2=>?_⟩ v (aM.cut al rv g1);have hn:n<μ.length:=by rw[<- S.len];exact(JR.mp h2).1
   rw[KB hn]at h1;have q:=s.ob n o a h1 (e.pre n a h2)
   have ob:o.low μ.length:=by
    rcases g3 n o hn h1 with z|z
    ·have q0 := S.ob n o a z h2;cases o with
     |lst xs=>obtain⟨vs,_,r⟩:=q0;have:=r.low;rw[S.len]at this;exact this
     |set ks=>trivial
     |iset ks=>trivial
     |dic=>trivial
     |exc c=>trivial
     |exn c fs=>trivial
    ·exact z
   cases o with
   |lst xs=>obtain⟨vs,h3,r⟩:=q;exact⟨vs,h3,Reps.cut al r ob⟩
   |set ks=>exact q
   |iset ks=>exact q
   |dic=>exact q
   |exc c=>exact q
   |exn c fs=>exact q
  ·rw[JA hg]at P;exact P
def SO.out(o:SO):ai D:=match o with
 |.ret d μ=>.ok d μ
 |.next _ μ=>.ok .non μ
 |.exc x μ=>.exc x μ
 |_=>.bad
def iI(n N:Nat)(fb:MS):List D->aA->ai D:=fun ds μ=>if ds.length=n then mF μ (fb (ds.map some++List.replicate (N-n) none) μ).out else .bad
def A6(p:Pa)(n:Nat)(F:List D->aA->ai D):Sp:=fun vs H Q _=>vs.length=n/\∃α ds μ,p.S H α μ/\p.Rs H α ds vs/\aB p H α (F ds μ) (RV p Q)
structure f7(P:Program)(w:World)(K:W.Frag)(mg:Str->Option Value)(base:Heap)(p:Pa)(k:Nat)(x:Str)(n:Nat)(F:List D->aA->ai D):Prop where
 len:∀ds μ,ds.length≠n->F ds μ=.bad
 fn:∃f fd ps,mg x=some (.ref f)/\W.keepIn K (.ref f)=true/\dr K fd ps []/\i6 P w K mg base uD k f fd ps (A6 p n F)
section
variable{p:Pa}{X:Cx}{k n:Nat}{x:Str}{F:List D->aA->ai D}{a:Expr}{es:List Expr}{fr:MA}{pos px:Pos}
theorem BY (h:f7 X.prog X.w X.K X.mg X.base p k x n F) (hr:dg k X.A) (hg:Gl X x) (ha:PA X (a::es) (i8 p fr)) (hdb:(x == ("__debug__" : Str))=false) (he:starEach (a::es) X.env=(false,eval a X.env)::starEach es X.env) (hpl:(backTo pos (starEach es X.env)).any (·.1)=false) :
  PE X (.Call (.Name x px) (a::es) [] pos) (tD p (ax F fr)):=by
 obtain⟨f,fd,ps,h1,h2,h3,h4⟩:=h.fn;refine(wB (dvs:=[]) (E:=E0) h4 hr hg h1 h2 h3 .nil yQ ha hdb he hpl).weak fun σ H Q ⟨α,ρ,μ,S,R,P⟩=>⟨α,ρ,μ,S,R,(aB.bind P).imp fun ds μ1 H1 α1 X1 S1 P1 vs rv=>?_⟩;show A6 p n F (vs++[]) H1 Q E0;rw[Kk];refine⟨?_,α1,ds,μ1,S1,rv,P1⟩;by_cases hl:ds.length=n
 ·rw[rv.length];exact hl
 ·rw[h.len ds μ1 hl]at P1;exact P1.elim
end
theorem iU{K:W.Frag}{H:Hp}{α:List Addr}{ds:List D}{vs:List V}(r:Reps K H α ds vs)(m:Nat):cj K H α (ds.map some++List.replicate m none) (vs.map some++List.replicate m none):=by
 refine⟨by simp[r.length],fun i d h=>?_⟩;by_cases hi:i<ds.length
 ·rw [Ky (by simpa using hi), KA] at h;cases e:ds[i]? with
  |none=>rw[e]at h;cases h
  |some x=>
   rw[e]at h;cases h;obtain⟨v,hv,rv⟩:=r.get e;refine⟨v,?_,rv⟩;rw[Ky (by simp[r.length,hi]),KA,hv];rfl
 ·rw[Kw (by simpa using hi),Kx]at h;split at h <;> cases h
theorem Gh{P:Program}{w:World}{K:W.Frag}{mg:Str->Option Value}{base:Heap}{p:Pa}{k n:Nat}{x qual:Str}{st:Stmt}{f:Addr}{fd:FuncData}{N ps:List Str}{fb:MS}
  (F:gT K x qual st f fd) (S:aX N ps (au st)) (hn:ps.length=n) (hm:mg x=some (.ref f)) (hb:dr K fd ps [])
  (body : ∀ (cdv : Value) (A : Around) (outer : List Env) (s : Shared) (H : Hp) (E : XK), dg k (A.deeper (envOfC qual (au st) s.heap.objs.size f cdv)) ->
   gU (nQ uD P w K mg base N qual (au st) f cdv A outer s H E).nox (bC st) (fK p fb)):f7 P w K mg base p (k+1) x n (iI n N.length fb):=by
 refine⟨fun ds μ h=>by unfold iI;rw[JA h],f,fd,ps,hm,F.kp,hb,?_⟩;refine F.ok S (fun vs H Q E h=>h.1.trans hn.symm) fun cdv A outer s H vs Q E hr h=>?_;refine⟨_,body cdv A outer s H E hr,?_⟩;obtain⟨hl,α,ds,μ,S1,R1,P1⟩:=h;unfold iI at P1;have hd:ds.length=n:=by rw[<- R1.length];exact hl
 rw[Jz hd]at P1;have P2:=nF S1 P1;unfold start;rw[hl];refine⟨α,_,μ,S1,iU R1 _,?_⟩;cases e:fb (ds.map some++List.replicate (N.length-n) none) μ with
 |ret d μ'=>rw[e]at P2;exact fun H' α' v x s r=>P2 H' α' x s v r
 |next ρ μ'=>rw[e]at P2;exact fun H' α' σ' x s r=>P2 H' α' x s .non (bu.mpr rfl)
 |exc x μ'=>rw[e]at P2;exact P2
 |brk ρ μ'=>rw[e]at P2;exact P2.elim
 |cnt ρ μ'=>rw[e]at P2;exact P2.elim
 |bad=>rw[e]at P2;exact P2.elim
end L2
namespace L2
open PySem PySem.Spec PyProof.Rows RS
section
variable(K:W.Frag)(H:Hp)
mutual
def nc:PyData->V->Prop
 |.none,v=>v=.non
 |.bool b,v=>v=.bl b
 |.int i,v=>v=.int i
 |.str x,v=>v=.str x
 |.tuple xs,v=>∃a vs,v=.ref a/\eK K H a vs/\RdPs xs vs
 |.list xs,v=>∃a vs,v=.ref a/\eP K H a vs/\RdPs xs vs
 |.dict _,_=>False
def RdPs:List PyData->List V->Prop
 |[],vs=>vs=[]
 |x::xs,vs=>∃v r,vs=v::r/\nc x v/\RdPs xs r
end
end
section
variable{X:Cx}{pins:List (Addr×Obj)}{σ:St}{H:Hp}{s:Shared}
mutual
theorem gM(I:aP X pins σ H s):∀(d:PyData)(x:V)(v:Value),nc X.K H d x->bE x v->∃as,Reads s.heap v d as
 |.none,_,_,h,r=>by simp only[nc]at h;subst h;cases r;exact⟨_,.none⟩
 |.bool b,_,_,h,r=>by simp only[nc]at h;subst h;cases r;exact⟨_,.bool b⟩
 |.int b,_,_,h,r=>by simp only[nc]at h;subst h;obtain⟨t,rfl⟩:=r;exact⟨_,.int b t⟩
 |.str b,_,_,h,r=>by simp only[nc]at h;subst h;obtain⟨t,rfl⟩:=r;exact⟨_,.str b t⟩
 |.tuple xs,_,_,h,r=>by
  simp only[nc]at h;obtain⟨a,vs,rfl,h1,h2⟩:=h;cases r;obtain⟨its,rv,⟨o,e1,e2,n,e3⟩,_⟩:=I.tuple h1;obtain⟨as,q⟩:=readsAll_of I xs vs its h2 rv;exact⟨_,.tuple e1 e2 e3 (by simpa using q)⟩
 |.list xs,_,_,h,r=>by
  simp only[nc]at h;obtain⟨a,vs,rfl,h1,h2⟩:=h;cases r;obtain⟨its,rv,⟨o,n,e1,e2,_,e3⟩,_⟩:=I.list h1;obtain⟨as,q⟩:=readsAll_of I xs vs its h2 rv;exact⟨_,.list e1 e2 e3 (by simpa using q)⟩
 |.dict _,_,_,h,_=>by simp only[nc]at h
theorem readsAll_of(I:aP X pins σ H s):∀(ds:List PyData)(xs:List V)(vs:List Value),RdPs X.K H ds xs->aW xs vs->∃as,ReadsAll s.heap vs ds as
 |[],_,_,h,r=>by simp only[RdPs]at h;subst h;cases r;exact⟨_,.nil⟩
 |d::ds,_,_,h,r=>by
  simp only[RdPs]at h;obtain⟨v,q,rfl,h1,h2⟩:=h;cases r with
  |cons r rr=>
   obtain⟨as,g1⟩:=gM I d _ _ h1 r;obtain⟨bs,g2⟩:=readsAll_of I ds _ _ h2 rr;exact⟨_,.cons g1 g2⟩
end
def ik(d:PyData):Bool:=d.canLay0&&decide (d.depth<=60)
def yC(K:W.Frag)(neg:Bool):R2:=fun x y H Q=>∃a b,nc K H a x/\nc K H b y/\ik a=true/\ik b=true/\Q (.bl (if neg then !PyData.eqv a b else PyData.eqv a b)) H
theorem mj{a b:PyData}{A:Around}(ha:ik a=true)(hu:A.units+64<cLine):A.units+min a.depth b.depth<cLine:=by
 unfold ik at ha;simp only[K4,NK]at ha;have:=Nat.min_le_left a.depth b.depth;omega
theorem fX{a:PyData}(ha:ik a=true):a.canLay0=true:=by
 unfold ik at ha;simp only[K4,NK]at ha;exact ha.1
theorem Fl(hu:X.A.units+64<cLine):iH X (compareOp .Eq) (yC X.K false):=by
 intro pins s σ H x y v u Q I rx ry h;obtain⟨a,b,h1,h2,h3,h4,q⟩:=h;obtain⟨as,r1⟩:=gM I a x v h1 rx;obtain⟨bs,r2⟩:=gM I b y u h2 ry;exact SeqAt.compareEq_reads r1 r2 (fX h3) (fX h4) (mj h3 hu) ⟨.bl _,H,I,rfl,q⟩
theorem Fh(hu:X.A.units+64<cLine):iH X (compareOp .NotEq) (yC X.K true):=by
 intro pins s σ H x y v u Q I rx ry h;obtain⟨a,b,h1,h2,h3,h4,q⟩:=h;obtain⟨as,r1⟩:=gM I a x v h1 rx;obtain⟨bs,r2⟩:=gM I b y u h2 ry;exact SeqAt.compareNe_reads r1 r2 (fX h3) (fX h4) (mj h3 hu) ⟨.bl _,H,I,rfl,q⟩
end
mutual
def uz(μ:aA):D->Option PyData
 |.non=>some .none
 |.bl b=>some (.bool b)
 |.int i=>some (.int i)
 |.str x=>some (.str x)
 |.tup xs=>(toPs μ xs).map .tuple
 |.frz xs=>(toPs μ xs).map .list
 |.obj _=>none
def toPs(μ:aA):List D->Option (List PyData)
 |[]=>some []
 |x::xs=>(uz μ x).bind fun a=>(toPs μ xs).map fun r=>a::r
end
def su(μ:aA)(d:D):Option PyData:=match d with
 |.obj n=>match μ[n]? with
  |some (.lst xs)=>(toPs μ xs).map .list
  |_=>none
 |d=>uz μ d
def ir(μ:aA):List D->Option (List PyData)
 |[]=>some []
 |x::xs=>(su μ x).bind fun a=>(ir μ xs).map fun r=>a::r
def sk(μ:aA)(d:D):Option PyData:=match d with
 |.obj n=>match μ[n]? with
  |some (.lst xs)=>(ir μ xs).map .list
  |_=>none
 |.tup xs=>(ir μ xs).map .tuple
 |d=>uz μ d
section
variable{K:W.Frag}{w:World}{H:Hp}{α:List Addr}{μ:aA}
mutual
theorem gb:∀{d:D}{q:PyData}{v:V},uz μ d=some q->aM K H α d v->nc K H q v
 |.non,_,_,h,r=>by simp only[uz]at h;cases h;simp only[nc];exact bu.mp r
 |.bl b,_,_,h,r=>by simp only[uz]at h;cases h;simp only[nc];exact aQ.mp r
 |.int b,_,_,h,r=>by simp only[uz]at h;cases h;simp only[nc];exact aq.mp r
 |.str b,_,_,h,r=>by simp only[uz]at h;cases h;simp only[nc];exact bc.mp r
 |.tup xs,_,_,h,r=>by
  simp only[uz]at h;cases e:toPs μ xs with
  |none=>rw[e]at h;cases h
  |some ys=>
   rw[e]at h;cases h;obtain⟨a,vs,rfl,h1,h2⟩:=aE.mp r;simp only[nc];exact⟨a,vs,rfl,h1,toPs_ok e h2⟩
 |.frz xs,_,_,h,r=>by
  simp only[uz]at h;cases e:toPs μ xs with
  |none=>rw[e]at h;cases h
  |some ys=>
   rw[e]at h;cases h;obtain⟨a,vs,rfl,h1,h2⟩:=bh.mp r;simp only[nc];exact⟨a,vs,rfl,h1.sq,toPs_ok e h2⟩
 |.obj n,_,_,h,r=>by simp only[uz]at h;cases h
theorem toPs_ok:∀{ds:List D}{qs:List PyData}{vs:List V},toPs μ ds=some qs->Reps K H α ds vs->RdPs K H qs vs
 |[],_,_,h,r=>by simp only[toPs]at h;cases h;simp only[RdPs];simp only[Reps]at r;exact r
 |x::xs,_,_,h,r=>by
  simp only[toPs]at h;cases e1:uz μ x with
  |none=>rw[e1]at h;cases h
  |some a=>
   cases e2:toPs μ xs with
   |none=>rw[e1,e2]at h;cases h
   |some ys=>
    rw[e1,e2]at h;cases h;simp only[Reps]at r;obtain⟨v,vr,rfl,r1,r2⟩:=r;simp only[RdPs];exact⟨v,vr,rfl,gb e1 r1,toPs_ok e2 r2⟩
end
theorem By{d:D}{q:PyData}{v:V}(S:dF K w H α μ)(h:su μ d=some q)(r:aM K H α d v):nc K H q v:=by
 cases d with
 |obj n=>
  unfold su at h;dsimp only at h;split at h
  ·rename_i xs hx;obtain⟨a,ea,us,hH,rr⟩:=S.at hx;obtain⟨a',rfl,ea'⟩:=aN.mp r;rw[ea]at ea';cases ea';cases e:toPs μ xs with
   |none=>rw[e]at h;cases h
   |some ys=>
    rw[e]at h;cases h;simp only[nc];exact⟨a,us,rfl,eP.of hH,toPs_ok e rr⟩
  ·cases h
 |non=>exact gb h r
 |bl b=>exact gb h r
 |int i=>exact gb h r
 |str x=>exact gb h r
 |tup xs=>exact gb h r
 |frz xs=>exact gb h r
theorem oo(S:dF K w H α μ):∀{ds:List D}{qs:List PyData}{vs:List V},ir μ ds=some qs->Reps K H α ds vs->RdPs K H qs vs
 |[],_,_,h,r=>by simp only[ir]at h;cases h;simp only[RdPs];simp only[Reps]at r;exact r
 |x::xs,_,_,h,r=>by
  simp only[ir]at h;cases e1:su μ x with
  |none=>rw[e1]at h;cases h
  |some a=>
   cases e2:ir μ xs with
   |none=>rw[e1,e2]at h;cases h
   |some ys=>
    rw[e1,e2]at h;cases h;simp only[Reps]at r;obtain⟨v,vr,rfl,r1,r2⟩:=r;simp only[RdPs];exact⟨v,vr,rfl,By S e1 r1,oo S e2 r2⟩
theorem qW{d:D}{q:PyData}{v:V}(S:dF K w H α μ)(h:sk μ d=some q)(r:aM K H α d v):nc K H q v:=by
 cases d with
 |obj n=>
  unfold sk at h;dsimp only at h;split at h
  ·rename_i xs hx;obtain⟨a,ea,us,hH,rr⟩:=S.at hx;obtain⟨a',rfl,ea'⟩:=aN.mp r;rw[ea]at ea';cases ea';cases e:ir μ xs with
   |none=>rw[e]at h;cases h
   |some ys=>
    rw[e]at h;cases h;simp only[nc];exact⟨a,us,rfl,eP.of hH,oo S e rr⟩
  ·cases h
 |tup xs=>
  unfold sk at h;dsimp only at h;cases e:ir μ xs with
  |none=>rw[e]at h;cases h
  |some ys=>
   rw[e]at h;cases h;obtain⟨a,vs,rfl,h1,h2⟩:=aE.mp r;simp only[nc];exact⟨a,vs,rfl,h1,oo S e h2⟩
 |non=>exact gb h r
 |bl b=>exact gb h r
 |int i=>exact gb h r
 |str x=>exact gb h r
 |frz xs=>exact gb h r
end
def eQ(neg:Bool)(a b:D)(μ:aA):ai D:=match sk μ a,sk μ b with
 |some p,some q=>if ik p=true/\ik q=true then .ok (.bl (if neg then !PyData.eqv p q else PyData.eqv p q)) μ else .bad
 |_,_=>.bad
theorem DC{p:Pa}{neg:Bool}:pU p (eQ neg) (yC p.K neg):=by
 intro a b v y H α μ Q S ra rb P;unfold eQ at P;split at P
 ·rename_i x z hx hz;split at P
  ·rename_i hf;exact⟨x,z,qW S hx ra,qW S hz rb,hf.1,hf.2,P.now S _ (aQ.mpr rfl)⟩
  ·exact P.elim
 ·exact P.elim
def D.isNon:D->Bool
 |.non=>true
 |_=>false
def nP(neg:Bool)(a b:D)(μ:aA):ai D:=match b with
 |.non=>.ok (.bl (if neg then !a.isNon else a.isNon)) μ
 |_=>.bad
theorem wJ{K:W.Frag}{H:Hp}{α:List Addr}{a:D}{v:V}(r:aM K H α a v):decide (v=.non)=a.isNon:=by
 cases a with
 |non=>rw[bu.mp r];rfl
 |bl b=>rw[aQ.mp r];rfl
 |int b=>rw[aq.mp r];rfl
 |str b=>rw[bc.mp r];rfl
 |tup xs=>obtain⟨a,vs,rfl,_⟩:=aE.mp r;rfl
 |frz xs=>obtain⟨a,vs,rfl,_⟩:=bh.mp r;rfl
 |obj xs=>obtain⟨a,rfl,_⟩:=aN.mp r;rfl
theorem Fz{p:Pa}:pU p (nP false) (fun x y H Q=>y=.non/\Q (.bl (decide (x=.non))) H):=by
 intro a b v y H α μ Q S ra rb P;cases b with
 |non=>exact⟨bu.mp rb,P.now S _ (aQ.mpr (by rw[wJ ra];rfl))⟩
 |bl b=>exact P.elim
 |int b=>exact P.elim
 |str b=>exact P.elim
 |tup xs=>exact P.elim
 |frz xs=>exact P.elim
 |obj xs=>exact P.elim
theorem CH{p:Pa}:pU p (nP true) (fun x y H Q=>y=.non/\Q (.bl (!decide (x=.non))) H):=by
 intro a b v y H α μ Q S ra rb P;cases b with
 |non=>exact⟨bu.mp rb,P.now S _ (aQ.mpr (by rw[wJ ra];cases a <;> rfl))⟩
 |bl b=>exact P.elim
 |int b=>exact P.elim
 |str b=>exact P.elim
 |tup xs=>exact P.elim
 |frz xs=>exact P.elim
 |obj xs=>exact P.elim
end L2
namespace L2
open PySem PySem.Spec PyProof.Rows RS
open PySem.SeqAt
open PySem.AutoSeq1 (wpAny_loadPart')
open PySem.MeetsSeq PySem.MeetsSeq2 PySem.MeetsSeq3
def Bk(op:CmpOp)(A:Around)(s:Shared)(y x:Value)(k:Bool):Prop:=∀(prog:Program)(w:World)(E:Value->Shared->Prop)(Q:Value->Shared->Prop),Q (.bool k) s->wpAny (model prog w) A (richCompare op y x) Q E s
def jb(t:Bool):List (Bool×Bool)->Bool
 |[]=>t
 |(e,k)::r=>if e=true then jb t r else k
def iK(op:CmpOp)(A:Around)(s:Shared):List Value->List Value->List (Bool×Bool)->Prop
 |[],_,[]=>True
 |_,[],[]=>True
 |y::ys,x::xs,(e,k)::r=>EqAt A s y x e/\(e=false->Bk op A s y x k)/\(e=true->iK op A s ys xs r)
 |_,_,_=>False
theorem rR(l b:Addr)(items items2:Array Value)(n n2:Nat)(dd dd2:Option Addr)(sl sl2:Array (Option Value))(eks:List (Bool×Bool)) :
  Meets (Builtin.«tuple.__lt__» ⟨[.ref l,.ref b],[]⟩)
   (fun A R s => s.heap.get? l = some { cls := .type "tuple", dict := dd, data := .seq items n, slots := sl } /\ s.heap.get? b = some { cls := .type "tuple", dict := dd2, data := .seq items2 n2, slots := sl2 } /\
    iK .Lt A.in1 s items.toList items2.toList eks/\R (.ok (.ret (.bool (jb (decide (items.size<items2.size)) eks)))) s):=
 .of_wp fun prog w A R s h=>by
  obtain⟨hp,g,d,tk,os⟩:=s;obtain⟨hl,hb,hc,h⟩:=h;have f2:=AutoSeq1.sub_tuple_tuple
  wp_walk using wpAny_loadPart' hl,wpAny_loadPart' hb,Mz _ (fun rest b s'=>b.1=none/\s'=⟨hp,g,d,tk,os⟩/\∃(vs ws:List Value)(eks':List (Bool×Bool)),rest=vs.zip ws /\
   iK .Lt A.in1 ⟨hp,g,d,tk,os⟩ vs ws eks'/\R (.ok (.ret (.bool (jb (decide (items.size<items2.size)) eks')))) ⟨hp,g,d,tk,os⟩) _
  case turn=>
   rintro⟨y,x⟩ rest b s' ⟨hb',rfl,vs,ws,eks',hz,hci,hR⟩
   cases vs with
   |nil=>rw[List.zip_nil_left]at hz;cases hz
   |cons a vs=>
    cases ws with
    |nil=>rw[List.zip_nil_right]at hz;cases hz
    |cons c ws=>
     rw[NL]at hz;injection hz with hyx hrest
     injection hyx with hy hx
     subst hy hx;cases eks' with
     |nil=>simp only[iK]at hci
     |cons ek eks'=>
      obtain⟨e,k⟩:=ek;simp only[iK]at hci;obtain⟨he,hk,hci⟩:=hci;refine J1 (he prog w _ _ ?_);cases e with
      |true=>
       have hR':R (.ok (.ret (.bool (jb (decide (items.size<items2.size)) eks')))) ⟨hp,g,d,tk,os⟩:=hR
       wp_walk
       exact⟨rfl,rfl,_,_,_,hrest,hci rfl,hR'⟩
      |false=>
       have hR':R (.ok (.ret (.bool k))) ⟨hp,g,d,tk,os⟩:=hR;have hri:=hk rfl prog w
       wp_walk using hri
       exact⟨_,rfl,by simpa using hR'⟩
  case fin=>
   rintro⟨b1,b2⟩ s' ⟨hb',rfl,vs,ws,eks',hz,hci,hR⟩
   simp only at hb';subst hb'
   have hv:eks'=[]:=by
    cases vs with
    |nil=>cases eks' with
     |nil=>rfl
     |cons _ _=>simp only[iK]at hci
    |cons a vs=>cases ws with
     |nil=>cases eks' with
      |nil=>rfl
      |cons _ _=>simp only[iK]at hci
     |cons c ws=>rw[NL]at hz;cases hz
   subst hv;have hR':R (.ok (.ret (.bool (decide (items.size<items2.size))))) ⟨hp,g,d,tk,os⟩:=hR
   wp_walk
   exact⟨_,rfl,by simpa[Builtin.Tuple.tupleCompareSizes] using hR'⟩
  case h=>
   exact⟨rfl,rfl,items.toList,items2.toList,eks,rfl,hc,h⟩
theorem FG{prog:Program}{w:World}{A:Around}{E:Value->Shared->Prop}{s:Shared}{l b:Addr}{items items2:Array Value}{eks:List (Bool×Bool)}{Q:Value->Shared->Prop}(hl:IsTup s.heap l items)(hb:IsTup s.heap b items2)(hc:iK .Lt A.in1 s items.toList items2.toList eks)
  (hu:A.units<cLine) (h:Q (.bool (jb (decide (items.size<items2.size)) eks)) s):wpAny (model prog w) A (richCompare .Lt (.ref l) (.ref b)) Q E s:=by
 obtain⟨⟨cls,dd,data,sl⟩,ho,hc',n,hd⟩:=id hl;obtain⟨⟨cls2,dd2,data2,sl2⟩,ho2,hc2,n2,hd2⟩:=id hb;simp only at hc' hd hc2 hd2;subst hc' hd hc2 hd2
 exact richCompare_meets_room (op:=.Lt) ⟨_,ho,rfl⟩ ⟨_,ho2,rfl⟩ PySem.F.slot_tuple_lt PySem.F.entry_tuple_lt (PySem.F.args_tuple_lt_2 _ _) (rR l b items items2 n n2 dd dd2 sl sl2 eks)
  ⟨ho,ho2,hc,show Value.bool (jb (decide (items.size<items2.size)) eks)≠Value.notImplemented/\Q (.bool (jb (decide (items.size<items2.size)) eks)) s from⟨(fun x=>nomatch x),h⟩⟩ hu
theorem rS(l b:Addr)(items items2:Array Value)(n n2:Nat)(dd dd2:Option Addr)(sl sl2:Array (Option Value))(eks:List (Bool×Bool)) :
  Meets (Builtin.«tuple.__le__» ⟨[.ref l,.ref b],[]⟩)
   (fun A R s => s.heap.get? l = some { cls := .type "tuple", dict := dd, data := .seq items n, slots := sl } /\ s.heap.get? b = some { cls := .type "tuple", dict := dd2, data := .seq items2 n2, slots := sl2 } /\
    iK .LtE A.in1 s items.toList items2.toList eks/\R (.ok (.ret (.bool (jb (decide (items.size<=items2.size)) eks)))) s):=
 .of_wp fun prog w A R s h=>by
  obtain⟨hp,g,d,tk,os⟩:=s;obtain⟨hl,hb,hc,h⟩:=h;have f2:=AutoSeq1.sub_tuple_tuple
  wp_walk using wpAny_loadPart' hl,wpAny_loadPart' hb,Mz _ (fun rest b s'=>b.1=none/\s'=⟨hp,g,d,tk,os⟩/\∃(vs ws:List Value)(eks':List (Bool×Bool)),rest=vs.zip ws /\
   iK .LtE A.in1 ⟨hp,g,d,tk,os⟩ vs ws eks'/\R (.ok (.ret (.bool (jb (decide (items.size<=items2.size)) eks')))) ⟨hp,g,d,tk,os⟩) _
  case turn=>
   rintro⟨y,x⟩ rest b s' ⟨hb',rfl,vs,ws,eks',hz,hci,hR⟩
   cases vs with
   |nil=>rw[List.zip_nil_left]at hz;cases hz
   |cons a vs=>
    cases ws with
    |nil=>rw[List.zip_nil_right]at hz;cases hz
    |cons c ws=>
     rw[NL]at hz;injection hz with hyx hrest
     injection hyx with hy hx
     subst hy hx;cases eks' with
     |nil=>simp only[iK]at hci
     |cons ek eks'=>
      obtain⟨e,k⟩:=ek;simp only[iK]at hci;obtain⟨he,hk,hci⟩:=hci;refine J1 (he prog w _ _ ?_);cases e with
      |true=>
       have hR':R (.ok (.ret (.bool (jb (decide (items.size<=items2.size)) eks')))) ⟨hp,g,d,tk,os⟩:=hR
       wp_walk
       exact⟨rfl,rfl,_,_,_,hrest,hci rfl,hR'⟩
      |false=>
       have hR':R (.ok (.ret (.bool k))) ⟨hp,g,d,tk,os⟩:=hR;have hri:=hk rfl prog w
       wp_walk using hri
       exact⟨_,rfl,by simpa using hR'⟩
  case fin=>
   rintro⟨b1,b2⟩ s' ⟨hb',rfl,vs,ws,eks',hz,hci,hR⟩
   simp only at hb';subst hb'
   have hv:eks'=[]:=by
    cases vs with
    |nil=>cases eks' with
     |nil=>rfl
     |cons _ _=>simp only[iK]at hci
    |cons a vs=>cases ws with
     |nil=>cases eks' with
      |nil=>rfl
      |cons _ _=>simp only[iK]at hci
     |cons c ws=>rw[NL]at hz;cases hz
   subst hv;have hR':R (.ok (.ret (.bool (decide (items.size<=items2.size))))) ⟨hp,g,d,tk,os⟩:=hR
   wp_walk
   exact⟨_,rfl,by simpa[Builtin.Tuple.tupleCompareSizes] using hR'⟩
  case h=>
   exact⟨rfl,rfl,items.toList,items2.toList,eks,rfl,hc,h⟩
theorem FK{prog:Program}{w:World}{A:Around}{E:Value->Shared->Prop}{s:Shared}{l b:Addr}{items items2:Array Value}{eks:List (Bool×Bool)}{Q:Value->Shared->Prop}(hl:IsTup s.heap l items)(hb:IsTup s.heap b items2)(hc:iK .LtE A.in1 s items.toList items2.toList eks)
  (hu:A.units<cLine) (h:Q (.bool (jb (decide (items.size<=items2.size)) eks)) s):wpAny (model prog w) A (richCompare .LtE (.ref l) (.ref b)) Q E s:=by
 obtain⟨⟨cls,dd,data,sl⟩,ho,hc',n,hd⟩:=id hl;obtain⟨⟨cls2,dd2,data2,sl2⟩,ho2,hc2,n2,hd2⟩:=id hb;simp only at hc' hd hc2 hd2;subst hc' hd hc2 hd2
 exact richCompare_meets_room (op:=.LtE) ⟨_,ho,rfl⟩ ⟨_,ho2,rfl⟩ PySem.F.slot_tuple_le PySem.F.entry_tuple_le (PySem.F.args_tuple_le_2 _ _) (rS l b items items2 n n2 dd dd2 sl sl2 eks)
  ⟨ho,ho2,hc,show Value.bool (jb (decide (items.size<=items2.size)) eks)≠Value.notImplemented/\Q (.bool (jb (decide (items.size<=items2.size)) eks)) s from⟨(fun x=>nomatch x),h⟩⟩ hu
end L2
namespace L2
open PySem PySem.Spec PyProof.Rows RS
def cH:CmpOp->Int->Int->Bool
 |.Lt,i,j=>decide (i<j)
 |.LtE,i,j=>decide (i<=j)
 |.Gt,i,j=>decide (i>j)
 |.GtE,i,j=>decide (i ≥ j)
 |_,_,_=>false
def Bh:CmpOp->Bool
 |.Lt=>true
 |.LtE=>true
 |_=>false
mutual
def gG(op:CmpOp):PyData->PyData->Option Bool
 |.int i,.int j=>some (cH op i j)
 |.tuple xs,.tuple ys=>if Bh op=true then cmpPs op xs ys else none
 |_,_=>none
def cmpPs(op:CmpOp):List PyData->List PyData->Option Bool
 |[],ys=>some (cH op 0 ys.length)
 |_::xs,[]=>some (cH op (xs.length+1) 0)
 |x::xs,y::ys=>if PyData.eqv x y=true then cmpPs op xs ys else gG op x y
end
def sI:CmpOp->Bool
 |.Lt | .LtE | .Gt | .GtE=>true
 |_=>false
theorem Hg:∀{op:CmpOp}(ho:sI op=true){A:Around}{s:Shared}(a:Int)(t:Tok)(c:Int)(u:Tok),Bk op A s (.int a t) (.int c u) (cH op a c)
 |.Lt,_,A,s,a,t,c,u=>fun prog w E Q h=>(PyProof.Rows.lt_int h:wpAny (model prog w) A (compareOp .Lt (.int a t) (.int c u)) Q E s)
 |.LtE,_,A,s,a,t,c,u=>fun prog w E Q h=>(PyProof.Rows.le_int h:wpAny (model prog w) A (compareOp .LtE (.int a t) (.int c u)) Q E s)
 |.Gt,_,A,s,a,t,c,u=>fun prog w E Q h=>(PyProof.Rows.gt_int h:wpAny (model prog w) A (compareOp .Gt (.int a t) (.int c u)) Q E s)
 |.GtE,_,A,s,a,t,c,u=>fun prog w E Q h=>(PyProof.Rows.ge_int h:wpAny (model prog w) A (compareOp .GtE (.int a t) (.int c u)) Q E s)
theorem vD{op:CmpOp}(i j:Nat):cH op ((i+1:Nat):Int) ((j+1:Nat):Int)=cH op (i:Int) (j:Int):=by
 cases op <;> first|rfl|(unfold cH;simp)
theorem Hf:∀{op:CmpOp}(ho:Bh op=true){A:Around}{s:Shared}{l b:Addr}{items items2:Array Value}{eks:List (Bool×Bool)}(hl:IsTup s.heap l items)(hb:IsTup s.heap b items2)(hc:iK op A.in1 s items.toList items2.toList eks)
  (hu:A.units<cLine),Bk op A s (.ref l) (.ref b) (jb (cH op items.size items2.size) eks)
 |.Lt,_,A,s,l,b,items,items2,eks,hl,hb,hc,hu=>fun prog w E Q h=>FG hl hb hc hu (by
   have e:decide (items.size<items2.size)=cH .Lt items.size items2.size:=by (unfold cH;simp)
   rw[e];exact h)
 |.LtE,_,A,s,l,b,items,items2,eks,hl,hb,hc,hu=>fun prog w E Q h=>FK hl hb hc hu (by
   have e:decide (items.size<=items2.size)=cH .LtE items.size items2.size:=by (unfold cH;simp)
   rw[e];exact h)
mutual
theorem tm{op:CmpOp}(ho:sI op=true):∀(da db:PyData)(A:Around)(s:Shared)(a b:Value)(as bs:List Addr)(k:Bool),Reads s.heap a da as->Reads s.heap b db bs->da.canLay0=true->db.canLay0=true ->
  A.units+min da.depth db.depth<cLine->gG op da db=some k->Bk op A s a b k
 |.int i,.int j,A,s,_,_,_,_,k,ra,rb,_,_,hu,hk=>by
  cases ra;cases rb;simp only[gG]at hk;cases hk;exact Hg ho _ _ _ _
 |.tuple xs,.tuple ys,A,s,_,_,_,_,k,ra,rb,ha,hb,hu,hk=>by
  simp only[gG]at hk
  have hlt:Bh op=true:=by
   cases z:Bh op with
   |true=>rfl
   |false=>rw[z,JA J6]at hk;cases hk
  rw[Jz hlt]at hk;cases ra with
  | @tuple l o vs n _ as₁ h1 h2 h3 h4=>
   cases rb with
   | @tuple l' o' vs' n' _ bs₁ k1 k2 k3 k4=>
    have n1:vs.size=xs.length:=by simpa using SeqAt.ReadsAll.length _ _ _ h4
    have n2:vs'.size=ys.length:=by simpa using SeqAt.ReadsAll.length _ _ _ k4
    obtain⟨eks,e1,e2⟩:=rc_readsAll ho xs ys A.in1 s vs.toList vs'.toList _ _ k h4 k4 (by simpa[PyData.canLay0] using ha) (by simpa[PyData.canLay0] using hb) (SeqAt.room_in hu) hk;have:=Hf hlt (A:=A) (s:=s) (l:=l) (b:=l') (items:=vs) (items2:=vs') (eks:=eks) ⟨_,h1,h2,_,h3⟩ ⟨_,k1,k2,_,k3⟩ e1 (SeqAt.room_here hu);rw[n1,n2,e2]at this;exact this
 |.none,_,_,_,_,_,_,_,_,_,_,_,_,_,hk=>by simp only[gG]at hk;cases hk
 |.bool _,_,_,_,_,_,_,_,_,_,_,_,_,_,hk=>by simp only[gG]at hk;cases hk
 |.str _,_,_,_,_,_,_,_,_,_,_,_,_,_,hk=>by simp only[gG]at hk;cases hk
 |.list _,_,_,_,_,_,_,_,_,_,_,_,_,_,hk=>by simp only[gG]at hk;cases hk
 |.dict _,_,_,_,_,_,_,_,_,_,_,_,_,_,hk=>by simp only[gG]at hk;cases hk
 |.int _,.none,_,_,_,_,_,_,_,_,_,_,_,_,hk=>by simp only[gG]at hk;cases hk
 |.int _,.bool _,_,_,_,_,_,_,_,_,_,_,_,_,hk=>by simp only[gG]at hk;cases hk
 |.int _,.str _,_,_,_,_,_,_,_,_,_,_,_,_,hk=>by simp only[gG]at hk;cases hk
 |.int _,.list _,_,_,_,_,_,_,_,_,_,_,_,_,hk=>by simp only[gG]at hk;cases hk
 |.int _,.tuple _,_,_,_,_,_,_,_,_,_,_,_,_,hk=>by simp only[gG]at hk;cases hk
 |.int _,.dict _,_,_,_,_,_,_,_,_,_,_,_,_,hk=>by simp only[gG]at hk;cases hk
 |.tuple _,.none,_,_,_,_,_,_,_,_,_,_,_,_,hk=>by simp only[gG]at hk;cases hk
 |.tuple _,.bool _,_,_,_,_,_,_,_,_,_,_,_,_,hk=>by simp only[gG]at hk;cases hk
 |.tuple _,.int _,_,_,_,_,_,_,_,_,_,_,_,_,hk=>by simp only[gG]at hk;cases hk
 |.tuple _,.str _,_,_,_,_,_,_,_,_,_,_,_,_,hk=>by simp only[gG]at hk;cases hk
 |.tuple _,.list _,_,_,_,_,_,_,_,_,_,_,_,_,hk=>by simp only[gG]at hk;cases hk
 |.tuple _,.dict _,_,_,_,_,_,_,_,_,_,_,_,_,hk=>by simp only[gG]at hk;cases hk
theorem rc_readsAll{op:CmpOp}(ho:sI op=true):∀(xs ys:List PyData)(A:Around)(s:Shared)(vs ws:List Value)(as bs:List Addr)(k:Bool),ReadsAll s.heap vs xs as->ReadsAll s.heap ws ys bs->PyData.canLayAll0 xs=true->PyData.canLayAll0 ys=true ->
  A.units+min (PyData.depthAll xs) (PyData.depthAll ys)<cLine->cmpPs op xs ys=some k->∃eks,iK op A s vs ws eks/\jb (cH op (xs.length:Nat) (ys.length:Nat)) eks=k
 |[],ys,A,s,_,_,_,_,k,ra,rb,_,_,_,hk=>by
  cases ra;simp only[cmpPs]at hk;cases hk;exact⟨[],by unfold iK;trivial,rfl⟩
 |x::xs,[],A,s,_,_,_,_,k,ra,rb,_,_,_,hk=>by
  cases rb;simp only[cmpPs]at hk;cases hk;cases ra;refine⟨[],by unfold iK;trivial,?_⟩;simp[jb]
 |x::xs,y::ys,A,s,_,_,_,_,k,ra,rb,ha,hb,hu,hk=>by
  have ha':x.canLay0=true/\PyData.canLayAll0 xs=true:=by simpa[PyData.canLayAll0] using ha
  have hb':y.canLay0=true/\PyData.canLayAll0 ys=true:=by simpa[PyData.canLayAll0] using hb
  cases ra with
  |cons r rs=>
   cases rb with
   |cons r' rs'=>
    have he:=SeqAt.eqAt_reads x y A s _ _ _ _ r r' ha'.1 hb'.1 (SeqAt.room_head hu);simp only[cmpPs]at hk;cases e:PyData.eqv x y with
    |true=>
     rw[Jz e]at hk;rw[e]at he;obtain⟨eks,e1,e2⟩:=rc_readsAll ho xs ys A s _ _ _ _ k rs rs' ha'.2 hb'.2 (SeqAt.room_tail hu) hk;refine⟨(true,false)::eks,⟨he,fun z=>(by cases z),fun _=>e1⟩,?_⟩;show jb (cH op ((xs.length+1:Nat):Int) ((ys.length+1:Nat):Int)) eks=k;rw[vD];exact e2
    |false=>
     rw[JA (by rw[e];exact J6)]at hk;rw[e]at he;refine⟨[(false,k)],⟨he,fun _=>tm ho x y A s _ _ _ _ k r r' ha'.1 hb'.1 (SeqAt.room_head hu) hk,fun z=>(by cases z)⟩,rfl⟩
end
def yO(K:W.Frag)(op:CmpOp):R2:=fun x y H Q=>∃a b k,nc K H a x/\nc K H b y/\ik a=true/\ik b=true/\gG op a b=some k/\Q (.bl k) H
theorem Cy{X:Cx}(hu:X.A.units+64<cLine):∀{op:CmpOp},sI op=true->iH X (compareOp op) (yO X.K op):=by
 intro op ho pins s σ H x y v u Q I rx ry h;obtain⟨a,b,k,h1,h2,h3,h4,h5,q⟩:=h;obtain⟨as,r1⟩:=gM I a x v h1 rx;obtain⟨bs,r2⟩:=gM I b y u h2 ry;have:=tm ho a b X.A s v u as bs k r1 r2 (fX h3) (fX h4) (mj h3 hu) h5 X.prog X.w X.xe (EP X pins σ Q) ⟨.bl k,H,I,rfl,q⟩
 cases op <;> first
  |exact absurd ho (by decide)
  |exact this
def iJ(op:CmpOp)(a b:D)(μ:aA):ai D:=match sk μ a,sk μ b with
 |some p,some q=>if ik p=true/\ik q=true then (match gG op p q with|some k=>.ok (.bl k) μ|none=>.bad) else .bad
 |_,_=>.bad
theorem FC{p:Pa}{op:CmpOp}:pU p (iJ op) (yO p.K op):=by
 intro a b v y H α μ Q S ra rb P;unfold iJ at P;split at P
 ·rename_i x z hx hz;split at P
  ·rename_i hf;split at P
   ·rename_i k hk;exact⟨x,z,k,qW S hx ra,qW S hz rb,hf.1,hf.2,hk,P.now S _ (aQ.mpr rfl)⟩
   ·exact P.elim
  ·exact P.elim
 ·exact P.elim
def dI(g:Int->Int->D)(a b:D)(μ:aA):ai D:=match a,b with
 |.int i,.int j=>.ok (g i j) μ
 |_,_=>.bad
open Classical in
def DP(C:Int->Int->Prop)(g:Int->Int->D)(a b:D)(μ:aA):ai D:=match a,b with
 |.int i,.int j=>if C i j then .ok (g i j) μ else .bad
 |_,_=>.bad
section
variable{p:Pa}
theorem IP{g:Int->Int->V}{gd:Int->Int->D}(h:∀i j H α,p.R H α (gd i j) (g i j)):pU p (dI gd) (Gu g):=by
 intro a b v y H α μ Q S ra rb P;unfold dI at P;split at P
 ·rename_i i j;exact⟨i,j,aq.mp ra,aq.mp rb,P.now S _ (h i j H α)⟩
 ·exact P.elim
theorem yR{C:Int->Int->Prop}{g:Int->Int->V}{gd:Int->Int->D}(h:∀i j H α,p.R H α (gd i j) (g i j)):pU p (DP C gd) (rI C g):=by
 intro a b v y H α μ Q S ra rb P;unfold DP at P;split at P
 ·rename_i i j;split at P
  ·rename_i hc;exact⟨i,j,aq.mp ra,aq.mp rb,hc,P.now S _ (h i j H α)⟩
  ·exact P.elim
 ·exact P.elim
def qR(a:D)(μ:aA):ai D:=match a with
 |.int i=>.ok (.int (-i)) μ
 |_=>.bad
theorem FE:Jg p qR (rU fun i=>.int (-i)):=by
 intro a v H α μ Q S ra P;unfold qR at P;split at P
 ·rename_i i;exact⟨i,aq.mp ra,P.now S _ (aq.mpr rfl)⟩
 ·exact P.elim
def DB(K:W.Frag):R2:=fun x y H Q=>∃a b xs ys,x=.ref a/\y=.ref b/\eK K H a xs/\eK K H b ys/\xs.length+ys.length<=sizeLine /\
 (xs=[]->Q (.ref b) H)/\(xs≠[]->ys=[]->Q (.ref a) H)/\(xs≠[]->ys≠[]->∀p,H p=none->Q (.ref p) (bx H p (.tup (xs++ys))))
theorem A1{prog:Program}{w:World}{A:Around}{E:Value->Shared->Prop}{s:Shared}{t b:Addr}{ws:List Value}{Q:Value->Shared->Prop}(ht:IsTup s.heap t #[])(hb:IsTup s.heap b ws.toArray)(h0:Q (.ref b) s):wpAny (model prog w) A (binaryOp .Add (.ref t) (.ref b)) Q E s:=by
 obtain⟨⟨cls,dd,data,sl⟩,ho,hc,n,hd⟩:=id ht;obtain⟨⟨cls2,dd2,data2,sl2⟩,ho2,hc2,n2,hd2⟩:=id hb;simp only at hc hd hc2 hd2;subst hc hd hc2 hd2
 exact concat_meets ⟨_,ho,rfl⟩ ⟨_,ho2,rfl⟩ KG seq_tuple_add KH KJ (KL _ _)
  (tuple_addW0 t b #[] ws.toArray n n2 dd dd2 sl sl2 (by simp)) ⟨ho,ho2,h0⟩
theorem CA{X:Cx}:iH X (binaryOp .Add) (DB X.K):=by
 intro pins s σ H x y v u Q I rx ry h;obtain⟨a,b,xs,ys,rfl,rfl,ha,hb,hz,q0,q1,q2⟩:=h;by_cases hx:xs=[]
 ·cases rx;cases ry;obtain⟨its,r1,p1,_⟩:=I.tuple ha;obtain⟨its2,r2,p2,_⟩:=I.tuple hb;subst hx;cases r1;exact A1 p1 p2 ⟨.ref b,H,I,rfl,q0 rfl⟩
 ·exact Cz pins s σ H (.ref a) (.ref b) v u Q I rx ry ⟨a,b,xs,ys,rfl,rfl,ha,hb,hx,hz,q1 hx,q2 hx⟩
def yP(K:W.Frag):R2:=fun x y H Q=>Gu (fun i j=>.int (i+j)) x y H Q\/DB K x y H Q\/GH x y H Q\/(∃i j,x=.str i/\y=.str j/\i.length+j.length<=sizeLine/\Q (.str (i++j)) H)
theorem CB{X:Cx}:iH X (binaryOp .Add) (yP X.K):=Fo.or (CA.or (Fm.or vh))
def cv(a b:D)(μ:aA):ai D:=match a,b with
 |.int i,.int j=>.ok (.int (i+j)) μ
 |.str x,.str y=>if x.length+y.length<=sizeLine then .ok (.str (x++y)) μ else .bad
 |.tup xs,.tup ys=>if xs.length+ys.length<=sizeLine then .ok (.tup (xs++ys)) μ else .bad
 |.obj m,.obj n=>match μ[m]?,μ[n]? with
  |some (.lst xs),some (.lst ys)=>if xs.length+ys.length<=sizeLine then .ok (.obj μ.length) (μ++[.lst (xs++ys)]) else .bad
  |_,_=>.bad
 |_,_=>.bad
theorem cV{H:Hp}{α:List Addr}{μ:aA}{n:Nat}{v:V}{xs:List D}(S:p.S H α μ)(r:p.R H α (.obj n) v)(hx:μ[n]?=some (.lst xs)):∃a us,v=.ref a/\α[n]?=some a/\H a=some (.lst us)/\p.Rs H α xs us:=by
 obtain⟨a,ea,us,hH,rr⟩:=S.at hx;obtain⟨a',rfl,ea'⟩:=aN.mp r;rw[ea]at ea';cases ea';exact⟨a,us,rfl,ea,hH,rr⟩
theorem Reps.nil_iff'{K:W.Frag}{H:Hp}{α:List Addr}{xs:List D}{vs:List V}(r:Reps K H α xs vs):vs=[]↔xs=[]:=by
 have:=r.length;constructor
 ·intro h;subst h;simp at this;exact NM this.symm
 ·intro h;subst h;simp at this;exact this
theorem FD:pU p cv (yP p.K):=by
 intro a b v y H α μ Q S ra rb P;unfold cv at P;split at P
 ·rename_i i j;exact .inl ⟨i,j,aq.mp ra,aq.mp rb,P.now S _ (aq.mpr rfl)⟩
 ·rename_i i j;split at P
  ·rename_i hl;exact .inr (.inr (.inr ⟨i,j,bc.mp ra,bc.mp rb,hl,P.now S _ (bc.mpr rfl)⟩))
  ·exact P.elim
 ·rename_i xs ys;split at P
  ·rename_i hl;obtain⟨a,us,rfl,h1,r1⟩:=aE.mp ra;obtain⟨b,ws,rfl,h2,r2⟩:=aE.mp rb;refine .inr (.inl ⟨a,b,us,ws,rfl,rfl,h1,h2,by rw[r1.length,r2.length];exact hl,fun e=>?_,fun _ e=>?_,fun _ _ q hq=>?_⟩)
   ·have ex:=r1.nil_iff'.mp e;subst ex;exact P.now S _ (by simpa using rb)
   ·have ey:=r2.nil_iff'.mp e;subst ey;exact P.now S _ (by simpa using ra)
   ·exact P _ _ (bt hq) (S.tuple hq) _ (aE.mpr ⟨q,_,rfl,eK.of aS,(r1.append r2).mono (bt hq)⟩)
  ·exact P.elim
 ·rename_i m n;split at P
  ·rename_i xs ys hx hy;split at P
   ·rename_i hl;obtain⟨a,us,rfl,a1,h1,r1⟩:=cV S ra hx;obtain⟨b,ws,rfl,b1,h2,r2⟩:=cV S rb hy;refine .inr (.inr (.inl ⟨a,b,us,ws,rfl,rfl,h1,h2,by rw[r1.length,r2.length];exact hl,fun q hq=>?_⟩));obtain⟨x1,x2,x3⟩:=cN S hq (r1.append r2);exact P _ _ x1 x2 _ x3
   ·exact P.elim
  ·exact P.elim
 ·exact P.elim
def Dw:R2:=fun x y H Q=>rI sF (fun i j=>.int (i*j)) x y H Q\/GB x y H Q
theorem Cv{X:Cx}:iH X (binaryOp .Mult) Dw:=Fi.or Ff
open Classical in
def lP(a b:D)(μ:aA):ai D:=match a,b with
 |.int i,.int j=>if sF i j then .ok (.int (i*j)) μ else .bad
 |.obj m,.int k=>match μ[m]? with
  |some (.lst xs)=>if -(2^63)<=k/\k<2^63/\xs.length*k.toNat<=sizeLine then .ok (.obj μ.length) (μ++[.lst (List.replicate k.toNat xs).flatten]) else .bad
  |_=>.bad
 |_,_=>.bad
theorem Reps.rep{K:W.Frag}{H:Hp}{α:List Addr}{xs:List D}{vs:List V}(h:Reps K H α xs vs):∀k:Nat,Reps K H α (List.replicate k xs).flatten (List.replicate k vs).flatten
 |0=>by simpa using Reps.nil
 |k+1=>by
  rw[Lg,Lg,Lh,Lh];exact h.append (Reps.rep h k)
theorem Fy:pU p lP Dw:=by
 intro a b v y H α μ Q S ra rb P;unfold lP at P;split at P
 ·rename_i i j;split at P
  ·rename_i hc;exact .inl ⟨i,j,aq.mp ra,aq.mp rb,hc,P.now S _ (aq.mpr rfl)⟩
  ·exact P.elim
 ·rename_i m k;split at P
  ·rename_i xs hx;split at P
   ·rename_i hl;obtain⟨a,us,rfl,a1,h1,r1⟩:=cV S ra hx;refine .inr ⟨a,k,us,rfl,aq.mp rb,h1,hl.1,hl.2.1,by rw[r1.length];exact hl.2.2,fun q hq=>?_⟩;obtain⟨x1,x2,x3⟩:=cN S hq (r1.rep k.toNat);exact P _ _ x1 x2 _ x3
   ·exact P.elim
  ·exact P.elim
 ·exact P.elim
def dR(a b:D)(μ:aA):ai D:=match a,b with
 |.tup xs,.int i=>match atI xs i with
  |some d=>.ok d μ
  |none=>.bad
 |.frz xs,.int i=>match atI xs i with
  |some d=>.ok d μ
  |none=>.bad
 |.obj n,.int i=>match μ[n]? with
  |some (.lst xs)=>match atI xs i with
   |some d=>.ok d μ
   |none=>.bad
  |_=>.bad
 |_,_=>.bad
theorem Reps.atI{K:W.Frag}{H:Hp}{α:List Addr}{xs:List D}{vs:List V}{i:Int}{d:D}(r:Reps K H α xs vs)(h:L2.atI xs i=some d):∃v,L2.atI vs i=some v/\aM K H α d v:=by
 unfold L2.atI at h⊢;rw[r.length];cases e:vQ xs.length i with
 |none=>rw[e]at h;cases h
 |some j=>rw[e]at h;exact r.get h
theorem Ht:pU p dR (Je p.K):=by
 intro a b v y H α μ Q S ra rb P;unfold dR at P;split at P
 ·rename_i xs i;split at P
  ·rename_i d hd;obtain⟨a,us,rfl,h1,r1⟩:=aE.mp ra;obtain⟨v,hv,rv⟩:=r1.atI hd;exact .inr (.inl ⟨a,us,i,v,rfl,aq.mp rb,h1,hv,P.now S _ rv⟩)
  ·exact P.elim
 ·rename_i xs i;split at P
  ·rename_i d hd;obtain⟨a,us,rfl,h1,r1⟩:=bh.mp ra;obtain⟨v,hv,rv⟩:=r1.atI hd;exact .inl ⟨a,us,i,v,rfl,aq.mp rb,h1.sq,hv,P.now S _ rv⟩
  ·exact P.elim
 ·rename_i n i;split at P
  ·rename_i xs hx;split at P
   ·rename_i d hd;obtain⟨a,us,rfl,a1,h1,r1⟩:=cV S ra hx;obtain⟨v,hv,rv⟩:=r1.atI hd;exact .inl ⟨a,us,i,v,rfl,aq.mp rb,eP.of h1,hv,P.now S _ rv⟩
   ·exact P.elim
  ·exact P.elim
 ·exact P.elim
theorem Hd{X:Cx}{a b:Expr}{fa fb:ME}{pos:Pos}(hK:X.K=p.K)(ha:PE X a (tD p fa))(hb:PE X b (tD p fb))(hs:rO b):PE X (.Subscript a b pos) (tD p (az dR fa fb)):=
 (Hn FU ha hb hs).weak fun σ H Q ⟨α, ρ, μ, S, R, P⟩ => ⟨α, ρ, μ, S, R, (aB.bind P).imp fun x μ1 H1 α1 X1 S1 P1 v rv => ⟨α1, ρ, μ1, S1, R.mono X1, (aB.bind P1).imp fun y μ2 H2 α2 X2 S2 P2 u ru => by
  rw[hK];exact Ht x y v u H2 α2 μ2 Q S2 (rv.mono X2) ru P2⟩⟩
theorem j3{prog:Program}{w:World}{A:Around}{E:Value->Shared->Prop}{s:Shared}{t sl:Addr}{items:Array Value}{vl vu:Value}{lo hi:Option Int}{Q:Value->Shared->Prop}(ht:IsTup s.heap t items)(hs:s.heap.IsSliceOf sl vl vu .none)(pl:IsPart vl lo)(pu:IsPart vu hi)
  (hw:HT.sIx items.size 0 lo=0/\HT.sIx items.size items.size hi=items.size) (h:Q (.ref t) s):wpAny (model prog w) A (getItem (.ref t) (.ref sl)) Q E s:=by
 obtain⟨os,hos,hcs,hds⟩:=id hs;have hTs:s.TypeIs (.ref sl) "slice" := ⟨os,hos,hcs⟩;unfold getItem
 try with_reducible refine J2 ?_
 first|refine J1 (J8 ?_)|skip
 refine J1 (KW ht.typeIs (by decide) ?_)
 refine J1 (KY (name:=Str.ofString "__getitem__") ht.typeIs KZ
  (K0 KZ ht.typeIs K1 ?_ (K2 _ _)))
 show wpAny _ _ (Builtin.Tuple.tupleItemsOf (.ref t) >>= _) _ _ s;refine J1 (tupleItemsOf_ ht ?_);refine J1 (K3 hTs ?_);rw[Jz (by decide)];refine J1 (HT.sliceApplied_gen hs pl pu ?_)
 have hno:(((HT.sIx items.size 0 lo:Nat):Int) == 0&&(1:Int) == 1&&(HT.sIx items.size items.size hi-HT.sIx items.size 0 lo) == items.size)=true:=by
  rw[hw.1,hw.2];simp
 show wpAny _ _ (if (((HT.sIx items.size 0 lo:Nat):Int) == 0&&(1:Int) == 1&&(HT.sIx items.size items.size hi-HT.sIx items.size 0 lo) == items.size)=true then _ else _) _ _ s;rw[Jz hno];refine J1 (m:=Builtin.Tuple.tupleIsExact (.ref t)) (J1 (K3 ht.typeIs (J8 ?_)));rw[Jz (by decide)];exact J1 (LF (J8 ⟨_,rfl,J8 h⟩))
def ko{β:Type}(xs:List β)(lo hi:Option Int):List β:=(xs.drop (HT.sIx xs.length 0 lo)).take (HT.sIx xs.length xs.length hi-HT.sIx xs.length 0 lo)
theorem vA{β:Type}(xs:List β)(lo hi:Option Int)(h:HT.sIx xs.length 0 lo=0/\HT.sIx xs.length xs.length hi=xs.length):ko xs lo hi=xs:=by
 unfold ko;rw[h.1,h.2];simp
def Du(K:W.Frag):V->Option Int->Option Int->Hp->VK->Prop:=fun x lo hi H Q=>∃a xs,x=.ref a/\eK K H a xs /\
 (HT.sIx xs.length 0 lo=0/\HT.sIx xs.length xs.length hi=xs.length)/\Q (.ref a) H
theorem BO{X:Cx}:Bc X (Du X.K):=by
 intro pins s σ H x v vl vu lo hi sl Q I rx hs pl pu h;obtain⟨a,xs,rfl,hx,hw,q⟩:=h;cases rx;obtain⟨its,r,ht,hz⟩:=I.tuple hx;have hlen:its.toArray.size=xs.length:=by rw[Ki];exact r.length.symm
 refine⟨"tuple",_,KZ.lookup,ht.typeIs,?_⟩;exact j3 ht hs pl pu (by rw[hlen];exact hw) ⟨.ref a,H,I,rfl,q⟩
def GA(K:W.Frag):V->Option Int->Option Int->Hp->VK->Prop:=fun x lo hi H Q=>Gy K x lo hi H Q\/Du K x lo hi H Q\/Gz K x lo hi H Q
theorem IL{X:Cx}:Bc X (GA X.K):=EA.or (BO.or BP)
abbrev MO:=Ro->aA->ai (Option Int)
def yw:MO:=fun _ μ=>.ok none μ
def HU(d:D)(μ:aA):ai (Option Int):=match d with
 |.int i=>.ok (some i) μ
 |_=>.bad
def fT(f:ME):MO:=fun ρ μ=>(f ρ μ).bind HU
def Dk(p:Pa)(f:MO):TO:=fun σ H Q=>∃α ρ μ,p.S H α μ/\cj p.K H α ρ σ/\aB p H α (f ρ μ) (fun o _ H' _=>Q o H')
theorem PO.weak{X:Cx}{e:Option Expr}{t t':TO}(h:PO X e t)(k:∀σ H Q,t' σ H Q->t σ H Q):PO X e t':=fun pins s σ H Q I q=>h pins s σ H Q I (k σ H Q q)
theorem BN{X:Cx}:PO X none (Dk p yw):=Cg.weak fun σ H Q ⟨α,ρ,μ,S,R,P⟩=>P.now S
theorem BM{X:Cx}{e:Expr}{f:ME}(h:PE X e (tD p f)):PO X (some e) (Dk p (fT f)):=(Cf h).weak fun σ H Q ⟨α,ρ,μ,S,R,P⟩=>⟨α,ρ,μ,S,R,(aB.bind P).imp fun d μ1 H1 α1 X1 S1 P1 v rv=>by
 unfold HU at P1;split at P1
 ·rename_i i;exact⟨i,aq.mp rv,P1.now S1⟩
 ·exact P1.elim⟩
def yr(a:D)(lo hi:Option Int)(μ:aA):ai D:=match a with
 |.tup xs=>.ok (.tup (ko xs lo hi)) μ
 |.frz xs=>.ok (.obj μ.length) (μ++[.lst (ko xs lo hi)])
 |.obj n=>match μ[n]? with
  |some (.lst xs)=>.ok (.obj μ.length) (μ++[.lst (ko xs lo hi)])
  |_=>.bad
 |_=>.bad
def vS(fa:ME)(fl fh:MO):ME:=fun ρ μ=>(fa ρ μ).bind fun a μ1=>(fl ρ μ1).bind fun lo μ2=>(fh ρ μ2).bind fun hi μ3=>yr a lo hi μ3
theorem Reps.cut'{K:W.Frag}{H:Hp}{α:List Addr}{xs:List D}{vs:List V}(r:Reps K H α xs vs)(lo hi:Option Int):Reps K H α (ko xs lo hi) (sC vs lo hi):=by
 unfold ko sC;rw[r.length];exact(r.drop _).take _
theorem G9{a:D}{v:V}{lo hi:Option Int}{H:Hp}{α:List Addr}{μ:aA}{Q:VK}(S:p.S H α μ)(ra:p.R H α a v)(P:aB p H α (yr a lo hi μ) (RV p Q)):GA p.K v lo hi H Q:=by
 unfold yr at P;split at P
 ·rename_i xs;obtain⟨a,us,rfl,h1,r1⟩:=aE.mp ra;by_cases hw:HT.sIx us.length 0 lo=0/\HT.sIx us.length us.length hi=us.length
  ·refine .inr (.inl ⟨a,us,rfl,h1,hw,?_⟩);rw[r1.length]at hw;rw[vA xs lo hi hw]at P;exact P.now S _ ra
  ·exact .inl ⟨a,us,rfl,h1,hw,fun q hq=>P _ _ (bt hq) (S.tuple hq) _ (aE.mpr ⟨q,_,rfl,eK.of aS,(r1.cut' lo hi).mono (bt hq)⟩)⟩
 ·rename_i xs;obtain⟨a,us,rfl,h1,r1⟩:=bh.mp ra;refine .inr (.inr ⟨a,us,rfl,h1.sq,fun q hq=>?_⟩);obtain⟨x1,x2,x3⟩:=cN S hq (r1.cut' lo hi);exact P _ _ x1 x2 _ x3
 ·rename_i n;split at P
  ·rename_i xs hx;obtain⟨a,us,rfl,a1,h1,r1⟩:=cV S ra hx;refine .inr (.inr ⟨a,us,rfl,eP.of h1,fun q hq=>?_⟩);obtain⟨x1,x2,x3⟩:=cN S hq (r1.cut' lo hi);exact P _ _ x1 x2 _ x3
  ·exact P.elim
 ·exact P.elim
theorem Ab{X:Cx}{e:Expr}{lo hi:Option Expr}{fa:ME}{fl fh:MO}{pos p2:Pos}(hK:X.K=p.K)(he:PE X e (tD p fa))(hl:PO X lo (Dk p fl))(hu:PO X hi (Dk p fh)):PE X (.Subscript e (.Slice lo hi none p2) pos) (tD p (vS fa fl fh)):=
 (Au IL he hl hu).weak fun σ H Q ⟨α, ρ, μ, S, R, P⟩ => ⟨α, ρ, μ, S, R, (aB.bind P).imp fun a μ1 H1 α1 X1 S1 P1 v rv => ⟨α1, ρ, μ1, S1, R.mono X1, (aB.bind P1).imp fun l μ2 H2 α2 X2 S2 P2 => ⟨α2, ρ, μ2, S2, (R.mono X1).mono X2, (aB.bind P2).imp fun h μ3 H3 α3 X3 S3 P3 => by
  rw[hK];exact G9 S3 ((rv.mono X2).mono X3) P3⟩⟩⟩
theorem jD{β γ:Type}{f:β->Option γ}{g:β->γ}:∀{l:List β},(∀m∈l,f m=some (g m))->l.filterMap f=l.map g
 |[],_=>rfl
 |x::r,h=>by rw[JJ,h x JK,K7,jD fun m hm=>h m (JL _ hm)]
theorem tw(xs:Array Value):((List.range xs.size).filterMap fun(m:Nat)=>xs[(((xs.size:Int)-1)+(m:Int)*(-1)).toNat]?).toArray=xs.toList.reverse.toArray:=by
 congr 1;apply Nb;intro i
 have hf:∀m∈List.range xs.size,xs[(((xs.size:Int)-1)+(m:Int)*(-1)).toNat]?=some (xs.toList.reverse.getD m .none):=by
  intro m hm;have hm':m<xs.size:=by simpa using hm
  have e:(((xs.size:Int)-1)+(m:Int)*(-1)).toNat=xs.size-1-m:=by omega
  rw[e,Na,List.getElem?_reverse (by simpa using hm')];have h2:xs.size-1-m<xs.size:=by omega
  rw[Mv h2];simp[JX,h2]
 rw[jD hf];by_cases hi:i<xs.size
 ·rw[KA,Nd hi];simp only[Option.map_some];rw[Na,Nt (by simpa using hi)];rfl
 ·rw[Nf (by simpa using hi),Nf (by simpa using hi)]
theorem mz{prog:Program}{w:World}{A:Around}{E:Value->Shared->Prop}{s:Shared}{sl:Addr}{n:Nat}{t:Tok}{Q:Int×Int×Nat->Shared->Prop}(hs:s.heap.IsSliceOf sl .none .none (.int (-1) t))
  (h:Q ((n:Int)-1,-1,n) s):wpAny (model prog w) A (Builtin.Slice.sliceApplied (.ref sl) (pure (n:Int))) Q E s:=by
 obtain⟨os,hos,hcs,hds⟩:=id hs;unfold Builtin.Slice.sliceApplied Builtin.Slice.sliceFields;refine J1 (J1 (KR hos hds (x:=.none) rfl (J1 (KR hos hds (x:=.none) rfl (J1 (KR hos hds (x:=.int (-1) t) rfl (J8 ?_)))))));refine J1 (slicePart_int ?_);show wpAny _ _ (if ((-1:Int) == 0)=true then _ else _) _ _ s;rw[JA (by decide)];refine J1 (KQ (J1 (KQ (J1 (J8 ?_)))));show wpAny _ _ (match Builtin.Slice.sliceAdjust none none (-1) (n:Int) with|(lo,hi)=>pure (lo,(-1:Int),Builtin.Slice.slicePlaces lo hi (-1))) _ _ s;have e:Builtin.Slice.sliceAdjust none none (-1) (n:Int)=((n:Int)-1,-1):=by unfold Builtin.Slice.sliceAdjust;simp
 rw[e];show wpAny _ _ (pure ((n:Int)-1,(-1:Int),Builtin.Slice.slicePlaces ((n:Int)-1) (-1) (-1))) _ _ s
 have e2:Builtin.Slice.slicePlaces ((n:Int)-1) (-1) (-1)=n:=by
  unfold Builtin.Slice.slicePlaces;rw[JA (by decide)];split <;> simp <;> omega
 rw[e2];exact J8 h
theorem lK{prog:Program}{w:World}{A:Around}{E:Value->Shared->Prop}{s:Shared}{t sl:Addr}{tk:Tok}{items:Array Value}{Q:Value->Shared->Prop}(ht:IsTup s.heap t items)(hs:s.heap.IsSliceOf sl .none .none (.int (-1) tk))
  (h:Q (.ref s.heap.objs.size) {s with heap:=s.heap.push {cls:=.type "tuple",data:=.seq items.toList.reverse.toArray}}) (hsz:items.size<=sizeLine):wpAny (model prog w) A (getItem (.ref t) (.ref sl)) Q E s:=by
 have htake:sizeOk (.seq items.toList.reverse.toArray):=by
  show items.toList.reverse.toArray.size<=sizeLine;simpa using hsz
 obtain⟨os,hos,hcs,hds⟩:=id hs;have hTs:s.TypeIs (.ref sl) "slice" := ⟨os,hos,hcs⟩;unfold getItem
 try with_reducible refine J2 ?_
 first|refine J1 (J8 ?_)|skip
 refine J1 (KW ht.typeIs (by decide) ?_)
 refine J1 (KY (name:=Str.ofString "__getitem__") ht.typeIs KZ
  (K0 KZ ht.typeIs K1 ?_ (K2 _ _)))
 show wpAny _ _ (Builtin.Tuple.tupleItemsOf (.ref t) >>= _) _ _ s;refine J1 (tupleItemsOf_ ht ?_);refine J1 (K3 hTs ?_);rw[Jz (by decide)];refine J1 (mz hs ?_);show wpAny _ _ (if (((items.size:Int)-1) == 0&&(-1:Int) == 1&&items.size == items.size)=true then _ else _) _ _ s;rw[JA (by simp),tw]
 first
  |exact J1 (m:=Builtin.Tuple.tupleExact _) (K5 (J8 ⟨_,rfl,J8 h⟩) htake)
  |exact J1 (m:=Builtin.Tuple.tupleExact _) (K5 (J1 (J8 (J8 ⟨_,rfl,J8 h⟩))) htake)
  |exact J1 (J1 (m:=Builtin.Tuple.tupleExact _) (K5 (J8 (J8 ⟨_,rfl,J8 h⟩)) htake))
  |exact J1 (J1 (m:=Builtin.Tuple.tupleExact _) (K5 (J8 ⟨_,rfl,J8 h⟩) htake))
end
inductive yu(K:W.Frag)(H:Hp):V->String->Prop where
 |non:yu K H .non "NoneType"
 |bl (x:Bool):yu K H (.bl x) "bool"
 |int (i:Int):yu K H (.int i) "int"
 |str (x:Str):yu K H (.str x) "str"
 |lst {a:Addr}{xs:List V} (e:eP K H a xs):yu K H (.ref a) "list"
 |tup {a:Addr}{xs:List V} (e:eK K H a xs):yu K H (.ref a) "tuple"
 |dic {a:Addr}{kvs:List (pA×V)} (e:H a=some (.dK kvs)):yu K H (.ref a) "dict"
def jc (tn T:String):Bool:=tn == T || (tn == "bool" && T == "int")
def rm:List String:=["NoneType", "bool", "int", "str", "list", "tuple", "dict"]
theorem FM {K:W.Frag}:∀tn∈rm,∀T∈["int", "bool", "tuple", "list", "str", "dict"],W.kitOne K (.type tn) (.type T)=some (jc tn T):=by
 intro tn h1 T h2;simp only[rm,JN,LU,LV]at h1 h2;rcases h1 with rfl|rfl|rfl|rfl|rfl|rfl|rfl <;> rcases h2 with rfl|rfl|rfl|rfl|rfl|rfl <;> rfl
theorem yu.mem{K:W.Frag}{H:Hp}{x:V}{tn:String}(h:yu K H x tn):tn∈rm:=by
 cases h <;> decide
section
variable{X:Cx}
theorem FV{pins:List (Addr×Obj)}{σ:St}{H:Hp}{s:Shared}{A:Around}{E:Value->Shared->Prop}{Q:Value->Shared->Prop}{c:Value}{b:Bool}{x:V}{u:Value}{tn:String}(I:aP X pins σ H s)(rx:bE x u)(ty:yu X.K H x tn)(e:W.kitOne X.K (.type tn) c=some b)(h:∀tk,Q (.bool b) {s with toks:=tk}) :
  wpAny (model X.prog X.w) A (call (.builtin "isinstance") [u,c]) Q E s:=by
 cases ty with
 |non=>cases (show u=Value.none from rx);exact W.kia_one W.kitx_none I.kIn True.intro e (fun z=>nomatch z) h
 |bl y=>cases (show u=Value.bool y from rx);exact W.kia_one W.kitx_bool I.kIn True.intro e (fun z=>nomatch z) h
 |int i=>obtain⟨t,q⟩:=(show ∃t,u=Value.int i t from rx);cases q;exact W.kia_one W.kitx_int I.kIn True.intro e (fun z=>nomatch z) h
 |str y=>obtain⟨t,q⟩:=(show ∃t,u=Value.str y t from rx);cases q;exact W.kia_one W.kitx_str I.kIn True.intro e (fun z=>nomatch z) h
 | @lst a xs ea=>
  cases (show u=Value.ref a from rx);obtain⟨its,_,⟨o,n,h1,h2,_⟩,_⟩:=I.list ea;exact W.kia_one W.kitx_list I.kIn ⟨o,h1,h2⟩ e (fun z=>nomatch z) h
 | @tup a xs ea=>
  cases (show u=Value.ref a from rx);obtain⟨its,_,⟨o,h1,h2,_⟩,_⟩:=I.tuple ea;exact W.kia_one W.kitx_tuple I.kIn ⟨o,h1,h2⟩ e (fun z=>nomatch z) h
 | @dic a kvs ea=>
  cases (show u=Value.ref a from rx);obtain⟨_,_,vs,_,p⟩:=(show cA X.prog X.w H s.heap a (.dK kvs) from I.hok a _ ea);obtain⟨o,es,ep,h1,h2,_⟩:=p;exact W.kia_one W.kitx_dict I.kIn ⟨o,h1,h2.1⟩ e (fun z=>nomatch z) h
def GF(K:W.Frag):List V->Hp->VK->Prop:=fun xs H Q=>∃x T tn b,xs=[x,.ty T]/\yu K H x tn/\W.kitOne K (.type tn) (.type T)=some b/\Q (.bl b) H
theorem A3:cB X (.builtin "isinstance") (GF X.K):=by
 intro pins s σ H xs us Q I r h;obtain⟨x,T,tn,b,rfl,ty,e,q⟩:=h;obtain⟨u,u2,rfl,ru,ru2⟩:=yI r;cases ru2;exact FV I ru ty e fun tk=>⟨.bl b,H,I.tok _,rfl,q⟩
end
def Dj(μ:aA):D->Option String
 |.non=>some "NoneType"
 |.bl _=>some "bool"
 |.int _=>some "int"
 |.str _=>some "str"
 |.tup _=>some "tuple"
 |.frz _=>some "list"
 |.obj n=>match μ[n]? with
  |some (.lst _)=>some "list"
  |some .dic=>some "dict"
  |_=>none
theorem Eg{p:Pa}{H:Hp}{α:List Addr}{μ:aA}{d:D}{v:V}{tn:String}(S:p.S H α μ)(r:p.R H α d v)(h:Dj μ d=some tn):yu p.K H v tn:=by
 cases d with
 |non=>cases h;rw[bu.mp r];exact .non
 |bl b=>cases h;rw[aQ.mp r];exact .bl b
 |int b=>cases h;rw[aq.mp r];exact .int b
 |str b=>cases h;rw[bc.mp r];exact .str b
 |tup xs=>cases h;obtain⟨a,vs,rfl,h1,_⟩:=aE.mp r;exact .tup h1
 |frz xs=>cases h;obtain⟨a,vs,rfl,h1,_⟩:=bh.mp r;exact .lst h1.sq
 |obj n=>
  unfold Dj at h;dsimp only at h;split at h
  ·rename_i xs hx;cases h;obtain⟨a,us,rfl,a1,h1,_⟩:=cV S r hx;exact .lst (eP.of h1)
  ·rename_i hx;cases h;obtain⟨a,ea,q⟩:=S.at hx;obtain⟨a',rfl,ea'⟩:=aN.mp r;rw[ea]at ea';cases ea';exact .dic q
  ·cases h
def ip(T:String)(d:D)(μ:aA):ai D:=match Dj μ d with
 |some tn=>.ok (.bl (jc tn T)) μ
 |none=>.bad
theorem EI {p:Pa}{X:Cx}{a:Expr}{fa:ME}{T:String}{xT:Str}{px pt pos:Pos} (hK:X.K=p.K) (hT:T∈["int", "bool", "tuple", "list", "str", "dict"]) (hg:Gl X "isinstance") (hm:X.mg "isinstance" = none) (hgT:Gl X xT) (hmT:X.mg xT=none) (hbT:bootBuiltins xT=some (.type T)) (ha:PE X a (tD p fa))
  (hnT:xT ≠ "__name__") (hdT:(xT == ("__debug__" : Str))=false) (hs1:starEach [a,.Name xT pt] X.env=(false,eval a X.env)::starEach [.Name xT pt] X.env) :
  PE X (.Call (.Name "isinstance" px) [a,.Name xT pt] [] pos) (tD p (i7 (ip T) fa)):=by
 have hb:PE X (.Name xT pt) (tC (.ty T)):=wC hgT hmT hbT rfl hnT hdT;refine(k6 A3 hg hm NN (gX ha (gX hb oa rfl) hs1) (by decide) (by decide) hs1 rfl).weak fun σ H Q ⟨α,ρ,μ,S,R,P⟩=>⟨α,ρ,μ,S,R,(aB.bind P).imp fun d μ1 H1 α1 X1 S1 P1 v rv=>?_⟩;show GF X.K [v,.ty T] H1 Q;unfold ip at P1;split at P1
 ·rename_i tn htn;have ty:=Eg S1 rv htn;rw[hK];exact⟨v,T,tn,_,rfl,ty,FM tn ty.mem T hT,P1.now S1 _ (aQ.mpr rfl)⟩
 ·exact P1.elim
def kC:List D->Option (List Bool)
 |[]=>some []
 |.bl b::r=>(kC r).map (b::·)
 |_::_=>none
theorem oQ:∀{ds:List D}{bs:List Bool},kC ds=some bs->ds=bs.map D.bl
 |[],bs,h=>by cases h;rfl
 |.bl b::r,bs,h=>by
  unfold kC at h;cases e:kC r with
  |none=>rw[e]at h;cases h
  |some cs=>rw[e]at h;cases h;rw[oQ e];rfl
 |.non::r,bs,h=>by cases h
 |.int _::r,bs,h=>by cases h
 |.str _::r,bs,h=>by cases h
 |.tup _::r,bs,h=>by cases h
 |.frz _::r,bs,h=>by cases h
 |.obj _::r,bs,h=>by cases h
theorem ym(bs:List Bool):kC (bs.map D.bl)=some bs:=by
 induction bs with
 |nil=>rfl
 |cons b r ih=>simp only[K7,kC,ih];rfl
theorem Reps.bools{K:W.Frag}{H:Hp}{α:List Addr}:∀{bs:List Bool}{vs:List V},Reps K H α (bs.map D.bl) vs->vs=bs.map V.bl
 |[],vs,h=>by simp only[K6,Reps]at h;exact h
 |n::ns,vs,h=>by
  simp only[K7,Reps]at h;obtain⟨v,r,rfl,h1,h2⟩:=h;rw[aQ.mp h1,Reps.bools h2];rfl
theorem uZ{bs:List Bool}{us:List Value}(h:aW (bs.map V.bl) us):us=bs.map Value.bool:=by
 induction bs generalizing us with
 |nil=>cases h;rfl
 |cons b r ih=>
  cases h with
  |cons h1 h2=>cases h1;rw[ih h2];rfl
theorem yo{bs:List Bool}:(List.range bs.length).all (fun i=>bs.getD i false)=bs.all id:=by
 induction bs with
 |nil=>rfl
 |cons b r ih=>
  rw[Lx,LX,Ld,List.all_map,Ld];congr 1
section
variable{X:Cx}
def GI(K:W.Frag):List V->Hp->VK->Prop:=fun xs H Q=>∃(a:Addr)(bs:List Bool),xs=[.ref a]/\eP K H a (bs.map V.bl)/\Q (.bl (bs.all id)) H
theorem aP.fresh_it{pins:List (Addr×Obj)}{σ:St}{H:Hp}{s:Shared}(I:aP X pins σ H s){o:Obj}{h':Heap}{tk:Nat}(hk:∀b ob,b ∉ [s.heap.objs.size]->(s.heap.push o).get? b=some ob->h'.get? b=some ob):aP X pins σ H {s with heap:=h',toks:=tk}:=
 I.kept fun b ob e=>hk b ob (fun hm=>by
  have:b=s.heap.objs.size:=by simpa using hm
  subst this
  exact absurd (JB e) (JD _)) (Ka _ e)
theorem yl (hc:X.calm=true):cB X (.builtin "all") (GI X.K):=by
 intro pins s σ H xs us Q I r h;obtain⟨a,bs,rfl,ha,q⟩:=h;obtain⟨u,rfl,ru⟩:=dO r;cases ru;obtain⟨its,rv,pl,hz⟩:=I.list ha;have hi:its=bs.map Value.bool:=uZ rv
 have hne:a≠s.heap.objs.size:=by
  obtain⟨o,n,e,_⟩:=pl;exact JE (JB e)
 refine call_all_walk (MW pl.isList ?_);refine⟨s.heap.objs.size,[s.heap.objs.size,a],[s.heap.objs.size],_,_,_,fun i=>bs.getD i false,rfl,Walks.list (A:=X.A.in1) (show X.A.in1.handled=none from I.ok.hd hc) _ a hne its.toArray,⟨⟨_,Kb _ rfl,rfl,rfl⟩,pl.isList.at fun o e=>Ka _ e⟩,?_,?_⟩
 ·intro i v s' Q' E' hP hQ;subst hi;have hv:(bs.map Value.bool)[i]?=some v:=by simpa using hP
  rw[KA]at hv;cases e:bs[i]? with
  |none=>rw[e]at hv;cases hv
  |some b=>
   rw[e]at hv;cases hv;have:bs.getD i false=b:=by rw[Na,e];rfl
   dsimp only at hQ;rw[this]at hQ;exact JW hQ
 ·intro h' tk hk;have e2:its.toArray.size=bs.length:=by subst hi;simp
  rw[e2,yo];exact⟨.bl _,H,I.fresh_it hk,rfl,q⟩
end
def xf(ds:List D)(μ:aA):ai D:=match ds with
 |[.obj n]=>match μ[n]? with
  |some (.lst xs)=>match kC xs with
   |some bs=>.ok (.bl (bs.all id)) μ
   |none=>.bad
  |_=>.bad
 |_=>.bad
theorem Fw{p:Pa}:uA p xf (GI p.K):=by
 intro ds vs H α μ Q S r P;unfold xf at P;split at P
 ·rename_i n;split at P
  ·rename_i xs hx;split at P
   ·rename_i bs hb;obtain⟨v,rfl,r1⟩:=r.one;obtain⟨a,us,rfl,a1,h1,rr⟩:=cV S r1 hx;rw[oQ hb]at rr;exact⟨a,bs,rfl,by rw[<- rr.bools];exact eP.of h1,P.now S _ (aQ.mpr rfl)⟩
   ·exact P.elim
  ·exact P.elim
 ·exact P.elim
def sL(ds:List D)(μ:aA):ai D:=match ds with
 |[.tup xs]=>.ok (.int xs.length) μ
 |[.frz xs]=>.ok (.int xs.length) μ
 |[.str x]=>if x.length<=sizeLine then .ok (.int x.length) μ else .bad
 |[.obj n]=>match μ[n]? with
  |some (.lst xs)=>.ok (.int xs.length) μ
  |_=>.bad
 |_=>.bad
theorem wD{p:Pa}:uA p sL (fun xs H Q=>∃x n,xs=[x]/\D3 p.K x H n/\Q (.int n) H):=by
 intro ds vs H α μ Q S r P;unfold sL at P;split at P
 ·rename_i xs;obtain⟨v,rfl,r1⟩:=r.one;obtain⟨a,us,rfl,h1,rr⟩:=aE.mp r1;exact⟨_,xs.length,rfl,.inr ⟨us,h1,rr.length.symm⟩,P.now S _ (aq.mpr rfl)⟩
 ·rename_i xs;obtain⟨v,rfl,r1⟩:=r.one;obtain⟨a,us,rfl,h1,rr⟩:=bh.mp r1;exact⟨_,xs.length,rfl,.inl ⟨us,h1.sq,rr.length.symm⟩,P.now S _ (aq.mpr rfl)⟩
 ·rename_i x;obtain⟨v,rfl,r1⟩:=r.one;split at P
  ·rename_i hl;exact⟨v,x.length,rfl,by rw[bc.mp r1];exact⟨hl,rfl⟩,P.now S _ (aq.mpr rfl)⟩
  ·exact P.elim
 ·rename_i n;split at P
  ·rename_i xs hx;obtain⟨v,rfl,r1⟩:=r.one;obtain⟨a,us,rfl,a1,h1,rr⟩:=cV S r1 hx;exact⟨_,xs.length,rfl,.inl ⟨us,eP.of h1,rr.length.symm⟩,P.now S _ (aq.mpr rfl)⟩
  ·exact P.elim
 ·exact P.elim
def d9(ds:List D)(μ:aA):ai D:=match ds with
 |[.tup xs]=>.ok (.tup xs) μ
 |[.frz xs]=>.ok (.tup xs) μ
 |[.obj n]=>match μ[n]? with
  |some (.lst xs)=>.ok (.tup xs) μ
  |_=>.bad
 |_=>.bad
theorem AB{p:Pa}:uA p d9 (fun xs H Q=>∃q ys,xs=[.ref q]/\((eP p.K H q ys/\∀l,H l=none->Q (.ref l) (bx H l (.tup ys)))\/(eK p.K H q ys/\Q (.ref q) H))):=by
 intro ds vs H α μ Q S r P;unfold d9 at P;split at P
 ·rename_i xs;obtain⟨v,rfl,r1⟩:=r.one;obtain⟨a,us,rfl,h1,rr⟩:=aE.mp r1;exact⟨a,us,rfl,.inr ⟨h1,P.now S _ r1⟩⟩
 ·rename_i xs;obtain⟨v,rfl,r1⟩:=r.one;obtain⟨a,us,rfl,h1,rr⟩:=bh.mp r1;exact⟨a,us,rfl,.inl ⟨h1.sq,fun q hq=>P _ _ (bt hq) (S.tuple hq) _ (aE.mpr ⟨q,us,rfl,eK.of aS,rr.mono (bt hq)⟩)⟩⟩
 ·rename_i n;split at P
  ·rename_i xs hx;obtain⟨v,rfl,r1⟩:=r.one;obtain⟨a,us,rfl,a1,h1,rr⟩:=cV S r1 hx;exact⟨a,us,rfl,.inl ⟨eP.of h1,fun q hq=>P _ _ (bt hq) (S.tuple hq) _ (aE.mpr ⟨q,us,rfl,eK.of aS,rr.mono (bt hq)⟩)⟩⟩
  ·exact P.elim
 ·exact P.elim
def mP(ds:List D)(μ:aA):ai D:=match ds with
 |[.tup xs]=>.ok (.obj μ.length) (μ++[.lst xs])
 |[.frz xs]=>.ok (.obj μ.length) (μ++[.lst xs])
 |[.obj n]=>match μ[n]? with
  |some (.lst xs)=>.ok (.obj μ.length) (μ++[.lst xs])
  |_=>.bad
 |_=>.bad
theorem CF{p:Pa}:uA p mP (fun xs H Q=>∃q ys,xs=[.ref q]/\(eP p.K H q ys\/eK p.K H q ys)/\∀l,H l=none->Q (.ref l) (bx H l (.lst ys))):=by
 intro ds vs H α μ Q S r P;unfold mP at P;split at P
 ·rename_i xs;obtain⟨v,rfl,r1⟩:=r.one;obtain⟨a,us,rfl,h1,rr⟩:=aE.mp r1;refine⟨a,us,rfl,.inr h1,fun q hq=>?_⟩;obtain⟨x1,x2,x3⟩:=cN S hq rr;exact P _ _ x1 x2 _ x3
 ·rename_i xs;obtain⟨v,rfl,r1⟩:=r.one;obtain⟨a,us,rfl,h1,rr⟩:=bh.mp r1;refine⟨a,us,rfl,.inl h1.sq,fun q hq=>?_⟩;obtain⟨x1,x2,x3⟩:=cN S hq rr;exact P _ _ x1 x2 _ x3
 ·rename_i n;split at P
  ·rename_i xs hx;obtain⟨v,rfl,r1⟩:=r.one;obtain⟨a,us,rfl,a1,h1,rr⟩:=cV S r1 hx;refine⟨a,us,rfl,.inl (eP.of h1),fun q hq=>?_⟩;obtain⟨x1,x2,x3⟩:=cN S hq rr;exact P _ _ x1 x2 _ x3
  ·exact P.elim
 ·exact P.elim
def mQ(ds:List D)(μ:aA):ai D:=match ds with
 |[.int i]=>.ok (.int i) μ
 |[.bl k]=>.ok (.int (if k then 1 else 0)) μ
 |_=>.bad
theorem Fv{p:Pa}:uA p mQ (fun xs H Q=>(∃i,xs=[.int i]/\Q (.int i) H)\/∃k,xs=[.bl k]/\Q (.int (if k then 1 else 0)) H):=by
 intro ds vs H α μ Q S r P;unfold mQ at P;split at P
 ·rename_i i;obtain⟨v,rfl,r1⟩:=r.one;exact .inl ⟨i,by rw[aq.mp r1],P.now S _ (aq.mpr rfl)⟩
 ·rename_i i;obtain⟨v,rfl,r1⟩:=r.one;exact .inr ⟨i,by rw[aQ.mp r1],P.now S _ (aq.mpr rfl)⟩
 ·exact P.elim
def yZ(ds:List D)(μ:aA):ai D:=match ds with
 |[.int i,.int j]=>.ok (.int (if j>i then j else i)) μ
 |_=>.bad
def yY(ds:List D)(μ:aA):ai D:=match ds with
 |[.int i,.int j]=>.ok (.int (if j<i then j else i)) μ
 |_=>.bad
theorem CD{p:Pa}:uA p yZ (fun xs H Q=>∃i j,xs=[.int i,.int j]/\Q (.int (if j>i then j else i)) H):=by
 intro ds vs H α μ Q S r P;unfold yZ at P;split at P
 ·rename_i i j;obtain⟨v,u,rfl,r1,r2⟩:=r.two;exact⟨i,j,by rw[aq.mp r1,aq.mp r2],P.now S _ (aq.mpr rfl)⟩
 ·exact P.elim
theorem CC{p:Pa}:uA p yY (fun xs H Q=>∃i j,xs=[.int i,.int j]/\Q (.int (if j<i then j else i)) H):=by
 intro ds vs H α μ Q S r P;unfold yY at P;split at P
 ·rename_i i j;obtain⟨v,u,rfl,r1,r2⟩:=r.two;exact⟨i,j,by rw[aq.mp r1,aq.mp r2],P.now S _ (aq.mpr rfl)⟩
 ·exact P.elim
end L2
namespace L2
open PySem PySem.Spec PyProof.Rows RS
section
variable{prog:Program}{w:World}{A:Around}{E:Value->Shared->Prop}{s:Shared}
theorem uq {T:String} (hT:T = "list" \/ T = "tuple") {l:Addr}{vs:List Value}{Q:List Value->Shared->Prop}{o:Obj}{n:Nat} (ho:s.heap.get? l=some o) (hc:o.cls=.type T) (hd:o.data=.seq vs.toArray n)
  (h:Q vs {s with heap:=(s.heap.push (seqObj "list" #[] 0)).update s.heap.objs.size (Obj.mapSeq (·++vs.toArray))}) (hsz:vs.length<=sizeLine) :
  wpAny (model prog w) A (collect (.ref l)) Q E s:=by
 unfold collect;refine J1 (MX (MM entry_proto_collect' ?_));show wpAny _ _ (do again (.builtin "list.__iadd__" ⟨[<- newList [],.ref l],[]⟩)) _ _ s;refine J1 (Nj (J8 ⟨MU _ (by decide +kernel),MM entry_list_iadd' ?_⟩));show wpAny _ _ (Builtin.List.listExtendWith (.ref s.heap.objs.size) (.ref l) (.ref s.heap.objs.size)) _ _ {s with heap:=s.heap.push (seqObj "list" #[] 0)};unfold Builtin.List.listExtendWith;have ho':(s.heap.push (seqObj "list" #[] 0)).get? l=some o:=Ka _ ho;refine J1 (K3 (T:=T) ⟨o,ho',hc⟩ ?_);have h1:(Value.type "list" == Value.type "list")=true:=by rfl
 have h2:(Value.type "tuple" == Value.type "tuple")=true:=by rfl
 rw[Jz (by rcases hT with rfl|rfl <;> simp[h1,h2])];refine J1 (listItems_at ho' hd ?_);refine J1 (listItems_at (xs:=#[]) (n:=0) (Kb _ rfl) rfl ?_);rw[JA (by simp)];refine J1 (Nh (xs:=#[]) (n:=0) (Kb _ rfl) rfl ?_ (LG _) (by show (#[]++vs.toArray).size<=sizeLine+1;simp only[Array.size_append,Ki,L7];omega));refine J8 ?_
 show wpAny (model prog w) A (do
   let o <- load s.heap.objs.size
   match o.data with
   |.seq xs _=>pure xs.toList
   |_=>unsupported "internal:collect") Q E {s with heap:=(s.heap.push (seqObj "list" #[] 0)).update s.heap.objs.size (Obj.mapSeq (·++vs.toArray))}
 refine J1 (J9 (Ni (Kb _ rfl) _) ?_);show wpAny _ _ (pure ((#[]:Array Value)++vs.toArray).toList) Q E _;rw[show ((#[]:Array Value)++vs.toArray).toList=vs by simp];exact J8 h
theorem rT {T:String} (hT:T = "list" \/ T = "tuple") {l:Addr}{vs:List Value}{ns:List Int}{Q:Value->Shared->Prop}{o:Obj}{n:Nat} (ho:s.heap.get? l=some o) (hc:o.cls=.type T) (hd:o.data=.seq vs.toArray n) (hI:IntsAre vs ns) (h64:vs.length<64)
  (h:∀(out:Array Value)(ns':List Int),IntsAre out.toList ns'->ns'.Perm ns->ns'.Pairwise (·<=·)->Q (.ref (s.heap.objs.size+1)) {s with heap:=sortedAll s.heap vs out}) :
  wpAny (model prog w) A (call (.builtin "sorted") [.ref l]) Q E s:=by
 have hsz0:vs.length<=sizeLine:=JH (JI h64) (by decide);refine Nw kind_sorted plain_sorted entry_sorted (args_sorted1 _) ?_;unfold Builtin.«sorted»;refine J1 (m:=checkCount "sorted" 1 1 _) (J8 ?_);refine J1 (uq hT ho hc hd ?_ hsz0);refine J1 (Nj ?_ hsz0)
 have hsz:((s.heap.push (seqObj "list" #[] 0)).update s.heap.objs.size (Obj.mapSeq (·++vs.toArray))).objs.size=s.heap.objs.size+1:=by
  rw[Nl,Nk]
 have hoL:(((s.heap.push (seqObj "list" #[] 0)).update s.heap.objs.size (Obj.mapSeq (·++vs.toArray))).push (seqObj "list" vs.toArray 0)).get? (s.heap.objs.size+1)=some (seqObj "list" vs.toArray 0):=by
  rw[<- hsz];exact Kb _ rfl
 show wpAny _ _ _ _ _ {s with heap:=((s.heap.push (seqObj "list" #[] 0)).update s.heap.objs.size (Obj.mapSeq (·++vs.toArray))).push (seqObj "list" vs.toArray 0)};rw[hsz];refine J1 (J2 (K0 slot_list_sort ⟨_,hoL,rfl⟩ Nx (list_sort_tree hoL hI h64 fun out ns' a1 a2 a3=>⟨_,rfl,?_⟩) (args_list_sort _)));exact J8 ⟨_,rfl,h out ns' a1 a2 a3⟩
end
theorem pF{h:Heap}{vs:List Value}{out:Array Value}{b:Addr}{u:Obj}(e:h.get? b=some u):(sortedAll h vs out).get? b=some u:=by
 have hb:=JB e;have n1:b≠h.objs.size:=JE hb;have n2:b≠h.objs.size+1:=JE (Lz hb);unfold sortedAll sortedHeap;rw[Np _ _ _ _ n2];refine Ka _ (Ka _ ?_);rw[Np _ _ _ _ n2];refine Ka _ ?_;rw[Np _ _ _ _ n1];exact Ka _ e
theorem pG {h:Heap}{vs:List Value}{out:Array Value}:∃n,(sortedAll h vs out).get? (h.objs.size+1)=some (seqObj "list" out n):=by
 unfold sortedAll sortedHeap
 have hsz:((h.push (seqObj "list" #[] 0)).update h.objs.size (Obj.mapSeq (·++vs.toArray))).objs.size=h.objs.size+1:=by
  rw[Nl,Nk]
 have hoL:(((h.push (seqObj "list" #[] 0)).update h.objs.size (Obj.mapSeq (·++vs.toArray))).push (seqObj "list" vs.toArray 0)).get? (h.objs.size+1)=some (seqObj "list" vs.toArray 0):=by
  rw[<- hsz];exact Kb _ rfl
 have g1:=Ni hoL (fun _=>#[]);have g2:=Ka (seqObj "list" #[] 0) (Ka (seqObj "tuple" vs.toArray 0) g1);exact⟨_,Ni g2 (fun _=>out)⟩
theorem lq{us:List Value}{ns:List Int}(h:IntsAre us ns):aW (ns.map V.int) us:=by
 induction h with
 |nil=>exact .nil
 |cons n t _ ih=>exact .cons ⟨t,rfl⟩ ih
section
variable{X:Cx}
def zl(K:W.Frag):List V->Hp->VK->Prop:=fun xs H Q=>∃(a:Addr)(ns:List Int),xs=[.ref a]/\(eP K H a (ns.map V.int)\/eK K H a (ns.map V.int))/\ns.length<64 /\
 ∀ns':List Int,ns'.Perm ns->ns'.Pairwise (·<=·)->∀l,H l=none->Q (.ref l) (bx H l (.lst (ns'.map V.int)))
theorem vI:cB X (.builtin "sorted") (zl X.K):=by
 intro pins s σ H xs us Q I r h;obtain⟨a,ns,rfl,ha,hl,q⟩:=h;obtain⟨u,rfl,ru⟩:=dO r;cases ru
 have core:∀(T:String),T = "list" \/ T = "tuple" -> ∀(its:List Value) (o:Obj) (n:Nat),s.heap.get? a=some o->o.cls=.type T->o.data=.seq its.toArray n->aW (ns.map V.int) its->wpAny (model X.prog X.w) X.A (call (.builtin "sorted") [.ref a]) (EP X pins σ Q) X.xe s:=by
  intro T hT its o n e1 e2 e3 rv;have hI:IntsAre its ns:=eB rv;refine rT hT e1 e2 e3 hI (by rw[hI.length];exact hl) fun out ns' h1 h2 h3=>?_;refine⟨.ref (s.heap.objs.size+1),bx H (s.heap.objs.size+1) (.lst (ns'.map V.int)),I.laid (t':=s.toks) (fun b ob e=>pF e) (Li _) ?_,rfl,q ns' h2 h3 _ (I.hok.fresh (Li _))⟩;obtain⟨m,e⟩:=pG (h:=s.heap) (vs:=its) (out:=out);refine⟨?_,out.toList,m,lq h1,by simpa using e⟩;rw[KE,h2.length_eq];exact JH (JI hl) (by decide)
 rcases ha with ha|ha
 ·obtain⟨its,rv,⟨o,n,e1,e2,_,e3⟩,hz⟩:=I.list ha;exact core "list" (.inl rfl) its o n e1 e2 e3 rv
 ·obtain⟨its,rv,⟨o,e1,e2,n,e3⟩,hz⟩:=I.tuple ha;exact core "tuple" (.inr rfl) its o n e1 e2 e3 rv
theorem pW{pins:List (Addr×Obj)}{σ:St}{H:Hp}{s:Shared}{r:Addr}{k:List Int}(I:aP X pins σ H s)(h:eK X.K H r (k.map V.int)):Tk X.prog X.w s.heap k r:=by
 obtain⟨its,rv,⟨o,e1,e2,n,e3⟩,_⟩:=I.tuple h;refine⟨o,its.toArray,n,e1,e2,e3,?_⟩
 have core:∀(k:List Int)(its:List Value),aW (k.map V.int) its->PySem.ItemsAre (intKind X.prog X.w) k its:=by
  intro k
  induction k with
  |nil=>intro its h;cases h;exact .nil
  |cons i r ih=>
   intro its h;cases h with
   |cons h1 h2=>
    obtain⟨t,rfl⟩:=h1;exact .cons (by simp[intKind,Value.isInt]) (ih _ h2)
 simpa using core k its rv
def ji(qs:List KP):List V:=qs.map fun p=>V.ref p.2
theorem l6:∀{qs:List KP}{its:List Value},aW (ji qs) its->its=qs.map fun p=>Value.ref p.2
 |[],its,h=>by cases h;rfl
 |q::qs,its,h=>by
  cases h with
  |cons h1 h2=>cases h1;rw[l6 h2];rfl
theorem mT:∀(qs:List KP),aW (ji qs) (aU qs)
 |[]=>.nil
 |q::qs=>.cons rfl (mT qs)
def yM(K:W.Frag)(w:World):List V->Hp->VK->Prop:=fun xs H Q=>∃(a:Addr)(qs:List KP),xs=[.ref a]/\(eP K H a (ji qs)\/eK K H a (ji qs))/\(∀p∈qs,p.1∈prs/\eK K H p.2 (p.1.map V.int)) /\
 ∀l,H l=none->Q (.ref l) (bx H l (.ext fun h=>bO w h l (eA qs)))
theorem yc (hc:X.calm=true) (hu:X.A.units+64<cLine):cB X (.type "set") (yM X.K X.w):=by
 intro pins s σ H xs us Q I r h;obtain⟨a,qs,rfl,ha,hq,q⟩:=h;obtain⟨u,rfl,ru⟩:=dO r;cases ru
 have fin:∀(h':Heap)(tk:Nat),bO X.w h' s.heap.objs.size (eA qs)->(∀b o,b<s.heap.objs.size->s.heap.get? b=some o->h'.get? b=some o)->EP X pins σ Q (.ref s.heap.objs.size) {s with heap:=h',toks:=tk}:=by
  intro h' tk hS hk;refine⟨.ref s.heap.objs.size,bx H s.heap.objs.size (.ext fun h=>bO X.w h s.heap.objs.size (eA qs)),I.laid (t':=tk) (fun b ob e=>hk b ob (JB e) e) (Kc _) ?_,rfl,q _ (I.hok.fresh (Kc _))⟩;refine⟨hS,?_,fun h1 h2 g k=>g.keeps k⟩;obtain⟨o,es,ep,t,Z,S0,_⟩:=hS;exact⟨o,S0.ho⟩
 rcases ha with ha|ha
 ·obtain⟨its,rv,pl,hz⟩:=I.list ha;exact t9 (I.ok.hd hc) pl.isList (by simpa using l6 rv) (fun p hp=>(hq p hp).1) (fun p hp=>pW I (hq p hp).2) (by omega) fin
 ·obtain⟨its,rv,pl,hz⟩:=I.tuple ha;exact rW (I.ok.hd hc) pl (by simpa using l6 rv) (fun p hp=>(hq p hp).1) (fun p hp=>pW I (hq p hp).2) (by omega) fin
def zk(K:W.Frag)(w:World):List V->Hp->VK->Prop:=fun xs H Q=>∃(a:Addr)(ps:List KP),xs=[.ref a]/\H a=some (.ext fun h=>bO w h a ps)/\(∀p∈ps,eK K H p.2 (p.1.map V.int)) /\
 ∀out:List KP,out.Perm ps->gL out->∀l,H l=none->Q (.ref l) (bx H l (.lst (ji out)))
theorem vH (hc:X.calm=true):cB X (.builtin "sorted") (zk X.K X.w):=by
 intro pins s σ H xs us Q I r h;obtain⟨a,ps,rfl,ha,hT,q⟩:=h;obtain⟨u,rfl,ru⟩:=dO r;cases ru;obtain⟨hS,_⟩:=(show cA X.prog X.w H s.heap a (.ext fun h=>bO X.w h a ps) from I.hok a _ ha);refine va (I.ok.hd hc) hS (fun p hp=>pW I (hT p hp)) fun out hp hr h' D hD hk hn=>?_;refine⟨.ref D,bx H D (.lst (ji out)),I.laid (t':=s.toks) (fun b ob e=>hk b ob e) hD ?_,rfl,q out hp hr _ (I.hok.fresh hD)⟩;obtain⟨n,e⟩:=hn;refine⟨?_,aU out,n,mT out,e⟩
 have hl:out.length<=15:=by
  rw[hp.length_eq];obtain⟨o,es,ep,t,Z,S0,hk,hn⟩:=hS;exact jI hk hn
 unfold ji;rw[KE];exact JH hl (by decide)
end
end L2
namespace L2
open PySem PySem.Spec PyProof.Rows RS
def gu(qs:List KI):List KI:=qs.foldl (fun ps p=>sD ps p.1 p.2) []
theorem se(qs:List KI)(p:KI):gu (qs++[p])=sD (gu qs) p.1 p.2:=by unfold gu;rw[ML];rfl
def lW(ns:List Int):List Int:=ns.foldl (fun acc k=>if k∈acc then acc else acc++[k]) []
theorem lC:∀(qs ps:List KI),(qs.foldl (fun ps p=>sD ps p.1 p.2) ps).map (·.1)=(qs.map (·.1)).foldl (fun acc k=>if k∈acc then acc else acc++[k]) (ps.map (·.1))
 |[],ps=>rfl
 |q::qs,ps=>by
  rw[Lk,lC qs,K7,Lk];congr 1;unfold sD;split
  ·rfl
  ·rw[Mj];rfl
theorem ux(qs:List KI):(gu qs).map (·.1)=lW (qs.map (·.1)):=lC qs []
theorem lx {w:World}{h:Heap}{a:Addr} (e:h.get? a=some {cls:=.type "set",dict:=none,data:=.set #[] 0 (.fresh 0 0 (j5 w))}):cM w h a []:=
 ⟨_,_,_,_,[],⟨e,⟨rfl,rfl,rfl⟩,rfl,⟨rfl,rfl,List.Pairwise.nil,fun z hz=>by simp at hz,rfl,fun z hz=>by simp at hz⟩,rfl,rfl,.inl ⟨rfl,by decide⟩,List.Perm.nil⟩,fun p hp=>by simp at hp,Ms⟩
def lO(p:KI):Value:=Value.int p.1 p.2
section
variable{prog:Program}{w:World}{A:Around}{E:Value->Shared->Prop}{s:Shared}
theorem qJ{qs:List KI}{S:Addr}{u:Nat}(hk:∀p∈qs,p.1∈ins):yG prog w u S (qs.map lO) (fun i h=>cM w h S (gu (qs.take i))):=by
 refine⟨fun i h h' hk' j1=>j1.keeps fun o e=>hk' S o (Kc _) e,fun A i v s E Q hA hv j1 hQ=>?_⟩;rw[KA]at hv;cases e:qs[i]? with
 |none=>rw[e]at hv;cases hv
 |some p=>
  rw[e]at hv;cases hv;have hpm:p∈qs:=KC e;unfold setAdd lO;refine J2 ?_;refine J1 (wpAny_pyHash_int ?_);refine Dh (s:={s with toks:=s.toks+1}) j1 (hk p hpm) fun b h' hsb hS2=>?_;have etk:qs.take (i+1)=qs.take i++[p]:=by rw[MY,e];rfl
  refine hQ b h' _ (Nat.le_add_right _ _) hsb (by rw[etk,se];exact hS2)
theorem qp:∀(qs:List KI),IntsAre (qs.map lO) (qs.map (·.1))
 |[]=>.nil
 |p::qs=>.cons p.1 p.2 (qp qs)
theorem tN{vs:List Value}{ns:List Int}(h:IntsAre vs ns):∃qs:List KI,vs=qs.map lO/\qs.map (·.1)=ns:=by
 induction h with
 |nil=>exact⟨[],rfl,rfl⟩
 |cons n t _ ih=>
  obtain⟨qs,e1,e2⟩:=ih;exact⟨(n,t)::qs,by rw[e1];rfl,by rw[<- e2];rfl⟩
theorem t7{a:Addr}{ps:List KI}{Q:Value->Shared->Prop}(hh:A.handled=none)(S:cM w s.heap a ps)
  (h:∀(out:List Value) (ns':List Int),IntsAre out ns'->ns'.Perm (ps.map (·.1))->ns'.Pairwise (·<=·)->∀h' D,s.heap.objs.size<=D->(∀b u,s.heap.get? b=some u->h'.get? b=some u)->(∃n,h'.get? D=some (seqObj "list" out.toArray n))->Q (.ref D) {s with heap:=h'}) :
  wpAny (model prog w) A (call (.builtin "sorted") [.ref a]) Q E s:=by
 obtain⟨o,es,ep,t,Z,S,hk,hn⟩:=S;have h6:=jv hk hn;refine Nw kind_sorted plain_sorted entry_sorted (args_sorted1 _) ?_;unfold Builtin.«sorted»;refine J1 (m:=checkCount "sorted" 1 1 _) (J8 ?_);refine J1 (mX (by simpa using hh) S (by rw[S.len,KE];omega) fun qs hqs h1 k1 hsz=>?_);obtain⟨rs,q1,q2⟩:=lA hqs ps rfl;have q3:qs.map (·.2)=rs.map lO:=by rw[q2,LY];rfl
 rw[q3];have hvl:(rs.map lO).length<=6:=by rw[KE,q1.length_eq];exact h6
 refine J1 (Nj ?_ (JH hvl (by decide)));have hoL:(h1.push (seqObj "list" (rs.map lO).toArray 0)).get? h1.objs.size=some (seqObj "list" (rs.map lO).toArray 0):=Kb _ rfl;have hnn:∀b u,h1.get? b=some u->b≠h1.objs.size:=fun b u q=>JE (JB q);refine J1 (J2 (K0 slot_list_sort (s:={s with heap:=h1.push (seqObj "list" (rs.map lO).toArray 0)}) ⟨_,hoL,rfl⟩ Nx ?body (args_list_sort _)))
 case body=>
  refine list_sort_tree (s:={s with heap:=h1.push (seqObj "list" (rs.map lO).toArray 0)}) hoL (qp rs) (by omega) fun out ns' a1 a2 a3=>⟨_,rfl,?_⟩;refine J8 ⟨_,rfl,h out.toList ns' a1 (a2.trans (q1.map _)) a3 _ h1.objs.size hsz (fun b u q=>?_) ?_⟩
  ·have hb:=hnn b u (k1 b u q);unfold sortedHeap;rw[Np _ _ _ _ hb];refine Ka _ (Ka _ ?_);rw[Np _ _ _ _ hb];exact Ka _ (k1 b u q)
  ·unfold sortedHeap;have g1:=Ni hoL (fun _=>#[]);have g2:=Ka (seqObj "list" #[] 0) (Ka (seqObj "tuple" (rs.map lO).toArray 0) g1);exact⟨_,Ni g2 (fun _=>out)⟩
end
section
variable{X:Cx}
def yN(K:W.Frag)(w:World):List V->Hp->VK->Prop:=fun xs H Q=>∃(a:Addr)(ns:List Int),xs=[.ref a]/\(eP K H a (ns.map V.int)\/eK K H a (ns.map V.int))/\(∀n∈ns,n∈ins) /\
 ∀l,H l=none->∀ps:List KI,ps.map (·.1)=lW ns->(∀p∈ps,p.1∈ins)->(ps.map (·.1)).Nodup->Q (.ref l) (bx H l (.ext fun h=>cM w h l ps))
theorem yd (hc:X.calm=true) (hu:X.A.units+64<cLine):cB X (.type "set") (yN X.K X.w):=by
 intro pins s σ H xs us Q I r h;obtain⟨a,ns,rfl,ha,hq,q⟩:=h;obtain⟨u,rfl,ru⟩:=dO r;cases ru
 have fin:∀(qs:List KI),qs.map (·.1)=ns->∀(h':Heap)(tk:Nat),cM X.w h' s.heap.objs.size (gu qs)->(∀b o,b<s.heap.objs.size->s.heap.get? b=some o->h'.get? b=some o)->EP X pins σ Q (.ref s.heap.objs.size) {s with heap:=h',toks:=tk}:=by
  intro qs eq h' tk hS hk;obtain⟨o,es,ep,t,Z,S0,k1,k2⟩:=id hS;refine⟨.ref s.heap.objs.size,bx H s.heap.objs.size (.ext fun h=>cM X.w h s.heap.objs.size (gu qs)),I.laid (t':=tk) (fun b ob e=>hk b ob (JB e) e) (Kc _) ?_,rfl,q _ (I.hok.fresh (Kc _)) _ (by rw[ux,eq]) k1 k2⟩;exact⟨hS,⟨o,S0.ho⟩,fun h1 h2 g k=>g.keeps k⟩
 rcases ha with ha|ha
 ·obtain ⟨its, rv, pl, hz⟩ := I.list ha;obtain⟨qs,e1,e2⟩:=tN (eB rv);subst e1;have hsz:(qs.map lO).toArray.size=qs.length:=by rw[Ki,KE]
  refine lu (I.ok.hd hc) pl.isList (J:=fun i h=>cM X.w h s.heap.objs.size (gu (qs.take i))) ?_ (fun h' k e=>lx e) fun h' tk j1=>fin qs e2 h' tk ?_
  ·exact qJ fun p hp=>hq _ (by rw[<- e2];exact Mg hp)
  ·rw[hsz,MZ]at j1;exact j1
 ·obtain ⟨its, rv, pl, hz⟩ := I.tuple ha;obtain⟨qs,e1,e2⟩:=tN (eB rv);subst e1;have hsz:(qs.map lO).toArray.size=qs.length:=by rw[Ki,KE]
  refine j6 (I.ok.hd hc) pl (J:=fun i h=>cM X.w h s.heap.objs.size (gu (qs.take i))) ?_ (fun h' k e=>lx e) fun h' tk j1=>fin qs e2 h' tk ?_
  ·exact qJ fun p hp=>hq _ (by rw[<- e2];exact Mg hp)
  ·rw[hsz,MZ]at j1;exact j1
def zj(w:World):List V->Hp->VK->Prop:=fun xs H Q=>∃(a:Addr)(ps:List KI),xs=[.ref a]/\H a=some (.ext fun h=>cM w h a ps) /\
 ∀ns':List Int,ns'.Perm (ps.map (·.1))->ns'.Pairwise (·<=·)->∀l,H l=none->Q (.ref l) (bx H l (.lst (ns'.map V.int)))
theorem vG (hc:X.calm=true):cB X (.builtin "sorted") (zj X.w):=by
 intro pins s σ H xs us Q I r h;obtain⟨a,ps,rfl,ha,q⟩:=h;obtain⟨u,rfl,ru⟩:=dO r;cases ru;obtain⟨hS,_⟩:=(show cA X.prog X.w H s.heap a (.ext fun h=>cM X.w h a ps) from I.hok a _ ha);obtain⟨o,es,ep,t,Z,S0,k1,k2⟩:=id hS;have h6:=jv k1 k2;refine t7 (I.ok.hd hc) hS fun out ns' a1 a2 a3 h' D hD hk hn=>?_;refine⟨.ref D,bx H D (.lst (ns'.map V.int)),I.laid (t':=s.toks) (fun b ob e=>hk b ob e) hD ?_,rfl,q ns' a2 a3 _ (I.hok.fresh hD)⟩;obtain⟨n,e⟩:=hn;refine⟨?_,out,n,lq a1,e⟩;rw[KE,a2.length_eq,KE];exact JH h6 (by decide)
def Dz(w:World):List V->Hp->VK->Prop:=fun xs H Q=>∃(a:Addr)(ps:List KI),xs=[.ref a]/\H a=some (.ext fun h=>cM w h a ps)/\Q (.int ps.length) H
theorem yi:cB X (.builtin "len") (Dz X.w):=by
 intro pins s σ H xs us Q I r h;obtain⟨a,ps,rfl,ha,q⟩:=h;obtain⟨u,rfl,ru⟩:=dO r;cases ru;obtain⟨hS,_⟩:=(show cA X.prog X.w H s.heap a (.ext fun h=>cM X.w h a ps) from I.hok a _ ha);obtain⟨o,es,ep,t,Z,S0,k1,k2⟩:=id hS;have h6:=jv k1 k2;have hsz:es.size=ps.length:=by rw[S0.tab.size.2,S0.len,KE]
 refine PySem.call_len_set S0.ho S0.ex S0.hd S0.fits (by rw[hsz];omega) ⟨.int ps.length,H,?_,⟨_,by rw[hsz]⟩,q⟩;exact I.tok _
def DA(w:World):List V->Hp->VK->Prop:=fun xs H Q=>∃(a:Addr)(ps:List KP),xs=[.ref a]/\H a=some (.ext fun h=>bO w h a ps)/\Q (.int ps.length) H
theorem yj:cB X (.builtin "len") (DA X.w):=by
 intro pins s σ H xs us Q I r h;obtain⟨a,ps,rfl,ha,q⟩:=h;obtain⟨u,rfl,ru⟩:=dO r;cases ru;obtain⟨hS,_⟩:=(show cA X.prog X.w H s.heap a (.ext fun h=>bO X.w h a ps) from I.hok a _ ha);obtain⟨o,es,ep,t,Z,S0,k1,k2⟩:=id hS;have h6:=jI k1 k2;have hsz:es.size=ps.length:=by rw[S0.tab.size.2,S0.len,KE]
 refine PySem.call_len_set S0.ho S0.ex S0.hd S0.fits (by rw[hsz];omega) ⟨.int ps.length,H,?_,⟨_,by rw[hsz]⟩,q⟩;exact I.tok _
end
end L2
namespace L2
open PySem PySem.Spec PyProof.Rows RS
def aD(k:List Int):D:=.tup (k.map D.int)
def xb:D->Option (List Int)
 |.tup [.int a,.int b]=>if 0<=a/\a<b/\b<6 then some [a,b] else none
 |_=>none
def mL:List D->Option (List (List Int))
 |[]=>some []
 |d::r=>match xb d,mL r with
  |some k,some ks=>some (k::ks)
  |_,_=>none
theorem CY{d:D}{k:List Int}(h:xb d=some k):d=aD k/\k∈prs:=by
 unfold xb at h;split at h
 ·split at h
  ·rename_i hc;cases h;exact⟨rfl,wy hc.1 hc.2.1 hc.2.2⟩
  ·cases h
 ·cases h
theorem xU{a b:Int}(h:0<=a/\a<b/\b<6):xb (.tup [.int a,.int b])=some [a,b]:=by
 simp only[xb,Jz h]
theorem tL:∀{ds:List D}{ks:List (List Int)},mL ds=some ks->ds=ks.map aD/\∀k∈ks,k∈prs
 |[],ks,h=>by cases h;exact⟨rfl,fun k hk=>by simp at hk⟩
 |d::r,ks,h=>by
  unfold mL at h;split at h
  ·rename_i k ks' h1 h2;cases h;obtain⟨e1,e2⟩:=CY h1;obtain⟨f1,f2⟩:=tL h2;refine⟨by rw[e1,f1];rfl,fun k' hk=>?_⟩;rcases JN.mp hk with z|z
   ·rw[z];exact e2
   ·exact f2 k' z
  ·cases h
theorem k7:∀{ks:List (List Int)},(∀k∈ks,k∈prs)->mL (ks.map aD)=some ks
 |[],_=>rfl
 |k::ks,h=>by
  obtain⟨a,b,rfl,h1,h2,h3⟩:=gD (h k JK);simp only[K7,mL,k7 fun k' hk=>h k' (JL _ hk)];have:xb (aD [a,b])=some [a,b]:=xU ⟨h1,h2,h3⟩;rw[this]
def ku(ks:List (List Int))(k:List Int):List (List Int):=if k∈ks then ks else ks++[k]
def bZ(ks:List (List Int)):List (List Int):=ks.foldl ku []
def eR(ks:List (List Int)):List (List Int):=prs.filter fun k=>decide (k∈ks)
theorem oU:∀(qs ps:List KP),(qs.foldl (fun ps p=>gH ps p.1 p.2) ps).map (·.1)=(qs.map (·.1)).foldl ku (ps.map (·.1))
 |[],ps=>rfl
 |q::qs,ps=>by
  rw[Lk,K7,Lk,oU qs];congr 1;unfold gH ku;split <;> simp
theorem ya(qs:List KP):(eA qs).map (·.1)=bZ (qs.map (·.1)):=oU qs []
theorem x9{ks:List (List Int)}{k:List Int}:k∈bZ ks↔k∈ks:=by
 have core:∀(ks acc:List (List Int)),k∈ks.foldl ku acc↔k∈acc\/k∈ks:=by
  intro ks
  induction ks with
  |nil=>intro acc;simp
  |cons x r ih=>
   intro acc;rw[Lk,ih];unfold ku;split
   ·rename_i hx;constructor
    ·rintro (h | h)
     ·exact .inl h
     ·exact .inr (JL _ h)
    ·rintro (h | h)
     ·exact .inl h
     ·rcases JN.mp h with z | z
      ·exact .inl (by rw[z];exact hx)
      ·exact .inr z
   ·simp[or_assoc]
 unfold bZ;rw[core];simp
theorem oJ:prs.Pairwise fun a b=>pS a<pS b:=by decide +kernel
theorem AW{l m:List (List Int)}(hl:l.Pairwise fun a b=>pS a<pS b)(hm:m.Pairwise fun a b=>pS a<pS b)(h:∀k,k∈l↔k∈m):l=m:=by
 have nl:l.Nodup:=hl.imp fun h e=>by subst e;omega
 have nm:m.Nodup:=hm.imp fun h e=>by subst e;omega
 have hp:l.Perm m:=(List.perm_ext_iff_of_nodup nl nm).mpr h;refine hp.eq_of_pairwise (le:=fun a b=>pS a<pS b) (fun a b _ _ h1 h2=>by omega) hl hm
theorem zZ{out:List KP}{ps:List KP}(hk:∀p∈ps,p.1∈prs)(hp:out.Perm ps)(hr:gL out):out.map (·.1)=eR (ps.map (·.1)):=by
 refine AW ?_ (oJ.filter _) fun k=>?_
 ·unfold gL at hr;rw[Ng];exact hr
 ·have h1 : k ∈ out.map (·.1) ↔ k ∈ ps.map (·.1) := (hp.map _).mem_iff;rw[h1];unfold eR;rw[JF,NK];constructor
  ·intro h;refine⟨?_,h⟩;obtain⟨p,hp',rfl⟩:=Mc.mp h;exact hk p hp'
  ·exact fun h=>h.2
theorem hX(ks:List (List Int)):eR (bZ ks)=eR ks:=by
 unfold eR;apply List.filter_congr;intro k _;simp only[x9]
theorem Reps.keys{K:W.Frag}{H:Hp}{α:List Addr}:∀{ks:List (List Int)}{vs:List V},Reps K H α (ks.map aD) vs->∃qs:List KP,qs.map (·.1)=ks/\vs=ji qs/\∀p∈qs,eK K H p.2 (p.1.map V.int)
 |[],vs,h=>by simp only[K6,Reps]at h;exact⟨[],rfl,h,fun p hp=>by simp at hp⟩
 |k::ks,vs,h=>by
  simp only[K7,Reps]at h;obtain⟨v,r,rfl,h1,h2⟩:=h;obtain⟨a,us,rfl,h3,h4⟩:=aE.mp h1;obtain⟨qs,e1,e2,e3⟩:=Reps.keys h2;refine⟨(k,a)::qs,by rw[K7,e1],by rw[e2];rfl,fun p hp=>?_⟩;rcases JN.mp hp with z|z
  ·subst z;rw[<- h4.ints];exact h3
  ·exact e3 p z
theorem mZ{K:W.Frag}{H:Hp}{α:List Addr}:∀{qs:List KP},(∀p∈qs,eK K H p.2 (p.1.map V.int))->Reps K H α ((qs.map (·.1)).map aD) (ji qs)
 |[],_=>Reps.nil
 |q::qs,h=>by
  refine Reps.cons (aE.mpr ⟨q.2,_,rfl,h q JK,h7 _⟩) (mZ fun p hp=>h p (JL _ hp))
def jl:List D->Option (List Int)
 |[]=>some []
 |.int i::r=>(jl r).map (i::·)
 |_::_=>none
theorem fE:∀{ds:List D}{ns:List Int},jl ds=some ns->ds=ns.map D.int
 |[],bs,h=>by cases h;rfl
 |.int b::r,bs,h=>by
  unfold jl at h;cases e:jl r with
  |none=>rw[e]at h;cases h
  |some cs=>rw[e]at h;cases h;rw[fE e];rfl
 |.non::r,bs,h=>by cases h
 |.bl _::r,bs,h=>by cases h
 |.str _::r,bs,h=>by cases h
 |.tup _::r,bs,h=>by cases h
 |.frz _::r,bs,h=>by cases h
 |.obj _::r,bs,h=>by cases h
theorem vz{ns:List Int}(h:∀n∈ns,n∈ins):(lW ns).length<=6:=by
 have core:∀(l acc:List Int),(∀n∈l,n∈ins)->(∀n∈acc,n∈ins)->acc.Nodup->(l.foldl (fun acc k=>if k∈acc then acc else acc++[k]) acc).length<=6:=by
  intro l
  induction l with
  |nil=>
   intro acc _ h2 h3;have:=iw h3 (l2:=ins) h2;exact this
  |cons x l ih=>
   intro acc h1 h2 h3;rw[Lk];have hx:=h1 x JK;split
   ·exact ih acc (fun n hn=>h1 n (JL _ hn)) h2 h3
   ·rename_i hxa;refine ih (acc++[x]) (fun n hn=>h1 n (JL _ hn)) (fun n hn=>?_) ?_
    ·rcases JP.mp hn with z | z
     ·exact h2 n z
     ·rw[LH.mp z];exact hx
    ·refine MF.mpr ⟨h3,by simp,fun u hu v hv e=>?_⟩;rw[LH.mp hv]at e;exact hxa (e ▸ hu)
 exact core ns [] h (fun n hn=>by simp at hn) Ms
def DV(xs:List D):Option (List Int):=match jl xs with
 |some ns=>if ns.all (fun n=>decide (0<=n/\n<6))=true then some ns else none
 |none=>none
theorem C1{xs:List D}{ns:List Int}(h:DV xs=some ns):xs=ns.map D.int/\∀n∈ns,n∈ins:=by
 unfold DV at h;split at h
 ·rename_i ms hm;split at h
  ·rename_i ha;cases h;refine⟨fE hm,fun n hn=>C0.mpr ?_⟩;simpa using Mw.mp ha n hn
  ·cases h
 ·cases h
def nW(xs:List D)(μ:aA):ai D:=match mL xs with
 |some ks=>.ok (.obj μ.length) (μ++[.set (bZ ks)])
 |none=>match DV xs with
  |some ns=>.ok (.obj μ.length) (μ++[.iset (lW ns)])
  |none=>.bad
def kJ(ds:List D)(μ:aA):ai D:=match ds with
 |[.tup xs]=>nW xs μ
 |[.obj n]=>match μ[n]? with
  |some (.lst xs)=>nW xs μ
  |_=>.bad
 |_=>.bad
section
variable{p:Pa}
theorem CI{H:Hp}{α:List Addr}{μ:aA}{ks:List (List Int)}{vs:List V}{Q:VK}(S:p.S H α μ)(hk:∀k∈ks,k∈prs)(r:p.Rs H α (ks.map aD) vs)(P:aB p H α (.ok (.obj μ.length) (μ++[.set (bZ ks)])) (RV p Q)) :
  ∃qs:List KP,vs=ji qs/\(∀q∈qs,q.1∈prs/\eK p.K H q.2 (q.1.map V.int))/\∀l,H l=none->Q (.ref l) (bx H l (.ext fun h=>bO p.w h l (eA qs))):=by
 obtain⟨qs,e1,e2,e3⟩:=r.keys;refine⟨qs,e2,fun q hq=>⟨hk _ (by rw[<- e1];exact Mg hq),e3 q hq⟩,fun l hl=>?_⟩;have x1:p.X H (bx H l (.ext fun h=>bO p.w h l (eA qs))) α (α++[l]):=(bt hl).trans (gN [l]);refine P _ _ x1 (S.more hl ⟨eA qs,by rw[ya,e1],aS,fun q hq=>?_,sd,fun q hq=>?_⟩) _ (aN.mpr ⟨l,rfl,by rw[<- S.len];simp⟩)
 ·exact hk _ (by rw[<- e1];exact Mg (kF hq))
 ·exact x1.tup _ _ (e3 q (kF hq))
theorem AF{H:Hp}{α:List Addr}{μ:aA}{ns:List Int}{Q:VK}(S:p.S H α μ)(hk:∀n∈ns,n∈ins)(P:aB p H α (.ok (.obj μ.length) (μ++[.iset (lW ns)])) (RV p Q)) :
  ∀l,H l=none->∀ps:List KI,ps.map (·.1)=lW ns->(∀p∈ps,p.1∈ins)->(ps.map (·.1)).Nodup->Q (.ref l) (bx H l (.ext fun h=>cM p.w h l ps)):=fun l hl ps e _ _=>by
 have x1:p.X H (bx H l (.ext fun h=>cM p.w h l ps)) α (α++[l]):=(bt hl).trans (gN [l]);exact P _ _ x1 (S.more hl ⟨ps,e,aS,vz hk⟩) _ (aN.mpr ⟨l,rfl,by rw[<- S.len];simp⟩)
theorem zg{H:Hp}{α:List Addr}{μ:aA}{xs:List D}{us:List V}{a:Addr}{Q:VK}(S:p.S H α μ)(h1:eP p.K H a us\/eK p.K H a us)(rr:p.Rs H α xs us)(P:aB p H α (nW xs μ) (RV p Q)):yM p.K p.w [.ref a] H Q\/yN p.K p.w [.ref a] H Q:=by
 unfold nW at P;split at P
 ·rename_i ks hks;obtain⟨f1,f2⟩:=tL hks;rw[f1]at rr;obtain⟨qs,e1,e2,e3⟩:=CI S f2 rr P;exact .inl ⟨a,qs,rfl,by rw[<- e1];exact h1,e2,e3⟩
 ·split at P
  ·rename_i ns hns;obtain⟨f1,f2⟩:=C1 hns;rw[f1]at rr;exact .inr ⟨a,ns,rfl,by rw[<- rr.ints];exact h1,f2,AF S f2 P⟩
  ·exact P.elim
theorem Fp:uA p kJ (fun xs H Q=>yM p.K p.w xs H Q\/yN p.K p.w xs H Q):=by
 intro ds vs H α μ Q S r P;unfold kJ at P;split at P
 ·rename_i xs;obtain⟨v,rfl,r1⟩:=r.one;obtain⟨a,us,rfl,h1,rr⟩:=aE.mp r1;exact zg S (.inr h1) rr P
 ·rename_i n;split at P
  ·rename_i xs hx;obtain⟨v,rfl,r1⟩:=r.one;obtain⟨a,us,rfl,a1,h1,rr⟩:=cV S r1 hx;exact zg S (.inl (eP.of h1)) rr P
  ·exact P.elim
 ·exact P.elim
def mJ(ns:List Int):List Int:=ns.mergeSort fun a b=>decide (a<=b)
theorem sX{ns ns':List Int}(hp:ns'.Perm ns)(hs:ns'.Pairwise (·<=·)):ns'=mJ ns:=by
 have h1:(mJ ns).Perm ns:=List.mergeSort_perm ns _
 have h2:(mJ ns).Pairwise (·<=·):=by
  have:=List.pairwise_mergeSort (le:=fun(a b:Int)=>decide (a<=b)) (fun a b c h1 h2=>by simp at *;omega) (fun a b=>by simp;omega) ns;exact this.imp fun h=>by simpa using h
 exact(hp.trans h1.symm).eq_of_pairwise (fun a b _ _ h1 h2=>NO h1 h2) hs h2
def bR(ds:List D)(μ:aA):ai D:=match ds with
 |[.tup xs]=>match jl xs with
  |some ns=>if ns.length<64 then .ok (.obj μ.length) (μ++[.lst ((mJ ns).map D.int)]) else .bad
  |none=>.bad
 |[.obj n]=>match μ[n]? with
  |some (.lst xs)=>match jl xs with
   |some ns=>if ns.length<64 then .ok (.obj μ.length) (μ++[.lst ((mJ ns).map D.int)]) else .bad
   |none=>.bad
  |some (.set ks)=>.ok (.obj μ.length) (μ++[.lst ((eR ks).map aD)])
  |some (.iset ks)=>.ok (.obj μ.length) (μ++[.lst ((mJ ks).map D.int)])
  |_=>.bad
 |_=>.bad
theorem xM:uA p bR (fun xs H Q=>(zl p.K xs H Q\/zk p.K p.w xs H Q)\/zj p.w xs H Q):=by
 intro ds vs H α μ Q S r P
 have fin:∀{ns:List Int},aB p H α (.ok (.obj μ.length) (μ++[.lst ((mJ ns).map D.int)])) (RV p Q)->∀ns':List Int,ns'.Perm ns->ns'.Pairwise (·<=·)->∀l,H l=none->Q (.ref l) (bx H l (.lst (ns'.map V.int))):=by
  intro ns P ns' h1 h2 l hl;rw[<- sX h1 h2]at P;obtain⟨x1,x2,x3⟩:=cN S hl (h7 ns');exact P _ _ x1 x2 _ x3
 unfold bR at P;split at P
 ·rename_i xs;split at P
  ·rename_i ns hns;split at P
   ·rename_i hl;obtain⟨v,rfl,r1⟩:=r.one;obtain⟨a,us,rfl,h1,rr⟩:=aE.mp r1;rw[fE hns]at rr;exact .inl (.inl ⟨a,ns,rfl,.inr (by rw[<- rr.ints];exact h1),hl,fin P⟩)
   ·exact P.elim
  ·exact P.elim
 ·rename_i n;split at P
  ·rename_i xs hx;split at P
   ·rename_i ns hns;split at P
    ·rename_i hl;obtain⟨v,rfl,r1⟩:=r.one;obtain⟨a,us,rfl,a1,h1,rr⟩:=cV S r1 hx;rw[fE hns]at rr;exact .inl (.inl ⟨a,ns,rfl,.inl (by rw[<- rr.ints];exact eP.of h1),hl,fin P⟩)
    ·exact P.elim
   ·exact P.elim
  ·rename_i ks hx;obtain⟨v,rfl,r1⟩:=r.one;obtain⟨a,ea,ps,e1,e2,e3,e4,e5⟩:=S.at hx;obtain⟨a',rfl,ea'⟩:=aN.mp r1;rw[ea]at ea';cases ea';refine .inl (.inr ⟨a,ps,rfl,e2,e5,fun out hp hr l hl=>?_⟩);have rr:p.Rs H α ((out.map (·.1)).map aD) (ji out):=mZ fun q hq=>e5 q (hp.mem_iff.mp hq);rw[zZ e3 hp hr,e1]at rr;obtain⟨x1,x2,x3⟩:=cN S hl rr;exact P _ _ x1 x2 _ x3
  ·rename_i ks hx;obtain⟨v,rfl,r1⟩:=r.one;obtain⟨a,ea,ps,e1,e2,e3⟩:=S.at hx;obtain⟨a',rfl,ea'⟩:=aN.mp r1;rw[ea]at ea';cases ea';exact .inr ⟨a,ps,rfl,e2,by rw[e1];exact fin P⟩
  ·exact P.elim
 ·exact P.elim
def kl(ds:List D)(μ:aA):ai D:=match ds with
 |[.obj n]=>match μ[n]? with
  |some (.iset ks)=>.ok (.int ks.length) μ
  |some (.set ks)=>.ok (.int ks.length) μ
  |_=>sL [.obj n] μ
 |_=>sL ds μ
theorem Fu:uA p kl (fun xs H Q=>((∃x n,xs=[x]/\D3 p.K x H n/\Q (.int n) H)\/Dz p.w xs H Q)\/DA p.w xs H Q):=by
 intro ds vs H α μ Q S r P;unfold kl at P;split at P
 ·rename_i n;split at P
  ·rename_i ks hx;obtain⟨v,rfl,r1⟩:=r.one;obtain⟨a,ea,ps,e1,e2,e3⟩:=S.at hx;obtain⟨a',rfl,ea'⟩:=aN.mp r1;rw[ea]at ea';cases ea';refine .inl (.inr ⟨a,ps,rfl,e2,P.now S _ (aq.mpr ?_)⟩);rw[<- e1,KE]
  ·rename_i ks hx;obtain⟨v,rfl,r1⟩:=r.one;obtain⟨a,ea,ps,e1,e2,e3⟩:=S.at hx;obtain⟨a',rfl,ea'⟩:=aN.mp r1;rw[ea]at ea';cases ea';refine .inr ⟨a,ps,rfl,e2,P.now S _ (aq.mpr ?_)⟩;rw[<- e1,KE]
  ·exact .inl (.inl (wD _ vs H α μ Q S r P))
 ·exact .inl (.inl (wD _ vs H α μ Q S r P))
end
section
variable{X:Cx}
def Dx(K:W.Frag):List V->Hp->VK->Prop:=fun xs H Q=>∃(a:Addr)(ns:List Int),xs=[.ref a]/\(eP K H a (ns.map V.int)\/eK K H a (ns.map V.int))/\ns≠[]/\∀m∈ns,(∀j∈ns,m<=j)->Q (.int m) H
def Dy(K:W.Frag):List V->Hp->VK->Prop:=fun xs H Q=>∃(a:Addr)(ns:List Int),xs=[.ref a]/\(eP K H a (ns.map V.int)\/eK K H a (ns.map V.int))/\ns≠[]/\∀m∈ns,(∀j∈ns,j<=m)->Q (.int m) H
theorem jJ{its:List Value}{ns:List Int}(h:IntsAre its ns){i:Nat}{v:Value}(e:its.toArray[i]?=some v):∃t,v=.int (ns.getD i 0) t/\i<ns.length:=by
 have e':its[i]?=some v:=by simpa using e
 obtain⟨n,t,rfl,hn⟩:=h.at i v e';have hi:=(JR.mp hn).1;exact⟨t,by rw[Na,hn];rfl,hi⟩
theorem tP{ns:List Int}{i:Nat}(h:i<ns.length):ns.getD i 0∈ns:=by
 rw[Na,Nt h];exact Nr h
theorem tJ{ns:List Int}{j:Int}(h:j∈ns):∃i,i<ns.length/\ns.getD i 0=j:=by
 obtain⟨i,hi,e⟩:=List.getElem_of_mem h;exact⟨i,hi,by rw[Na,Nt hi];exact e⟩
theorem yf (hc:X.calm=true):cB X (.builtin "min") (Dx X.K):=by
 intro pins s σ H xs us Q I r h;obtain⟨a,ns,rfl,ha,hne,q⟩:=h;obtain⟨u,rfl,ru⟩:=dO r;cases ru;have hpos:0<ns.length:=NP.mpr hne
 have core:∀(its:List Value)(o:Obj),IntsAre its ns->∀v s',its.toArray[argBest (fun i j=>decide (ns.getD i 0<ns.getD j 0)) (its.toArray.size-1)]?=some v->Moved [s.heap.objs.size] (fun a b=>b=a) {s with heap:=s.heap.push o} s'->EP X pins σ Q v s':=by
  intro its o hI v s' hv hm;obtain⟨t,rfl,hi⟩:=jJ hI hv;have hsz:its.toArray.size-1=ns.length-1:=by rw[Ki,hI.length]
  rw[hsz]at hi⊢;obtain⟨b1,b2⟩:=argBest_lt (fun i=>ns.getD i 0) (ns.length-1);obtain⟨hh,g,d,tk,os⟩:=s';have e1:g=s.gens:=hm.gens;have e2:d=s.drawn:=hm.drawn;have e3:os=s.os:=hm.os;subst e1 e2 e3;refine⟨.int _,H,I.fresh_it (o:=o) (h':=hh) (tk:=tk) fun b ob hb e=>hm.heap b ob hb e,⟨t,rfl⟩,q _ (tP hi) fun j hj=>?_⟩;obtain⟨i,hi',rfl⟩:=tJ hj;exact b2 i (by omega)
 have cmp:∀(its:List Value),IntsAre its ns->CmpOf X.prog X.w X.A.in1 .Lt (fun i v=>its.toArray[i]?=some v) (fun i j=>decide (ns.getD i 0<ns.getD j 0)):=by
  intro its hI i j vi vj s' Q' E' h1 h2 hQ;obtain⟨t1,rfl,_⟩:=jJ hI h1;obtain⟨t2,rfl,_⟩:=jJ hI h2;exact(PyProof.Rows.lt_int hQ:wpAny _ _ (compareOp .Lt _ _) _ _ _)
 rcases ha with ha|ha
 ·obtain ⟨its, rv, pl, hz⟩ := I.list ha;have hI:IntsAre its ns:=eB rv
  have hne:a≠s.heap.objs.size:=by
   obtain⟨o,n,e,_⟩:=pl;exact JE (JB e)
  refine call_min_walkS (MW pl.isList ?_);refine⟨s.heap.objs.size,[s.heap.objs.size,a],[s.heap.objs.size],_,_,_,_,_,rfl,(Walks.list (A:=X.A.in1) (show X.A.in1.handled=none from I.ok.hd hc) _ a hne its.toArray).toS,⟨⟨_,Kb _ rfl,rfl,rfl⟩,pl.isList.at fun o e=>Ka _ e⟩,fun b hb=>?_,by simp[hI.length,hpos],cmp its hI,fun v s' hv hm=>core its _ hI v s' hv hm⟩;obtain⟨o,n,e,_⟩:=pl;have:=JB e;simp only[JN,LU,LV]at hb;show b<(s.heap.push _).objs.size;rw[Nk];rcases hb with rfl|rfl
  ·exact Ly _
  ·exact Lz this
 ·obtain ⟨its, rv, pl, hz⟩ := I.tuple ha;have hI:IntsAre its ns:=eB rv
  have hne:a≠s.heap.objs.size:=by
   obtain⟨o,e,_⟩:=pl;exact JE (JB e)
  refine call_min_walkS (LS (show s.heap.IsTuple a its.toArray from pl) ?_);refine⟨s.heap.objs.size,[s.heap.objs.size,a],[s.heap.objs.size],_,_,_,_,_,rfl,(Walks.tuple (A:=X.A.in1) (show X.A.in1.handled=none from I.ok.hd hc) _ a hne its.toArray).toS,⟨⟨_,Kb _ rfl,rfl,rfl⟩,(show s.heap.IsTuple a its.toArray from pl).at fun o e=>Ka _ e⟩,fun b hb=>?_,by simp[hI.length,hpos],cmp its hI,fun v s' hv hm=>core its _ hI v s' hv hm⟩;obtain⟨o,e,_⟩:=pl;have:=JB e;simp only[JN,LU,LV]at hb;show b<(s.heap.push _).objs.size;rw[Nk];rcases hb with rfl|rfl
  ·exact Ly _
  ·exact Lz this
theorem yh (hc:X.calm=true):cB X (.builtin "max") (Dy X.K):=by
 intro pins s σ H xs us Q I r h;obtain⟨a,ns,rfl,ha,hne,q⟩:=h;obtain⟨u,rfl,ru⟩:=dO r;cases ru;have hpos:0<ns.length:=NP.mpr hne
 have core:∀(its:List Value)(o:Obj),IntsAre its ns->∀v s',its.toArray[argBest (fun i j=>decide (ns.getD i 0>ns.getD j 0)) (its.toArray.size-1)]?=some v->Moved [s.heap.objs.size] (fun a b=>b=a) {s with heap:=s.heap.push o} s'->EP X pins σ Q v s':=by
  intro its o hI v s' hv hm;obtain⟨t,rfl,hi⟩:=jJ hI hv;have hsz:its.toArray.size-1=ns.length-1:=by rw[Ki,hI.length]
  rw[hsz]at hi⊢;obtain⟨b1,b2⟩:=argBest_gt (fun i=>ns.getD i 0) (ns.length-1);obtain⟨hh,g,d,tk,os⟩:=s';have e1:g=s.gens:=hm.gens;have e2:d=s.drawn:=hm.drawn;have e3:os=s.os:=hm.os;subst e1 e2 e3;refine⟨.int _,H,I.fresh_it (o:=o) (h':=hh) (tk:=tk) fun b ob hb e=>hm.heap b ob hb e,⟨t,rfl⟩,q _ (tP hi) fun j hj=>?_⟩;obtain⟨i,hi',rfl⟩:=tJ hj;exact b2 i (by omega)
 have cmp:∀(its:List Value),IntsAre its ns->CmpOf X.prog X.w X.A.in1 .Gt (fun i v=>its.toArray[i]?=some v) (fun i j=>decide (ns.getD i 0>ns.getD j 0)):=by
  intro its hI i j vi vj s' Q' E' h1 h2 hQ;obtain⟨t1,rfl,_⟩:=jJ hI h1;obtain⟨t2,rfl,_⟩:=jJ hI h2;exact(PyProof.Rows.gt_int hQ:wpAny _ _ (compareOp .Gt _ _) _ _ _)
 rcases ha with ha|ha
 ·obtain ⟨its, rv, pl, hz⟩ := I.list ha;have hI:IntsAre its ns:=eB rv
  have hne:a≠s.heap.objs.size:=by
   obtain⟨o,n,e,_⟩:=pl;exact JE (JB e)
  refine call_max_walkS (MW pl.isList ?_);refine⟨s.heap.objs.size,[s.heap.objs.size,a],[s.heap.objs.size],_,_,_,_,_,rfl,(Walks.list (A:=X.A.in1) (show X.A.in1.handled=none from I.ok.hd hc) _ a hne its.toArray).toS,⟨⟨_,Kb _ rfl,rfl,rfl⟩,pl.isList.at fun o e=>Ka _ e⟩,fun b hb=>?_,by simp[hI.length,hpos],cmp its hI,fun v s' hv hm=>core its _ hI v s' hv hm⟩;obtain⟨o,n,e,_⟩:=pl;have:=JB e;simp only[JN,LU,LV]at hb;show b<(s.heap.push _).objs.size;rw[Nk];rcases hb with rfl|rfl
  ·exact Ly _
  ·exact Lz this
 ·obtain ⟨its, rv, pl, hz⟩ := I.tuple ha;have hI:IntsAre its ns:=eB rv
  have hne:a≠s.heap.objs.size:=by
   obtain⟨o,e,_⟩:=pl;exact JE (JB e)
  refine call_max_walkS (LS (show s.heap.IsTuple a its.toArray from pl) ?_);refine⟨s.heap.objs.size,[s.heap.objs.size,a],[s.heap.objs.size],_,_,_,_,_,rfl,(Walks.tuple (A:=X.A.in1) (show X.A.in1.handled=none from I.ok.hd hc) _ a hne its.toArray).toS,⟨⟨_,Kb _ rfl,rfl,rfl⟩,(show s.heap.IsTuple a its.toArray from pl).at fun o e=>Ka _ e⟩,fun b hb=>?_,by simp[hI.length,hpos],cmp its hI,fun v s' hv hm=>core its _ hI v s' hv hm⟩;obtain⟨o,e,_⟩:=pl;have:=JB e;simp only[JN,LU,LV]at hb;show b<(s.heap.push _).objs.size;rw[Nk];rcases hb with rfl|rfl
  ·exact Ly _
  ·exact Lz this
end
def GK:List Int->Int
 |[]=>0
 |x::r=>r.foldl min x
def GL:List Int->Int
 |[]=>0
 |x::r=>r.foldl max x
theorem x5(r:List Int):∀x:Int,(r.foldl min x=x\/r.foldl min x∈r)/\r.foldl min x<=x/\∀j∈r,r.foldl min x<=j:=by
 induction r with
 |nil=>intro x;exact⟨.inl rfl,Int.le_refl _,fun j hj=>by simp at hj⟩
 |cons y r ih=>
  intro x;obtain⟨h1,h2,h3⟩:=ih (min x y);rw[Lk];have m1:min x y<=x:=Int.min_le_left _ _;have m2:min x y<=y:=Int.min_le_right _ _;refine⟨?_,by omega,fun j hj=>?_⟩
  ·rcases h1 with h | h
   ·rcases (by omega : min x y = x \/ min x y = y) with e | e
    ·exact .inl (by omega)
    ·exact .inr (by rw[h,e];exact JK)
   ·exact .inr (JL _ h)
  ·rcases JN.mp hj with e | e
   ·rw[e];omega
   ·exact h3 j e
theorem x6(r:List Int):∀x:Int,(r.foldl max x=x\/r.foldl max x∈r)/\x<=r.foldl max x/\∀j∈r,j<=r.foldl max x:=by
 induction r with
 |nil=>intro x;exact⟨.inl rfl,Int.le_refl _,fun j hj=>by simp at hj⟩
 |cons y r ih=>
  intro x;obtain⟨h1,h2,h3⟩:=ih (max x y);rw[Lk];have m1:x<=max x y:=Int.le_max_left _ _;have m2:y<=max x y:=Int.le_max_right _ _;refine⟨?_,by omega,fun j hj=>?_⟩
  ·rcases h1 with h | h
   ·rcases (by omega : max x y = x \/ max x y = y) with e | e
    ·exact .inl (by omega)
    ·exact .inr (by rw[h,e];exact JK)
   ·exact .inr (JL _ h)
  ·rcases JN.mp hj with e | e
   ·rw[e];omega
   ·exact h3 j e
theorem CP{ns:List Int}{m:Int}(h:m∈ns)(hm:∀j∈ns,m<=j):m=GK ns:=by
 cases ns with
 |nil=>simp at h
 |cons x r=>
  obtain⟨h1,h2,h3⟩:=x5 r x
  have a1:m<=r.foldl min x:=by
   rcases h1 with e|e
   ·rw[e];exact hm x JK
   ·exact hm _ (JL _ e)
  have a2:r.foldl min x<=m:=by
   rcases JN.mp h with e|e
   ·rw[e];exact h2
   ·exact h3 m e
  exact NO a1 a2
theorem CQ{ns:List Int}{m:Int}(h:m∈ns)(hm:∀j∈ns,j<=m):m=GL ns:=by
 cases ns with
 |nil=>simp at h
 |cons x r=>
  obtain⟨h1,h2,h3⟩:=x6 r x
  have a1:r.foldl max x<=m:=by
   rcases h1 with e|e
   ·rw[e];exact hm x JK
   ·exact hm _ (JL _ e)
  have a2:m<=r.foldl max x:=by
   rcases JN.mp h with e|e
   ·rw[e];exact h2
   ·exact h3 m e
  exact NO a2 a1
def Bg(d:D)(μ:aA):Option (List Int):=match d with
 |.tup xs=>jl xs
 |.frz xs=>jl xs
 |.obj n=>match μ[n]? with
  |some (.lst xs)=>jl xs
  |_=>none
 |_=>none
theorem wq{p:Pa}{H:Hp}{α:List Addr}{μ:aA}{d:D}{v:V}{ns:List Int}(S:p.S H α μ)(r:p.R H α d v)(h:Bg d μ=some ns):∃a,v=.ref a/\(eP p.K H a (ns.map V.int)\/eK p.K H a (ns.map V.int)):=by
 unfold Bg at h;split at h
 ·obtain⟨a,us,rfl,h1,rr⟩:=aE.mp r;rw[fE h]at rr;exact⟨a,rfl,.inr (by rw[<- rr.ints];exact h1)⟩
 ·obtain⟨a,us,rfl,h1,rr⟩:=bh.mp r;rw[fE h]at rr;exact⟨a,rfl,.inl (by rw[<- rr.ints];exact h1.sq)⟩
 ·split at h
  ·rename_i xs hx;obtain⟨a,us,rfl,a1,h1,rr⟩:=cV S r hx;rw[fE h]at rr;exact⟨a,rfl,.inl (by rw[<- rr.ints];exact eP.of h1)⟩
  ·cases h
 ·cases h
def uJ(ds:List D)(μ:aA):ai D:=match ds with
 |[d]=>match Bg d μ with
  |some (n::ns)=>.ok (.int (GK (n::ns))) μ
  |_=>.bad
 |ds=>yY ds μ
def qS(ds:List D)(μ:aA):ai D:=match ds with
 |[d]=>match Bg d μ with
  |some (n::ns)=>.ok (.int (GL (n::ns))) μ
  |_=>.bad
 |ds=>yZ ds μ
theorem Fq{p:Pa}:uA p uJ (fun xs H Q=>Dx p.K xs H Q\/∃i j,xs=[.int i,.int j]/\Q (.int (if j<i then j else i)) H):=by
 intro ds vs H α μ Q S r P;unfold uJ at P;split at P
 ·rename_i d;split at P
  ·rename_i n ns hns;obtain⟨v,rfl,r1⟩:=r.one;obtain⟨a,rfl,h1⟩:=wq S r1 hns;refine .inl ⟨a,n::ns,rfl,h1,by simp,fun m hm hj=>?_⟩;rw[CP hm hj];exact P.now S _ (aq.mpr rfl)
  ·exact P.elim
 ·exact .inr (CC ds vs H α μ Q S r P)
theorem Ft{p:Pa}:uA p qS (fun xs H Q=>Dy p.K xs H Q\/∃i j,xs=[.int i,.int j]/\Q (.int (if j>i then j else i)) H):=by
 intro ds vs H α μ Q S r P;unfold qS at P;split at P
 ·rename_i d;split at P
  ·rename_i n ns hns;obtain⟨v,rfl,r1⟩:=r.one;obtain⟨a,rfl,h1⟩:=wq S r1 hns;refine .inl ⟨a,n::ns,rfl,h1,by simp,fun m hm hj=>?_⟩;rw[CQ hm hj];exact P.now S _ (aq.mpr rfl)
  ·exact P.elim
 ·exact .inr (CD ds vs H α μ Q S r P)
theorem oE:∀{xs:List V}{us:List Value},xs.length=us.length->(∀(i:Nat) x u,xs[i]?=some x->us[i]?=some u->bE x u)->aW xs us
 |[],[],_,_=>.nil
 |[],_::_,h,_=>by simp at h
 |_::_,[],h,_=>by simp at h
 |x::xs,u::us,h,k=>.cons (k 0 x u rfl rfl) (oE (by simpa using h) fun i x' u' h1 h2=>k (i+1) x' u' (by simpa using h1) (by simpa using h2))
section
variable{X:Cx}
def GX(ta:TA):TE:=fun σ H Q=>ta σ H fun vs H1=>∃j:Int,vs=[.int j]/\∀r,H1 r=none->Q (.ref r) (bx H1 r (.rng 0 j))
theorem xH {a:Expr}{ta:TA}{p pos:Pos} (hg:Gl X "range") (hm:X.mg "range" = none) (ha:PA X [a] ta) (hs:starEach [a] X.env=[(false,eval a X.env)]):PE X (.Call (.Name "range" p) [a] [] pos) (GX ta):=by
 intro pins s σ H Q I h;refine Call_ (ky I hg hm boot_range (Kd (cT (ha pos pins s σ H _ I h) fun us s1 ⟨vs,H1,I1,r1,q1⟩=>?_) hs rfl));obtain⟨j,e,q⟩:=q1;subst e;cases r1 with
 |cons r rr=>
  cases rr;obtain⟨t,rfl⟩:=r;refine call_range_1 ?_;refine⟨.ref s1.heap.objs.size,bx H1 s1.heap.objs.size (.rng 0 j),I1.laid (fun b ob e=>Ka _ e) (Kc _) ⟨_,_,_,Kb _ rfl⟩,rfl,q _ (I1.hok.fresh (Kc _))⟩
def ER:List V->Hp->VK->Prop:=fun xs H Q=>∃(r:Addr)(j:Int),xs=[.ref r]/\H r=some (.rng 0 j)/\-(2^62)<=j/\j<=2^20/\∀l,H l=none->Q (.ref l) (bx H l (.lst ((List.range j.toNat).map fun(i:Nat)=>V.int (i:Int))))
theorem vK (hc:X.calm=true):cB X (.type "list") ER:=by
 intro pins s σ H xs us Q I r h;obtain⟨r0,j,rfl,ha,j1,j2,q⟩:=h;obtain⟨u,rfl,ru⟩:=dO r;cases ru;obtain⟨t,u,v,hr⟩:=(show cA X.prog X.w H s.heap r0 (.rng 0 j) from I.hok r0 _ ha);have hn:Builtin.Range.rangeSize 0 j 1=((j.toNat:Nat):Int):=by rw[rangeSize_one];split <;> omega
 refine call_list_range (n:=j.toNat) (I.ok.hd hc) hr (small_one (by omega) (by omega) (by omega) (by omega)) hn (by omega) fun h' tk acc' c' hk hl hit=>?_
 have hv:aW ((List.range j.toNat).map fun(i:Nat)=>V.int (i:Int)) acc'.toList:=by
  obtain⟨e1,e2⟩:=hit;refine oE (by simp[e1]) fun i x u h1 h2=>?_;rw[KA]at h1
  have hi:i<j.toNat:=by
   have:=(JR.mp h2).1;simp[e1]at this;omega
  rw[Nd hi]at h1;cases h1;obtain⟨t,rfl⟩:=e2 i u (by simpa using h2);exact⟨t,by simp⟩
 refine⟨.ref s.heap.objs.size,bx H s.heap.objs.size (.lst ((List.range j.toNat).map fun(i:Nat)=>V.int (i:Int))),I.laid (fun b ob e=>hk b ob e) (Kc _) ⟨?_,acc'.toList,c',hv,by simpa using hl⟩,rfl,q _ (I.hok.fresh (Kc _))⟩;have:(sizeLine:Nat)=16777216:=Kh;simp only[KE,L6];omega
end
def iL(o1 o2:D->D->aA->ai D)(fa fb fc:ME):ME:=fun ρ μ=>(fa ρ μ).bind fun a μ1=>(fb ρ μ1).bind fun b μ2=>(o1 a b μ2).bind fun z μ3=>(yt z μ3).bind fun k μ4=>
 if k=true then (fc ρ μ4).bind fun c μ5=>o2 b c μ5 else .ok (.bl false) μ4
section
variable{X:Cx}{p:Pa}{a b c d:Expr}{ta tb tc td:TE}{fa fb fc fd:ME}{pos:Pos}{op op' op'':CmpOp}{r r' r'':R2}{o1 o2 o3:D->D->aA->ai D}
theorem oP(hd1:pU p o1 r)(hd2:pU p o2 r'){σ:St}{H:Hp}{Q:VK}(h:tD p (iL o1 o2 fa fb fc) σ H Q):uP r r' (tD p fa) (tD p fb) (tD p fc) σ H Q:=by
 obtain⟨α,ρ,μ,S,R,P⟩:=h;refine⟨α,ρ,μ,S,R,(aB.bind P).imp fun x μ1 H1 α1 X1 S1 P1 v rv=>⟨α1,ρ,μ1,S1,R.mono X1,(aB.bind P1).imp fun y μ2 H2 α2 X2 S2 P2 u ru=>?_⟩⟩;refine hd1 x y v u H2 α2 μ2 _ S2 (rv.mono X2) ru ((aB.bind P2).imp fun z μ3 H3 α3 X3 S3 P3 w rw'=>?_);obtain⟨k,_,e,q⟩:=lZ (aB.bind P3) rw' S3;refine⟨k,e,?_⟩;cases k with
 |true=>
  rw[Jz rfl]at q⊢;exact⟨α3,ρ,μ3,S3,((R.mono X1).mono X2).mono X3,(aB.bind q).imp fun c μ5 H5 α5 X5 S5 P5 t rt=>hd2 y c u t H5 α5 μ5 Q S5 ((ru.mono X3).mono X5) rt P5⟩
 |false=>rw[JA J6]at q⊢;exact q.now S3 _ (aQ.mpr rfl)
theorem Ad(ho:iH X (compareOp op) r)(ho':iH X (compareOp op') r')(hd1:pU p o1 r)(hd2:pU p o2 r')(ha:PE X a (tD p fa))(hb:PE X b (tD p fb))(hc:PE X c (tD p fc))
  (hm:lastMarks [op,op'] [b,c]=false):PE X (.Compare a [op,op'] [b,c] pos) (tD p (iL o1 o2 fa fb fc)):=(Ax ho ho' ha hb hc hm).weak fun σ H Q h=>oP hd1 hd2 h
theorem xl{t:TE}{f:ME}(hk:∀σ H Q,tD p f σ H Q->t σ H Q){σ:St}{H:Hp}{Q:Bool->Hp->Prop}(h:gE p (fL f) σ H Q):yK t σ H Q:=by
 obtain⟨α,ρ,μ,S,R,P⟩:=h;refine hk σ H _ ⟨α,ρ,μ,S,R,(aB.bind P).imp fun d μ1 H1 α1 X1 S1 P1 v rv=>?_⟩;obtain⟨k,_,e,q⟩:=lZ P1 rv S1;exact⟨k,e,q⟩
theorem zO(ho:iH X (compareOp op) r)(ho':iH X (compareOp op') r')(hd1:pU p o1 r)(hd2:pU p o2 r')(ha:PE X a (tD p fa))(hb:PE X b (tD p fb))(hc:PE X c (tD p fc))
  (hm:lastMarks [op,op'] [b,c]=false):PT X (.Compare a [op,op'] [b,c] pos) (gE p (fL (iL o1 o2 fa fb fc))):=(Am ho ho' ha hb hc hm).weak fun σ H Q h=>xl (fun σ H Q h=>oP hd1 hd2 h) h
def uF(d:D)(μ:aA):ai Bool:=match d with
 |.non=>.ok false μ
 |.bl b=>.ok b μ
 |.int i=>.ok (i != 0) μ
 |.str x=>if x.length<=sizeLine then .ok ((x.length:Int) != 0) μ else .bad
 |.tup xs=>.ok (!xs.isEmpty) μ
 |.frz xs=>.ok (!xs.isEmpty) μ
 |.obj n=>match μ[n]? with
  |some (.lst xs)=>.ok (!xs.isEmpty) μ
  |_=>.bad
def iq(f:ME):MT:=fun ρ μ=>(f ρ μ).bind uF
theorem Reps.isEmpty{K:W.Frag}{H:Hp}{α:List Addr}{xs:List D}{vs:List V}(r:Reps K H α xs vs):vs.isEmpty=xs.isEmpty:=by
 have:=r.length;cases xs with
 |nil=>have h:vs=[]:=NM (by simpa using this);rw[h];rfl
 |cons x r=>cases vs with
  |nil=>simp at this
  |cons _ _=>rfl
theorem Bw{d:D}{μ:aA}{H:Hp}{α:List Addr}{v:V}{R:Bool->aA->Hp->List Addr->Prop}(S:p.S H α μ)(r:p.R H α d v)(P:aB p H α (uF d μ) R):∃k,D1 p.K v H k/\R k μ H α:=by
 unfold uF at P;split at P
 ·rw[bu.mp r];exact⟨false,rfl,P.now S⟩
 ·rename_i b;rw[aQ.mp r];exact⟨b,rfl,P.now S⟩
 ·rename_i i;rw[aq.mp r];exact⟨_,rfl,P.now S⟩
 ·rename_i x;split at P
  ·rename_i hl;rw[bc.mp r];exact⟨_,⟨hl,rfl⟩,P.now S⟩
  ·exact P.elim
 ·obtain⟨a,vs,rfl,h1,h2⟩:=aE.mp r;exact⟨_,.inr (.inl ⟨vs,h1,by rw[h2.isEmpty]⟩),P.now S⟩
 ·obtain⟨a,vs,rfl,h1,h2⟩:=bh.mp r;exact⟨_,.inl ⟨vs,h1.sq,by rw[h2.isEmpty]⟩,P.now S⟩
 ·split at P
  ·rename_i xs hx;obtain⟨a,us,rfl,a1,h1,rr⟩:=cV S r hx;exact⟨_,.inl ⟨us,eP.of h1,by rw[rr.isEmpty]⟩,P.now S⟩
  ·exact P.elim
theorem zN{e:Expr}{f:ME}(hK:X.K=p.K)(h:PE X e (tD p f))(he:∀whole,isTrue e X.env whole=(do let v <- whole;standAt e.pos;holding [v] (truthy v))):PT X e (gE p (iq f)):=
 (Al h he).weak fun σ H Q ⟨α, ρ, μ, S, R, P⟩ => ⟨α, ρ, μ, S, R, (aB.bind P).imp fun d μ1 H1 α1 X1 S1 P1 v rv => by
  rw[hK];exact Bw S1 rv P1⟩
def lX(ds:List D)(μ:aA):ai D:=match ds with
 |[.int j]=>if -(2^62)<=j/\j<=2^20 then .ok (.obj μ.length) (μ++[.lst (br 0 j.toNat)]) else .bad
 |_=>.bad
theorem Aj{K:W.Frag}{H:Hp}{α:List Addr}(n:Nat):Reps K H α (br 0 n) ((List.range n).map fun(i:Nat)=>V.int (i:Int)):=by
 have:br 0 n=((List.range n).map fun(i:Nat)=>((i:Nat):Int)).map D.int:=by
  unfold br;rw[LY];apply LZ;intro i _;simp
 rw[this];have h2:((List.range n).map fun(i:Nat)=>V.int (i:Int))=((List.range n).map fun(i:Nat)=>((i:Nat):Int)).map V.int:=by rw[LY];rfl
 rw[h2];exact h7 _
theorem Ac {fr:MA}{pl pr pos p1:Pos} (hc:X.calm=true) (hg:Gl X "range") (hm:X.mg "range" = none) (hgl:Gl X "list") (hml:X.mg "list" = none) (ha:PA X [a] (i8 p fr)) (hs:starEach [a] X.env=[(false,eval a X.env)]) :
  PE X (.Call (.Name "list" pl) [.Call (.Name "range" pr) [a] [] p1] [] pos) (tD p (ax lX fr)):=by
 refine(qh (T:="list") (vK hc) hgl hml boot_list (gX (xH hg hm ha hs) oa rfl) (by decide) (by decide) rfl rfl).weak fun σ H Q ⟨α,ρ,μ,S,R,P⟩=>⟨α,ρ,μ,S,R,(aB.bind P).imp fun ds μ1 H1 α1 X1 S1 P1 vs rv=>?_⟩;unfold lX at P1;split at P1
 ·rename_i j;obtain⟨v,rfl,r1⟩:=rv.one;split at P1
  ·rename_i hj;refine⟨j,by rw[aq.mp r1],fun r0 hr=>?_⟩;refine⟨r0,j,rfl,aS,hj.1,hj.2,fun l hl=>?_⟩;have S2:p.S (bx H1 r0 (.rng 0 j)) α1 μ1:=S1.same (bt hr) fun a ha=>aJ fun z=>ha (by rw[z];exact hr);obtain⟨x1,x2,x3⟩:=cN S2 hl (Aj j.toNat);exact P1 _ _ ((bt hr).trans x1) x2 _ x3
  ·exact P1.elim
 ·exact P1.elim
def Gw(p:Pa)(f:D->List D->aA->ai D)(r:V->List V->Hp->VK->Prop):Prop:=∀d ds v vs H α μ Q,p.S H α μ->p.R H α d v->p.Rs H α ds vs->aB p H α (f d ds μ) (RV p Q)->r v vs H Q
def so(d:D)(μ:aA):Bool:=match d with
 |.obj n=>match μ[n]? with
  |some (.lst _)=>true
  |_=>false
 |_=>false
def sr(f:D->List D->aA->ai D)(fo:ME)(fr:MA):ME:=fun ρ μ=>(fo ρ μ).bind fun o μ1=>if so o μ1=true then (fr ρ μ1).bind fun ds μ2=>f o ds μ2 else .bad
theorem FW {d:D}{μ:aA}{H:Hp}{α:List Addr}{v:V} (S:p.S H α μ) (r:p.R H α d v) (h:so d μ=true):Ii p.K "list" v H:=by
 unfold so at h;split at h
 ·split at h
  ·rename_i xs hx;obtain⟨a,us,rfl,a1,h1,rr⟩:=cV S r hx;exact .inl ⟨rfl,us,eP.of h1⟩
  ·cases h
 ·cases h
theorem vX {o e:Expr}{es:List Expr}{fo:ME}{fr:MA}{name:Str}{apos cpos:Pos}{id:String}{rr:V->List V->Hp->VK->Prop}{f:D->List D->aA->ai D} (hK:X.K=p.K) (slot:Slot "list" name id) (hty:typeOf (.builtin id)=pure (.type "method_descriptor")) (hm:Jh X id rr) (hf:Gw p f rr)
  (ho:PE X o (tD p fo)) (ha:PA X (e::es) (i8 p fr)) (hbase:attributeBase o name X.env (eval o X.env)=eval o X.env)
  (hfew : ((backTo cpos (starEach (e :: es) X.env)).all (fun x => !x.1) && (backToKw cpos (keywordEach [] X.env)).all (fun x => x.1.isSome)
   && decide ((e::es).length+([]:List Keyword).length+(if ([]:List Keyword).isEmpty then 0 else 1)<30))=true)
  (hline:(apos.endLine == cpos.line)=true) (hs:starEach (e::es) X.env=(false,eval e X.env)::starEach es X.env) (hplain:(backTo cpos (starEach es X.env)).any (·.1)=false) :
  PE X (.Call (.Attribute o name apos) (e::es) [] cpos) (tD p (sr f fo fr)):=
 (Ho PySem.F.plainAttrs_list slot hty hm ho ha hbase hfew hline hs hplain).weak fun σ H Q ⟨α, ρ, μ, S, R, P⟩ => ⟨α, ρ, μ, S, R, (aB.bind P).imp fun d μ1 H1 α1 X1 S1 P1 v rv => by
  by_cases hl:so d μ1=true
  ·rw[Jz hl]at P1;rw[hK];exact⟨FW S1 rv hl,α1,ρ,μ1,S1,R.mono X1,(aB.bind P1).imp fun ds μ2 H2 α2 X2 S2 P2 vs rs=>hf d ds v vs H2 α2 μ2 Q S2 (rv.mono X2) rs P2⟩
  ·rw[JA hl]at P1;exact P1.elim⟩
def jr(d:D)(ds:List D)(μ:aA):ai D:=match d,ds with
 |.obj n,[.int i]=>match μ[n]? with
  |some (.lst xs)=>match vQ xs.length i with
   |some k=>match xs[k]? with
    |some y=>if -(2^63)<=i/\i<2^63 then .ok y (μ.set n (.lst (xs.eraseIdx k))) else .bad
    |none=>.bad
   |none=>.bad
  |_=>.bad
 |_,_=>.bad
theorem CM:Gw p jr zo:=by
 intro d ds v vs H α μ Q S rd rs P;unfold jr at P;split at P
 ·rename_i n i;split at P
  ·rename_i xs hx;split at P
   ·rename_i k hk;split at P
    ·rename_i y hy;split at P
     ·rename_i hb;obtain⟨a,us,rfl,a1,h1,rr⟩:=cV S rd hx;obtain⟨w,rfl,rw'⟩:=rs.one;obtain⟨z,hz,rz⟩:=rr.get hy;have hk':=(rD hk).1;have q:=rr.eraseIdx k;refine⟨a,us,i,k,z,rfl,by rw[aq.mp rw'],h1,hb.1,hb.2,by rw[rr.length];exact hk',hz,?_⟩;exact P _ _ (gZ h1) (S.put hx a1 h1 q) _ (rz.mono (gZ h1))
     ·exact P.elim
    ·exact P.elim
   ·exact P.elim
  ·exact P.elim
 ·exact P.elim
def cL(d:D)(ds:List D)(μ:aA):ai D:=match d,ds with
 |.obj n,[y]=>match μ[n]? with
  |some (.lst xs)=>if xs.length<sizeLine then .ok .non (μ.set n (.lst (xs++[y]))) else .bad
  |_=>.bad
 |_,_=>.bad
theorem CN:Gw p cL wu:=by
 intro d ds v vs H α μ Q S rd rs P;unfold cL at P;split at P
 ·rename_i n y;split at P
  ·rename_i xs hx;split at P
   ·rename_i hb;obtain⟨a,us,rfl,a1,h1,rr⟩:=cV S rd hx;obtain⟨w,rfl,rw'⟩:=rs.one;have q:=rr.snoc rw';exact⟨a,us,w,rfl,rfl,h1,by rw[rr.length];exact hb,P _ _ (gZ h1) (S.put hx a1 h1 q) _ (bu.mpr rfl)⟩
   ·exact P.elim
  ·exact P.elim
 ·exact P.elim
end
abbrev fm(K:W.Frag)(w:World):Pa:=⟨K,w,fun _ _ _ _=>False⟩
abbrev kh:D->D->aA->ai D:=dI fun i j=>.int (i-j)
noncomputable abbrev sM:D->D->aA->ai D:=DP Bn fun i j=>.int (i / j)
noncomputable abbrev pD:D->D->aA->ai D:=DP (fun _ j=>0<j) fun i j=>.int (i%j)
noncomputable abbrev xc:D->D->aA->ai D:=DP D4 fun i j=>.int (i^j.toNat)
def uX(N:List Str)(sc scope:Scope)(Nc:List Str)(cap:List (Option Nat)):Bool:=
 (scope.kind == .function)&&scope.names.all (fun y=>scope.names.lookup y.1 == some y.2) &&
 scope.names.all (fun y=>y.2 != .free || sc.names.lookup y.1 == some .cell || sc.names.lookup y.1 == some .free)&&fu N {scope:=sc,globals:=0,builtins:=0,locals:=0,cells:=[],qual:="",func:=none,code:=.none,frame:=none} scope Nc cap
theorem mv{N:List Str}{e1 e2:Env}{scope:Scope}:∀{Nc:List Str}{cap:List (Option Nat)},fu N e1 scope Nc cap=fu N e2 scope Nc cap
 |[],[]=>rfl
 |_::_,[]=>rfl
 |[],_::_=>rfl
 |_::Nc,none::cap=>by unfold fu;exact mv
 |x::Nc,some j::cap=>by unfold fu;rw[mv (Nc:=Nc) (cap:=cap) (e1:=e1) (e2:=e2)]
theorem yb{X:Cx}{N:List Str}{sc scope:Scope}{Nc:List Str}{cap:List (Option Nat)}(hN:X.N=N)(hk:∀x,(sc.names.lookup x=some .cell\/sc.names.lookup x=some .free)->X.env.kindOf x=some .cell\/X.env.kindOf x=some .free)(h:uX N sc scope Nc cap=true):bS X.N X.env scope Nc cap:=by
 unfold uX at h;simp only[K4]at h;obtain⟨⟨⟨h1,h3⟩,h4⟩,h5⟩:=h;refine⟨eq_of_beq h1,fun y hy=>?_,fun y hy hf=>?_,?_⟩
 ·exact eq_of_beq (Mw.mp h3 y hy)
 ·have := Mw.mp h4 y hy;simp only[Bool.or_eq_true,hf]at this;refine hk _ ?_;rcases this with (z|z)|z
  ·exact absurd z (by decide)
  ·exact .inl (eq_of_beq z)
  ·exact .inr (eq_of_beq z)
 ·rw[hN,mv];exact h5
theorem du{X:Cx}{N:List Str}{sc scope:Scope}{Nc:List Str}{cap:List (Option Nat)}(hN:X.N=N)(hs:X.env.scope=sc)(h:uX N sc scope Nc cap=true):bS X.N X.env scope Nc cap:=
 yb hN (fun x hx=>by subst hs;exact hx) h
structure Bx(P:Prop):Prop where
 h:P
section
variable{X:Cx}{p:Pa}{a b c d e:Expr}{es:List Expr}{fa fb fc fd f:ME}{fr:MA}{pos:Pos}{ft gt:MT}
theorem aL (i:Nat) {x:Str} (hN:X.N[i]?=some x:=by rfl) (hv:Dl X.env.scope x:=by first|exact Or.inl rfl|exact Or.inr (Or.inl rfl)|exact Or.inr (Or.inr rfl)) (hd:(x == ("__debug__" : Str))=false:=by decide) (hcd:(x == ("__classdict__" : Str))=false:=by decide):Bx (PE X (.Name x pos) (tD p (ah i))):=⟨EE (uR hN hv hd hcd)⟩
theorem bD{i j}:Bx (PE X (.Constant (.int i) j pos) (tD p (cC (.int i)))):=⟨yB E9 fun _ _=>aq.mpr rfl⟩
theorem yp{i j}:Bx (PE X (.Constant (.bool i) j pos) (tD p (cC (.bl i)))):=⟨yB Hq fun _ _=>aQ.mpr rfl⟩
theorem vO{j}:Bx (PE X (.Constant .none j pos) (tD p (cC .non))):=⟨yB E7 fun _ _=>bu.mpr rfl⟩
theorem w9{x j}:Bx (PE X (.Constant (.str x) j pos) (tD p (cC (.str x)))):=⟨yB E4 fun _ _=>bc.mpr rfl⟩
theorem Iy {x:Str}{i:Int} (h:∃t,X.mg x=some (.int i t)) (hg:Gl X x:=by rfl) (hd:(x == ("__debug__" : Str))=false:=by decide):Bx (PE X (.Name x pos) (tD p (cC (.int i)))):=Bx.mk (by
 obtain⟨t,ht⟩:=h
 exact yB (wA (v:=.int i) hg ht ⟨t,rfl⟩ hd) fun _ _=>aq.mpr rfl)
theorem dN(ha:Bx (PE X a (tD p fa)))(hb:Bx (PE X b (tD p fb)))(hK:X.K=p.K:=by rfl):Bx (PE X (.BinOp a .Add b pos) (tD p (az cv fa fb))):=⟨lT (r:=yP p.K) (hK ▸ CB) FD ha.h hb.h⟩
theorem nU(ha:Bx (PE X a (tD p fa)))(hb:Bx (PE X b (tD p fb))):Bx (PE X (.BinOp a .Sub b pos) (tD p (az kh fa fb))):=⟨lT Fe (IP fun _ _ _ _=>aq.mpr rfl) ha.h hb.h⟩
theorem vU(ha:Bx (PE X a (tD p fa)))(hb:Bx (PE X b (tD p fb))):Bx (PE X (.BinOp a .Mult b pos) (tD p (az lP fa fb))):=⟨lT Cv Fy ha.h hb.h⟩
theorem ze(ha:Bx (PE X a (tD p fa)))(hb:Bx (PE X b (tD p fb))):Bx (PE X (.BinOp a .FloorDiv b pos) (tD p (az sM fa fb))):=⟨lT Cw (yR fun _ _ _ _=>aq.mpr rfl) ha.h hb.h⟩
theorem pV(ha:Bx (PE X a (tD p fa)))(hb:Bx (PE X b (tD p fb))):Bx (PE X (.BinOp a .Mod b pos) (tD p (az pD fa fb))):=⟨lT Fj (yR fun _ _ _ _=>aq.mpr rfl) ha.h hb.h⟩
theorem Do(ha:Bx (PE X a (tD p fa)))(hb:Bx (PE X b (tD p fb))):Bx (PE X (.BinOp a .Pow b pos) (tD p (az xc fa fb))):=⟨lT Fg (yR fun _ _ _ _=>aq.mpr rfl) ha.h hb.h⟩
theorem sG(ha:Bx (PE X a (tD p fa))):Bx (PE X (.UnaryOp .USub a pos) (tD p (i7 qR fa))):=⟨Hb Ee FE ha.h⟩
structure ng(X:Cx)(p:Pa)(op:CmpOp)(o:D->D->aA->ai D):Prop where
 ex:∃r,iH X (compareOp op) r/\pU p o r
theorem jQ(hu:X.A.units+64<cLine)(hK:X.K=p.K:=by rfl):ng X p .Eq (eQ false):=⟨yC p.K false,hK ▸ Fl hu,DC⟩
theorem sy(hu:X.A.units+64<cLine)(hK:X.K=p.K:=by rfl):ng X p .NotEq (eQ true):=⟨yC p.K true,hK ▸ Fh hu,DC⟩
theorem Hx:ng X p .Is (nP false):=⟨_,Fk,Fz⟩
theorem zu:ng X p .IsNot (nP true):=⟨_,Cu,CH⟩
theorem iX{op:CmpOp}(hu:X.A.units+64<cLine)(ho:sI op=true:=by rfl)(hK:X.K=p.K:=by rfl):ng X p op (iJ op):=⟨yO p.K op,hK ▸ Cy hu ho,FC⟩
variable{op op' op'':CmpOp}{o o' o'':D->D->aA->ai D}
theorem mI(k:ng X p op o)(ha:Bx (PE X a (tD p fa)))(hb:Bx (PE X b (tD p fb)))(hm:behindInMarks op b=false:=by rfl):Bx (PE X (.Compare a [op] [b] pos) (tD p (az o fa fb))):=Bx.mk (let ⟨_,h1,h2⟩:=k.ex;EJ h1 h2 ha.h hb.h hm)
theorem cS(k:ng X p op o)(ha:Bx (PE X a (tD p fa)))(hb:Bx (PE X b (tD p fb)))(hm:behindInMarks op b=false:=by rfl):Bx (PT X (.Compare a [op] [b] pos) (gE p (fL (az o fa fb)))):=Bx.mk (let ⟨_,h1,h2⟩:=k.ex;En h1 h2 ha.h hb.h hm)
theorem GU(k:ng X p op o)(k':ng X p op' o')(ha:Bx (PE X a (tD p fa)))(hb:Bx (PE X b (tD p fb)))(hc:Bx (PE X c (tD p fc)))(hm:lastMarks [op,op'] [b,c]=false:=by rfl):Bx (PE X (.Compare a [op,op'] [b,c] pos) (tD p (iL o o' fa fb fc))):=Bx.mk (let ⟨_,h1,h2⟩:=k.ex;let ⟨_,h3,h4⟩:=k'.ex;Ad h1 h3 h2 h4 ha.h hb.h hc.h hm)
theorem Dr(k:ng X p op o)(k':ng X p op' o')(ha:Bx (PE X a (tD p fa)))(hb:Bx (PE X b (tD p fb)))(hc:Bx (PE X c (tD p fc)))(hm:lastMarks [op,op'] [b,c]=false:=by rfl):Bx (PT X (.Compare a [op,op'] [b,c] pos) (gE p (fL (iL o o' fa fb fc)))):=Bx.mk (let ⟨_,h1,h2⟩:=k.ex;let ⟨_,h3,h4⟩:=k'.ex;zO h1 h3 h2 h4 ha.h hb.h hc.h hm)
theorem yq(h:Bx (PE X e (tD p f)))(he:∀whole,isTrue e X.env whole=(do let v <- whole;standAt e.pos;holding [v] (truthy v)):=by intro _;rfl)(hK:X.K=p.K:=by rfl):Bx (PT X e (gE p (iq f))):=⟨zN hK h.h he⟩
theorem vW{rest:List Expr}(ha:Bx (PT X a (gE p ft)))(hb:Bx (PW X (.BoolOp .And (b::rest) pos) (gE p gt))):Bx (PW X (.BoolOp .And (a::b::rest) pos) (gE p (kN ft gt))):=⟨El ha.h hb.h⟩
theorem qO{rest:List Expr}(ha:Bx (PT X a (gE p ft)))(hb:Bx (PW X (.BoolOp .Or (b::rest) pos) (gE p gt))):Bx (PW X (.BoolOp .Or (a::b::rest) pos) (gE p (kr ft gt))):=⟨G6 ha.h hb.h⟩
theorem qX(ha:Bx (PT X a (gE p ft))):Bx (PW X (.BoolOp .And [a] pos) (gE p ft)):=⟨B5 ha.h⟩
theorem pX(ha:Bx (PT X a (gE p ft))):Bx (PW X (.BoolOp .Or [a] pos) (gE p ft)):=⟨ES ha.h⟩
theorem mG{op}(ha:Bx (PE X a (tD p fa))):Bx (PE X (.BoolOp op [a] pos) (tD p fa)):=⟨E5 ha.h⟩
def zr:Expr->Bool
 |.Starred _ _=>false
 |_=>true
theorem xo{a:Expr}{es:List Expr}{env:Env}(h:zr a=true):starEach (a::es) env=(false,eval a env)::starEach es env:=by
 cases a <;> first|rfl|cases h
theorem aI(ha:Bx (PE X a (tD p fa)))(hr:Bx (PA X es (i8 p fr)))(hs:zr a=true:=by rfl):Bx (PA X (a::es) (i8 p (af fa fr))):=⟨B0 ha.h hr.h (xo hs)⟩
theorem bb  : Bx (PA X [] (i8 p av)):=⟨EL⟩
theorem bf {k n:Nat}{x:Str}{F:List D->aA->ai D}{px:Pos} (h:f7 X.prog X.w X.K X.mg X.base p k x n F) (hr:dg k X.A) (ha:Bx (PA X (a::es) (i8 p fr))) (hg:Gl X x:=by rfl) (hdb:(x == ("__debug__" : Str))=false:=by decide) (he:starEach (a::es) X.env=(false,eval a X.env)::starEach es X.env:=by rfl) (hpl:(backTo pos (starEach es X.env)).any (·.1)=false:=by rfl):Bx (PE X (.Call (.Name x px) (a::es) [] pos) (tD p (ax F fr))):=⟨BY h hr hg ha.h hdb he hpl⟩
structure nT(X:Cx)(p:Pa)(x:Str)(F:List D->aA->ai D):Prop where
 ex:∃(u:Value) (r:List V->Hp->VK->Prop),((∃id,u=.builtin id)\/∃T,u=.type T)/\bootBuiltins x=some u/\cB X u r/\uA p F r/\x ≠ "__name__" /\ (x == ("__debug__" : Str))=false
theorem bK{x:Str}{F:List D->aA->ai D}{px:Pos}(k:nT X p x F)(hm:X.mg x=none)(ha:Bx (PA X (a::es) (i8 p fr)))(hg:Gl X x:=by rfl)(he:starEach (a::es) X.env=(false,eval a X.env)::starEach es X.env:=by rfl)(hpl:(backTo pos (starEach es X.env)).any (·.1)=false:=by rfl):Bx (PE X (.Call (.Name x px) (a::es) [] pos) (tD p (ax F fr))):=Bx.mk (by
 obtain⟨u,r,hu,h1,h2,h3,h4,h5⟩:=k.ex;rcases hu with⟨id,rfl⟩|⟨T,rfl⟩
 ·exact Ae h2 h3 hg hm h1 ha.h h4 h5 he hpl
 ·exact xy h2 h3 hg hm h1 ha.h h4 h5 he hpl)
theorem mS (hK:X.K=p.K:=by rfl) (hw:X.w=p.w:=by rfl):nT X p "len" kl:=⟨_,_,.inl ⟨_,rfl⟩,PySem.boot_len,(A2.or yi).or yj,by rw[hK,hw];exact Fu,by decide,by decide⟩
theorem HI (hc:X.calm=true:=by rfl) (hK:X.K=p.K:=by rfl):nT X p "all" xf:=⟨_,_,.inl ⟨_,rfl⟩,by decide +kernel,yl hc,hK ▸ Fw,by decide,by decide⟩
theorem g8 (hK:X.K=p.K:=by rfl):nT X p "tuple" d9:=⟨_,_,.inr ⟨_,rfl⟩,by decide +kernel,pQ,hK ▸ AB,by decide,by decide⟩
theorem zK (hK:X.K=p.K:=by rfl):nT X p "list" mP:=⟨_,_,.inr ⟨_,rfl⟩,by decide +kernel,r9,hK ▸ CF,by decide,by decide⟩
theorem DH:nT X p "int" mQ:=⟨_,_,.inr ⟨_,rfl⟩,by decide +kernel,yk,Fv,by decide,by decide⟩
theorem y6 (hc:X.calm=true:=by rfl) (hK:X.K=p.K:=by rfl):nT X p "min" uJ:=⟨_,_,.inl ⟨_,rfl⟩,by decide +kernel,(yf hc).or (ye hc),hK ▸ Fq,by decide,by decide⟩
theorem v8 (hc:X.calm=true:=by rfl) (hK:X.K=p.K:=by rfl):nT X p "max" qS:=⟨_,_,.inl ⟨_,rfl⟩,by decide +kernel,(yh hc).or (yg hc),hK ▸ Ft,by decide,by decide⟩
theorem y0 (hu:X.A.units+64<cLine) (hc:X.calm=true:=by rfl) (hK:X.K=p.K:=by rfl) (hw:X.w=p.w:=by rfl):nT X p "set" kJ:=⟨_,_,.inr ⟨_,rfl⟩,by decide +kernel,(yc hc hu).or (yd hc hu),by rw[hK,hw];exact Fp,by decide,by decide⟩
theorem jw (hc:X.calm=true:=by rfl) (hK:X.K=p.K:=by rfl) (hw:X.w=p.w:=by rfl):nT X p "sorted" bR:=⟨_,_,.inl ⟨_,rfl⟩,by decide +kernel,(vI.or (vH hc)).or (vG hc),by rw[hK,hw];exact xM,by decide,by decide⟩
theorem nV {T:String}{xT:Str}{px pt:Pos} (hT:T∈["int", "bool", "tuple", "list", "str", "dict"]) (hbT:bootBuiltins xT=some (.type T)) (hnT:xT ≠ "__name__") (hdT:(xT == ("__debug__" : Str))=false) (hm:X.mg "isinstance" = none) (hmT:X.mg xT=none) (ha:Bx (PE X a (tD p fa))) (hg:Gl X "isinstance" := by rfl) (hgT:Gl X xT:=by rfl) (hs1:starEach [a,.Name xT pt] X.env=(false,eval a X.env)::starEach [.Name xT pt] X.env:=by rfl) (hK:X.K=p.K:=by rfl):Bx (PE X (.Call (.Name "isinstance" px) [a,.Name xT pt] [] pos) (tD p (i7 (ip T) fa))):=⟨EI hK hT hg hm hgT hmT hbT ha.h hnT hdT hs1⟩
theorem zI:bootBuiltins "int" = some (.type "int"):=by decide +kernel
theorem wZ:bootBuiltins "bool" = some (.type "bool"):=by decide +kernel
theorem oz:bootBuiltins "tuple" = some (.type "tuple"):=by decide +kernel
theorem Ec {pl pr p1:Pos} (hm:X.mg "range" = none) (hml:X.mg "list" = none) (ha:Bx (PA X [a] (i8 p fr))) (hc:X.calm=true:=by rfl) (hg:Gl X "range" := by rfl) (hgl:Gl X "list" := by rfl) (hs:starEach [a] X.env=[(false,eval a X.env)]:=by rfl):Bx (PE X (.Call (.Name "list" pl) [.Call (.Name "range" pr) [a] [] p1] [] pos) (tD p (ax lX fr))):=⟨Ac hc hg hm hgl hml ha.h hs⟩
theorem cg(ha:Bx (PE X a (tD p fa)))(hb:Bx (PE X b (tD p fb)))(hs:rO b:=by exact fun _ _=>rfl)(hK:X.K=p.K:=by rfl):Bx (PE X (.Subscript a b pos) (tD p (az dR fa fb))):=⟨Hd hK ha.h hb.h hs⟩
theorem yz{lo hi:Option Expr}{fl fh:MO}{p2:Pos}(he:Bx (PE X e (tD p fa)))(hl:Bx (PO X lo (Dk p fl)))(hu:Bx (PO X hi (Dk p fh)))(hK:X.K=p.K:=by rfl):Bx (PE X (.Subscript e (.Slice lo hi none p2) pos) (tD p (vS fa fl fh))):=⟨Ab hK he.h hl.h hu.h⟩
theorem Dp {fo:ME}{ob:Expr}{apos:Pos} (ho:Bx (PE X ob (tD p fo))) (ha:Bx (PA X [e] (i8 p fr))) (hbase:attributeBase ob "pop" X.env (eval ob X.env)=eval ob X.env:=by rfl) (hfew:((backTo pos (starEach [e] X.env)).all (fun x=>!x.1)&&(backToKw pos (keywordEach [] X.env)).all (fun x=>x.1.isSome)
   && decide ([e].length+([]:List Keyword).length+(if ([]:List Keyword).isEmpty then 0 else 1)<30))=true:=by rfl) (hline:(apos.endLine == pos.line)=true:=by rfl) (hs:starEach [e] X.env=(false,eval e X.env)::starEach [] X.env:=by rfl) (hpl:(backTo pos (starEach [] X.env)).any (·.1)=false:=by rfl) (hK:X.K=p.K:=by rfl):Bx (PE X (.Call (.Attribute ob "pop" apos) [e] [] pos) (tD p (sr jr fo fr))):=⟨vX hK PySem.F.slot_list_pop PySem.F.type_list_pop AG CM ho.h ha.h hbase hfew hline hs hpl⟩
theorem vV {fo:ME}{ob:Expr}{apos:Pos} (ho:Bx (PE X ob (tD p fo))) (ha:Bx (PA X [e] (i8 p fr))) (hbase:attributeBase ob "append" X.env (eval ob X.env)=eval ob X.env:=by rfl) (hfew:((backTo pos (starEach [e] X.env)).all (fun x=>!x.1)&&(backToKw pos (keywordEach [] X.env)).all (fun x=>x.1.isSome)
   && decide ([e].length+([]:List Keyword).length+(if ([]:List Keyword).isEmpty then 0 else 1)<30))=true:=by rfl) (hline:(apos.endLine == pos.line)=true:=by rfl) (hs:starEach [e] X.env=(false,eval e X.env)::starEach [] X.env:=by rfl) (hpl:(backTo pos (starEach [] X.env)).any (·.1)=false:=by rfl) (hK:X.K=p.K:=by rfl):Bx (PE X (.Call (.Attribute ob "append" apos) [e] [] pos) (tD p (sr cL fo fr))):=⟨vX hK PySem.F.slot_list_append PySem.F.type_list_append qj CN ho.h ha.h hbase hfew hline hs hpl⟩
variable{tg iter elt:Expr}{fi:MI}{g:MG}{u:Be}
theorem A7(hl:Bx (PE X e (tD p f)))(hK:X.K=p.K:=by rfl):Bx (PI X tg e (sm p (jd f))):=⟨EB hK hl.h⟩
theorem pC {px:Pos} (hm:X.mg "range" = none) (ha:Bx (PA X [a] (i8 p fr))) (hg:Gl X "range" := by rfl) (hs:starEach [a] X.env=[(false,eval a X.env)]:=by rfl):Bx (PI X tg (.Call (.Name "range" px) [a] [] pos) (sm p (fS ja fr))):=⟨xv hg hm ha.h hs⟩
theorem Bi {px:Pos} (hm:X.mg "range" = none) (ha:Bx (PA X [a,b] (i8 p fr))) (hg:Gl X "range" := by rfl) (hs:starEach [a,b] X.env=[(false,eval a X.env),(false,eval b X.env)]:=by rfl) (hs2:starEach [b] X.env=[(false,eval b X.env)]:=by rfl):Bx (PI X tg (.Call (.Name "range" px) [a,b] [] pos) (sm p (fS nO fr))):=⟨xu hg hm ha.h hs hs2⟩
theorem IR {px tpos:Pos}{elts:List Expr}{k1:Nat} (hm:X.mg "enumerate" = none) (ha:Bx (PA X [a] (i8 p fr))) (hg:Gl X "enumerate" := by rfl) (hs:starEach [a] X.env=[(false,eval a X.env)]:=by rfl) (hK:X.K=p.K:=by rfl):Bx (PI X (.Tuple elts k1 tpos) (.Call (.Name "enumerate" px) [a] [] pos) (sm p (fS mO fr))):=⟨BQ hK hg hm ha.h hs⟩
theorem jO(i:Nat){x:Str}(hN:X.N.Nodup)(hi:X.N[i]?=some x:=by rfl)(hx:uC X.env.scope x:=by first|exact Or.inl rfl|exact Or.inr rfl)(hf:X.fn x=true\/X.env.scope.names.lookup x=some .local:=by first|exact .inl rfl|exact .inr rfl):Bx (PG X (.Name x pos) (pj p (ak i))):=⟨BS hN hi hx hf⟩
theorem p7  : Bx (uB X [] (sv p fW)):=⟨BR⟩
theorem gh(h1:Bx (PG X e (pj p g)))(h2:Bx (uB X es (sv p u)))(hs:(assignEach (e::es) X.env).map (·.2)=assign e X.env::(assignEach es X.env).map (·.2):=by rfl):Bx (uB X (e::es) (sv p (bA g u))):=⟨z6 h1.h h2.h hs⟩
theorem p6{k n:Nat}(h:Bx (uB X es (sv p u)))(hc:X.calm=true:=by rfl)(hn:(assignEach es X.env).length=n:=by rfl)(hst:(assignEach es X.env).findIdx? (·.1)=none:=by rfl)(hK:X.K=p.K:=by rfl):Bx (PG X (.Tuple es k pos) (pj p (fV n u))):=⟨EC hK hc h.h hn hst⟩
theorem vY{fo fi:ME}(ho:Bx (PE X a (tD p fo)))(hi:Bx (PE X b (tD p fi)))(ha:∀v,assign (.Subscript a b pos) X.env v=(do
   let ov <- holding [v] (eval a X.env)
   let iv <- holding [v,ov] (eval b X.env)
   standAt pos
   holding [v,ov,iv] (setItem ov iv v)
   release [v,ov,iv] []):=by intro _;rfl):Bx (PG X (.Subscript a b pos) (pj p (nY fo fi))):=⟨ED ho.h hi.h ha⟩
variable{ifs:List Expr}{scope:Scope}{Nc:List Str}{cap:List (Option Nat)}{tt:MT}{te:ME}
theorem lR(S:bS X.N X.env scope Nc cap)(hi:Bx (PI X tg iter (sm p fi)))(hg:∀cl C s H fp,Bx (PG (ij X Nc scope cl C s H fp) tg (pj p.nx g)))(ht:∀cl C s H fp,Bx (sh (ij X Nc scope cl C s H fp) ifs (gE p.nx tt)))(he:∀cl C s H fp,Bx (PE (ij X Nc scope cl C s H fp) elt (tD p.nx te)))(hc:X.calm=true:=by rfl)(hs:∀x,foldedSetIterable iter X.env x=pure x:=by intro _;rfl):Bx (PE X (.ListComp elt [⟨tg,iter,ifs,0⟩] scope pos) (tD p (dh fi cap g tt te))):=⟨BX hc S hi.h (fun cl C s H fp=>(hg cl C s H fp).h) (fun cl C s H fp=>(ht cl C s H fp).h) (fun cl C s H fp=>(he cl C s H fp).h) hs⟩
def w8(gs:List Comprehension):Bool:=gs.all fun g=>g.is_async == 0
theorem BA{gs:List Comprehension}(h:w8 gs=true):∀g∈gs,g.is_async=0:=fun g hg=>eq_of_beq (Mw.mp h g hg)
variable{mb:MB}{cl0:Comprehension}{rest:List Comprehension}{d:Nat}{acc:Addr}
variable{fs gs:MS}{st:Stmt}{sts A B body:List Stmt}
theorem bN(i:Nat){x:Str}{pos':Pos}(hN:X.N.Nodup)(he:Bx (PE X e (tD p f)))(hi:X.N[i]?=some x:=by rfl)(hx:uC X.env.scope x:=by first|exact Or.inl rfl|exact Or.inr rfl)(hs:swapsWith e (some (.Name x pos')) pos.line X.env=pure false:=by rfl)(hf:X.fn x=true\/X.env.scope.names.lookup x=some .local:=by first|exact .inl rfl|exact .inr rfl):Bx (PS X (.Assign [.Name x pos'] e pos) (fK p (bw f (ak i)))):=⟨Eo hN hi hx he.h hs hf⟩
theorem kx(i:Nat){x:Str}{pos1 pos2:Pos}(hN:X.N.Nodup)(S:bS X.N X.env scope Nc cap)(hi:Bx (PI X tg iter (sm p fi)))(hg:∀cl C s H fp,Bx (PG (ij X Nc scope cl C s H fp) tg (pj p.nx g)))(ht:∀cl C s H fp,Bx (sh (ij X Nc scope cl C s H fp) ifs (gE p.nx tt)))(he:∀cl C s H fp,Bx (PE (ij X Nc scope cl C s H fp) elt (tD p.nx te)))(hix:X.N[i]?=some x:=by rfl)(hx:X.env.scope.names.lookup x=some .local:=by rfl)(hc:X.calm=true:=by rfl)(hsw:swapsWith (.ListComp elt [⟨tg,iter,ifs,0⟩] scope pos) (some (.Name x pos1)) pos2.line X.env=pure true:=by rfl)(hs:∀x,foldedSetIterable iter X.env x=pure x:=by intro _;rfl):Bx (PS X (.Assign [.Name x pos1] (.ListComp elt [⟨tg,iter,ifs,0⟩] scope pos) pos2) (fK p (bw (dh fi cap g tt te) (ak i)))):=⟨BF hc hN hix hx S hi.h (fun cl C s H fp=>(hg cl C s H fp).h) (fun cl C s H fp=>(ht cl C s H fp).h) (fun cl C s H fp=>(he cl C s H fp).h) hsw hs⟩
theorem pZ(he:Bx (PE X e (tD p f)))(hg:Bx (PG X tg (pj p g)))(hs:swapsWithSole [tg] e pos.line X.env=pure false:=by rfl)(hw:swappedStores [tg] e X.env=pure none:=by rfl)(h1:(assignEach [tg] X.env).map (·.2)=[assign tg X.env]:=by rfl):Bx (PS X (.Assign [tg] e pos) (fK p (bw f g))):=⟨Eu he.h hg.h hs hw h1⟩
theorem qY(he:Bx (PE X e (tD p f)))(hs:swapsWith e none pos.line X.env=pure false:=by rfl):Bx (PS X (.Expr e pos) (fK p (j4 f))):=⟨BG he.h hs⟩
theorem jg(hp:PassesOwn (model X.prog X.w) X.A X.env X.xe)(hi:Bx (PI X tg iter (sm p fi)))(hg:Bx (PG X tg (pj p g)))(hb:Bx (gU X body (fK p fs)))(hc:X.calm=true:=by rfl)(hs:∀x,foldedSetIterable iter X.env x=pure x:=by intro _;rfl):Bx (PS X (.For tg iter body [] pos) (fK p (kf fi g fs))):=⟨Et hp hc hi.h hg.h hb.h hs⟩
theorem B1(n:Nat)(hp:PassesOwn (model X.prog X.w) X.A X.env X.xe)(hc:Bx (PT X c (gE p ft)))(hb:Bx (gU X body (fK p fs))):Bx (PS X (.While c body [] pos) (fK p (qZ n ft fs))):=⟨zR hp hc.h hb.h⟩
end
section
variable{X:Cx}{p:Pa}{a b c e:Expr}{es rest:List Expr}{fa fb f:ME}{fr:MA}{ft gt:MT}{pos:Pos}{fs gs:MS}{st:Stmt}{sts A B:List Stmt}
theorem Dn(ha:Bx (PE X a (tD p fa))):Bx (PE X (.UnaryOp .Not a pos) (tD p (sN fa))):=⟨EG ha.h⟩
theorem kM(ha:Bx (PE X a (tD p fa)))(hb:Bx (PE X (.BoolOp .And (b::rest) pos) (tD p fb))):Bx (PE X (.BoolOp .And (a::b::rest) pos) (tD p (gK fa fb))):=⟨EK ha.h hb.h⟩
theorem Iu(ha:Bx (PE X a (tD p fa)))(hb:Bx (PE X (.BoolOp .Or (b::rest) pos) (tD p fb))):Bx (PE X (.BoolOp .Or (a::b::rest) pos) (tD p (uK fa fb))):=⟨Hc ha.h hb.h⟩
theorem bM{k:Nat}(h:Bx (PA X es (i8 p fr))):Bx (PE X (.Tuple es k pos) (tD p (bT fr))):=⟨EF h.h⟩
theorem dM(h:Bx (PA X es (i8 p fr))):Bx (PE X (.List es pos) (tD p (dy fr))):=⟨EH h.h⟩
theorem ny:Bx (PO X none (Dk p yw)):=⟨BN⟩
theorem jG(h:Bx (PE X e (tD p f))):Bx (PO X (some e) (Dk p (fT f))):=⟨BM h.h⟩
theorem gW(ha:Bx (PT X a (gE p ft))):Bx (PT X (.UnaryOp .Not a pos) (gE p (dP ft))):=⟨Em ha.h⟩
theorem pB(h:Bx (PW X e (gE p ft))):Bx (PT X e (gE p ft)):=⟨h.h.pt⟩
theorem jf:Bx (sh X [] (gE p cc)):=⟨BC⟩
theorem yH(h:Bx (PT X c (gE p ft))):Bx (sh X [c] (gE p ft)):=⟨BB h.h⟩
theorem fq:Bx (gU X [] (fK p cy)):=⟨Es⟩
theorem aO(h1:Bx (PS X st (fK p fs)))(h2:Bx (gU X sts (fK p gs))):Bx (gU X (st::sts) (fK p (bo fs gs))):=⟨BH h1.h h2.h⟩
theorem aT(h1:Bx (PS X st (fK p fs))):Bx (gU X [st] (fK p fs)):=⟨Er h1.h⟩
theorem bJ(h:Bx (PE X e (tD p f))):Bx (PS X (.Return (some e) pos) (fK p (bV f))):=⟨Ep h.h⟩
theorem gF(hc:Bx (PT X c (gE p ft)))(ha:Bx (gU X A (fK p fs)))(hb:Bx (gU X B (fK p gs))):Bx (PS X (.If c A B pos) (fK p (i5 ft fs gs))):=⟨G7 hc.h ha.h hb.h⟩
end
theorem eM{P:Program}{w:World}{K:W.Frag}{mg:Str->Option Value}{base:Heap}{p:Pa}{k n:Nat}{x qual:Str}{st:Stmt}{f:Addr}{fd:FuncData}{N ps:List Str}{fb:MS}
  (F:gT K x qual st f fd) (S:aX N ps (au st)) (hn:ps.length=n) (hm:mg x=some (.ref f)) (hb:dr K fd ps [])
  (body : ∀ (cdv : Value) (A : Around) (outer : List Env) (s : Shared) (H : Hp) (E : XK), dg k (A.deeper (envOfC qual (au st) s.heap.objs.size f cdv)) ->
   Bx (gU (nQ uD P w K mg base N qual (au st) f cdv A outer s H E).nox (bC st) (fK p fb))):f7 P w K mg base p (k+1) x n (iI n N.length fb):=
 Gh F S hn hm hb fun cdv A outer s H E hr=>(body cdv A outer s H E hr).h
end L2
namespace L2
open PySem RS
section
variable{ρ:Ro}{μ:aA}{fa fb fc fd f:ME}{fr:MA}{ft gt:MT}{op o1 o2 o3:D->D->aA->ai D}{fs gs:MS}{g:MG}
@[simp] theorem aj {d:D}{r:Ro}:ah 0 (some d::r) μ=.ok d μ:=NG (NH _)
@[simp] theorem ao {i:Nat}{x:Option D}{r:Ro}:ah (i+1) (x::r) μ=ah i r μ:=NG (NH _)
@[simp] theorem bj {d:D}:cC d ρ μ=.ok d μ:=NG (NH _)
@[simp] theorem aH:az op fa fb ρ μ=(fa ρ μ).bind fun a μ1=>(fb ρ μ1).bind fun b μ2=>op a b μ2:=NG (NH _)
@[simp] theorem iu {o:D->aA->ai D}:i7 o fa ρ μ=(fa ρ μ).bind fun a μ1=>o a μ1:=NG (NH _)
@[simp] theorem aw:av ρ μ=.ok [] μ:=NG (NH _)
@[simp] theorem ar:af fa fr ρ μ=(fa ρ μ).bind fun a μ1=>(fr ρ μ1).bind fun r μ2=>.ok (a::r) μ2:=NG (NH _)
@[simp] theorem aG {F:List D->aA->ai D}:ax F fr ρ μ=(fr ρ μ).bind F:=NG (NH _)
@[simp] theorem bY:bT fr ρ μ=(fr ρ μ).bind fun ds μ=>if ds.length<=sizeLine then .ok (.tup ds) μ else .bad:=NG (NH _)
@[simp] theorem cJ:dy fr ρ μ=(fr ρ μ).bind fun ds μ=>if ds.length<=sizeLine then .ok (.obj μ.length) (μ++[.lst ds]) else .bad:=NG (NH _)
@[simp] theorem bg {b:Bool}:yt (.bl b) μ=.ok b μ:=NG (NH _)
@[simp] theorem cz:fL f ρ μ=(f ρ μ).bind yt:=NG (NH _)
@[simp] theorem g7:kN ft gt ρ μ=(ft ρ μ).bind fun b μ1=>if b=true then gt ρ μ1 else .ok false μ1:=NG (NH _)
@[simp] theorem jq:kr ft gt ρ μ=(ft ρ μ).bind fun b μ1=>if b=true then .ok true μ1 else gt ρ μ1:=NG (NH _)
@[simp] theorem cD:dP ft ρ μ=(ft ρ μ).bind fun b μ1=>.ok (!b) μ1:=NG (NH _)
@[simp] theorem wV:gK fa fb ρ μ=(fa ρ μ).bind fun a μ1=>(yt a μ1).bind fun b μ2=>if b=true then fb ρ μ2 else .ok (.bl false) μ2:=NG (NH _)
@[simp] theorem zC:uK fa fb ρ μ=(fa ρ μ).bind fun a μ1=>(yt a μ1).bind fun b μ2=>if b=true then .ok (.bl true) μ2 else fb ρ μ2:=NG (NH _)
@[simp] theorem Ie:sN f ρ μ=(f ρ μ).bind fun a μ1=>(yt a μ1).bind fun b μ2=>.ok (.bl (!b)) μ2:=NG (NH _)
@[simp] theorem tW:iL o1 o2 fa fb fc ρ μ=(fa ρ μ).bind fun a μ1=>(fb ρ μ1).bind fun b μ2=>(o1 a b μ2).bind fun z μ3=>(yt z μ3).bind fun k μ4=>
 if k=true then (fc ρ μ4).bind fun c μ5=>o2 b c μ5 else .ok (.bl false) μ4:=NG (NH _)
@[simp] theorem d8:iq f ρ μ=(f ρ μ).bind uF:=NG (NH _)
@[simp] theorem cW {b:Bool}:uF (.bl b) μ=.ok b μ:=NG (NH _)
@[simp] theorem vZ {fl fh:MO}:vS fa fl fh ρ μ=(fa ρ μ).bind fun a μ1=>(fl ρ μ1).bind fun lo μ2=>(fh ρ μ2).bind fun hi μ3=>yr a lo hi μ3:=NG (NH _)
@[simp] theorem uT:yw ρ μ=.ok none μ:=NG (NH _)
@[simp] theorem lg:fT f ρ μ=(f ρ μ).bind HU:=NG (NH _)
@[simp] theorem rj {i:Int}:HU (.int i) μ=.ok (some i) μ:=NG (NH _)
@[simp] theorem mM {F:D->List D->aA->ai D}{fo:ME}:sr F fo fr ρ μ=(fo ρ μ).bind fun o μ1=>if so o μ1=true then (fr ρ μ1).bind fun ds μ2=>F o ds μ2 else .bad:=NG (NH _)
@[simp] theorem cI:bV f ρ μ=(f ρ μ).bindS fun d μ'=>.ret d μ':=NG (NH _)
@[simp] theorem bF:cy ρ μ=.next ρ μ:=NG (NH _)
@[simp] theorem aK:bo fs gs ρ μ=(fs ρ μ).bind gs:=NG (NH _)
@[simp] theorem bp:i5 ft fs gs ρ μ=(ft ρ μ).bindS fun b μ1=>if b=true then fs ρ μ1 else gs ρ μ1:=NG (NH _)
@[simp] theorem aY:bw f g ρ μ=(f ρ μ).bindS fun d μ1=>(g d ρ μ1).bindS fun ρ' μ2=>.next ρ' μ2:=NG (NH _)
@[simp] theorem nJ:j4 f ρ μ=(f ρ μ).bindS fun _ μ1=>.next ρ μ1:=NG (NH _)
@[simp] theorem aC {g:MS}:(SO.next ρ μ).bind g=g ρ μ:=NG (NH _)
@[simp] theorem n6 {d:D}{g:MS}:(SO.ret d μ).bind g=.ret d μ:=NG (NH _)
@[simp] theorem nD {g:MS}:(SO.next ρ μ).loop g=g ρ μ:=NG (NH _)
@[simp] theorem FH {d:D}{g:MS}:(SO.ret d μ).loop g=.ret d μ:=NG (NH _)
@[simp] theorem bP {d:D}:(SO.ret d μ).out=.ok d μ:=NG (NH _)
@[simp] theorem bL {i:Nat}{d:D}:ak i d ρ μ=.ok (ρ.set i (some d)) μ:=NG (NH _)
@[simp] theorem nI {fo fi:ME}{d:D}:nY fo fi d ρ μ=(fo ρ μ).bind fun o μ1=>(fi ρ μ1).bind fun i μ2=>(uG o i d μ2).bind fun _ μ3=>.ok ρ μ3:=NG (NH _)
@[simp] theorem wR {n:Nat}{u:Be}{xs:List D}:fV n u (.tup xs) ρ μ=if xs.length=n then u xs ρ μ else .bad:=NG (NH _)
@[simp] theorem wU:fW [] ρ μ=.ok ρ μ:=NG (NH _)
@[simp] theorem tV {u:Be}{d:D}{r:List D}:bA g u (d::r) ρ μ=(g d ρ μ).bind fun ρ' μ'=>u r ρ' μ':=NG (NH _)
@[simp] theorem gk {fi:MI}:kf fi g fs ρ μ=(fi ρ μ).bindS fun src μ1=>d7 src g fs src.items ρ μ1:=NG (NH _)
@[simp] theorem gq:jd f ρ μ=(f ρ μ).bind sx:=NG (NH _)
@[simp] theorem cK {F:List D->aA->ai nu}:fS F fr ρ μ=(fr ρ μ).bind F:=NG (NH _)
@[simp] theorem wO {xs:List D}:sx (.tup xs) μ=.ok (.fix xs) μ:=NG (NH _)
@[simp] theorem d3 {fi:MI}{cap:List (Option Nat)}:dh fi cap g ft f ρ μ=(fi ρ μ).bind fun src μ1=>compLoop src μ1.length g ft f src.items (f9 cap ρ) (μ1++[.lst []]):=NG (NH _)
@[simp] theorem bH {xs:List D}:(nu.fix xs).items=xs:=NG (NH _)
@[simp] theorem fD {n:Nat}{xs:List D}:(nu.own n xs).items=xs:=NG (NH _)
@[simp] theorem Ih:f9 [] ρ=[]:=NG (NH _)
@[simp] theorem HL {r:List (Option Nat)}:f9 (none::r) ρ=none::f9 r ρ:=NG (NH _)
@[simp] theorem HK {r:List (Option Nat)}{j:Nat}:f9 (some j::r) ρ=(ρ[j]?).join::f9 r ρ:=NG (NH _)
theorem ig{N:Nat}{a:D}:iI 1 N fs [a] μ=mF μ (fs (some a::List.replicate (N-1) none) μ).out:=Jz rfl
theorem eS{N:Nat}{a b:D}:iI 2 N fs [a,b] μ=mF μ (fs (some a::some b::List.replicate (N-2) none) μ).out:=Jz rfl
theorem Ga{N:Nat}{a b c:D}:iI 3 N fs [a,b,c] μ=mF μ (fs (some a::some b::some c::List.replicate (N-3) none) μ).out:=Jz rfl
@[simp] theorem eT {op:CmpOp}{i j:Int}:iJ op (.int i) (.int j) μ=.ok (.bl (cH op i j)) μ:=NG (NH _)
@[simp] theorem gr {i j:Int}:cv (.int i) (.int j) μ=.ok (.int (i+j)) μ:=NG (NH _)
@[simp] theorem HF {gg:Int->Int->D}{i j:Int}:dI gg (.int i) (.int j) μ=.ok (gg i j) μ:=NG (NH _)
@[simp] theorem kz {C:Int->Int->Prop}{gg:Int->Int->D}{i j:Int} (h:C i j):DP C gg (.int i) (.int j) μ=.ok (gg i j) μ:=by unfold DP;simp[h]
@[simp] theorem Ig {i j:Int} (h:sF i j):lP (.int i) (.int j) μ=.ok (.int (i*j)) μ:=by unfold lP;simp[h]
@[simp] theorem oi {i:Int}:qR (.int i) μ=.ok (.int (-i)) μ:=NG (NH _)
@[simp] theorem cw {neg:Bool}{i j:Int}:eQ neg (.int i) (.int j) μ=.ok (.bl (if neg then !(i == j) else i == j)) μ:=NG (NH _)
@[simp] theorem rh {neg:Bool}{a:D}:nP neg a .non μ=.ok (.bl (if neg then !a.isNon else a.isNon)) μ:=NG (NH _)
@[simp] theorem rG {xs:List D}:kl [.tup xs] μ=.ok (.int xs.length) μ:=NG (NH _)
@[simp] theorem wQ {xs:List D}:kl [.frz xs] μ=.ok (.int xs.length) μ:=NG (NH _)
theorem nH{n:Nat}{xs:List D}(h:μ[n]?=some (.lst xs)):kl [.obj n] μ=.ok (.int xs.length) μ:=by unfold kl sL;simp[h]
theorem g6{n:Nat}{xs:List D}(h:μ[n]?=some (.lst xs)):d9 [.obj n] μ=.ok (.tup xs) μ:=by unfold d9;simp[h]
theorem C7{n:Nat}{bs:List Bool}(h:μ[n]?=some (.lst (bs.map D.bl))):xf [.obj n] μ=.ok (.bl (bs.all id)) μ:=by unfold xf;simp[h,ym]
theorem lV{xs:List D}{i:Int}{d:D}(h:atI xs i=some d):dR (.tup xs) (.int i) μ=.ok d μ:=by unfold dR;simp[h]
theorem F9{xs:List D}{i:Int}{d:D}(h:atI xs i=some d):dR (.frz xs) (.int i) μ=.ok d μ:=by unfold dR;simp[h]
theorem fA{n:Nat}{xs:List D}{i:Int}{d:D}(hm:μ[n]?=some (.lst xs))(h:atI xs i=some d):dR (.obj n) (.int i) μ=.ok d μ:=by unfold dR;simp[hm,h]
theorem rF{n j:Nat}{xs:List D}{i:Int}{d:D}(hm:μ[n]?=some (.lst xs))(h:vQ xs.length i=some j):uG (.obj n) (.int i) d μ=.ok () (μ.set n (.lst (xs.set j d))):=by unfold uG;simp[hm,h]
theorem iO{n:Nat}{xs:List D}(hm:μ[n]?=some (.lst xs)):sx (.obj n) μ=.ok (.own n xs) μ:=by unfold sx;simp[hm]
theorem fM{j:Int}(h0:0<=j)(h:j<1000):ja [.int j] μ=.ok (.fix (br 0 j.toNat)) μ:=by
 unfold ja;dsimp only;rw[Jz];omega
theorem nG{i j:Int}(h0:0<=i)(h1:i<1000)(h2:-1000<=j)(h:j<1000):nO [.int i,.int j] μ=.ok (.fix (br i (j-i).toNat)) μ:=by
 unfold nO;dsimp only;rw[Jz];omega
theorem sO{α:Type}{x:α}{r:List α}:atI (x::r) 0=some x:=by unfold atI vQ;simp
theorem wc{α:Type}{x y:α}{r:List α}:atI (x::y::r) 1=some y:=rM (j:=1) rfl
theorem DI{α:Type}{x y z:α}{r:List α}:atI (x::y::z::r) 2=some z:=rM (j:=2) rfl
@[simp] theorem dG {x:D}{r:List D}:dR (.tup (x::r)) (.int 0) μ=.ok x μ:=lV sO
@[simp] theorem gp {x y:D}{r:List D}:dR (.tup (x::y::r)) (.int 1) μ=.ok y μ:=lV wc
theorem lY{α:Type}{xs:List α}{i:Int}{x:α}(h0:0<=i)(h:xs[i.toNat]?=some x):atI xs i=some x:=by
 have:=rM h
 rwa [show ((i.toNat:Nat):Int)=i by omega]at this
theorem og{n:Nat}{i:Int}(h0:0<=i)(h:i<n):vQ n i=some i.toNat:=by unfold vQ;simp[h0,h]
end
section
variable{μ g:aA}{d:D}
@[simp] theorem CU {n:Nat}{i:Int}:(D.int i).low n=True:=by simp[D.low]
@[simp] theorem Jb {n:Nat}{i:Bool}:(D.bl i).low n=True:=by simp[D.low]
@[simp] theorem Ib {n:Nat}{x:Str}:(D.str x).low n=True:=by simp[D.low]
@[simp] theorem HZ {n:Nat}{xs:List D}:(D.tup xs).low n=D.lows n xs:=by simp[D.low]
@[simp] theorem Ic {n m:Nat}:(D.obj m).low n=(m<n):=by simp[D.low]
@[simp] theorem HJ {n:Nat}:D.lows n []=True:=by simp[D.lows]
@[simp] theorem Gr {n:Nat}{x:D}{xs:List D}:D.lows n (x::xs)=(x.low n/\D.lows n xs):=by simp[D.lows]
theorem ix{n:Nat}:∀{xs:List D},D.lows n xs↔∀x∈xs,x.low n
 |[]=>by simp
 |x::xs=>by simp[ix (xs:=xs)]
theorem ie(hd:d.low μ.length):mF μ (.ok d (μ++g))=.ok d μ:=by
 unfold mF;dsimp only;rw[Jz]
 ·simp
 ·refine⟨hd,by simp,fun i o hi h=>.inl ?_⟩;rw[Ky hi]at h;exact h
theorem cb(hd:d.low μ.length):mF μ (.ok d μ)=.ok d μ:=by
 have:=ie (μ:=μ) (g:=[]) hd;simpa using this
theorem uS{i:Nat}{o:O}(hd:d.low μ.length)(ho:o.low μ.length):mF μ (.ok d (μ.set i o++g))=.ok d (μ.set i o):=by
 unfold mF;dsimp only;rw[Jz]
 ·congr 1;rw[List.take_append_of_le_length (by simp)];exact Mb (by simp)
 ·refine ⟨hd, by simp, fun j o' hj h => ?_⟩;rw[Ky (by simpa using hj)]at h;by_cases hij:i=j
  ·subst hij;rw[JT hj]at h;cases h;exact .inr ho
  ·rw[JU hij]at h;exact .inl h
theorem wK{i:Nat}{o:O}(hd:d.low μ.length)(ho:o.low μ.length):mF μ (.ok d (μ.set i o))=.ok d (μ.set i o):=by
 have:=uS (μ:=μ) (g:=[]) (i:=i) hd ho;simpa using this
theorem yU{μ':aA}(h:¬ d.low μ.length):mF μ (.ok d μ')=.ok d μ':=by
 unfold mF;dsimp only;rw[JA fun z=>h z.1]
theorem FZ{μ':aA}:mF μ (.ok d μ')=.ok d μ'\/(mF μ (.ok d μ')=.ok d (μ'.take μ.length)/\d.low μ.length):=by
 unfold mF;dsimp only;by_cases h:DW μ μ' d
 ·rw[Jz h];exact .inr ⟨rfl,h.1⟩
 ·rw[JA h];exact .inl rfl
end
theorem js{μ1 g:aA}{a b:O}:(μ1++a::g).set μ1.length b=μ1++b::g:=by
 rw[List.set_append_right _ _ (Kc _),Nat.sub_self];rfl
theorem ay{μ1 g:aA}{a:O}:(μ1++a::g)[μ1.length]?=some a:=by
 rw[Kw (Kc _),Nat.sub_self];rfl
theorem qf{μ1 g:aA}{ys:List D}{y:D}(h:ys.length<sizeLine):sH μ1.length y (μ1++.lst ys::g)=.ok () (μ1++.lst (ys++[y])::g):=by
 unfold sH;rw[ay];dsimp only;rw[Jz h,js]
theorem fF{src:nu}{g:MG}{t:MT}{e:ME}{μ1:aA}{q:D->Bool}{h:D->D}(R:Ro->Prop)(ho:∀a,bW src (μ1++[.lst a])) :
  ∀{xs acc:List D}{ρ:Ro},R ρ->acc.length+xs.length<=sizeLine->(∀x∈xs,∀a ρ,R ρ->∃ρ1,R ρ1/\g x ρ (μ1++[.lst a])=.ok ρ1 (μ1++[.lst a])/\t ρ1 (μ1++[.lst a])=.ok (q x) (μ1++[.lst a])/\(q x=true->e ρ1 (μ1++[.lst a])=.ok (h x) (μ1++[.lst a]))) ->
   compLoop src μ1.length g t e xs ρ (μ1++[.lst acc])=.ok (.obj μ1.length) (μ1++[.lst (acc++(xs.filter q).map h)])
 |[],acc,ρ,hr,hl,he=>by
  unfold compLoop;rw[Jz (ho acc)];simp
 |x::xs,acc,ρ,hr,hl,he=>by
  obtain⟨ρ1,r1,e1,e2,e3⟩:=he x JK acc ρ hr;unfold compLoop;rw[Jz (ho acc),e1];simp only[ag,aa];rw[e2];simp only[ag,aa];have he':=fun y hy=>he y (JL _ hy);simp only[Lx]at hl;cases hq:q x with
  |false=>
   rw[JA J6,fF R ho r1 (by omega) he',List.filter_cons,hq];rfl
  |true=>
   rw[Jz rfl,e3 hq];simp only[ag,aa];rw[qf (by omega)];simp only[aa];rw[fF R ho r1 (by simp;omega) he',List.filter_cons,hq];simp
theorem iy{src:nu}{g:MG}{t:MT}{e:ME}{n:Nat}(J:List D->List D->Ro->aA->aA->Prop)
  (fin:∀ys ρ μ1 s,J [] ys ρ μ1 s->μ1.length=n/\bW src (μ1++.lst ys::s))
  (step : ∀ x r ys ρ μ1 s, J (x :: r) ys ρ μ1 s -> μ1.length = n /\ bW src (μ1 ++ .lst ys :: s) /\ ∃ ρ1 μa sa b μb sb, g x ρ (μ1 ++ .lst ys :: s) = .ok ρ1 (μa ++ .lst ys :: sa) /\ t ρ1 (μa ++ .lst ys :: sa) = .ok b (μb ++ .lst ys :: sb) /\
   (b=true->∃y μc sc,e ρ1 (μb++.lst ys::sb)=.ok y (μc++.lst ys::sc)/\ys.length<sizeLine/\μc.length=n/\J r (ys++[y]) ρ1 μc sc)/\(b=false->J r ys ρ1 μb sb)) :
  ∀{xs ys:List D}{ρ:Ro}{μ1 s:aA},J xs ys ρ μ1 s->∃ys' ρ' μ1' s',J [] ys' ρ' μ1' s'/\compLoop src n g t e xs ρ (μ1++.lst ys::s)=.ok (.obj n) (μ1'++.lst ys'::s')
 |[],ys,ρ,μ1,s,hJ=>by
  refine⟨ys,ρ,μ1,s,hJ,?_⟩;unfold compLoop;rw[Jz (fin ys ρ μ1 s hJ).2]
 |x::xs,ys,ρ,μ1,s,hJ=>by
  obtain⟨hn,ho,ρ1,μa,sa,b,μb,sb,e1,e2,e3,e4⟩:=step x xs ys ρ μ1 s hJ;unfold compLoop;rw[Jz ho,e1];simp only[ag,aa];rw[e2];simp only[ag,aa];cases b with
  |false=>
   rw[JA J6];exact iy J fin step (e4 rfl)
  |true=>
   obtain⟨y,μc,sc,f1,f2,f3,f4⟩:=e3 rfl;rw[Jz rfl,f1];simp only[ag,aa];subst f3;rw[qf f2];simp only[aa];exact iy J fin step f4
theorem gY{src:nu}{g:MG}{fb:MS}(J:List D->Ro->aA->Prop)(fin:∀ρ μ,J [] ρ μ->bW src μ)
  (step:∀x r ρ μ,J (x::r) ρ μ->bW src μ/\∃ρ1 μ1 ρ2 μ2,g x ρ μ=.ok ρ1 μ1/\fb ρ1 μ1=.next ρ2 μ2/\J r ρ2 μ2) :
  ∀{xs:List D}{ρ:Ro}{μ:aA},J xs ρ μ->∃ρ' μ',J [] ρ' μ'/\d7 src g fb xs ρ μ=.next ρ' μ'
 |[],ρ,μ,h=>⟨ρ,μ,h,by unfold d7;rw[Jz (fin ρ μ h)]⟩
 |x::xs,ρ,μ,h=>by
  obtain⟨ho,ρ1,μ1,ρ2,μ2,e1,e2,h2⟩:=step x xs ρ μ h;obtain⟨ρ',μ',h3,e3⟩:=gY J fin step h2;refine⟨ρ',μ',h3,?_⟩;unfold d7;rw[Jz ho,e1];simp only[ae];rw[e2];exact e3
end L2
namespace L2
open PySem PySem.Spec PyProof.Rows RS
theorem HE{P:Program}{w:World}{K:W.Frag}{mg:Str->Option Value}{base:Heap}{p:Pa}{k n:Nat}{x qual:Str}{st:Stmt}{f:Addr}{fd:FuncData}{N ps:List Str}{fb:MS}
  (F:gT K x qual st f fd) (S:aX N ps (au st)) (hn:ps.length=n)
  (body : ∀ (cdv : Value) (A : Around) (outer : List Env) (s : Shared) (H : Hp) (E : XK), dg k (A.deeper (envOfC qual (au st) s.heap.objs.size f cdv)) ->
   Bx (gU (nQ uD P w K mg base N qual (au st) f cdv A outer s H E).nox (bC st) (fK p fb))):i6 P w K mg base uD (k+1) f fd ps (A6 p n (iI n N.length fb)):=by
 refine F.ok S (fun vs H Q E h=>h.1.trans hn.symm) fun cdv A outer s H vs Q E hr h=>?_;refine⟨_,(body cdv A outer s H E hr).h,?_⟩;obtain⟨hl,α,ds,μ,S1,R1,P1⟩:=h;unfold iI at P1;have hd:ds.length=n:=by rw[<- R1.length];exact hl
 rw[Jz hd]at P1;have P2:=nF S1 P1;unfold start;rw[hl];refine⟨α,_,μ,S1,iU R1 _,?_⟩;cases e:fb (ds.map some++List.replicate (N.length-n) none) μ with
 |ret d μ'=>rw[e]at P2;exact fun H' α' v x s r=>P2 H' α' x s v r
 |next ρ μ'=>rw[e]at P2;exact fun H' α' σ' x s r=>P2 H' α' x s .non (bu.mpr rfl)
 |exc x μ'=>rw[e]at P2;exact P2
 |brk ρ μ'=>rw[e]at P2;exact P2.elim
 |cnt ρ μ'=>rw[e]at P2;exact P2.elim
 |bad=>rw[e]at P2;exact P2.elim
theorem qd{K:W.Frag}{H:Hp}{α:List Addr}:∀ns:List Int,Reps K H α (ns.map D.int) (ns.map V.int)
 |[]=>by simp only[K6,Reps]
 |n::ns=>by
  simp only[K7,Reps];exact⟨_,_,rfl,aq.mpr rfl,qd ns⟩
theorem AK{K:W.Frag}{w:World}{F:List D->aA->ai D}{H:Hp}{a:Addr}{ns:List Int}{E:XK}(hF:∃μ',F [.frz (ns.map D.int)] []=.ok (.bl true) μ')(hO:Bl H)(hS:eP K H a (ns.map V.int)) :
  A6 (fm K w) 1 F [.ref a] H (fun v _=>v=.bl true) E:=by
 obtain⟨μ',e⟩:=hF
 have fz:Dm K H a (ns.map V.int):=by
  rcases hS with (h|h)|h
  ·rcases hO a with z | ⟨o, xs, z⟩
   ·rw[h]at z;cases z
   ·rw[h]at z;cases z
  ·exact .inl h
  ·exact .inr h
 refine⟨rfl,[],[.frz (ns.map D.int)],[],⟨rfl,Ms,fun n o a h=>by simp at h⟩,?_,?_⟩
 ·simp only[Reps];exact⟨_,_,rfl,bh.mpr ⟨a,_,rfl,fz,qd ns⟩,rfl⟩
 ·rw[e];exact fun H' α' x s v r=>aQ.mp r
end L2
namespace L2
open PySem PySem.Spec PyProof.Rows RS
section
variable{X:Cx}{p:Pa}
def zw:D->Bool
 |.tup _=>true
 |.frz _=>true
 |.obj _=>true
 |_=>false
theorem vv{K:W.Frag}{H:Hp}{α:List Addr}{d:D}{v:V}(h:zw d=true)(r:aM K H α d v):∃a,v=.ref a:=by
 cases d with
 |tup xs=>obtain⟨a,us,rfl,_⟩:=aE.mp r;exact⟨a,rfl⟩
 |frz xs=>obtain⟨a,us,rfl,_⟩:=bh.mp r;exact⟨a,rfl⟩
 |obj n=>obtain⟨a,rfl,_⟩:=aN.mp r;exact⟨a,rfl⟩
 |_=>cases h
def sA(neg:Bool)(a b:D)(μ:aA):ai D:=match a,b with
 |.str x,.str y=>.ok (.bl (if neg then !decide (x=y) else decide (x=y))) μ
 |_,_=>.bad
theorem BD{x y:Str}:decide (V.str x=V.str y)=decide (x=y):=by
 by_cases e:x=y
 ·subst e;simp
 ·rw[Jx e,Jx];intro z;cases z;exact e rfl
theorem FA:pU p (sA false) Il:=by
 intro a b v y H α μ Q S ra rb P;unfold sA at P;split at P
 ·rename_i x z;obtain rfl:=bc.mp ra;obtain rfl:=bc.mp rb;exact⟨rfl,by rw[BD];exact P.now S _ (aQ.mpr rfl)⟩
 ·exact P.elim
theorem Hy:ng X p .Eq (sA false):=⟨Il,Hs,FA⟩
end
end L2
namespace L2
open PySem PySem.W PyProof.Rows RS
section
variable{prog:Program}{w:World}{A:Around}{E:Value->Shared->Prop}
end
section
variable{X:Cx}
end
theorem Jj{α:Type}{P:List α->Prop}(h:∀a,P [a]):∀us:List α,us.length=1->P us
 |[a],_=>h a
theorem us2{α:Type}{P:List α->Prop}(h:∀a b,P [a,b]):∀us:List α,us.length=2->P us
 |[a,b],_=>h a b
theorem Ji{α:Type}{P:List α->Prop}(h:∀a b c,P [a,b,c]):∀us:List α,us.length=3->P us
 |[a,b,c],_=>h a b c
theorem gT.b1{K:W.Frag}{x qual:Str}{st:Stmt}{f:Addr}{fd:FuncData}{ps:List Str}(F:gT K x qual st f fd)(hl:ps.length=1)(h:∀(kV doc pm:Value)(an:Option Addr)(cdv ct a:Value),bindArgs (W.fnOf x qual (cX st) (bC st) (au st) .none kV doc pm an cdv ct) ⟨[a],[]⟩=pure (ps.zip [a])):dr K fd ps []:=
 F.binds fun kV doc pm an cdv ct us e=>Jj (P:=fun us=>bindArgs (W.fnOf x qual (cX st) (bC st) (au st) .none kV doc pm an cdv ct) ⟨us,[]⟩=pure (ps.zip us)) (fun a=>h kV doc pm an cdv ct a) us (e.trans hl)
theorem gT.b2{K:W.Frag}{x qual:Str}{st:Stmt}{f:Addr}{fd:FuncData}{ps:List Str}(F:gT K x qual st f fd)(hl:ps.length=2)(h:∀(kV doc pm:Value)(an:Option Addr)(cdv ct a b:Value),bindArgs (W.fnOf x qual (cX st) (bC st) (au st) .none kV doc pm an cdv ct) ⟨[a,b],[]⟩=pure (ps.zip [a,b])):dr K fd ps []:=
 F.binds fun kV doc pm an cdv ct us e=>us2 (P:=fun us=>bindArgs (W.fnOf x qual (cX st) (bC st) (au st) .none kV doc pm an cdv ct) ⟨us,[]⟩=pure (ps.zip us)) (fun a b=>h kV doc pm an cdv ct a b) us (e.trans hl)
theorem gT.b3{K:W.Frag}{x qual:Str}{st:Stmt}{f:Addr}{fd:FuncData}{ps:List Str}(F:gT K x qual st f fd)(hl:ps.length=3)(h:∀(kV doc pm:Value)(an:Option Addr)(cdv ct a b c:Value),bindArgs (W.fnOf x qual (cX st) (bC st) (au st) .none kV doc pm an cdv ct) ⟨[a,b,c],[]⟩=pure (ps.zip [a,b,c])):dr K fd ps []:=
 F.binds fun kV doc pm an cdv ct us e=>Ji (P:=fun us=>bindArgs (W.fnOf x qual (cX st) (bC st) (au st) .none kV doc pm an cdv ct) ⟨us,[]⟩=pure (ps.zip us)) (fun a b c=>h kV doc pm an cdv ct a b c) us (e.trans hl)
end L2
namespace L2
open PySem PySem.Spec PyProof.Rows RS
section
variable{X:Cx}{d:Nat}{acc:Addr}
theorem CO {X:Cx}:Ip X (newSet (.type "set")) (fun a=>.ext fun h=>bO X.w h a []):=fun pins s σ H Q I h=>by
 unfold newSet setsByText;simp only[bind_assoc,pure_bind];refine J1 (LD ?_)
 try dsimp only
 simp only[newObj];refine J1 (wpAny_alloc (J8 ?_));have hS:bO X.w (s.heap.push {cls:=.type "set",dict:=none,data:=.set #[] 0 (.fresh 0 0 (j5 X.w))}) s.heap.objs.size []:=jx (Kb _ rfl);refine h _ (I.laid (t':=s.toks) (fun b o e=>Ka _ e) (Kc _) ⟨hS,⟨_,Kb _ rfl⟩,fun h1 h2 g k=>g.keeps k⟩) (fun b o e=>Ka _ e) ?_;show s.heap.objs.size<(s.heap.push _).objs.size;rw[LA];exact Ly _
def zf(K:W.Frag)(w:World)(te:TE)(acc:Addr):Bb:=fun σ H N=>te σ H fun y H4=>∃(r:Addr)(k:List Int)(ps:List KP),y=.ref r/\H4 acc=some (.ext fun h=>bO w h acc ps)/\k∈prs/\eK K H4 r (k.map V.int)/\(∀p∈ps,eK K H4 p.2 (p.1.map V.int)) /\
 N σ (bx H4 acc (.ext fun h=>bO w h acc (gH ps k r)))
theorem xI{te:TE}{elt:Expr}{gens:List Comprehension}{scope:Scope}{pos:Pos}(hg:gens[d]?=none)(hxe:X.xe=vT)(hu:X.A.units+64<cLine)(hel:PE X elt te):Bd X (.SetComp elt gens scope pos) d acc (zf X.K X.w te acc):=by
 intro pins s σ H N I h;unfold kO;show (match gens[d]? with|some g=>_|none=>_:Prop);rw[hg];show wpAny _ _ (do let v <- eval elt X.env;standAt elt.pos;let _ <- call (.builtin "set.add") [.ref acc,v]) _ _ _;have z:=hel pins s σ H _ I h;rw[hxe]at z;refine J1 (cT z fun v10 s10 ⟨y,H10,I10,r10,r,k,ps,ey,hacc,hk,hr,hps,nn⟩=>?_);subst ey;cases r10;refine J1 (J3 (J1 ?_));obtain⟨hS,_⟩:=(show cA X.prog X.w H10 s10.heap acc (.ext fun h=>bO X.w h acc ps) from I10.hok acc _ hacc);obtain⟨o,es,ep,t,Z,S0,k1,k2⟩:=id hS
 have hin:X.A.in1.units<cLine:=by
  have:X.A.in1.units<=X.A.units+1:=by first|exact Lq rfl|exact Lq (units_in1 _)|exact Nat.le_succ_of_le (Lq (units_in1 _))
  omega
 have tps:∀q∈ps,Tk X.prog X.w s10.heap q.1 q.2:=fun q hq=>pW I10 (hps q hq);have tr:Tk X.prog X.w s10.heap k r:=pW I10 hr;refine K0 F.slot_set_add ⟨o,S0.ho,S0.ex.1⟩ F.entry_set_add ?_ (F.args_set_add_2 _ _);unfold Builtin.«set.add» Builtin.Frozenset.oneOther;simp only[List.isEmpty_nil,bind_assoc];unfold Builtin.Frozenset.addrOf setAdd;refine J1 (J8 ?_)
 try dsimp only
 refine J1 (J8 ?_)
 try dsimp only
 refine J1 (J2 ?_);refine J1 (wpAny_pyHash_tuple hin (pW I10 hr) ?_);rw[zx];refine zc (s:={s10 with toks:=s10.toks+(k.length+1)}) hS hk tr tps hin fun b h' hsb hS2=>?_;show wpAny _ _ (ret Value.none) _ _ _;refine J8 ⟨_,rfl,J8 ⟨_,_,?_,nn⟩⟩;refine I10.write (x:=acc) (e:=acc) (by rw[hacc];exact trivial) (.inl rfl) (fun b' u hb hu=>(hsb.2 b' hb).trans hu) ?_ ⟨hS2,?_,fun h1 h2 g k=>g.keeps k⟩
 ·obtain⟨o',_,_,_,_,S',_⟩:=hS2;exact⟨o',S'.ho⟩
 ·obtain⟨o',_,_,_,_,S',_⟩:=hS2;exact⟨o',S'.ho⟩
variable{e:Expr}{cl0:Comprehension}{rest:List Comprehension}{scope:Scope}{Nc:List Str}{cap:List (Option Nat)}{wi:TI}{g:TG}{tt:TT}{tb:Addr->Bb}{elt:Expr}{pos:Pos}
theorem Av(hc:X.calm=true)(hz:∀g∈cl0::rest,g.is_async=0)(S:bS X.N X.env scope Nc cap)(hi:PI X cl0.target cl0.iter wi)
  (hg:∀cl C s H fp,PG (ij X Nc scope cl C s H fp) cl0.target g) (ht:∀cl C s H fp,sh (ij X Nc scope cl C s H fp) cl0.ifs tt) (hb:∀cl C s H fp acc,Bd (ij X Nc scope cl C s H fp) (.SetComp elt (cl0::rest) scope pos) 1 acc (tb acc))
  (hs:∀x,foldedSetIterable cl0.iter X.env x=pure x):PE X (.SetComp elt (cl0::rest) scope pos) (lS (fun a=>.ext fun h=>bO X.w h a []) wi cap g tt tb):=by
 intro pins s σ H Q I h;have h0:=hz cl0 JK;obtain⟨tg0,it0,if0,as0⟩:=cl0;have h0':as0=0:=h0;subst h0';rw[arm_eval_SetComp];refine mn (e:=.SetComp elt (_::rest) scope pos) (Q:=Q) rfl hz rfl CO hc S hi hg ht hb I h (fun C acc s' H' I' hf hn q=>?_) hs;obtain⟨m,hn⟩:=hn;refine⟨m,hn,fun h' sb=>⟨.ref acc,H',?_,rfl,q⟩⟩;exact I'.turned (t':=s'.toks) (it:=C) (fun b o hb e=>(sb.2 b hb).trans e) hf.1 hf.2.1 hf.2.2.2.1 hf.2.2.2.2.1 hf.2.2.2.2.2
end
section
variable{K:W.Frag}{w:World}{H:Hp}{α:List Addr}{μ:aA}
theorem tU{p:Addr}{φ:Heap->Prop}{o:HO}(h:H p=some (.ext φ)):i9 K H (bx H p o) α α:=by
 refine⟨fun a xs q=>?_,fun a xs q=>?_,fun _ _ z=>z,fun a fs q=>by rw[aJ (mK q h (by intro z;cases z))];exact q⟩
 ·rcases q with (q | ⟨x, q⟩) | q
  ·exact .inl (.inl (by rw[aJ (mK q h (by intro z;cases z))];exact q))
  ·exact .inl (.inr ⟨x,by rw[aJ (mK q h (by intro z;cases z))];exact q⟩)
  ·exact .inr q
 ·rcases q with ⟨x, q⟩ | q
  ·exact .inl ⟨x,by rw[aJ (mK q h (by intro z;cases z))];exact q⟩
  ·exact .inr q
theorem qK(S:dF K w H α μ){n:Nat}{a:Addr}{ks ks':List (List Int)}{φ:Heap->Prop}{ho:HO}(h1:μ[n]?=some (.set ks))(h2:α[n]?=some a)(h3:H a=some (.ext φ))(q:pE K w (bx H a ho) α (.set ks') a):dF K w (bx H a ho) α (μ.set n (.set ks')):=by
 have e:=tU (K:=K) (α:=α) (o:=ho) h3;refine⟨by simp[S.len],S.nd,fun m o b g1 g2=>?_⟩;have hn:n<μ.length:=(JR.mp h1).1;by_cases hm:m=n
 ·subst hm;rw[JT hn]at g1;cases g1;rw[h2]at g2;cases g2;exact q
 ·rw[JU (fun z=>hm z.symm)]at g1;refine(S.ob m o b g1 g2).mono e (aJ fun z=>hm ?_);subst z;obtain⟨l1,e1⟩:=JR.mp g2;obtain⟨l2,e2⟩:=JR.mp h2;exact(JS S.nd).mp (e1.trans e2.symm)
end
def Bj(n:Nat)(y:D)(μ:aA):ai Unit:=match μ[n]?,y with
 |some (.set ks),.tup [.int a,.int b]=>if [a,b]∈prs then .ok () (μ.set n (.set (ku ks [a,b]))) else .bad
 |_,_=>.bad
theorem A5{ps:List KP}{k:List Int}{r:Addr}:(gH ps k r).map (·.1)=ku (ps.map (·.1)) k:=by
 unfold gH ku;split <;> simp
theorem Dg{p:Pa}{n:Nat}{y:D}{μ:aA}{H:Hp}{α:List Addr}{R:Unit->aA->Hp->List Addr->Prop}{v:V}{acc:Addr}(S:p.S H α μ)(ha:α[n]?=some acc)(rv:p.R H α y v)(P:aB p H α (Bj n y μ) R) :
  ∃(r:Addr)(k:List Int)(ps:List KP),v=.ref r/\H acc=some (.ext fun h=>bO p.w h acc ps)/\k∈prs/\eK p.K H r (k.map V.int)/\(∀q∈ps,eK p.K H q.2 (q.1.map V.int)) /\
   ∃μ',p.X H (bx H acc (.ext fun h=>bO p.w h acc (gH ps k r))) α α/\p.S (bx H acc (.ext fun h=>bO p.w h acc (gH ps k r))) α μ'/\R () μ' (bx H acc (.ext fun h=>bO p.w h acc (gH ps k r))) α:=by
 unfold Bj at P;split at P
 ·rename_i ks a b hx;split at P
  ·rename_i hk;obtain⟨acc',ea,ps,e1,e2,e3,e4,e5⟩:=S.at hx;rw[ha]at ea;cases ea;obtain⟨r,vs,rfl,h1,rr⟩:=aE.mp rv;have hvs:vs=[a,b].map V.int:=Reps.ints (ns:=[a,b]) rr;subst hvs;have x1:p.X H (bx H acc (.ext fun h=>bO p.w h acc (gH ps [a,b] r))) α α:=tU e2
   have q:pE p.K p.w (bx H acc (.ext fun h=>bO p.w h acc (gH ps [a,b] r))) α (.set (ku ks [a,b])) acc:=by
    refine⟨gH ps [a,b] r,by rw[A5,e1],aS,fun q hq=>?_,oS e4,fun q hq=>?_⟩
    ·rcases oC hq with z | z
     ·exact e3 q z
     ·subst z;exact hk
    ·rcases oC hq with z | z
     ·exact x1.tup _ _ (e5 q z)
     ·subst z;exact x1.tup _ _ h1
   exact⟨r,[a,b],ps,rfl,e2,hk,h1,e5,_,x1,qK S hx ha e2 q,P _ _ x1 (qK S hx ha e2 q)⟩
  ·exact P.elim
 ·exact P.elim
def v3(e:ME):MB:=fun n ρ μ=>(e ρ μ).nox.bind fun y μ1=>(Bj n y μ1).bind fun _ μ2=>.ok ρ μ2
def rk(fi:MI)(cap:List (Option Nat))(g:MG)(t:MT)(fb:MB):ME:=fun ρ μ=>(fi ρ μ).bind fun src μ1=>(jj src μ1.length g t fb src.items (f9 cap ρ) (μ1++[.set []])).bind fun _ μ2=>.ok (.obj μ1.length) μ2
section
variable{p:Pa}
theorem vy{e:ME}{acc:Addr}{σ:St}{H:Hp}{N:St->Hp->Prop}(h:Gs p (v3 e) acc σ H N):zf p.K p.w (tD p.nx e) acc σ H N:=by
 obtain⟨α,ρ,μ,n,S,R,a,P⟩:=h;refine⟨α,ρ,μ,S,R,(eC P).imp fun y μ6 H6 α6 X6 S6 P6 v rv=>?_⟩;obtain⟨r,k,ps,e1,e2,e3,e4,e5,μ7,x7,s7,q7⟩:=Dg (p:=p) S6 (X6.pre _ _ a) rv (aB.bind P6);exact⟨r,k,ps,e1,e2,e3,e4,e5,q7.now s7 σ ((R.mono X6).mono x7)⟩
theorem vC{fi:MI}{cap:List (Option Nat)}{g:MG}{t:MT}{fb:MB}{σ:St}{H:Hp}{Q:VK}(h:tD p (rk fi cap g t fb) σ H Q):lS (fun a=>.ext fun h=>bO p.w h a []) (sm p fi) cap (pj p.nx g) (gE p.nx t) (fun acc=>Gs p.nx fb acc) σ H Q:=by
 obtain⟨α,ρ,μ,S,R,P⟩:=h;refine⟨α,ρ,μ,S,R,(aB.bind P).imp fun src μ1 H1 α1 X1 S1 P1 J hok hJ acc hacc=>?_⟩;have x1:p.X H1 (bx H1 acc (.ext fun h=>bO p.w h acc [])) α1 (α1++[acc]):=(bt hacc).trans (gN [acc]);have s1:p.S (bx H1 acc (.ext fun h=>bO p.w h acc [])) (α1++[acc]) (μ1++[.set []]):=S1.more hacc ⟨[],rfl,aS,nofun,Ms,nofun⟩;have hn:(α1++[acc])[μ1.length]?=some acc:=by rw[<- S1.len];simp
 refine vt (p:=p) x1 s1 (((R.mono X1).cap cap).mono x1) hn hJ ((aB.from x1 (aB.bind P1)).imp fun ρ' μ' H' α' X' S' P' σ' r'=>?_);exact P'.now S' _ (aN.mpr ⟨acc,rfl,X'.pre _ _ hn⟩)
variable{X:Cx}{elt tg iter:Expr}{ifs:List Expr}{rest:List Comprehension}{scope:Scope}{Nc:List Str}{cap:List (Option Nat)}{fi:MI}{g:MG}{tt:MT}{te:ME}{mb:MB}{pos:Pos}{d:Nat}{acc:Addr}
theorem HH{gens:List Comprehension}(hg:gens[d]?=none)(hu:X.A.units+64<cLine)(hel:Bx (PE X elt (tD p.nx te)))(hxe:X.xe=vT:=by rfl)(hK:X.K=p.K:=by rfl)(hw:X.w=p.w:=by rfl):Bx (Bd X (.SetComp elt gens scope pos) d acc (Gs p.nx (v3 te) acc)):=
 ⟨fun pins s σ H N I h=>xI hg hxe hu hel.h pins s σ H N I (by rw[hK,hw];exact vy (p:=p.nx) h)⟩
theorem Bu(S:bS X.N X.env scope Nc cap)(hi:Bx (PI X tg iter (sm p fi)))(hg:∀cl C s H fp,Bx (PG (ij X Nc scope cl C s H fp) tg (pj p.nx g)))(ht:∀cl C s H fp,Bx (sh (ij X Nc scope cl C s H fp) ifs (gE p.nx tt)))(hb:∀cl C s H fp acc,Bx (Bd (ij X Nc scope cl C s H fp) (.SetComp elt (⟨tg,iter,ifs,0⟩::rest) scope pos) 1 acc (Gs p.nx mb acc)))(hz:w8 (⟨tg,iter,ifs,0⟩::rest)=true:=by rfl)(hc:X.calm=true:=by rfl)(hs:∀x,foldedSetIterable iter X.env x=pure x:=by intro _;rfl)(hw:X.w=p.w:=by rfl):Bx (PE X (.SetComp elt (⟨tg,iter,ifs,0⟩::rest) scope pos) (tD p (rk fi cap g tt mb))):=
 ⟨(Av (cl0:=⟨tg,iter,ifs,0⟩) hc (BA hz) S hi.h (fun cl C s H fp=>(hg cl C s H fp).h) (fun cl C s H fp=>(ht cl C s H fp).h) (fun cl C s H fp acc=>(hb cl C s H fp acc).h) hs).weak fun σ H Q h=>by rw[hw];exact vC h⟩
end
theorem xE(its:List Value):slicePick its.toArray none none (some (-1))=its.reverse.toArray:=by
 unfold slicePick
 have hb:sliceBounds none none (some (-1)) its.toArray.size=((its.toArray.size:Int)-1,-1,-1):=by
  simp[sliceBounds]
 rw[hb];dsimp only
 have hr:sliceRange ((its.toArray.size:Int)-1) (-1) (-1)=(List.range its.toArray.size).map fun m:Nat=>(((its.toArray.size:Int)-1)+(m:Int)*(-1)).toNat:=by
  unfold sliceRange
  have hc:(if (-1:Int)>0 then if (its.toArray.size:Int)-1 < -1 then (-1-((its.toArray.size:Int)-1)+-1-1) / -1 else 0 else if (its.toArray.size:Int)-1 > -1 then ((its.toArray.size:Int)-1 - -1 - -1-1) / - -1 else 0)=(its.toArray.size:Int):=by
   rw[JA (by decide)];split
   ·rw[show-(-1:Int)=1 from rfl,Int.ediv_one];omega
   ·omega
  simp only[hc,KM];apply LZ;intro m _;congr 1;omega
 rw[hr,KS];exact tw its.toArray
def GY(K:W.Frag)(te ts:TE):TE:=fun σ H Q=>te σ H fun x H1=>ts σ H1 fun y H2=>y=.int (-1)/\∃a xs,x=.ref a /\
 ((eK K H2 a xs/\∀p,H2 p=none->Q (.ref p) (bx H2 p (.tup xs.reverse)))\/(eP K H2 a xs/\∀p,H2 p=none->Q (.ref p) (bx H2 p (.lst xs.reverse))))
theorem Cm{X:Cx}{e st:Expr}{te ts:TE}{pos p2:Pos}(he:PE X e te)(hs:PE X st ts):PE X (.Subscript e (.Slice none none (some st) p2) pos) (GY X.K te ts):=by
 intro pins s σ H Q I h;refine Subscript_ (cT (he pins s σ H _ I h) fun v s1 ⟨x,H1,I1,r1,q1⟩=>?_);refine wpAny_Slice ?_;rw[evalPart_none];refine J8 (J8 ?_);rw[evalPart_some];refine cT (hs pins s1 σ H1 _ I1 q1) fun vs s3 ⟨y,H3,I3,r3,q3⟩=>?_;obtain⟨rfl,a,xs,rfl,hq⟩:=q3;obtain⟨tk,rfl⟩:=r3;cases r1;have I4:aP X pins σ H3 {s3 with heap:=s3.heap.push {cls:=.type "slice",data:=.fields #[.none,.none,.int (-1) tk]}}:=I3.kept (t':=s3.toks) fun b ob q=>Ka _ q;show wpAny (model X.prog X.w) X.A (subscriptTail e (.Slice none none (some st) p2) (.ref a) (.ref s3.heap.objs.size)) (EP X pins σ Q) X.xe {s3 with heap:=s3.heap.push {cls:=.type "slice",data:=.fields #[.none,.none,.int (-1) tk]}};have hsl:=K8 s3.heap .none .none (.int (-1) tk);rcases hq with⟨hx,q⟩|⟨hx,q⟩
 ·obtain⟨its,r,ht,hz⟩:=I4.tuple hx;refine tail_any (ops:=[.ref a,.ref s3.heap.objs.size]) ht.typeIs KZ.lookup ?_ (by with_unfolding_all rfl);refine lK ht (K8 ..) ?_ (by rw[Ki,<- r.length];exact hz);generalize {s3 with heap:=s3.heap.push {cls:=.type "slice",data:=.fields #[.none,.none,.int (-1) tk]}}=s5 at I4 ht;refine⟨.ref s5.heap.objs.size,_,I4.laid (t':=s5.toks) (o:=.tup xs.reverse) (fun b ob q=>Ka _ q) (Kc _) ?_,rfl,q _ (I4.hok.fresh (Kc _))⟩;exact⟨by rw[List.length_reverse];exact hz,its.reverse,r.reverse,IsTup.new _ _⟩
 ·obtain⟨its,r,ht,hz⟩:=I4.list hx;refine tail_any (ops:=[.ref a,.ref s3.heap.objs.size]) ht.isList.typeIs K9.lookup ?_ (by with_unfolding_all rfl);refine wpAny_getItem_list_slice ht.isList (K8 ..) .none .none (.int (-1) tk) (by simp) ?_ (by rw[Ki,<- r.length];exact hz);rw[xE];generalize {s3 with heap:=s3.heap.push {cls:=.type "slice",data:=.fields #[.none,.none,.int (-1) tk]}}=s5 at I4 ht;refine⟨.ref s5.heap.objs.size,_,I4.laid (t':=s5.toks) (o:=.lst xs.reverse) (fun b ob q=>Ka _ q) (Kc _) ?_,rfl,q _ (I4.hok.fresh (Kc _))⟩;exact⟨by rw[List.length_reverse];exact hz,its.reverse,0,r.reverse,Kb _ rfl⟩
def v5(a b:D)(μ:aA):ai D:=match a,b with
 |.tup xs,.int i=>if i=-1 then .ok (.tup xs.reverse) μ else .bad
 |.obj n,.int i=>match μ[n]? with
  |some (.lst xs)=>if i=-1 then .ok (.obj μ.length) (μ++[.lst xs.reverse]) else .bad
  |_=>.bad
 |_,_=>.bad
theorem Eb{p:Pa}{X:Cx}{e st:Expr}{fa fs:ME}{pos p2:Pos}(he:Bx (PE X e (tD p fa)))(hs:Bx (PE X st (tD p fs)))(hK:X.K=p.K:=by rfl):Bx (PE X (.Subscript e (.Slice none none (some st) p2) pos) (tD p (az v5 fa fs))):=
 ⟨(Cm he.h hs.h).weak fun σ H Q ⟨α, ρ, μ, S, R, P⟩ => ⟨α, ρ, μ, S, R, (aB.bind P).imp fun x μ1 H1 α1 X1 S1 P1 v rv => ⟨α1, ρ, μ1, S1, R.mono X1, (aB.bind P1).imp fun y μ2 H2 α2 X2 S2 P2 u ru => by
   rw[hK];unfold v5 at P2;split at P2
   ·rename_i xs i;split at P2
    ·rename_i hi;subst hi;obtain⟨a,us,rfl,h1,r1⟩:=aE.mp (rv.mono X2);exact⟨aq.mp ru,a,us,rfl,.inl ⟨h1,fun q hq=>P2 _ _ (bt hq) (S2.tuple hq) _ (aE.mpr ⟨q,_,rfl,eK.of aS,r1.reverse.mono (bt hq)⟩)⟩⟩
    ·exact P2.elim
   ·rename_i n i;split at P2
    ·rename_i xs hx;split at P2
     ·rename_i hi;subst hi;obtain⟨a,rfl,h1⟩:=aN.mp (rv.mono X2);obtain⟨a',ea,vs,hH,rr⟩:=S2.at hx;have eaa:a=a':=Jv (h1.symm.trans ea);subst eaa;refine⟨aq.mp ru,a,vs,rfl,.inr ⟨.inl (.inl hH),fun q hq=>?_⟩⟩;obtain⟨x1,s1,r1⟩:=cN S2 hq rr.reverse;exact P2 _ _ x1 s1 _ r1
     ·exact P2.elim
    ·exact P2.elim
   ·exact P2.elim⟩⟩⟩
section
variable{p:Pa}{X:Cx}{e:Expr}{fr:MA}{pos:Pos}
end
end L2
namespace PySem.W
open PySem PySem.Spec PySem.Calls PyProof.Rows Builtin Builtin.ObjectAttr
section
variable{prog:Program}{w:World}{A:Around}{R:Result->Shared->Prop}{s:Shared}{K:Frag}{x C:Addr}{cd:ClassData}{name:Str}{v:Value}
theorem Ct {ox:Obj}{od:Option Obj}{tk:Tok} (X:K.In s.heap) (I:InstAt s.heap x ox C od) (hc:clsIn K C=some cd) (hp:∀self,refuseLoop self "__setattr__" cd.mro=pure ()) (hm:mroIn K C (.type "object")=some true) (ht:findIn K (.ref C) name=some none)
  (h : wpAny (model prog w) A.in1 (storeInOwnDict (.ref x) (.ref C) (.str name tk) name v false)
   (fun fin s'=>match fin with | .done f=>R (.ok f) s' | .again c'=>c'.quiet=true/\codeAny (model prog w) A c' R s') (fun e s'=>R (.error e) s') s) :
  codeAny (model prog w) A (.call (.builtin "object.__setattr__") ⟨[.ref x,.str name tk,v],[]⟩) R s:=by
 have SF:=PySem.F.store_object;have sub:Looks (model prog w) s.heap (isInstance (.ref x) (.type "object")) true:=I.type.andThen (looks_mroIn X hm);refine MV SF.slot.plain SF.entry (@check_slot (model prog w) _ _ s "object.__setattr__" "object" "__setattr__" (.ref x) [.str name tk,v] [] _ SF.kind SF.split sub (SF.args (.ref x) (.str name tk) v) ?_);have hm2:Looks (model prog w) s.heap (mroOf (.ref C)) cd.mro:=(looks_clsIn X hc).andThen .now;rw[osa_eq,refuse_eq];refine J1 (J1 (I.type.here (J1 (hm2.here ?_))));rw[hp];exact J8 (J1 (I.type.here (J1 ((NC X ht).here (J1 (Looks.now.here h))))))
theorem xm{ox:Obj}{b:Bool}{tk:Tok}{Q:Fin->Shared->Prop}{E:Value->Shared->Prop}(X:K.In s.heap)(hx:s.heap.get? x=some ox)(hC:ox.cls=.ref C)(hd:ox.dict=none)(hnc:notCls ox=true)(hc:clsIn K C=some cd)(hdc:cd.hasDict=true)
  (hq:∀h',h'.get? x=some {ox with dict:=some s.heap.objs.size}->h'.Ns1 s.heap.objs.size (fun y=>if y=name then some v else none)->(∀b o,b≠x->s.heap.get? b=some o->h'.get? b=some o)->∀tk',Q (.done (.ret .none)) {s with heap:=h',toks:=tk'}) :
  wpAny (model prog w) A (storeInOwnDict (.ref x) (.ref C) (.str name tk) name v b) Q E s:=by
 obtain⟨hh,g,d,t,os⟩:=s;obtain⟨oc,od,odt,osl⟩:=ox;dsimp only at hC hd;subst hC hd;have hxs:x≠hh.objs.size:=JE (JB hx);have Lc:=looks_clsIn (M:=model prog w) X hc;unfold storeInOwnDict;refine J1 (J8 ?_);rw[JA (by simp)];refine J1 ?_;show wpAny _ _ (instanceDict x true) _ _ _;unfold instanceDict;refine J1 (wpAny_loadPart hx ?_);refine J1 (Lc.here ?_);rw[hdc,JA (by decide)];dsimp only;rw[JA (show ¬ (!true || !typeHasDict (Value.ref C))=true from J6)];have hx1:(hh.push {cls:=.type "dict",data:=.dict #[]}).get? x=some ⟨.ref C,none,odt,osl⟩:=Ka _ hx
 have fin:wpAny (model prog w) A (do
   let d <- alloc {cls:=.type "dict",data:=.dict #[]}
   update x fun o=>{o with dict:=some d}
   dictMade (.ref C) x d) (fun a s'=>wpAny (model prog w) A (match a with|some d=>storeInDict d (.str name tk) name v|none=>noDictFor (.ref x) (.ref C) name b) Q E s') E ⟨hh,g,d,t,os⟩:=by
  refine J1 (wpAny_alloc' ?_);refine J1 (wpAny_update' hx1 ?_);refine J8 ?_;dsimp only
  have hgd:((hh.push {cls:=.type "dict",data:=.dict #[]}).update x fun o=>{cls:=o.cls,dict:=some hh.objs.size,data:=o.data,slots:=o.slots}).get? hh.objs.size
    = some {cls:=.type "dict",data:=.dict #[]}:=
   (Np _ _ _ _ hxs.symm).trans (Heap.get?_push_at rfl rfl)
  have hnd:((hh.push {cls:=.type "dict",data:=.dict #[]}).update x fun o=>{cls:=o.cls,dict:=some hh.objs.size,data:=o.data,slots:=o.slots}).Ns hh.objs.size (fun _=>none):=
   ⟨_,#[],_,hgd,rfl,fun e he=>absurd he (by simp),fun _=>rfl⟩
  unfold storeInDict newKeyGuard;refine J1 (J8 (J1 (wpAny_nsSet1 (Heap.Ns1.of_empty hnd) fun h' hn' hs=>?_)));obtain⟨oD,esD,epD,hoD,hdD,hcD⟩:=hn'.count (Within.cons name v Within.nil);refine J1 (wpAny_lookBehind hoD (by rw[hdD];exact pastItsLine_dict (JH hcD (by rw[Lx,L7,Kh];omega))) ?_);refine J8 (hq h' ?_ hn' (fun b ob hbx hb=>?_) _)
  ·refine(hs.2 x hxs).trans (La _ hx1 ?_);have hfr:=(Heap.get?_some_iff.mp hx).2;cases odt <;> first|rfl|exact hfr
  ·exact(hs.2 b (JE (JB hb))).trans ((Np _ _ _ _ hbx).trans (Ka _ hb))
 cases odt with
 |cls c=>cases hnc
 |_=>exact fin
structure SetsX(K:Frag)(C:Addr):Prop where
 sa:findIn K (.ref C) "__setattr__" = some (some (.builtin "object.__setattr__"))
 obj:mroIn K C (.type "object")=some true
 cls:∃cd,clsIn K C=some cd/\cd.hasDict=true/\∀self,refuseLoop self "__setattr__" cd.mro=pure ()
theorem setx_one{ox:Obj}{Q:Unit->Shared->Prop}{E:Value->Shared->Prop}(X:K.In s.heap)(S:SetsX K C)(hf:findIn K (.ref C) name=some none)(hx:s.heap.get? x=some ox)(hC:ox.cls=.ref C)(hd:ox.dict=none)(hnc:notCls ox=true)
  (hq:∀h',h'.get? x=some {ox with dict:=some s.heap.objs.size}->h'.Ns1 s.heap.objs.size (fun y=>if y=name then some v else none)->(∀b o,b≠x->s.heap.get? b=some o->h'.get? b=some o)->∀tk',Q () {s with heap:=h',toks:=tk'}) :
  wpAny (model prog w) A (setAttr (.ref x) name v) Q E s:=by
 obtain⟨cd,hc,hdc,hp⟩:=S.cls;have I:InstAt s.heap x ox C none:=⟨hx,hC,hnc,by rw[hd];trivial⟩;refine set_plain X I S.sa (Ct (s:={s with toks:=s.toks+1}) X I hc hp S.obj hf (xm (s:={s with toks:=s.toks+1}) X hx hC hd hnc hc hdc fun h' q1 q2 q3 tk'=>?_));exact hq h' q1 q2 q3 tk'
end
end PySem.W
namespace PySem.W
open PySem PySem.Spec PySem.Calls PyProof.Rows Builtin Builtin.ObjectAttr
section
variable{prog:Program}{w:World}{A:Around}{E:Value->Shared->Prop}{s:Shared}{K:Frag}{x D:Addr}{ox:Obj}{od:Option Obj}{name:Str}{v:Value}
theorem getx {expr:Bool}{Q:Value->Shared->Prop} (X:K.In s.heap) (I:InstAt s.heap x ox D od) (hga:findIn K (.ref D) "__getattribute__" = some (some (.builtin "BaseException.__getattribute__"))) (hgn:findIn K (.ref D) "__getattr__" = some none) (hmB:mroIn K D (.type "BaseException")=some true)
  (hf:findObj K D od name=some (.value v)) (hv:handedIn v=true) (hq:∀tk',Q v {s with toks:=tk'}):wpAny (model prog w) A (getAttr (.ref x) name expr) Q E s:=by
 obtain⟨hh,g,d,t,os⟩:=s;have L0:=I.type (M:=model prog w);have L1:Looks (model prog w) hh (typeLookup (.ref D) "__getattribute__") (some (.builtin "BaseException.__getattribute__")):=NC X hga;have L2:Looks (model prog w) hh (typeLookup (.ref D) "__getattr__") none:=NC X hgn;have Lf:=looks_find (M:=model prog w) X I hf;have f3:=ND.ga.bind (.ref x);have hx2:(Value.builtin "BaseException.__getattribute__" == Value.builtin "object.__getattribute__")=false:=by decide +kernel
 have hx1:(onTheHeap (Value.ref D)&&Value.builtin "BaseException.__getattribute__" == Value.builtin "object.__getattribute__")=false:=by rw[hx2];rfl
 have hx0:(false&&onTheHeap (Value.builtin "BaseException.__getattribute__"))=false:=rfl;unfold getAttr getAttrBy
 repeat (any_goals (first|assumption|with_reducible refine L0.at ?_|with_reducible refine L1.at ?_|with_reducible refine L2.at ?_|wp_step))
 rw[JA (show ¬ (expr&&onTheHeap (Value.builtin "BaseException.__getattribute__"))=true from by cases expr <;> exact J6)];unfold boundAndCalled
 repeat (any_goals (first|assumption|with_reducible refine L0.at ?_|wp_step))
 refine MV ND.ga.plain F.entry_bexc_ga (tQ X L0 hmB ?_);unfold Builtin.«object.__getattribute__»
 repeat (any_goals (first|assumption|with_reducible refine L0.at ?_|with_reducible refine Lf.at ?_|wp_step))
 show wpAny _ _ (handedOut v) _ _ _;rw[handedOut_of hv];exact J8 (hq _)
end
end PySem.W
namespace L2
open PySem PySem.Spec PyProof.Rows
def sE(ea C:Addr):HO:=.ext fun h=>∃t:Addr,h.get? ea=some {cls:=.ref C,data:=.fields #[.ref t,.none,.none,.none,.bool false,.none]}
def jn(ea C dx:Addr):HO:=.ext fun h=>∃t:Addr,h.get? ea=some {cls:=.ref C,dict:=some dx,data:=.fields #[.ref t,.none,.none,.none,.bool false,.none]}
section
variable{X:Cx}{pins:List (Addr×Obj)}{σ:St}{H:Hp}{s:Shared}{ea C:Addr}{f:Str}{A:Around}{E:Value->Shared->Prop}
theorem BU{y:V}{u:Value}{Q:Unit->Shared->Prop}(I:aP X pins σ H s)(e:H ea=some (sE ea C))(S:W.SetsX X.K C)(n:W.findIn X.K (.ref C) f=some none)(ry:bE y u)
  (h:∀s' dx,H dx=none->dx≠ea->aP X pins σ (bx (bx H dx (.xd [(f,y)])) ea (jn ea C dx)) s'->Q () s'):wpAny (model X.prog X.w) A (setAttr (.ref ea) f u) Q E s:=by
 obtain⟨⟨t,he⟩,_,_⟩:=(show cA X.prog X.w H s.heap ea (sE ea C) from I.hok ea _ e);have hlt:=JB he;have hne:s.heap.objs.size≠ea:=J7 hlt;refine W.setx_one I.kIn S n he rfl rfl rfl fun h' q1 q2 q3 tk'=>h _ s.heap.objs.size I.fresh hne ?_;have ne:∀b,H b=none->b≠ea:=fun b z q=>by rw[q,e]at z;cases z
 have tr:∀b (o:HO),H b=some o->(∀φ,o≠.ext φ)->bx (bx H s.heap.objs.size (.xd [(f,y)])) ea (jn ea C s.heap.objs.size) b=some o:=fun b o q nx=>by
  rw[aJ fun z=>?_,aJ fun z=>?_]
  ·exact q
  ·rw[z,I.fresh]at q;cases q
  ·rw[z,e]at q;cases q;exact nx _ rfl
 refine I.call' (s':={s with heap:=h',toks:=tk'}) rfl ⟨fun b o q n _ _=>q3 b o (ne b n) q,fun b o q n _ _=>⟨o.slots,q3 b o (ne b n) q⟩,fun b o q n _=>?_,fun b o q _=>?_,fun b xs q=>tr b _ q (fun _ z=>nomatch z),fun b o u q=>tr b _ q (fun _ z=>nomatch z),
  fun b ps q=>⟨#[],by rw[tr b _ q (fun _ z=>nomatch z)];simp⟩⟩ (fun b o q=>?_) I.bare (ch:=[]) (fun b z=>absurd z (by simp))
 ·rw[aJ (ne b n),aJ (JE (JB q))];exact n
 ·by_cases z : b = ea
  ·exact⟨_,by rw[z];exact q1⟩
  ·exact⟨o,q3 b o z q⟩
 ·by_cases z : b = ea
  ·subst z;rw[aS]at q;cases q;exact⟨⟨t,q1⟩,⟨_,q1⟩,fun h1 h2 a k=>by obtain⟨t',a⟩:=a;exact⟨t',k _ a⟩⟩
  ·rw [aJ z] at q;by_cases z2:b=s.heap.objs.size
   ·subst z2;rw[aS]at q;cases q;refine⟨_,q2,fun g=>?_⟩;by_cases hg:g=f
    ·subst hg;simp only[Lr,Ls,KO];exact ry
    ·rw[JA hg,Lr,show (g == f)=false from by simpa using hg];exact True.intro
   ·rw [aJ z2] at q;refine(I.hok b o q).stay (fun c v hc r=>q3 c v ?_ r) (fun c r=>tr c _ r (fun _ z=>nomatch z)) fun c xs r=>tr c _ r (fun _ z=>nomatch z);rcases hc with rfl|hc
    ·exact z
    ·intro w;rw[w,e]at hc;cases hc
end
def He(K:W.Frag)(ta tv:TE)(f:Str):TS:=fun D σ H=>tv σ H fun y H1=>ta σ H1 fun x H2=>∃ea C,x=.ref ea/\H2 ea=some (sE ea C)/\W.SetsX K C/\W.findIn K (.ref C) f=some none /\
 ∀dx,H2 dx=none->dx≠ea->D.nx σ (bx (bx H2 dx (.xd [(f,y)])) ea (jn ea C dx))
section
variable{X:Cx}{o value:Expr}{ta tv:TE}{f:Str}{pos pos':Pos}
theorem Cd(ha:PE X o ta)(hv:PE X value tv)(hs:swapsWith value (some (.Attribute o f pos')) pos.line X.env=pure false):PS X (.Assign [.Attribute o f pos'] value pos) (He X.K ta tv f):=by
 intro pins s σ H D I h;refine plainObj_wpAny_Assign_Attribute (cT (hv pins s σ H _ I h) fun u s1 ⟨y,H1,I1,ry,q⟩=>cT (ha pins s1 σ H1 _ I1 q) fun ov s2 ⟨x,H2,I2,rx,ea,C,ex,e,S,n,q2⟩=>?_) hs;subst ex;obtain rfl:ov=Value.ref ea:=rx;exact BU I2 e S n ry fun s3 dx z1 z2 I3=>⟨σ,_,I3,q2 dx z1 z2⟩
end
section
variable{P:Program}{w:World}{K:W.Frag}{mg:Str->Option Value}{base:Heap}{N:List Str}{qual:Str}{scope:Scope}{f:Addr}{cdv:Value}{A:Around}{outer:List Env}{s0:Shared}{H0:Hp}{E:XK}
theorem FJ{pins:List (Addr×Obj)}{σ:St}{H:Hp}{s:Shared}{ea C dx:Addr}(I:aP (lL P w K mg base N qual scope f cdv A outer s0 H0 E) pins σ H s)(e:H ea=some (jn ea C dx))(hn:s0.heap.get? ea=none)
  (q:E (.ref C) (some ea) (bx H ea (je ea C (some dx)))):(lL P w K mg base N qual scope f cdv A outer s0 H0 E).xe (.ref ea) s:=by
 obtain⟨⟨t,he⟩,_,_⟩:=(show cA P w H s.heap ea (jn ea C dx) from I.hok ea _ e);obtain⟨fs,hfs⟩:∃fs,fs=ea::nM (envOfC qual scope s0.heap.objs.size f cdv::outer):=⟨_,rfl⟩;have hin:∀env∈(envOfC qual scope s0.heap.objs.size f cdv::outer),∀b,env.frame=some b->b∈fs:=fun env he b hb=>by rw[hfs];exact JL _ (Ke.mpr ⟨env,he,hb⟩)
 have hst:(W.hideAll s.heap fs).StaysIn s.heap:=fun b o q=>W.of_hideAll _ q
 have hB:∀b o,s0.heap.get? b=some o->b∉nM outer->∃o',(W.hideAll s.heap fs).get? b=some o':=fun b o e hb=>by
  obtain⟨⟨o1,e1⟩,nb⟩:=mV I e hb;refine⟨o1,W.hideAll_get _ e1 ?_⟩;rw[hfs];intro z;rcases JN.mp z with z|z
  ·rw[z,hn]at e;cases e
  ·exact nb z
 obtain⟨H1,hH1⟩:∃H1:Hp,H1=fun b=>if b=ea then none else H b:=⟨_,rfl⟩
 have h1:H1 ea=none:=by rw[hH1];exact Jz rfl
 have h2:∀b,b≠ea->H1 b=H b:=fun b hb=>by rw[hH1];exact JA hb
 have h3:bx H1 ea (je ea C (some dx))=bx H ea (je ea C (some dx)):=by
  funext b;by_cases hb:b=ea
  ·rw[hb,aS,aS]
  ·rw[aJ hb,aJ hb,h2 b hb]
 have ne:∀b (o:HO),H b=some o->(∀φ,o≠.ext φ)->b≠ea:=fun b o q nx z=>by rw[z,e]at q;cases q;exact nx _ rfl
 have hok:lM P w H1 (W.hideAll s.heap fs):=fun b u q=>by
  have hb:b≠ea:=fun z=>by rw[z,h1]at q;cases q
  rw[h2 b hb]at q
  have nfr:∀c v,H c=some v->c≠ea->c∉fs:=fun c v e z y=>by
   rw[hfs]at y;rcases JN.mp y with y|y
   ·exact z y
   ·rw[I.stkFree c y]at e;cases e
  refine(I.hok b u q).stay (fun c v hc r=>W.hideAll_get _ r ?_) (fun c r=>by rw[h2 c (ne c _ r (fun _ z=>nomatch z))];exact r) fun c xs r=>by rw[h2 c (ne c _ r (fun _ z=>nomatch z))];exact r
  rcases hc with rfl|hc
  ·exact nfr _ _ q hb
  ·exact nfr _ _ hc (ne c _ hc (fun _ z=>nomatch z))
 have hb1:Un (nM outer) [] H0 H1 s0.heap s.heap:=by
  have u:=I.base;refine⟨u.keep,u.slot,fun b o e n hx=>?_,u.there,fun b xs q=>?_,fun b o u' q=>?_,fun b ps q=>?_⟩
  ·by_cases z : b = ea
   ·rw[z];exact h1
   ·rw[h2 b z];exact u.free b o e n hx
  ·have:=u.tups b xs q;rw[h2 b (ne b _ this (fun _ z=>nomatch z))];exact this
  ·have:=u.frzs b o u' q;rw[h2 b (ne b _ this (fun _ z=>nomatch z))];exact this
  ·obtain⟨m,this⟩:=u.tbls b ps q;exact⟨m,by rw[h2 b (ne b _ this (fun _ z=>nomatch z))];exact this⟩
 show wpAny _ _ (leaving _ (.ref ea)) _ _ s;refine lH (a0:=.ref t) I.ok.frames rfl hst (W.funFrames_hide I.stack hin) ?_ he rfl rfl rfl fun h' fl up=>?_
 ·exact W.hideAll_none _ (by rw[hfs];exact JK)
 ·exact⟨ea,C,.ref t,some dx,_,H1,rfl,I.os,I.bare,yJ hb1 hB hst fl.1 up (qx I),hok,fl,h1,hB,by rw[h3];exact q⟩
end
def HP(a:Str)(C:Addr):Sp:=fun vs H Q _=>∃ea y,vs=[.ref ea,y]/\H ea=some (sE ea C)/\∀dx,H dx=none->dx≠ea->Q .non (bx (bx H dx (.xd [(a,y)])) ea (jn ea C dx))
def uM (mg:Str->Option Value) (base:Heap) (c:Str) (C fI:Addr):Prop:=mg c=some (.ref C)/\∃bmB newId B initId bm N nm q bs hdct sn sub ab col dd k0 k1 k2 k3 k5 mN,base.get? C=some (excClassObj nm q C N bs bm hdct sn sub ab col dd k0 k1 k2 k3 k5 newId)/\base.Ns N mN/\mN "__init__" = some (.ref fI)/\OwnTail base bmB bm /\
 ExcBaseFacts B newId initId bmB/\∃oI,base.get? fI=some oI/\oI.cls=.type "function"
section
variable{X:Cx}{pins:List (Addr×Obj)}{σ:St}{H:Hp}{s:Shared}{ea C:Addr}
theorem aP.newx{h':Heap}{us:List Value}(I:aP X pins σ H s)(hm:Heap.MadeExcOf s.heap h' ea (.ref C) us):H ea=none/\aP X pins σ (bx H ea (sE ea C)) {s with heap:=h'}:=by
 have hn:H ea=none:=by
  cases z:H ea with
  |none=>rfl
  |some u=>
   obtain⟨o,e⟩:=(I.hok ea u z).thr;rw[hm.new]at e;cases e
 obtain⟨t,he,_,_⟩:=hm.there;have tr:∀b (o:HO),H b=some o->bx H ea (sE ea C) b=some o:=fun b o q=>by rw[aJ (bB q hn)];exact q
 refine⟨hn,I.call' (s':={s with heap:=h'}) rfl ⟨fun b o q n _ _=>hm.keeps b o q,fun b o q n _ _=>⟨o.slots,hm.keeps b o q⟩,fun b o q n _=>?_,fun b o q _=>⟨o,hm.keeps b o q⟩,fun b xs q=>tr b _ q,fun b o u q=>tr b _ q,
  fun b ps q=>⟨#[],by rw[tr b _ q];simp⟩⟩ (fun b o q=>?_) I.bare (ch:=[]) (fun b z=>absurd z (by simp))⟩
 ·rw[aJ fun z=>by rw[z,hm.new]at q;cases q];exact n
 ·by_cases z : b = ea
  ·subst z;rw[aS]at q;cases q;exact⟨⟨t,he⟩,⟨_,he⟩,fun h1 h2 a k=>by obtain⟨t',a⟩:=a;exact⟨t',k _ a⟩⟩
  ·rw[aJ z]at q;exact(I.hok b o q).stay (fun c v _ r=>hm.keeps c v r) (fun c r=>tr c _ r) fun c xs r=>tr c _ r
end
section
variable{P:Program}{w:World}{K:W.Frag}{mg:Str->Option Value}{base:Heap}{N:List Str}{qual:Str}{scope:Scope}{f:Addr}{cdv:Value}{A:Around}{outer:List Env}{s0:Shared}{H0:Hp}{E:XK}
theorem xC{c a:Str}{C fI:Addr}{fd:FuncData}{ps:List Str}{k:Nat}{e:Expr}{t:TA}{np cpos pos:Pos}(O:uM mg base c C fI)(F:i6 P w K mg base (yy P w) k fI fd ps (HP a C)){A':Around}(hr:dg (k+1) A')(hA:A'=(lL P w K mg base N qual scope f cdv A outer s0 H0 E).A)(hb:dr K fd ps [])
  (ha:PA (lL P w K mg base N qual scope f cdv A outer s0 H0 E) [e] t) (hg:Gl (lL P w K mg base N qual scope f cdv A outer s0 H0 E) c) (hd:(c == ("__debug__" : Str))=false)
  (he:starEach [e] (lL P w K mg base N qual scope f cdv A outer s0 H0 E).env=(false,eval e (lL P w K mg base N qual scope f cdv A outer s0 H0 E).env)::starEach [] (lL P w K mg base N qual scope f cdv A outer s0 H0 E).env:=by rfl) :
  PS (lL P w K mg base N qual scope f cdv A outer s0 H0 E) (.Raise (some (.Call (.Name c np) [e] [] cpos)) none pos)
   (fun _ σ H=>t σ H fun vs H1=>∃y,vs=[y]/\∀ea dx,H1 ea=none->H1 dx=none->dx≠ea->E (.ref C) (some ea) (bx (bx H1 dx (.xd [(a,y)])) ea (je ea C (some dx)))):=by
 intro pins s σ H D I q;obtain⟨bound,bmB,newId,B,initId,bm,Nn,nm,qn,bs,hdct,sn,sub,ab,col,dd,k0,k1,k2,k3,k5,mN,hC,hN,hi,T,FB,oI,hfI,hfc⟩:=O;subst hA
 refine uy (C:=C) (nm:=nm) (q:=qn) (N:=Nn) (bs:=bs) (bm:=bm) (hdct:=hdct) (sn:=sn) (sub:=sub) (ab:=ab) (col:=col) (dd:=dd) (k0:=k0) (k1:=k1) (k2:=k2) (k3:=k3) (k5:=k5)
  FB (mN:=mN) (T.hasType FB.hasBase) (I.ok.hd rfl) (by rw[he];rfl) hi (jH I hg bound ⟨rfl,?_⟩ hd)
 have ha':=ha cpos pins s σ H _ I q;rw[he]at ha'⊢;refine PySem.Calls.evalArgs_plain (cT ha' fun us s1 ⟨vs,H1,I1,r,y,ev,q1⟩=>?_);subst ev
 obtain⟨u,rfl⟩:∃u,us=[u]:=by
  cases r with
  |cons r1 r2=>cases r2;exact⟨_,rfl⟩
 have ry:bE y u:=by cases r with|cons r1 r2=>exact r1
 refine⟨rfl,?_,I1.bk _ _ hC,hN.keeps I1.bk,T.keeps I1.bk,⟨oI,I1.bk _ _ hfI,hfc⟩,fun h' ea hm=>?_⟩
 ·show 1<=sizeLine;decide
 obtain⟨hn,I2⟩:=I1.newx hm
 have hs0:s0.heap.get? ea=none:=by
  cases z:s0.heap.get? ea with
  |none=>rfl
  |some o=>
   obtain⟨o',e'⟩:=I1.base.there ea o z (fun z=>by cases z);rw[hm.new]at e';cases e'
 have hl:([Value.ref ea,u]++[]).length=ps.length:=by
  have:=F.len [.ref ea,y] (bx H1 ea (sE ea C)) (fun _ _=>True) (fun _ _ _=>True) ⟨ea,y,rfl,aS,fun _ _ _=>trivial⟩;rw[<- this];rfl
 refine Kl (Km (F.run _ _ _ _ ⟨[.ref ea,u],[]⟩ ([.ref ea,u]++[]) [.ref ea,y] (fun v H2=>v=.non/\∃dx,H1 dx=none/\dx≠ea/\H2=bx (bx (bx H1 ea (sE ea C)) dx (.xd [(a,y)])) ea (jn ea C dx)) E (hr.make C [u] []) (I2.env0.make C [u] [])
  (hb _ [.ref ea,u] I2.kIn hl) (.cons rfl (.cons ry .nil)) ⟨ea,y,rfl,aS,fun dx z1 z2=>⟨rfl,dx,by rw[aJ z2]at z1;exact z1,z2,rfl⟩⟩) fun r s' hq'=>?_)
 cases r with
 |error e'=>exact Hr pins σ _ _ e' s' I2 hq'
 |ok fl=>
  cases fl with
  |ret u'=>
   obtain⟨v,H',I3,rv,ev,dx,z1,z2,eH⟩:=I2.after hq';subst ev;have rv':u'=Value.none:=rv
   have eH':H'=bx (bx H1 dx (.xd [(a,y)])) ea (jn ea C dx):=by
    rw[eH];funext b;by_cases hb1:b=ea
    ·rw[hb1,aS,aS]
    ·rw [aJ hb1, aJ hb1];by_cases hb2:b=dx
     ·rw[hb2,aS,aS]
     ·rw[aJ hb2,aJ hb2,aJ hb1]
   have e3:H' ea=some (jn ea C dx):=by rw[eH',aS]
   obtain⟨⟨t',het⟩,_,_⟩:=(show cA P w H' s'.heap ea (jn ea C dx) from I3.hok ea _ e3);refine⟨rv',some dx,t',I3.bk _ _ hC,het,FJ I3 e3 hs0 ?_⟩;have q2:=q1 ea dx hn z1 z2;rw[eH']
   have:bx (bx (bx H1 dx (.xd [(a,y)])) ea (jn ea C dx)) ea (je ea C (some dx))=bx (bx H1 dx (.xd [(a,y)])) ea (je ea C (some dx)):=by
    funext b;by_cases hb1:b=ea
    ·rw[hb1,aS,aS]
    ·rw[aJ hb1,aJ hb1,aJ hb1]
   rw[this];exact q2
  |next=>exact False.elim hq'
  |brk=>exact False.elim hq'
  |cont=>exact False.elim hq'
end
def wb (K:W.Frag) (C:Addr) (f:Str):Bool:=W.findIn K (.ref C) "__getattribute__" == some (some (.builtin "BaseException.__getattribute__"))&&W.findIn K (.ref C) "__getattr__" == some none&&W.mroIn K C (.type "BaseException") == some true &&
 W.findIn K (.ref C) f == some none&&W.hasDictIn K C
def G2(K:W.Frag)(ta:TE)(f:Str):TE:=fun σ H Q=>ta σ H fun x H1=>∃a C dx fs i,x=.ref a/\H1 a=some (je a C (some dx))/\H1 dx=some (.xd fs)/\wb K C f=true/\fs.lookup f=some (.int i)/\Q (.int i) H1
section
variable{X:Cx}{e:Expr}{ta:TE}{f:Str}{pos:Pos}
theorem Cn(he:PE X e ta)(hb:attributeBase e f X.env (eval e X.env)=eval e X.env):PE X (.Attribute e f pos) (G2 X.K ta f):=by
 intro pins s σ H Q I h;refine Df hb (cT (he pins s σ H _ I h) fun u s1 ⟨x,H1,I1,rx,a,C,dx,fs,i,ex,ea,ed,hc,l,q⟩=>?_);subst ex;obtain rfl:u=Value.ref a:=rx;obtain⟨⟨oe,h1,h2,h3,h4⟩,_⟩:=(show cA X.prog X.w H1 s1.heap a (je a C (some dx)) from I1.hok a _ ea);obtain⟨mA,hn,r⟩:=(show cA X.prog X.w H1 s1.heap dx (.xd fs) from I1.hok dx _ ed);obtain⟨od,ho,hl⟩:=xS hn;unfold wb at hc;simp only[K4,NF]at hc;obtain⟨⟨⟨⟨c1,c2⟩,c3⟩,c4⟩,c5⟩:=hc;have rf:=r f;rw[l]at rf
 obtain⟨v,hv,t,rfl⟩:∃v,mA f=some v/\∃t,v=.int i t:=by
  cases z:mA f with
  |none=>rw[z]at rf;exact False.elim rf
  |some v=>rw[z]at rf;exact⟨v,rfl,rf⟩
 exact W.getx I1.kIn ⟨h1,h2,h4,by rw[h3];exact ho⟩ c1 c2 c3 (W.findObj_own c5 c4 rfl (by rw[hl,hv])) rfl fun tk'=>⟨.int i,H1,I1.tok _,⟨t,rfl⟩,q⟩
end
end L2
namespace L2
open PySem PySem.Spec PyProof.Rows RS
def GR(E:XK)(C:Addr)(x:DX)(H:Hp):Prop:=(x.args=[]->∀ea,H ea=none->E (.ref C) (some ea) (bx H ea (je ea C none))) /\
 (x.args≠[]->∀ea dx,H ea=none->H dx=none->dx≠ea->E (.ref C) (some ea) (bx (bx H dx (.xd (x.args.map fun p=>(p.1,V.int p.2)))) ea (je ea C (some dx))))
abbrev DM(K:W.Frag)(w:World)(E:XK):Pa:=⟨K,w,fun x _ H _=>∃C,W.nsIn K mainGlobals x.cls=some (some (.ref C))/\GR E C x H⟩
def Ik(K:W.Frag)(w:World)(n:Nat)(F:List D->aA->ai D):Sp:=fun vs H Q E=>vs.length=n/\∃α ds μ,dF K w H α μ/\Reps K H α ds vs/\aB (DM K w E) H α (F ds μ) (RV (DM K w E) Q)
structure xh(P:Program)(w:World)(K:W.Frag)(mg:Str->Option Value)(base:Heap)(k:Nat)(x:Str)(n:Nat)(F:List D->aA->ai D):Prop where
 len:∀ds μ,ds.length≠n->F ds μ=.bad
 fn:∃f fd ps,mg x=some (.ref f)/\W.keepIn K (.ref f)=true/\dr K fd ps []/\i6 P w K mg base (yy P w) k f fd ps (Ik K w n F)
theorem D9{P:Program}{w:World}{K:W.Frag}{mg:Str->Option Value}{base:Heap}{k n:Nat}{x qual:Str}{st:Stmt}{f:Addr}{fd:FuncData}{N ps:List Str}{fb:MS}
  (F:gT K x qual st f fd) (S:aX N ps (au st)) (hn:ps.length=n) (hm:mg x=some (.ref f)) (hb:dr K fd ps [])
  (body : ∀ (cdv : Value) (A : Around) (outer : List Env) (s : Shared) (H : Hp) (E : XK), dg k (A.deeper (envOfC qual (au st) s.heap.objs.size f cdv)) ->
   Bx (gU (lL P w K mg base N qual (au st) f cdv A outer s H E) (bC st) (fK (DM K w E) fb))):xh P w K mg base (k+1) x n (iI n N.length fb):=by
 refine⟨fun ds μ h=>by unfold iI;rw[JA h],f,fd,ps,hm,F.kp,hb,?_⟩;obtain⟨oc,od,kV,doc,pm,an,cdv,ct,osl,rfl,lk,hcd⟩:=F.ex;refine yV lk hcd S (fun vs H Q E h=>h.1.trans hn.symm) fun A outer s H vs Q E hr h=>?_;refine⟨_,(body cdv A outer s H E hr).h,?_⟩;obtain⟨hl,α,ds,μ,S1,R1,P1⟩:=h;unfold iI at P1;have hd:ds.length=n:=by rw[<- R1.length];exact hl
 rw[Jz hd]at P1;have P2:=nF S1 P1;unfold start;rw[hl];refine⟨α,_,μ,S1,iU R1 _,?_⟩;cases e:fb (ds.map some++List.replicate (N.length-n) none) μ with
 |ret d μ'=>rw[e]at P2;exact fun H' α' v x s r=>P2 H' α' x s v r
 |next ρ μ'=>rw[e]at P2;exact fun H' α' σ' x s r=>P2 H' α' x s .non (bu.mpr rfl)
 |exc x μ'=>rw[e]at P2;exact P2
 |brk ρ μ'=>rw[e]at P2;exact P2.elim
 |cnt ρ μ'=>rw[e]at P2;exact P2.elim
 |bad=>rw[e]at P2;exact P2.elim
section
variable{X:Cx}{E:XK}{k n:Nat}{x:Str}{F:List D->aA->ai D}{a:Expr}{es:List Expr}{fr:MA}{pos px:Pos}
theorem we {p:Pa} (h:f7 X.prog X.w X.K X.mg X.base p.nx k x n F) (hr:dg k X.A) (ha:Bx (PA X (a::es) (i8 p fr))) (hg:Gl X x:=by rfl) (hdb:(x == ("__debug__" : Str))=false:=by decide)
  (he:starEach (a::es) X.env=(false,eval a X.env)::starEach es X.env:=by rfl) (hpl:(backTo pos (starEach es X.env)).any (·.1)=false:=by rfl):Bx (PE X (.Call (.Name x px) (a::es) [] pos) (tD p (ax (fun ds μ=>(F ds μ).nox) fr))):=Bx.mk (by
 obtain⟨f,fd,ps,h1,h2,h3,h4⟩:=h.fn;refine(wB (dvs:=[]) (E:=E0) h4 hr hg h1 h2 h3 .nil yQ ha.h hdb he hpl).weak fun σ H Q ⟨α,ρ,μ,S,R,P⟩=>⟨α,ρ,μ,S,R,(aB.bind P).imp fun ds μ1 H1 α1 X1 S1 P1 vs rv=>?_⟩;show A6 p.nx n F (vs++[]) H1 Q E0;rw[Kk]
 have P2:aB p.nx H1 α1 (F ds μ1) (RV p.nx Q):=by
  cases e:F ds μ1 with
  |ok d μ'=>rw[e]at P1;exact P1
  |exc y μ'=>rw[e]at P1;exact False.elim P1
  |bad=>rw[e]at P1;exact P1
 refine⟨?_,α1,ds,μ1,S1,rv,P2⟩;by_cases hl:ds.length=n
 ·rw[rv.length];exact hl
 ·rw[h.len ds μ1 hl]at P2;exact P2.elim)
end
section
variable{P:Program}{w:World}{K:W.Frag}{mg:Str->Option Value}{base:Heap}{N:List Str}{qual:Str}{scope:Scope}{f:Addr}{cdv:Value}{A:Around}{outer:List Env}{s0:Shared}{H0:Hp}{E:XK}
def iM(c a:Str)(fr:MA):MS:=fun ρ μ=>match fr ρ μ with
 |.ok [.int i] μ1=>.exc ⟨c,[(a,i)]⟩ μ1
 |.exc x μ1=>.exc x μ1
 |_=>.bad
theorem zL{c a:Str}{C fI:Addr}{fd:FuncData}{ps:List Str}{k:Nat}{e:Expr}{fr:MA}{np cpos pos:Pos}(hc:W.nsIn K mainGlobals c=some (some (.ref C)))(O:uM mg base c C fI)(F:i6 P w K mg base (yy P w) k fI fd ps (HP a C))(hr:dg (k+1) (lL P w K mg base N qual scope f cdv A outer s0 H0 E).A)(hb:dr K fd ps [])
  (ha:Bx (PA (lL P w K mg base N qual scope f cdv A outer s0 H0 E) [e] (i8 (DM K w E) fr))) (hg:Gl (lL P w K mg base N qual scope f cdv A outer s0 H0 E) c:=by rfl) (hd:(c == ("__debug__" : Str))=false:=by decide)
  (he:starEach [e] (lL P w K mg base N qual scope f cdv A outer s0 H0 E).env=(false,eval e (lL P w K mg base N qual scope f cdv A outer s0 H0 E).env)::starEach [] (lL P w K mg base N qual scope f cdv A outer s0 H0 E).env:=by rfl) :
  Bx (PS (lL P w K mg base N qual scope f cdv A outer s0 H0 E) (.Raise (some (.Call (.Name c np) [e] [] cpos)) none pos) (fK (DM K w E) (iM c a fr))):=Bx.mk (by
 refine(xC O F hr rfl hb ha.h hg hd he).weak fun D σ H ⟨α,ρ,μ,S,R,P⟩=>⟨α,ρ,μ,S,R,?_⟩;unfold iM at P;cases z:fr ρ μ with
 |bad=>rw[z]at P;exact False.elim P
 |exc x μ1=>rw[z]at P;exact P
 |ok ds μ1=>
  rw[z]at P
  match ds,P with
  |[.int i],P=>
   intro H1 α1 X1 S1 vs rv
   obtain⟨y,rfl,ry⟩:∃y,vs=[y]/\y=V.int i:=by
    simp only[Reps,aM]at rv;obtain⟨v,r,e1,e2,e3⟩:=rv;subst e3;exact⟨v,e1,e2⟩
   subst ry;obtain⟨C',h1,h2⟩:=P H1 α1 X1 S1;rw[hc]at h1;cases h1
   exact⟨.int i,rfl,h2.2 (by simp)⟩)
end
def DN(x:DX):O:=match x.args with
 |[]=>.exc x.cls
 |fs=>.exn x.cls fs
def kP(K:W.Frag)(r:Str)(R:Addr)(known:List Str):Prop:=∀c∈known,∃C,W.nsIn K mainGlobals c=some (some (.ref C))/\W.exmOne K (.ref C) (.ref R)=some true
theorem zB{CX:sj}{P:Program}{w:World}{K:W.Frag}{mg:Str->Option Value}{base:Heap}{N:List Str}{qual:Str}{scope:Scope}{f:Addr}{cdv:Value}{A:Around}{outer:List Env}{s:Shared}{H:Hp}{E:XK}:(nQ CX P w K mg base N qual scope f cdv A outer s H E).nox.Fn:=⟨rfl,rfl,rfl⟩
theorem qF{x:V}:∀{xs:List V}{us:List Value},aW xs us->xs.all jm=true->us.countP (DO x)=xs.countP fun y=>vR y x
 |_,_,.nil,_=>rfl
 |y::xs,u::us,.cons r t,f=>by
  rw[Ld,K4]at f;rw[List.countP_cons,List.countP_cons,uV r f.1,qF t f.2]
def zq:V->List V->Hp->VK->Prop:=fun x vs H Q=>∃l xs y,x=.ref l/\vs=[y]/\H l=some (.lst xs)/\jm y=true/\xs.all jm=true/\Q (.int (xs.countP fun z=>vR z y:Nat)) H
def zp:V->List V->Hp->VK->Prop:=fun x vs H Q=>∃l xs y j,x=.ref l/\vs=[y]/\H l=some (.lst xs)/\jm y=true/\xs.all jm=true/\(∃z,xs[j]?=some z/\vR z y=true)/\(∀m z,m<j->xs[m]?=some z->vR z y=false)/\xs.length<1000/\Q (.int (j:Nat)) H
section
variable{X:Cx}
theorem AI:HX X "list.count" zq:=by
 intro pins s σ H x vs v us Q I rx rv h;obtain⟨l,xs,y,rfl,rfl,hH,fy,fs,q⟩:=h;cases rx;obtain⟨u,rfl,ru⟩:=rv.one;obtain⟨z,its,n,r,hl,e⟩:=I.lstM hH;refine Ll F.slot_list_count ⟨_,e,rfl⟩ F.entry_list_count (F.args_list_count_2 _ _) (SeqAt.list_countAt l its.toArray n none #[] u (DO y)) ⟨e,fun w hw=>ou ru fy r fs w (by simpa using hw),?_⟩;refine⟨.int (xs.countP fun z=>vR z y:Nat),H,I.tok _,⟨s.toks,?_⟩,q⟩;rw[<- qF r fs]
theorem AH:HX X "list.index" zp:=by
 intro pins s σ H x vs v us Q I rx rv h;obtain⟨l,xs,y,j,rfl,rfl,hH,fy,fs,⟨z0,hz,ht⟩,hno,hsz,q⟩:=h;cases rx;obtain⟨u,rfl,ru⟩:=rv.one;obtain⟨z,its,n,r,hl,e⟩:=I.lstM hH;have hlt:j<xs.length:=(JR.mp hz).1
 have hb:∀m w,its[m]?=some w->∃z,xs[m]?=some z/\DO y w=vR z y:=fun m w hw=>by
  have hm:m<its.length:=(JR.mp hw).1;have hm':m<xs.length:=by rw[r.length];exact hm
  obtain⟨u',hu',ru'⟩:=r.get (Nt hm');rw[hw]at hu';cases hu';exact⟨_,Nt hm',uV ru' (Mw.mp fs _ (Nr hm'))⟩
 have hlen:=r.length;refine Ll F.slot_list_index ⟨_,e,rfl⟩ F.entry_list_index (F.args_list_index_2 _ _) (SeqAt.list_indexAt l its.toArray n none #[] u (DO y) j (by rw[Ki];omega) (by omega) ?_ ?_) ⟨e,fun w hw=>ou ru fy r fs w (by simpa using hw),?_⟩
 ·have hw:its[j]?=some its[j]:=Nt (by omega);obtain⟨z1,a1,a2⟩:=hb j _ hw;rw[hz]at a1;cases a1;show DO y its.toArray[j]=true;rw[List.getElem_toArray,a2];exact ht
 ·intro m hm hmj;have hm':m<its.length:=by rw[Ki]at hm;exact hm
  obtain⟨z1,a1,a2⟩:=hb m _ (Nt hm');rw[List.getElem_toArray,a2];exact hno m z1 hmj a1
 ·exact⟨.int (j:Nat),H,I.tok _,⟨s.toks,rfl⟩,q⟩
end
def jk:List D->Bool
 |[]=>true
 |.bl _::r=>jk r
 |_::_=>false
def lQ:D->Bool
 |.bl b=>b
 |_=>false
theorem tZ{K:W.Frag}{H:Hp}{α:List Addr}{xs:List D}:∀{vs:List V},Reps K H α xs vs->jk xs=true->vs=xs.map fun d=>V.bl (lQ d):=by
 induction xs with
 |nil=>intro vs h _;simp only[Reps]at h;exact h
 |cons d r ih=>
  intro vs h q;simp only[Reps]at h;obtain⟨v,r',rfl,h1,h2⟩:=h;cases d with
  |bl b=>rw[aQ.mp h1,ih h2 (by simpa only[jk] using q)];rfl
  |non=>simp only[jk]at q;cases q
  |int i=>simp only[jk]at q;cases q
  |str i=>simp only[jk]at q;cases q
  |tup i=>simp only[jk]at q;cases q
  |frz i=>simp only[jk]at q;cases q
  |obj i=>simp only[jk]at q;cases q
theorem oA:∀xs:List D,(xs.map fun d=>V.bl (lQ d)).all jm=true
 |[]=>rfl
 |_::xs=>by rw[K7,Ld,oA xs];rfl
def jL(d:D)(ds:List D)(μ:aA):ai D:=match d,ds with
 |.obj n,[.bl true]=>match μ[n]? with
  |some (.lst xs)=>if jk xs=true then .ok (.int (xs.countP lQ:Nat)) μ else .bad
  |_=>.bad
 |_,_=>.bad
def jK(d:D)(ds:List D)(μ:aA):ai D:=match d,ds with
 |.obj n,[.bl true]=>match μ[n]? with
  |some (.lst xs)=>if jk xs=true/\xs.length<1000/\xs.any lQ=true then .ok (.int (xs.findIdx lQ:Nat)) μ else .bad
  |_=>.bad
 |_,_=>.bad
section
variable{p:Pa}
theorem xQ:Gw p jL zq:=by
 intro d ds v vs H α μ Q S rd rs P;unfold jL at P;split at P
 ·split at P
  ·rename_i n xs hx;split at P
   ·rename_i hb;obtain⟨a,us,rfl,a1,h1,rr⟩:=cV S rd hx;have hv:=tZ rr hb;simp only[Reps]at rs;obtain⟨y,r',rfl,h3,rfl⟩:=rs;rw[aQ.mp h3];refine⟨a,us,.bl true,rfl,rfl,h1,rfl,by rw[hv];exact oA xs,?_⟩;have z:=P.now S (.int (xs.countP lQ:Nat)) (aq.mpr rfl)
    have e:(us.countP fun z=>vR z (.bl true))=xs.countP lQ:=by
     rw[hv,List.countP_map];congr 1;funext d;cases h:lQ d <;> simp[vR,h]
    rw[e];exact z
   ·exact P.elim
  ·exact P.elim
 ·exact P.elim
theorem xP:Gw p jK zp:=by
 intro d ds v vs H α μ Q S rd rs P;unfold jK at P;split at P
 ·split at P
  ·rename_i n xs hx;split at P
   ·rename_i hb;obtain⟨hb,hlen,hany⟩:=hb;obtain⟨a,us,rfl,a1,h1,rr⟩:=cV S rd hx;have hv:=tZ rr hb;simp only[Reps]at rs;obtain⟨y,r',rfl,h3,rfl⟩:=rs;rw[aQ.mp h3];have hlt:xs.findIdx lQ<xs.length:=List.findIdx_lt_length_of_exists (by simpa using hany);refine⟨a,us,.bl true,xs.findIdx lQ,rfl,rfl,h1,rfl,by rw[hv];exact oA xs,⟨.bl true,?_,rfl⟩,fun m z hm hz=>?_,by rw[hv,KE];exact hlen,P.now S (.int (xs.findIdx lQ:Nat)) (aq.mpr rfl)⟩
    ·rw[hv,KA,Nt hlt];have:=List.findIdx_getElem (w:=hlt);simp[this]
    ·rw [hv, KA, Nt (by omega : m < xs.length)] at hz;cases hz;have hf:=List.not_of_lt_findIdx hm;show (lQ _ == true)=false;rw[beq_true];cases z:lQ xs[m] with
     |false=>rfl
     |true=>rw[z]at hf;exact absurd hf (by decide)
   ·exact P.elim
  ·exact P.elim
 ·exact P.elim
end
def km(subs known:List Str)(d:D)(μ:aA):ai D:=match d with
 |.obj n=>match μ[n]? with
  |some (.exc c)=>if known.contains c=true then .ok (.bl (subs.contains c)) μ else .bad
  |some (.exn c _)=>if known.contains c=true then .ok (.bl (subs.contains c)) μ else .bad
  |_=>.bad
 |_=>.bad
def bG(K:W.Frag)(u:Value)(subs known:List Str):Prop:=∀c∈known,∃C,W.nsIn K mainGlobals c=some (some (.ref C))/\W.excCls K C=true/\W.kitOne K (.ref C) u=some (subs.contains c)
theorem zv{p:Pa}{K:W.Frag}{u:Value}{v x:V}{subs known:List Str}{d:D}{H:Hp}{α:List Addr}{μ:aA}{Q:VK}(hK:K=p.K)(hk:bG K u subs known)(ru:bE v u)(S:p.S H α μ)(r:p.R H α d x)(P:aB p H α (km subs known d μ) (RV p Q)):GG K u [x,v] H Q:=by
 subst hK;unfold km at P;split at P
 ·split at P
  ·rename_i n c hx;split at P
   ·rename_i hc;obtain⟨a,ea,C,dx,h1,h2⟩:=S.at hx;obtain⟨a',rfl,ea'⟩:=aN.mp r;rw[ea]at ea';cases ea';obtain⟨C',k1,k2,k3⟩:=hk c (NQ.mp hc);rw[h1]at k1;cases k1;exact⟨a,C,_,v,rfl,ru,⟨dx,h2⟩,k2,k3,P.now S _ (aQ.mpr rfl)⟩
   ·exact P.elim
  ·rename_i n c fs hx;split at P
   ·rename_i hc;obtain⟨a,ea,C,dx,h1,h2,_⟩:=S.at hx;obtain⟨a',rfl,ea'⟩:=aN.mp r;rw[ea]at ea';cases ea';obtain⟨C',k1,k2,k3⟩:=hk c (NQ.mp hc);rw[h1]at k1;cases k1;exact⟨a,C,_,v,rfl,ru,⟨some dx,h2⟩,k2,k3,P.now S _ (aQ.mpr rfl)⟩
   ·exact P.elim
  ·exact P.elim
 ·exact P.elim
section
variable{X:Cx}{p:Pa}{a e ob:Expr}{fa fo:ME}{fr:MA}{pos px pt apos:Pos}{xT:Str}{subs known:List Str}
theorem mH {C:Addr} (hk:bG X.K (.ref C) subs known) (hm:X.mg "isinstance" = none) (hmT:X.mg xT=some (.ref C)) (ha:Bx (PE X a (tD p fa))) (hg:Gl X "isinstance" := by rfl) (hgT:Gl X xT:=by rfl) (hdT:(xT == ("__debug__" : Str))=false:=by decide)
  (hs1:starEach [a,.Name xT pt] X.env=(false,eval a X.env)::starEach [.Name xT pt] X.env:=by rfl) (hK:X.K=p.K:=by rfl):Bx (PE X (.Call (.Name "isinstance" px) [a,.Name xT pt] [] pos) (tD p (i7 (km subs known) fa))):=Bx.mk (by
 have hb:PE X (.Name xT pt) (tC (.ref C)):=wA hgT hmT rfl hdT;refine(k6 (tY (u:=.ref C) fun v w h1 h2=>?_) hg hm NN (gX ha.h (gX hb oa rfl) hs1) (by decide) (by decide) hs1 rfl).weak fun σ H Q ⟨α,ρ,μ,S,R,P⟩=>⟨α,ρ,μ,S,R,(aB.bind P).imp fun d μ1 H1 α1 X1 S1 P1 v rv=>?_⟩
 ·cases v with
  |ref b=>cases (show Value.ref C=Value.ref b from h1);exact h2
  |non=>cases (show Value.ref C=Value.none from h1)
  |bl b=>cases (show Value.ref C=Value.bool b from h1)
  |int b=>obtain⟨t,z⟩:=(show ∃t,Value.ref C=Value.int b t from h1);cases z
  |str b=>obtain⟨t,z⟩:=(show ∃t,Value.ref C=Value.str b t from h1);cases z
  |byt b=>obtain⟨t,z⟩:=(show ∃t,Value.ref C=Value.bytes b t from h1);cases z
  |flt b=>obtain⟨t,z⟩:=(show ∃t,Value.ref C=Value.float b t from h1);cases z
  |ty b=>cases (show Value.ref C=Value.type b from h1)
 ·exact zv hK hk rfl S1 rv P1)
theorem Ed {T:String} (hk:bG X.K (.type T) subs known) (hm:X.mg "isinstance" = none) (hmT:X.mg xT=none) (hbT:bootBuiltins xT=some (.type T)) (ha:Bx (PE X a (tD p fa))) (hg:Gl X "isinstance" := by rfl) (hgT:Gl X xT:=by rfl) (hnT:xT ≠ "__name__" := by decide) (hdT:(xT == ("__debug__" : Str))=false:=by decide)
  (hs1:starEach [a,.Name xT pt] X.env=(false,eval a X.env)::starEach [.Name xT pt] X.env:=by rfl) (hK:X.K=p.K:=by rfl):Bx (PE X (.Call (.Name "isinstance" px) [a,.Name xT pt] [] pos) (tD p (i7 (km subs known) fa))):=Bx.mk (by
 have hb:PE X (.Name xT pt) (tC (.ty T)):=wC hgT hmT hbT rfl hnT hdT;refine(k6 (tY (u:=.type T) fun v w h1 h2=>?_) hg hm NN (gX ha.h (gX hb oa rfl) hs1) (by decide) (by decide) hs1 rfl).weak fun σ H Q ⟨α,ρ,μ,S,R,P⟩=>⟨α,ρ,μ,S,R,(aB.bind P).imp fun d μ1 H1 α1 X1 S1 P1 v rv=>?_⟩
 ·cases v with
  |ty b=>cases (show Value.type T=Value.type b from h1);exact h2
  |non=>cases (show Value.type T=Value.none from h1)
  |bl b=>cases (show Value.type T=Value.bool b from h1)
  |int b=>obtain⟨t,z⟩:=(show ∃t,Value.type T=Value.int b t from h1);cases z
  |str b=>obtain⟨t,z⟩:=(show ∃t,Value.type T=Value.str b t from h1);cases z
  |byt b=>obtain⟨t,z⟩:=(show ∃t,Value.type T=Value.bytes b t from h1);cases z
  |flt b=>obtain⟨t,z⟩:=(show ∃t,Value.type T=Value.float b t from h1);cases z
  |ref b=>cases (show Value.type T=Value.ref b from h1)
 ·exact zv hK hk rfl S1 rv P1)
theorem GT (ho:Bx (PE X ob (tD p fo))) (ha:Bx (PA X [e] (i8 p fr))) (hbase:attributeBase ob "count" X.env (eval ob X.env)=eval ob X.env:=by rfl) (hfew:((backTo pos (starEach [e] X.env)).all (fun x=>!x.1)&&(backToKw pos (keywordEach [] X.env)).all (fun x=>x.1.isSome)
   && decide ([e].length+([]:List Keyword).length+(if ([]:List Keyword).isEmpty then 0 else 1)<30))=true:=by rfl) (hline:(apos.endLine == pos.line)=true:=by rfl) (hs:starEach [e] X.env=(false,eval e X.env)::starEach [] X.env:=by rfl) (hpl:(backTo pos (starEach [] X.env)).any (·.1)=false:=by rfl) (hK:X.K=p.K:=by rfl):Bx (PE X (.Call (.Attribute ob "count" apos) [e] [] pos) (tD p (sr jL fo fr))):=
 ⟨vX hK PySem.F.slot_list_count PySem.F.type_list_count AI xQ ho.h ha.h hbase hfew hline hs hpl⟩
theorem GS (ho:Bx (PE X ob (tD p fo))) (ha:Bx (PA X [e] (i8 p fr))) (hbase:attributeBase ob "index" X.env (eval ob X.env)=eval ob X.env:=by rfl) (hfew:((backTo pos (starEach [e] X.env)).all (fun x=>!x.1)&&(backToKw pos (keywordEach [] X.env)).all (fun x=>x.1.isSome)
   && decide ([e].length+([]:List Keyword).length+(if ([]:List Keyword).isEmpty then 0 else 1)<30))=true:=by rfl) (hline:(apos.endLine == pos.line)=true:=by rfl) (hs:starEach [e] X.env=(false,eval e X.env)::starEach [] X.env:=by rfl) (hpl:(backTo pos (starEach [] X.env)).any (·.1)=false:=by rfl) (hK:X.K=p.K:=by rfl):Bx (PE X (.Call (.Attribute ob "index" apos) [e] [] pos) (tD p (sr jK fo fr))):=
 ⟨vX hK PySem.F.slot_list_index PySem.F.type_list_index AH xP ho.h ha.h hbase hfew hline hs hpl⟩
end
structure nS(P:Program)(w:World)(K:W.Frag)(mg:Str->Option Value)(base:Heap)(p:Pa)(k:Nat)(x:Str)(n:Nat)(F:List D->aA->ai D):Prop where
 len:∀ds μ,ds.length≠n->F ds μ=.bad
 fn:∃f fd ps,mg x=some (.ref f)/\W.keepIn K (.ref f)=true/\dr K fd ps []/\sQ P w K mg base uD k f fd ps (A6 p n F)
theorem zb{P:Program}{w:World}{K:W.Frag}{mg:Str->Option Value}{base:Heap}{p:Pa}{k n:Nat}{x qual:Str}{st:Stmt}{f:Addr}{fd:FuncData}{N ps:List Str}{fb:MS}
  (F:gT K x qual st f fd) (S:aX N ps (au st)) (hn:ps.length=n) (hm:mg x=some (.ref f)) (hb:dr K fd ps [])
  (body : ∀ (cdv : Value) (A : Around) (outer : List Env) (s : Shared) (H : Hp) (E : XK), dS k (A.deeper (envOfC qual (au st) s.heap.objs.size f cdv)) ->
   Bx (gU (nZ uD P w K mg base N qual (au st) f cdv A outer s H E).nox (bC st) (fK p fb))):nS P w K mg base p (k+1) x n (iI n N.length fb):=by
 refine⟨fun ds μ h=>by unfold iI;rw[JA h],f,fd,ps,hm,F.kp,hb,?_⟩;refine F.okH S (fun vs H Q E h=>h.1.trans hn.symm) fun cdv A outer s H vs Q E hr h=>?_;refine⟨_,(body cdv A outer s H E hr).h,?_⟩;obtain⟨hl,α,ds,μ,S1,R1,P1⟩:=h;unfold iI at P1;have hd:ds.length=n:=by rw[<- R1.length];exact hl
 rw[Jz hd]at P1;have P2:=nF S1 P1;unfold start;rw[hl];refine⟨α,_,μ,S1,iU R1 _,?_⟩;cases e:fb (ds.map some++List.replicate (N.length-n) none) μ with
 |ret d μ'=>rw[e]at P2;exact fun H' α' v x s r=>P2 H' α' x s v r
 |next ρ μ'=>rw[e]at P2;exact fun H' α' σ' x s r=>P2 H' α' x s .non (bu.mpr rfl)
 |exc x μ'=>rw[e]at P2;exact P2
 |brk ρ μ'=>rw[e]at P2;exact P2.elim
 |cnt ρ μ'=>rw[e]at P2;exact P2.elim
 |bad=>rw[e]at P2;exact P2.elim
theorem nz {X:Cx}{p:Pa}{k n:Nat}{x:Str}{F:List D->aA->ai D}{a:Expr}{es:List Expr}{fr:MA}{pos px:Pos} (h:nS X.prog X.w X.K X.mg X.base p k x n F) (hr:dS k X.A) (ha:Bx (PA X (a::es) (i8 p fr))) (hg:Gl X x:=by rfl) (hdb:(x == ("__debug__" : Str))=false:=by decide)
  (he:starEach (a::es) X.env=(false,eval a X.env)::starEach es X.env:=by rfl) (hpl:(backTo pos (starEach es X.env)).any (·.1)=false:=by rfl):Bx (PE X (.Call (.Name x px) (a::es) [] pos) (tD p (ax F fr))):=Bx.mk (by
 obtain⟨f,fd,ps,h1,h2,h3,h4⟩:=h.fn;refine(Ay (dvs:=[]) (E:=E0) h4 hr hg h1 h2 h3 .nil yQ ha.h hdb he hpl).weak fun σ H Q ⟨α,ρ,μ,S,R,P⟩=>⟨α,ρ,μ,S,R,(aB.bind P).imp fun ds μ1 H1 α1 X1 S1 P1 vs rv=>?_⟩;show A6 p n F (vs++[]) H1 Q E0;rw[Kk];refine⟨?_,α1,ds,μ1,S1,rv,P1⟩;by_cases hl:ds.length=n
 ·rw[rv.length];exact hl
 ·rw[h.len ds μ1 hl]at P1;exact P1.elim)
theorem pR:bootBuiltins "ValueError" = some (.type "ValueError"):=PyProof.Rows.Boot.«ValueError»
def AM(K:W.Frag)(u:Value)(subs known:List Str):Bool:=known.all fun c=>match W.nsIn K mainGlobals c with
 |some (some (.ref C))=>W.excCls K C&&W.kitOne K (.ref C) u == some (subs.contains c)
 |_=>false
theorem bG.of{K:W.Frag}{u:Value}{subs known:List Str}(h:AM K u subs known=true):bG K u subs known:=fun c hc=>by
 have q:=Mw.mp h c hc;split at q
 ·rename_i C e;rw[K4]at q;exact⟨C,e,q.1,NF.mp q.2⟩
 ·cases q
def FL(K:W.Frag)(R:Addr)(known:List Str):Bool:=known.all fun c=>match W.nsIn K mainGlobals c with
 |some (some (.ref C))=>W.exmOne K (.ref C) (.ref R) == some true
 |_=>false
theorem kP.of{K:W.Frag}{r:Str}{R:Addr}{known:List Str}(h:FL K R known=true):kP K r R known:=fun c hc=>by
 have q:=Mw.mp h c hc;split at q
 ·rename_i C e;exact⟨C,e,NF.mp q⟩
 ·cases q
end L2
namespace L2
open PySem PySem.Spec PyProof.Rows RS
section
variable{X:Cx}{k n:Nat}{x:Str}{F:List D->aA->ai D}{a b c d:Expr}{es:List Expr}{fr:MA}{pos px:Pos}
variable{p:Pa}{ta tb tc td:TE}{fa fb fc fd:ME}{op op' op'':CmpOp}{r r' r'':R2}{o1 o2 o3:D->D->aA->ai D}
end
section
variable{X:Cx}
end
section
variable{p:Pa}
end
section
variable{X:Cx}{p:Pa}{e ob:Expr}{fo:ME}{fr:MA}{pos apos:Pos}
end
end L2
namespace L2
open PySem PySem.Spec PyProof.Rows RS
section
variable{X:Cx}{p:Pa}{a b:Expr}{fa fb:ME}{pos:Pos}
end
section
variable(K:W.Frag)(H:Hp)
mutual
def pq:PyData->V->Prop
 |.none,v=>v=.non
 |.bool b,v=>v=.bl b
 |.int i,v=>v=.int i
 |.str x,v=>v=.str x
 |.tuple xs,v=>∃a vs,v=.ref a/\eK K H a vs/\RdGs xs vs
 |.list xs,v=>∃a vs,v=.ref a/\eP K H a vs/\RdGs xs vs
 |.dict kvs,v=>kvs=[]/\∃a,v=.ref a/\H a=some (.dK [])
def RdGs:List PyData->List V->Prop
 |[],vs=>vs=[]
 |x::xs,vs=>∃v r,vs=v::r/\pq x v/\RdGs xs r
end
end
mutual
def Gp:PyData->Bool
 |.list _=>false
 |.tuple xs=>noLs xs
 |_=>true
def noLs:List PyData->Bool
 |[]=>true
 |x::xs=>Gp x&&noLs xs
end
section
variable{X:Cx}{pins:List (Addr×Obj)}{σ:St}{H:Hp}{s:Shared}
theorem FF{a:Addr}(h:(a == sysModules)=false):a≠sysModules:=by simpa using h
mutual
theorem qe(I:aP X pins σ H s):∀(d:PyData)(x:V)(v:Value),pq X.K H d x->bE x v->∃as,Reads s.heap v d as/\(Gp d=true->sysModules∉as)
 |.none,_,_,h,r=>by simp only[pq]at h;subst h;cases r;exact⟨_,.none,fun _ z=>by cases z⟩
 |.bool b,_,_,h,r=>by simp only[pq]at h;subst h;cases r;exact⟨_,.bool b,fun _ z=>by cases z⟩
 |.int b,_,_,h,r=>by simp only[pq]at h;subst h;obtain⟨t,rfl⟩:=r;exact⟨_,.int b t,fun _ z=>by cases z⟩
 |.str b,_,_,h,r=>by simp only[pq]at h;subst h;obtain⟨t,rfl⟩:=r;exact⟨_,.str b t,fun _ z=>by cases z⟩
 |.tuple xs,_,_,h,r=>by
  simp only[pq]at h;obtain⟨a,vs,rfl,h1,h2⟩:=h;cases r;obtain⟨its,rv,⟨o,e1,e2,n,e3⟩,_⟩:=I.tuple h1;obtain⟨as,q,hn⟩:=readsAllG_of I xs vs its h2 rv;exact⟨_,.tuple e1 e2 e3 (by simpa using q),fun z=>hn (by simpa only[Gp] using z)⟩
 |.list xs,_,_,h,r=>by
  simp only[pq]at h;obtain⟨a,vs,rfl,h1,h2⟩:=h;cases r;obtain⟨its,rv,⟨o,n,e1,e2,_,e3⟩,_⟩:=I.list h1;obtain⟨as,q,_⟩:=readsAllG_of I xs vs its h2 rv;exact⟨_,.list e1 e2 e3 (by simpa using q),fun z=>by simp only[Gp]at z;cases z⟩
 |.dict kvs,_,_,h,r=>by
  simp only[pq]at h;obtain⟨rfl,a,rfl,h1⟩:=h;cases r;obtain⟨_,hS,vs,rv,o,es,n,e1,e2,e3,_,e4,_⟩:([]:List (pA×V)).length<=sizeLine/\(a == sysModules)=false/\∃vs,KV ([]:List (pA×V)) vs/\s.heap.DictOf (nB X.prog X.w) a vs:=I.hok a _ h1;cases rv
  have hes:es.toList=[]:=by
   generalize es.toList=l at e4;cases e4;rfl
  refine⟨[a]++[],Reads.dict (as:=[]) (bs:=[]) e1 e2.1 e3 ?_ ?_,fun _ z=>?_⟩
  ·rw[hes];exact .nil
  ·rw[hes];exact .nil
  ·simp at z;exact FF hS z.symm
theorem readsAllG_of(I:aP X pins σ H s):∀(ds:List PyData)(xs:List V)(vs:List Value),RdGs X.K H ds xs->aW xs vs->∃as,ReadsAll s.heap vs ds as/\(noLs ds=true->sysModules∉as)
 |[],_,_,h,r=>by simp only[RdGs]at h;subst h;cases r;exact⟨_,.nil,fun _ z=>by cases z⟩
 |d::ds,_,_,h,r=>by
  simp only[RdGs]at h;obtain⟨v,q,rfl,h1,h2⟩:=h;cases r with
  |cons r rr=>
   obtain⟨as,g1,n1⟩:=qe I d _ _ h1 r;obtain⟨bs,g2,n2⟩:=readsAllG_of I ds _ _ h2 rr;refine⟨_,.cons g1 g2,fun z=>?_⟩;simp only[noLs,K4]at z;intro y;rcases JP.mp y with y|y
   ·exact n1 z.1 y
   ·exact n2 z.2 y
end
end
def zm(K:W.Frag):List V->Hp->VK->Prop:=fun xs H Q=>(∃a d,xs=[.ref a]/\pq K H d (.ref a)/\d.showable=true/\(d.hasDict=true->Gp d=true)/\d.depth<=60/\d.shown.length<=sizeLine/\Q (.str d.shown) H) \/
 (xs=[.non]/\Q (.str "None") H)\/(∃a:Int,xs=[.int a]/\a.natAbs.log2<1920/\Q (.str (toString a)) H)\/(∃b:Bool,xs=[.bl b]/\Q (.str (if b then "True" else "False")) H)\/∃x:Str,xs=[.str x]/\(reprText x).length<=sizeLine/\Q (.str (reprText x)) H
theorem vJ {X:Cx} (hu:X.A.units+64<cLine) (hg:X.A.guards=some []):cB X (.builtin "repr") (zm X.K):=by
 intro pins s σ H xs us Q I r h;rcases h with⟨a,d,rfl,h1,hs,hd,hdp,hz,q⟩|⟨rfl,q⟩|⟨a,rfl,ha,q⟩|⟨b,rfl,q⟩|⟨x,rfl,hx,q⟩
 ·obtain⟨u,rfl,ru⟩:=dO r;cases ru;obtain⟨as,r1,hn⟩:=qe I d (.ref a) (.ref a) h1 rfl;exact PySem.repr_of_reads' (h₀:=s.heap) r1 hs (fun z=>hn (hd z)) hg (by omega) (fun _ _ e=>e) (fun h' u tk hk=>⟨.str _,H,I.kept hk,⟨u,rfl⟩,q⟩) hz
 ·obtain⟨u,rfl,ru⟩:=dO r;cases ru;exact PySem.P.repr_of_none ⟨.str _,H,I.kept (fun _ _ e=>e),⟨_,rfl⟩,q⟩
 ·obtain⟨u,rfl,t,rfl⟩:=dO r;exact PySem.P.repr_of_int ha ⟨.str _,H,I.kept (fun _ _ e=>e),⟨_,rfl⟩,q⟩
 ·obtain⟨u,rfl,ru⟩:=dO r;cases ru;refine PySem.P.repr_of_bool ⟨.str _,H,I.kept (fun _ _ e=>e),⟨_,rfl⟩,?_⟩;cases b <;> exact q
 ·obtain⟨u,rfl,t,rfl⟩:=dO r;exact PySem.P.repr_of_str ⟨.str _,H,I.kept (fun _ _ e=>e),⟨_,rfl⟩,q⟩ hx
def yW:D->Option PyData
 |.non=>some .none
 |.bl b=>some (.bool b)
 |.int i=>some (.int i)
 |.str x=>some (.str x)
 |_=>none
def jP(f:D->Option PyData):List D->Option (List PyData)
 |[]=>some []
 |x::xs=>(f x).bind fun a=>(jP f xs).map fun r=>a::r
def vP(μ:aA):Nat->D->Option PyData
 |0,d=>yW d
 |n+1,d=>match d with
  |.tup xs=>(jP (vP μ n) xs).map .tuple
  |.frz xs=>(jP (vP μ n) xs).map .list
  |.obj k=>match μ[k]? with
   |some (.lst xs)=>(jP (vP μ n) xs).map .list
   |some .dic=>some (.dict [])
   |_=>none
  |d=>yW d
section
variable{K:W.Frag}{w:World}{H:Hp}{α:List Addr}{μ:aA}
theorem tT{d:D}{q:PyData}{v:V}(h:yW d=some q)(r:aM K H α d v):pq K H q v:=by
 cases d with
 |non=>cases h;simp only[pq];exact bu.mp r
 |bl b=>cases h;simp only[pq];exact aQ.mp r
 |int b=>cases h;simp only[pq];exact aq.mp r
 |str b=>cases h;simp only[pq];exact bc.mp r
 |tup _=>cases h
 |frz _=>cases h
 |obj _=>cases h
theorem rC{f:D->Option PyData}(hf:∀d q v,f d=some q->aM K H α d v->pq K H q v):∀{ds:List D}{qs:List PyData}{vs:List V},jP f ds=some qs->Reps K H α ds vs->RdGs K H qs vs:=by
 intro ds
 induction ds with
 |nil=>intro qs vs h r;cases h;simp only[Reps]at r;simp only[RdGs];exact r
 |cons d ds ih=>
  intro qs vs h r;simp only[jP]at h;cases e1:f d with
  |none=>rw[e1]at h;cases h
  |some a=>
   rw[e1]at h;cases e2:jP f ds with
   |none=>rw[e2]at h;cases h
   |some t=>
    rw[e2]at h;cases h;simp only[Reps]at r;obtain⟨v,r',rfl,h1,h2⟩:=r;simp only[RdGs];exact⟨v,r',rfl,hf d a v e1 h1,ih e2 h2⟩
theorem Ei(S:dF K w H α μ):∀(n:Nat)(d:D)(q:PyData)(v:V),vP μ n d=some q->aM K H α d v->pq K H q v:=by
 intro n
 induction n with
 |zero=>intro d q v h r;exact tT h r
 |succ n ih=>
  intro d q v h r;unfold vP at h;split at h
  ·rename_i xs;cases e:jP (vP μ n) xs with
   |none=>rw[e]at h;cases h
   |some qs=>
    rw[e]at h;cases h;obtain⟨a,us,rfl,h1,h2⟩:=aE.mp r;simp only[pq];exact⟨a,us,rfl,h1,rC ih e h2⟩
  ·rename_i xs;cases e:jP (vP μ n) xs with
   |none=>rw[e]at h;cases h
   |some qs=>
    rw[e]at h;cases h;obtain⟨a,us,rfl,h1,h2⟩:=bh.mp r;simp only[pq];exact⟨a,us,rfl,h1.sq,rC ih e h2⟩
  ·rename_i k;split at h
   ·rename_i xs hx;cases e:jP (vP μ n) xs with
    |none=>rw[e]at h;cases h
    |some qs=>
     rw[e]at h;cases h;obtain⟨a,ea,us,h1,h2⟩:=S.at hx;obtain⟨a',rfl,ea'⟩:=aN.mp r;rw[ea]at ea';cases ea';simp only[pq];exact⟨a,us,rfl,.inl (.inl h1),rC ih e h2⟩
   ·rename_i hx;cases h;obtain⟨a,ea,h1⟩:=S.at hx;obtain⟨a',rfl,ea'⟩:=aN.mp r;rw[ea]at ea';cases ea';simp only[pq];exact⟨trivial,a,rfl,h1⟩
   ·cases h
  ·exact tT h r
end
def nA(q:PyData):Bool:=q.showable&&(!q.hasDict || Gp q)&&decide (q.depth<=60)&&decide (q.shown.length<=sizeLine)
def fB(ds:List D)(μ:aA):ai D:=match ds with
 |[.non]=>.ok (.str "None") μ
 |[.int a]=>if a.natAbs.log2<1920 then .ok (.str (toString a)) μ else .bad
 |[.bl b]=>.ok (.str (if b then "True" else "False")) μ
 |[.str x]=>if (reprText x).length<=sizeLine then .ok (.str (reprText x)) μ else .bad
 |[d]=>match vP μ 5 d with
  |some q=>if zw d=true/\nA q=true then .ok (.str q.shown) μ else .bad
  |none=>.bad
 |_=>.bad
theorem AC{p:Pa}:uA p fB (zm p.K):=by
 intro ds vs H α μ Q S r P;unfold fB at P;split at P
 ·obtain⟨v,rfl,r1⟩:=r.one;rw[bu.mp r1];exact .inr (.inl ⟨rfl,P.now S _ (bc.mpr rfl)⟩)
 ·obtain ⟨v, rfl, r1⟩ := r.one;rw[aq.mp r1];split at P
  ·rename_i ha;exact .inr (.inr (.inl ⟨_,rfl,ha,P.now S _ (bc.mpr rfl)⟩))
  ·exact P.elim
 ·obtain⟨v,rfl,r1⟩:=r.one;rw[aQ.mp r1];exact .inr (.inr (.inr (.inl ⟨_,rfl,P.now S _ (bc.mpr rfl)⟩)))
 ·obtain ⟨v, rfl, r1⟩ := r.one;rw[bc.mp r1];split at P
  ·rename_i ha;exact .inr (.inr (.inr (.inr ⟨_,rfl,ha,P.now S _ (bc.mpr rfl)⟩)))
  ·exact P.elim
 ·rename_i d _ _ _ _;split at P
  ·rename_i q hq;split at P
   ·rename_i hf;obtain⟨v,rfl,r1⟩:=r.one;obtain⟨a,rfl⟩:=vv hf.1 r1;have h2:=hf.2;unfold nA at h2;simp only[K4,NK]at h2;refine .inl ⟨a,q,rfl,Ei S 5 d q _ hq r1,h2.1.1.1,fun z=>?_,h2.1.2,h2.2,P.now S _ (bc.mpr rfl)⟩;have h3:=h2.1.1.2;rw[z]at h3;simpa using h3
   ·exact P.elim
  ·exact P.elim
 ·exact P.elim
theorem w6 {X:Cx}{p:Pa}{k:Nat} (hr:dg k X.A) (hK:X.K=p.K:=by rfl):nT X p "repr" fB:=⟨_,_,.inl ⟨_,rfl⟩,by decide +kernel,vJ hr.units hr.gd,hK ▸ AC,by decide,by decide⟩
end L2
namespace L2
open PySem PySem.Spec PyProof.Rows RS
section
variable{X:Cx}{p:Pa}{es:List Expr}{Fs:List (List D->aA->ai D)}{fs:List Addr}
end
section
variable{X:Cx}{p:Pa}{es:List Expr}{Fs:List (List D->aA->ai D)}{i:Nat}{x:Str}{a:Expr}{as:List Expr}{fr:MA}{pos ps pl pn:Pos}
end
section
variable{X:Cx}{E:XK}{k n:Nat}{x:Str}{F:List D->aA->ai D}
end
end L2
namespace L2
open PySem PySem.W PyProof.Rows RS
section
variable{prog:Program}{w:World}{A:Around}{E:Value->Shared->Prop}
end
section
variable{X:Cx}
end
end L2
namespace RS
open PySem PySem.W PyProof.Rows
section
variable{prog:Program}{w:World}{A:Around}{E:Value->Shared->Prop}{s:Shared}
end
end RS
namespace L2
open PySem PySem.Spec PyProof.Rows RS
section
variable{X:Cx}
end
end L2
namespace L2
open PySem PySem.Spec PyProof.Rows RS
open AutoSeq1 (wpAny_loadPart')
section
variable{prog:Program}{w:World}{A:Around}{E:Value->Shared->Prop}{s:Shared}
end
end L2
namespace L2
open PySem PySem.Spec PyProof.Rows RS
section
variable{X:Cx}{p:Pa}{a:Expr}{fr:MA}
end
end L2
namespace RS
open PySem PySem.W PyProof.Rows
section
variable{prog:Program}{w:World}{A:Around}{E:Value->Shared->Prop}{s:Shared}
end
end RS
namespace L2
open PySem PySem.Spec PyProof.Rows RS
section
variable{X:Cx}
end
end L2
namespace L2
open PySem PySem.Spec PyProof.Rows RS
end L2
namespace RS
open PySem PySem.W PyProof.Rows
structure ZA(z TI TO i1 i2:Addr)(f1 f2:List Addr):Prop where
 TIz:TI≠z
 TOz:TO≠z
 i1z:i1≠z
 i2z:i2≠z
 TOi1:TO≠i1
 TOi2:TO≠i2
 z1:z∉f1
 z2:z∉f2
 t1:TO∉f1
 t2:TO∉f2
 j1:i2∉f1
 j2:i1∉f2
section
variable{prog:Program}{w:World}{A:Around}{E:Value->Shared->Prop}{s:Shared}{z TI TO i1 i2:Addr}{f1 f2:List Addr}{n1 n2 k:Nat}{P1 P2:Nat->Value->Prop}{S1 S2:Nat->Heap->Prop}{a b:Value}
end
section
variable{prog:Program}{w:World}{A:Around}{E:Value->Shared->Prop}{s:Shared}
end
end RS
namespace L2
open PySem PySem.Spec PyProof.Rows RS
structure ZN(z TI TO i1 i2 a1 a2:Addr):Prop where
 nd:[z,TI,TO,i1,i2].Nodup
 n1:∀b∈[z,TI,TO,i1,i2],a1≠b
 n2:∀b∈[z,TI,TO,i1,i2],a2≠b
section
variable{X:Cx}{tg:Expr}
end
end L2
namespace L2
open PySem PySem.Spec PyProof.Rows RS
section
variable{X:Cx}{p:Pa}
end
section
variable{prog:Program}{w:World}{A:Around}{R:Result->Shared->Prop}{J:Addr}{fp wr:List Addr}{n:Nat}{P:Nat->Value->Prop}{St:Nat->Heap->Prop}
end
section
variable{X:Cx}{p:Pa}
end
end L2
namespace HT
open PySem PyProof.Rows
open PySem.SeqAt
open PySem.AutoSeq1 (wpAny_loadPart')
open PySem.MeetsSeq PySem.MeetsSeq2 PySem.MeetsSeq3
end HT
namespace L2
open PySem PySem.Spec PyProof.Rows RS
section
variable{X:Cx}
end
section
variable{p:Pa}{X:Cx}{ob e:Expr}{fo:ME}{fr:MA}{pos apos:Pos}
end
end L2
namespace HT
open PySem PyProof.Rows
open PySem.AutoSeq1 (wpAny_loadPart' idx_int)
end HT
namespace L2
open PySem PySem.Spec PyProof.Rows RS HT
section
variable{X:Cx}
end
section
variable{X:Cx}{p:Pa}{a b:Expr}{fa fb:ME}{pos:Pos}
end
end L2
namespace L2
open PySem PySem.Spec PyProof.Rows
def y9(X:Cx)(pins:List (Addr×Obj))(σ:St)(E:XK)(e:Value)(s':Shared):Prop:=
 ∃ea C a0 dx B H',e=.ref ea/\aP X pins σ H' s'/\lM X.prog X.w H' B/\bz B X.stack ea (.ref C) a0 dx s'.heap/\H' ea=none /\
  (∀b o,X.s₀.heap.get? b=some o->b∉X.fs->∃o',B.get? b=some o')/\(∀p∈X.pn++pins,∃o',B.get? p.1=some o')/\E (.ref C) (some ea) (bx H' ea (je ea C dx))
section
variable{X:Cx}{pins:List (Addr×Obj)}{σ:St}{H:Hp}{s s':Shared}{E:XK}{e:Value}
theorem Fc(F:X.Fn)(I:aP X pins σ H s)(hc:yy X.prog X.w X.stack H s E e s'):y9 X pins σ E e s':=by
 obtain⟨ea,C,a0,dx,B,H',rfl,os,bare,un,hok,fl,hn,bk,q⟩:=hc;have J:=I.call' os un (hok.kept fl.1) bare (ch:=[]) (fun b z=>absurd z (by simp));refine⟨ea,C,a0,dx,B,H',rfl,J,hok,fl,hn,fun b o e hb=>?_,fun p hp=>?_,q⟩
 ·obtain ⟨o1, e1⟩ := I.base.there b o e (by rw [F.ex]; exact fun z => by cases z);refine bk b o1 e1 fun z=>?_;rcases wL F z with z|z
  ·have:=I.ok.above;rw[z]at e;exact absurd (JB e) (Nat.not_lt.mpr this)
  ·exact hb z
 ·obtain ⟨p1, p2, p3, p4, p5⟩ := I.pin p hp;refine bk p.1 p.2 p1 fun z=>?_;rcases wL F z with z|z
  ·exact p3 z
  ·exact p4 z
end
section
variable{X:Cx}{k:Nat}{f:Addr}{fd:FuncData}{ps:List Str}{sp:Sp}{E:XK}{x:Str}{p pos:Pos}{e:Expr}{es:List Expr}{t:TA}
theorem zH{pins:List (Addr×Obj)}{σ:St}{H:Hp}{s:Shared}{Q:VK}(F0:X.Fn)(hxe:∀e s,X.xe e s->False)(F:i6 X.prog X.w X.K X.mg X.base (yy X.prog X.w) k f fd ps sp)(hr:dg k X.A)(hg:Gl X x)(hm:X.mg x=some (.ref f))(hk:W.keepIn X.K (.ref f)=true)(hb:dr X.K fd ps [])
  (ha:PA X (e::es) t) (I:aP X pins σ H s) (h:pY sp [] E t σ H Q) (hdb:(x == ("__debug__" : Str))=false:=by decide) (he:starEach (e::es) X.env=(false,eval e X.env)::starEach es X.env:=by rfl) (hpl:(backTo pos (starEach es X.env)).any (·.1)=false:=by rfl) :
  wpAny (model X.prog X.w) X.A (eval (.Call (.Name x p) (e::es) [] pos) X.env) (EP X pins σ Q) (y9 X pins σ E) s:=by
 refine Ko (jH I hg hm ?_ hdb);refine W.callWith_K (h₀:=X.base) I.ok.mod.kin hk (JV (ha pos pins s σ H _ I h) (fun us s1 z=>?_) fun _ _ z=>(hxe _ _ z).elim) he hpl;obtain⟨vs,H1,I1,r,q⟩:=z;refine⟨I1.kIn,?_⟩;have r2:aW (vs++[]) (us++[]):=r.append .nil;have hl:(us++([]:List Value)).length=ps.length:=by rw[<- r2.length];exact F.len _ _ _ _ q
 refine Kl (Km (F.run X.A X.stack s1 H1 ⟨us,[]⟩ (us++[]) (vs++[]) Q E hr I1.env0 (hb s1 us I1.kIn hl) r2 q) fun r s' hq=>?_);cases r with
 |error e=>exact Fc F0 I1 hq
 |ok fl=>
  cases fl with
  |ret u=>exact I1.after hq
  |next=>exact False.elim hq
  |brk=>exact False.elim hq
  |cont=>exact False.elim hq
end
theorem aP.unset{X:Cx}{pins:List (Addr×Obj)}{σ:St}{H:Hp}{s:Shared}{h':Heap}{t':Nat}{m:Str->Option Value}{n:Str}{i:Nat}{v:Option Value}(I:aP X pins σ H s)(hN:X.N.Nodup)(hi:X.N[i]?=some n)
  (hl:∀(i:Nat)(x:Str)(v:V),X.N[i]?=some x->σ[i]?=some (some v)->Dl X.env.scope x->∃u,bE v u/\GQ X.env s.heap m x u) (hn:h'.Ns X.env.locals (fun x=>if x=n then v else m x)) (sb:Heap.SameBut X.env.locals s.heap h') :
  aP X pins (σ.set i none) H {s with heap:=h',toks:=t'}:=by
 have J:=I.forget (t':=t') hn sb;have same:∀b,b≠X.env.locals->h'.get? b=s.heap.get? b:=fun b hb=>sb.2 b hb;refine⟨J.ok,J.os,J.bare,J.base,⟨_,hn,fun j x u h1 h2 h3=>?_⟩,J.cell,J.free,J.freeC,J.pin,J.hok,by rw[List.length_set];exact I.len⟩
 have hij:i≠j:=fun z=>by
  subst z;rw[NR]at h2;simp at h2
 rw[JU hij]at h2
 have hx:x≠n:=fun z=>by
  subst z;exact hij ((List.getElem?_inj (JR.mp hi).1 hN).mp (hi.trans h1.symm))
 obtain⟨u',r,l⟩:=hl j x u h1 h2 h3;refine⟨u',r,?_⟩;rcases l with⟨k,l⟩|⟨k,c,e,hc⟩
 ·exact .inl ⟨k,by dsimp only;rw[JA hx];exact l⟩
 ·refine .inr ⟨k,c,e,?_⟩;obtain⟨o,ho,hd⟩:=hc;exact⟨o,by rw[same c (I.cne x c e)];exact ho,hd⟩
theorem DE{X:Cx}(F:X.Fn){r n:Str}{R:Addr}{i:Nat}{np hpos:Pos}{suite:List Stmt}{b0:Stmt}{th:TS}{E:XK}{D:kL}{pins:List (Addr×Obj)}{σ:St}{e:Value}{s1:Shared}
  (hN:X.N.Nodup) (hi:X.N[i]?=some n) (hx:uC X.env.scope n) (hl:X.env.kindOf n=some .local) (hg:Gl X r) (hm:X.mg r=some (.ref R)) (hd:(r == ("__debug__" : Str))=false) (hs:∀ea,gU (X.hnd ea) (b0::suite) th) (ok:X.Ok)
  (hE:∀C ea H',E (.ref C) (some ea) H'->W.exmOne X.K (.ref C) (.ref R)=some true/\th {nx:=fun σ' H''=>D.nx (σ'.set i none) H'',rt:=D.rt} (σ.set i (some (.ref ea))) H') (h1:y9 X pins σ E e s1) :
  wpAny (model X.prog X.w) X.A (noteFrame e X.env) (fun _ s₂=>wpAny (model X.prog X.w) X.A (setFlight e none) (fun _ s₃=>wpAny (model X.prog X.w) X.A (handleBy e X.env [.ExceptHandler (some (.Name r np)) (some n) (b0::suite) hpos]) (SP X pins D) X.xe s₃) X.xe s₂) X.xe s1:=by
 obtain⟨ea,C,a0,dx,B,H1,rfl,I1,hok,fl,hn,c1,c2,q⟩:=h1;obtain⟨q1,q2⟩:=hE C ea _ q;have fl0:=fl;rw[F.stk]at fl;refine nh (by rw[<- F.stk];exact ok.frames) F.fr fl fun h4 held4 up4=>?_;refine rP held4 fun h5 fl5 up5=>?_;have fl5':=fl5;rw[<- F.stk]at fl5';have I5:=I1.up F hok c1 c2 fl0.1 fl5.1 (up4.trans up5);have J5:aP (X.hnd ea) pins σ H1 {s1 with heap:=h5}:=I5.hnd;refine wpAny_handleBy_cons (codeAny_handlers_test (jH J5 hg hm ?_ hd)) (by intro q;cases q);obtain⟨ob,hob,hobc⟩:=fl5.there
 have LT:W.Looks (model X.prog X.w) h5 (typeOf (.ref ea)) (.ref C):=by
  rw[<- hobc];exact(W.Looks.ld hob).andThen .now
 refine(W.exm_one J5.kIn LT q1).here (codeAny_handlers_suite_as ?_);refine kH fl5 fun h6 fl6 up6=>?_;have fl6':=fl6;rw[<- F.stk]at fl6';have I6:=I5.up F hok c1 c2 fl5.1 fl6.1 up6;have I6':=I6.track F c1 c2 fl6' hn;refine kX (v:=.ref ea) I6' hN hi hx rfl (fun s7 I7=>?_) (.inr hl);refine JV (hs ea pins s7 _ _ _ I7.hnd q2) (fun f s8 h8=>?_) fun _ _ z=>False.elim z;cases f with
 |next=>
  obtain⟨σ',H',I8,z⟩:=h8;have I8':=I8.unhnd ok;obtain⟨m,hn8,hl8⟩:=I8'.loc;exact wpAny_nameGoes_keeps hl hn8 (by rw[ok.kind];rfl) fun h9 v9 hn9 sb=>⟨_,H',I8'.unset hN hi hl8 hn9 sb,z⟩
 |brk=>obtain⟨_,_,_,z⟩:=h8;exact False.elim z
 |cont=>obtain⟨_,_,_,z⟩:=h8;exact False.elim z
 |ret u=>
  obtain⟨v,σ',H',I8,rv,z⟩:=h8;have I8':=I8.unhnd ok;obtain⟨m,hn8,_⟩:=I8'.loc;exact wpAny_nameGoes hl hn8 (by rw[ok.kind];rfl) fun h9 m9 hn9 sb=>⟨v,_,H',I8'.forget hn9 sb,rv,z⟩
section
variable{X:Cx}{k:Nat}{f:Addr}{fd:FuncData}{ps:List Str}{sp:Sp}{x r n v:Str}{R:Addr}{i j:Nat}{p pos pv pos1 np hpos pos2:Pos}{e:Expr}{es:List Expr}{t:TA}{suite:List Stmt}{b0:Stmt}{th:TS}
theorem Cb(F:X.Fn)(hxe:∀e s,X.xe e s->False)(F1:i6 X.prog X.w X.K X.mg X.base (yy X.prog X.w) k f fd ps sp)(hr:dg k X.A)(hgx:Gl X x)(hmx:X.mg x=some (.ref f))(hk:W.keepIn X.K (.ref f)=true)(hb:dr X.K fd ps [])(ha:PA X (e::es) t)
  (hN:X.N.Nodup) (hj:X.N[j]?=some v) (hv:uC X.env.scope v) (hfv:X.fn v=true\/X.env.scope.names.lookup v=some .local) (hi:X.N[i]?=some n) (hx:uC X.env.scope n) (hl:X.env.kindOf n=some .local) (hg:Gl X r) (hm:X.mg r=some (.ref R)) (hs:∀ea,gU (X.hnd ea) (b0::suite) th)
  (hdb:(x == ("__debug__" : Str))=false) (hd:(r == ("__debug__" : Str))=false) (he:starEach (e::es) X.env=(false,eval e X.env)::starEach es X.env) (hpl:(backTo pos (starEach es X.env)).any (·.1)=false) (hsw:swapsWith (.Call (.Name x p) (e::es) [] pos) (some (.Name v pv)) pos1.line X.env=pure false) :
  PS X (.Try [.Assign [.Name v pv] (.Call (.Name x p) (e::es) [] pos) pos1] [.ExceptHandler (some (.Name r np)) (some n) (b0::suite) hpos] [] [] pos2)
   (fun D σ H=>∃E:XK,(∀C ea H',E (.ref C) (some ea) H'->W.exmOne X.K (.ref C) (.ref R)=some true/\th {nx:=fun σ' H''=>D.nx (σ'.set i none) H'',rt:=D.rt} (σ.set i (some (.ref ea))) H')/\pY sp [] E t σ H fun y H1=>D.nx (σ.set j (some y)) H1):=by
 intro pins s σ H D I hq;obtain⟨E,hE,hq⟩:=hq;refine wpAny_Try_except (J0 (wpAny_Assign_Name (JV (zH F hxe F1 hr hgx hmx hk hb ha I hq hdb he hpl) (fun u s1 z=>?_) fun e' s1 h1=>?_) hsw))
 ·obtain⟨y,H1,I1,r1,q1⟩:=z;exact kX I1 hN hj hv r1 (fun s2 I2=>JZ (JZ ⟨_,H1,I2,q1⟩)) hfv
 ·exact DE F hN hi hx hl hg hm hd hs I.ok hE h1
theorem Ca(F:X.Fn)(hxe:∀e s,X.xe e s->False)(F1:i6 X.prog X.w X.K X.mg X.base (yy X.prog X.w) k f fd ps sp)(hr:dg k X.A)(hgx:Gl X x)(hmx:X.mg x=some (.ref f))(hk:W.keepIn X.K (.ref f)=true)(hb:dr X.K fd ps [])(ha:PA X (e::es) t)
  (hN:X.N.Nodup) (hi:X.N[i]?=some n) (hx:uC X.env.scope n) (hl:X.env.kindOf n=some .local) (hg:Gl X r) (hm:X.mg r=some (.ref R)) (hs:∀ea,gU (X.hnd ea) (b0::suite) th)
  (hdb:(x == ("__debug__" : Str))=false) (hd:(r == ("__debug__" : Str))=false) (he:starEach (e::es) X.env=(false,eval e X.env)::starEach es X.env) (hpl:(backTo pos (starEach es X.env)).any (·.1)=false) (hsw:swapsWith (.Call (.Name x p) (e::es) [] pos) none pos1.line X.env=pure false) :
  PS X (.Try [.Expr (.Call (.Name x p) (e::es) [] pos) pos1] [.ExceptHandler (some (.Name r np)) (some n) (b0::suite) hpos] [] [] pos2)
   (fun D σ H=>∃E:XK,(∀C ea H',E (.ref C) (some ea) H'->W.exmOne X.K (.ref C) (.ref R)=some true/\th {nx:=fun σ' H''=>D.nx (σ'.set i none) H'',rt:=D.rt} (σ.set i (some (.ref ea))) H')/\pY sp [] E t σ H fun _ H1=>D.nx σ H1):=by
 intro pins s σ H D I hq;obtain⟨E,hE,hq⟩:=hq;refine wpAny_Try_except (J0 (wpAny_Expr_any (JV (zH F hxe F1 hr hgx hmx hk hb ha I hq hdb he hpl) (fun u s1 z=>?_) fun e' s1 h1=>?_) I.quiet hsw))
 ·obtain⟨y,H1,I1,r1,q1⟩:=z;exact JZ (JZ ⟨_,H1,I1,q1⟩)
 ·exact DE F hN hi hx hl hg hm hd hs I.ok hE h1
end
end L2
namespace L2
open PySem PySem.Spec PyProof.Rows RS
def mR(known:List Str)(a:Str)(d:D)(μ:aA):ai D:=match d with
 |.obj n=>match μ[n]? with
  |some (.exn c fs)=>if known.contains c=true then (match fs.lookup a with
   |some i=>.ok (.int i) μ
   |none=>.bad) else .bad
  |_=>.bad
 |_=>.bad
def iP(K:W.Frag)(a:Str)(known:List Str):Prop:=∀c∈known,∃C,W.nsIn K mainGlobals c=some (some (.ref C))/\wb K C a=true
theorem iP.of{K:W.Frag}{a:Str}{known:List Str}(h:(known.all fun c=>match W.nsIn K mainGlobals c with|some (some (.ref C))=>wb K C a|_=>false)=true):iP K a known:=by
 intro c hc;have:=Mw.mp h c hc;split at this
 ·rename_i C e;exact⟨C,e,this⟩
 ·cases this
theorem mU{a:Str}:∀{fs:List (Str×Int)}{i:Int},fs.lookup a=some i->(fs.map fun p=>(p.1,V.int p.2)).lookup a=some (V.int i)
 |[],_,h=>by cases h
 |(x,j)::r,i,h=>by
  rw[K7];rw[Lr]at h⊢;cases e:a == x with
  |true=>rw[e]at h;cases h;rfl
  |false=>rw[e]at h;exact mU h
section
variable{X:Cx}{p:Pa}{e:Expr}{fa:ME}{pos:Pos}{known:List Str}{a:Str}
theorem qV(hk:iP X.K a known)(ha:Bx (PE X e (tD p fa)))(hb:attributeBase e a X.env (eval e X.env)=eval e X.env:=by rfl)(hK:X.K=p.K:=by rfl):Bx (PE X (.Attribute e a pos) (tD p (i7 (mR known a) fa))):=Bx.mk (by
 refine(Cn (f:=a) ha.h hb).weak fun σ H Q ⟨α,ρ,μ,S,R,P⟩=>⟨α,ρ,μ,S,R,(aB.bind P).imp fun d μ1 H1 α1 X1 S1 P1 v rv=>?_⟩;unfold mR at P1;split at P1
 ·split at P1
  ·rename_i n c fs hx;split at P1
   ·rename_i hc;split at P1
    ·rename_i i hl;obtain⟨b,eb,C,dx,h1,h2,h3⟩:=S1.at hx;obtain⟨b',rfl,eb'⟩:=aN.mp rv;rw[eb]at eb';cases eb';obtain⟨C',k1,k2⟩:=hk c (NQ.mp hc);rw[hK]at k1;rw[h1]at k1;cases k1;exact⟨b,C,dx,_,i,rfl,h2,h3,k2,mU hl,P1.now S1 _ (aq.mpr rfl)⟩
    ·exact P1.elim
   ·exact P1.elim
  ·exact P1.elim
 ·exact P1.elim)
end
theorem C5{P:Program}{w:World}{K:W.Frag}{mg:Str->Option Value}{base:Heap}{k:Nat}{f C:Addr}{qual nm sf y a:Str}{st:Stmt}{fd:FuncData}{p1 p2 p3 pos:Pos}(F:gT K nm qual st f fd)(S:aX [sf,y] [sf,y] (au st))
  (hb:bC st=[.Assign [.Attribute (.Name sf p1) a p2] (.Name y p3) pos]) (SX:W.SetsX K C) (hf:W.findIn K (.ref C) a=some none) (v0:Dl (au st) sf) (v1:Dl (au st) y)
  (d0:(sf == ("__debug__" : Str))=false:=by decide) (d1:(y == ("__debug__" : Str))=false:=by decide) (c0:(sf == ("__classdict__" : Str))=false:=by decide) (c1:(y == ("__classdict__" : Str))=false:=by decide)
  (hs:∀env,swapsWith (.Name y p3) (some (.Attribute (.Name sf p1) a p2)) pos.line env=pure false:=by intro _;rfl):i6 P w K mg base (yy P w) (k+1) f fd [sf,y] (HP a C):=by
 obtain⟨oc,od,kV,doc,pm,an,cdv,ct,osl,rfl,lk,hcd⟩:=F.ex;refine yV lk hcd S (fun vs H Q E h=>by obtain⟨ea,y,rfl,_⟩:=h;rfl) fun A outer s H vs Q E hr h=>?_;rw[hb];refine⟨_,wx (Cd (uR (i:=0) rfl v0 d0 c0) (uR (i:=1) rfl v1 d1 c1) (hs _)),?_⟩;obtain⟨ea,v,rfl,e,q⟩:=h;exact⟨v,rfl,.ref ea,rfl,ea,C,rfl,e,SX,hf,q⟩
theorem SetsX.of {K:W.Frag}{C:Addr}{cd:ClassData}{R1 R2:Addr} (h1:W.findIn K (.ref C) "__setattr__" = some (some (.builtin "object.__setattr__"))) (h2:W.mroIn K C (.type "object")=some true) (h3:W.clsIn K C=some cd) (h4:cd.hasDict=true)
  (h5:cd.mro=[.ref R1,.ref R2,.type "ValueError",.type "Exception",.type "BaseException",.type "object"]):W.SetsX K C:=⟨h1,h2,cd,h3,h4,fun self=>by
 rw[h5,refuseLoop_ref,refuseLoop_ref]
 exact PySem.F.store_ValueError.passes self⟩
theorem Hu{K:W.Frag}{h:Heap}{M:Addr}{m:Str->Option Value}{x:Str}{v:Value}(X:K.In h)(G:h.Ns M m)(e:W.nsIn K M x=some (some v)):m x=some v:=by
 obtain⟨ob,es,ep,h1,h2,_,h3⟩:=G;unfold W.nsIn at e;split at e
 ·rename_i q;have z:=X _ _ q;rw[h1]at z;cases z;cases h2;split at e
  ·rename_i y he;cases e;rw[<- h3];unfold nsFind findBy;rw[<- Array.find?_toList,he];rfl
  ·split at e <;> cases e
 ·cases e
theorem uM.of{K:W.Frag}{base:Heap}{mg:Str->Option Value}{x nm q:Str}{C N fI:Addr}{bs bm:List Value}{hd:Bool}{sn:List Str}{sub:List Value}{ab:Bool}{col:Option Bool}{dd:Option Addr}{k0 k1 k2 k3 k5:Option Value}{oI:Obj}(X:K.In base)(G:base.Ns mainGlobals mg)(e:W.nsIn K mainGlobals x=some (some (.ref C)))
  (l:K.lookup C=some (excClassObj nm q C N bs bm hd sn sub ab col dd k0 k1 k2 k3 k5 "ValueError.__new__")) (h1:W.nsOkIn K N=true) (h2:W.nsIn K N "__init__" = some (some (.ref fI))) (h3:W.tailIn K [.type "ValueError",.type "Exception",.type "BaseException",.type "object"] bm=true)
  (h4:K.lookup fI=some oI) (h5:oI.cls=.type "function"):uM mg base x C fI:=
 ⟨W.mg_of X G e,_,_,_,_,bm,N,nm,q,bs,hd,sn,sub,ab,col,dd,k0,k1,k2,k3,k5,_,X _ _ l,.of_isNs (W.isNs_of_in X h1),Hu X (.of_isNs (W.isNs_of_in X h1)) h2,W.tail_of_in X h3,PySem.F.excBase_ValueError,oI,X _ _ h4,h5⟩
def sP(P:Program)(w:World)(K:W.Frag)(mg:Str->Option Value)(base:Heap)(c a:Str)(C:Addr):Prop:=∃fI fd ps,uM mg base c C fI/\i6 P w K mg base (yy P w) 1 fI fd ps (HP a C)/\dr K fd ps []
section
variable{P:Program}{w:World}{K:W.Frag}{mg:Str->Option Value}{base:Heap}{N:List Str}{qual:Str}{scope:Scope}{f:Addr}{cdv:Value}{A:Around}{outer:List Env}{s0:Shared}{H0:Hp}{E:XK}
theorem sS{c a:Str}{C:Addr}{e:Expr}{fr:MA}{np cpos pos:Pos}(hc:W.nsIn K mainGlobals c=some (some (.ref C)))(I:sP P w K mg base c a C)(hr:dg 2 (lL P w K mg base N qual scope f cdv A outer s0 H0 E).A)
  (ha:Bx (PA (lL P w K mg base N qual scope f cdv A outer s0 H0 E) [e] (i8 (DM K w E) fr))) (hg:Gl (lL P w K mg base N qual scope f cdv A outer s0 H0 E) c:=by rfl) (hd:(c == ("__debug__" : Str))=false:=by decide)
  (he:starEach [e] (lL P w K mg base N qual scope f cdv A outer s0 H0 E).env=(false,eval e (lL P w K mg base N qual scope f cdv A outer s0 H0 E).env)::starEach [] (lL P w K mg base N qual scope f cdv A outer s0 H0 E).env:=by rfl) :
  Bx (PS (lL P w K mg base N qual scope f cdv A outer s0 H0 E) (.Raise (some (.Call (.Name c np) [e] [] cpos)) none pos) (fK (DM K w E) (iM c a fr))):=by
 obtain⟨fI,fd,ps,O,F,B⟩:=I;exact zL hc O F hr B ha hg hd he
end
def tryEnd(i:Nat)(o:SO):SO:=match o with
 |.next ρ μ=>.next (ρ.set i none) μ
 |.ret d μ=>.ret d μ
 |_=>.bad
theorem cj.unset{K:W.Frag}{H:Hp}{α:List Addr}{ρ:Ro}{σ:St}(R:cj K H α ρ σ)(i:Nat):cj K H α (ρ.set i none) (σ.set i none):=by
 refine⟨by simp[R.len],fun j d h=>?_⟩;by_cases hj:i=j
 ·subst hj;rw[NR]at h;simp at h
 ·rw[JU hj]at h⊢;exact R.at' j d h
theorem dA.tryEnd{p:Pa}{H:Hp}{α:List Addr}{i:Nat}{o:SO}{D:kL}(h:dA p H α (tryEnd i o) D):dA p H α o {nx:=fun σ' H''=>D.nx (σ'.set i none) H'',rt:=D.rt}:=by
 cases o with
 |next ρ μ=>exact fun H' α' σ' x s r=>h H' α' _ x s (r.unset i)
 |ret d μ=>exact h
 |brk ρ μ=>exact False.elim h
 |cnt ρ μ=>exact False.elim h
 |exc x μ=>exact False.elim h
 |bad=>exact False.elim h
def jh(known:List Str)(i:Nat)(st:Ro->D->Ro)(F:List D->aA->ai D)(fr:MA)(fh:MS):MS:=fun ρ μ=>match fr ρ μ with
 |.ok ds μ1=>(match F ds μ1 with
  |.ok d μ2=>.next (st ρ d) μ2
  |.exc x μ2=>if known.contains x.cls=true then L2.tryEnd i (fh (ρ.set i (some (.obj μ2.length))) (μ2++[DN x])) else .bad
  |.bad=>.bad)
 |_=>.bad
section
variable{X:Cx}{xw:DX->aA->Hp->List Addr->Prop}{k m:Nat}{x r n v:Str}{R:Addr}{i j:Nat}{known:List Str}{p pos pv pos1 np hpos pos2:Pos}{e:Expr}{es:List Expr}{fr:MA}{F:List D->aA->ai D}{suite:List Stmt}{b0:Stmt}{fh:MS}
theorem sU{σ:St}{H:Hp}{G:kL}{st:Ro->L2.D->Ro}{stσ:St->V->St}(hst:∀K H α ρ σ d v,cj K H α ρ σ->aM K H α d v->cj K H α (st ρ d) (stσ σ v))(hk:kP X.K r R known)(hlen:∀ds μ,ds.length≠m->F ds μ=.bad)
  (hq:fK ⟨X.K,X.w,xw⟩ (jh known i st F fr fh) G σ H) :
  ∃E:XK,(∀C ea H',E (.ref C) (some ea) H'->W.exmOne X.K (.ref C) (.ref R)=some true/\fK ⟨X.K,X.w,xw⟩ fh {nx:=fun σ' H''=>G.nx (σ'.set i none) H'',rt:=G.rt} (σ.set i (some (.ref ea))) H') /\
   pY (Ik X.K X.w m F) [] E (i8 ⟨X.K,X.w,xw⟩ fr) σ H fun y H1=>G.nx (stσ σ y) H1:=by
 obtain⟨α,ρ,μ,S,Rl,P⟩:=hq;refine⟨fun cls ea' H'=>∃C ea,cls=.ref C/\ea'=some ea/\W.exmOne X.K (.ref C) (.ref R)=some true/\fK ⟨X.K,X.w,xw⟩ fh {nx:=fun σ' H''=>G.nx (σ'.set i none) H'',rt:=G.rt} (σ.set i (some (.ref ea))) H',fun C ea H' h=>?_,α,ρ,μ,S,Rl,?_⟩
 ·obtain⟨C',ea',h1,h2,h3⟩:=h;cases h1;cases h2;exact h3
 unfold jh at P;cases e1:fr ρ μ with
 |bad=>rw[e1]at P;exact False.elim P
 |exc y μ1=>rw[e1]at P;exact False.elim P
 |ok ds μ1=>
  rw[e1]at P;dsimp only at P;intro H1 α1 X1 S1 vs rv;show Ik X.K X.w m F (vs++[]) H1 _ _;rw[Kk];refine⟨?_,α1,ds,μ1,S1,rv,?_⟩
  ·by_cases hl : ds.length = m
   ·rw[rv.length];exact hl
   ·rw[hlen ds μ1 hl]at P;exact False.elim P
  cases e2:F ds μ1 with
  |bad=>rw[e2]at P;exact False.elim P
  |ok d μ2=>
   rw[e2]at P;intro H2 α2 X2 S2 y ry;have X3:i9 X.K H H2 α α2:=i9.trans X1 X2;exact P H2 α2 _ X3 S2 (hst _ _ _ _ _ _ _ (Rl.mono X3) ry)
  |exc y μ2=>
   rw[e2]at P;dsimp only at P;by_cases hc:known.contains y.cls=true
   ·rw [Jz hc] at P;obtain⟨C,c1,c2⟩:=hk y.cls (NQ.mp hc);intro H2 α2 X2 S2;have X3:i9 X.K H H2 α α2:=i9.trans X1 X2
    have core:∀(ea:Addr)(H3:Hp),i9 X.K H2 H3 α2 (α2++[ea])->dF X.K X.w H3 (α2++[ea]) (μ2++[DN y])->fK ⟨X.K,X.w,xw⟩ fh {nx:=fun σ' H''=>G.nx (σ'.set i none) H'',rt:=G.rt} (σ.set i (some (.ref ea))) H3:=fun ea H3 X4 S4=>by
     refine⟨α2++[ea],_,_,S4,(Rl.mono (X3.trans X4)).set i ?_,(dA.from (p:=⟨X.K,X.w,xw⟩) (X3.trans X4) P).tryEnd⟩;refine aN.mpr ⟨ea,rfl,?_⟩;have hla:α2.length=μ2.length:=S2.len;rw[<- hla,Kw (Kc _)];simp
    refine⟨C,c1,fun e0 ea hea=>⟨C,ea,rfl,rfl,c2,core ea _ ((bt hea).trans (gN [ea])) ?_⟩,fun e0 ea dx hea hdx hne=>⟨C,ea,rfl,rfl,c2,core ea _ ?_ ?_⟩⟩
    ·have hx : DN y = .exc y.cls := by unfold DN; rw [e0]
     rw[hx];exact dF.more S2 hea ⟨C,none,c1,aS⟩
    ·exact(bt hdx).trans ((bt (by rw[aJ (JO hne)];exact hea)).trans (gN [ea]))
    ·have hx:DN y=.exn y.cls y.args:=by
      unfold DN;cases z:y.args with
      |nil=>exact absurd z e0
      |cons _ _=>rfl
     rw[hx];have S5:dF X.K X.w (bx H2 dx (.xd (y.args.map fun p=>(p.1,V.int p.2)))) α2 μ2:=dF.same S2 (bt hdx) fun a ha=>aJ fun z=>ha (by rw[z];exact hdx);exact dF.more S5 (by rw[aJ (JO hne)];exact hea) ⟨C,dx,c1,aS,by rw[aJ hne,aS]⟩
   ·rw[JA hc]at P;exact False.elim P
theorem D6(F0:X.Fn)(hxe:∀e s,X.xe e s->False)(h:xh X.prog X.w X.K X.mg X.base k x m F)(hr:dg k X.A)(ha:Bx (PA X (e::es) (i8 ⟨X.K,X.w,xw⟩ fr)))(hN:X.N.Nodup)(hk:kP X.K r R known)(hm:X.mg r=some (.ref R))(hs:∀ea,Bx (gU (X.hnd ea) (b0::suite) (fK ⟨X.K,X.w,xw⟩ fh)))
  (hgx:Gl X x:=by rfl) (hdb:(x == ("__debug__" : Str))=false:=by decide) (he:starEach (e::es) X.env=(false,eval e X.env)::starEach es X.env:=by rfl) (hpl:(backTo pos (starEach es X.env)).any (·.1)=false:=by rfl)
  (hj:X.N[j]?=some v:=by rfl) (hv:uC X.env.scope v:=by first|exact Or.inl rfl|exact Or.inr rfl) (hfv:X.fn v=true\/X.env.scope.names.lookup v=some .local:=by first|exact .inl rfl|exact .inr rfl)
  (hi:X.N[i]?=some n:=by rfl) (hx:uC X.env.scope n:=by exact Or.inl rfl) (hlo:X.env.kindOf n=some .local:=by rfl) (hg:Gl X r:=by rfl) (hd:(r == ("__debug__" : Str))=false:=by decide) (hsw:swapsWith (.Call (.Name x p) (e::es) [] pos) (some (.Name v pv)) pos1.line X.env=pure false:=by rfl) :
  Bx (PS X (.Try [.Assign [.Name v pv] (.Call (.Name x p) (e::es) [] pos) pos1] [.ExceptHandler (some (.Name r np)) (some n) (b0::suite) hpos] [] [] pos2) (fK ⟨X.K,X.w,xw⟩ (jh known i (fun ρ d=>ρ.set j (some d)) F fr fh))):=Bx.mk (by
 obtain⟨f,fd,ps,h1,h2,h3,h4⟩:=h.fn
 exact(Cb F0 hxe h4 hr hgx h1 h2 h3 ha.h hN hj hv hfv hi hx hlo hg hm (fun ea=>(hs ea).h) hdb hd he hpl hsw).weak fun D σ H q=>sU (st:=fun ρ d=>ρ.set j (some d)) (stσ:=fun σ v=>σ.set j (some v)) (fun _ _ _ _ _ _ _ r q=>r.set j q) hk h.len q)
theorem D5(F0:X.Fn)(hxe:∀e s,X.xe e s->False)(h:xh X.prog X.w X.K X.mg X.base k x m F)(hr:dg k X.A)(ha:Bx (PA X (e::es) (i8 ⟨X.K,X.w,xw⟩ fr)))(hN:X.N.Nodup)(hk:kP X.K r R known)(hm:X.mg r=some (.ref R))(hs:∀ea,Bx (gU (X.hnd ea) (b0::suite) (fK ⟨X.K,X.w,xw⟩ fh)))
  (hgx:Gl X x:=by rfl) (hdb:(x == ("__debug__" : Str))=false:=by decide) (he:starEach (e::es) X.env=(false,eval e X.env)::starEach es X.env:=by rfl) (hpl:(backTo pos (starEach es X.env)).any (·.1)=false:=by rfl)
  (hi:X.N[i]?=some n:=by rfl) (hx:uC X.env.scope n:=by exact Or.inl rfl) (hlo:X.env.kindOf n=some .local:=by rfl) (hg:Gl X r:=by rfl) (hd:(r == ("__debug__" : Str))=false:=by decide) (hsw:swapsWith (.Call (.Name x p) (e::es) [] pos) none pos1.line X.env=pure false:=by rfl) :
  Bx (PS X (.Try [.Expr (.Call (.Name x p) (e::es) [] pos) pos1] [.ExceptHandler (some (.Name r np)) (some n) (b0::suite) hpos] [] [] pos2) (fK ⟨X.K,X.w,xw⟩ (jh known i (fun ρ _=>ρ) F fr fh))):=Bx.mk (by
 obtain⟨f,fd,ps,h1,h2,h3,h4⟩:=h.fn
 exact(Ca F0 hxe h4 hr hgx h1 h2 h3 ha.h hN hi hx hlo hg hm (fun ea=>(hs ea).h) hdb hd he hpl hsw).weak fun D σ H q=>sU (st:=fun ρ _=>ρ) (stσ:=fun σ _=>σ) (fun _ _ _ _ _ _ _ r _=>r) hk h.len q)
end
theorem nS.d{P:Program}{w:World}{K:W.Frag}{mg:Str->Option Value}{base:Heap}{p:Pa}{k n:Nat}{x:Str}{F:List D->aA->ai D}(h:nS P w K mg base p k x n F):f7 P w K mg base p k x n F:=by
 obtain⟨h1,f,fd,ps,h2,h3,h4,h5⟩:=h;exact⟨h1,f,fd,ps,h2,h3,h4,h5.len,fun A outer s H args us vs Q E hr=>h5.run A outer s H args us vs Q E hr.h⟩
theorem sP.of{P:Program}{w:World}{K:W.Frag}{mg:Str->Option Value}{base:Heap}{c a qual nm sf y:Str}{C fI R1 R2:Addr}{st:Stmt}{fd:FuncData}{cd:ClassData}{p1 p2 p3 pos:Pos}(O:uM mg base c C fI)(F:gT K nm qual st fI fd)(S:aX [sf,y] [sf,y] (au st))
  (hb:bC st=[.Assign [.Attribute (.Name sf p1) a p2] (.Name y p3) pos]) (h1:W.findIn K (.ref C) "__setattr__" = some (some (.builtin "object.__setattr__"))) (h2:W.mroIn K C (.type "object")=some true) (h3:W.clsIn K C=some cd) (h4:cd.hasDict=true)
  (h5:cd.mro=[.ref R1,.ref R2,.type "ValueError",.type "Exception",.type "BaseException",.type "object"]) (hf:W.findIn K (.ref C) a=some none) (v0:Dl (au st) sf) (v1:Dl (au st) y) (B:dr K fd [sf,y] [])
  (d0:(sf == ("__debug__" : Str))=false:=by decide) (d1:(y == ("__debug__" : Str))=false:=by decide) (c0:(sf == ("__classdict__" : Str))=false:=by decide) (c1:(y == ("__classdict__" : Str))=false:=by decide)
  (hs:∀env,swapsWith (.Name y p3) (some (.Attribute (.Name sf p1) a p2)) pos.line env=pure false:=by intro _;rfl):sP P w K mg base c a C:=
 ⟨fI,fd,[sf,y],O,C5 (k:=0) F S hb (SetsX.of h1 h2 h3 h4 h5) hf v0 v1 d0 d1 c0 c1 hs,B⟩
end L2
namespace Lw
open PySem L2
section
variable{P:Program}{w:World}{K:W.Frag}{mg:Str->Option Value}{base:Heap}
structure Nm(mg:Str->Option Value):Prop where
 ValueError:mg "ValueError" = none
 all:mg "all" = none
 bool:mg "bool" = none
 enumerate:mg "enumerate" = none
 int:mg "int" = none
 isinstance:mg "isinstance" = none
 len:mg "len" = none
 list:mg "list" = none
 max:mg "max" = none
 min:mg "min" = none
 range:mg "range" = none
 repr:mg "repr" = none
 set:mg "set" = none
 sorted:mg "sorted" = none
 tuple:mg "tuple" = none
theorem ua:aX ["thing"] ["thing"] (au g9):=⟨rfl,rfl,rfl,by decide +kernel,rfl,by decide +kernel,by decide +kernel⟩
def oX:MS:=bV (gK (i7 (ip "int") (ah 0)) (sN (i7 (ip "bool") (ah 0))))
def gO:List D->aA->ai D:=iI 1 1 oX
theorem mB:aX ["thing", "least", "most"] ["thing", "least", "most"] (au dJ):=⟨rfl,rfl,rfl,by decide +kernel,rfl,by decide +kernel,by decide +kernel⟩
def i3:MS:=bV (gK (ax gO (af (ah 0) (av))) (iL (iJ .LtE) (iJ .LtE) (ah 1) (ah 0) (ah 2)))
def bU:List D->aA->ai D:=iI 3 3 i3
theorem ub:aX ["many", "thing"] ["many", "thing"] (au hG):=⟨rfl,rfl,rfl,by decide +kernel,rfl,by decide +kernel,by decide +kernel⟩
def oY:MS:=bV (ax bU (af (ah 1) (af (cC (.int 0)) (af (az kh (ah 0) (cC (.int 1))) (av)))))
def gP:List D->aA->ai D:=iI 2 2 oY
theorem rX:aX ["many", "thing"] ["many", "thing"] (au eU):=⟨rfl,rfl,rfl,by decide +kernel,rfl,by decide +kernel,by decide +kernel⟩
theorem ph:(["place", "many"]:List Str).Nodup:=by decide +kernel
def j9:ME:=ax gP (af (ah 1) (af (ah 0) (av)))
def m7:MS:=bV (gK (i7 (ip "tuple") (ah 1)) (ax xf (af (dh (jd (ah 1)) [none,some 0] (ak 0) (cc) (j9)) (av))))
def f6:List D->aA->ai D:=iI 2 2 m7
theorem vd:aX ["thing"] ["thing"] (au iR):=⟨rfl,rfl,rfl,by decide +kernel,rfl,by decide +kernel,by decide +kernel⟩
def qM:MS:=bV (ax bU (af (ah 0) (af (cC (.int 1)) (af (cC (.int 6)) (av)))))
def iE:List D->aA->ai D:=iI 1 1 qM
theorem vc:aX ["many", "thing"] ["many", "thing"] (au iQ):=⟨rfl,rfl,rfl,by decide +kernel,rfl,by decide +kernel,by decide +kernel⟩
def qL:MS:=bV (gK (ax f6 (af (ah 0) (af (ah 1) (av)))) (gK (az (eQ false) (ax kl (af (ah 1) (av))) (cC (.int 2))) (az (eQ true) (az dR (ah 1) (cC (.int 0))) (az dR (ah 1) (cC (.int 1))))))
def iD:List D->aA->ai D:=iI 2 2 qL
theorem mf:aX ["many", "things", "at", "thing"] ["many", "things"] (au iz):=⟨rfl,rfl,rfl,by decide +kernel,rfl,by decide +kernel,by decide +kernel⟩
theorem ug:(["pair"]:List Str).Nodup:=by decide +kernel
def ck:MS:=i5 (dP (iq (ax (fun ds μ=>(iD ds μ).nox) (af (ah 0) (af (ah 3) (av)))))) (iM "NoWeb" "number" (af (ah 2) (av))) (cy)
def oW:ME:=bT (af (ax uJ (af (ah 0) (av))) (af (ax qS (af (ah 0) (av))) (av)))
def iV:MB:=v3 (oW)
def ll:MS:=bo (i5 (dP (iq (ax (fun ds μ=>(iE ds μ).nox) (af (ah 0) (av))))) (iM "NoWeb" "number" (af (i7 qR (cC (.int 1))) (av))) (cy))
 (bo (kf (fS mO (af (ah 1) (av))) (fV 2 (bA (ak 2) (bA (ak 3) (fW)))) ck)
 (bV (bT (af (ah 0) (af (ax d9 (af (ax bR (af (rk (jd (ah 1)) [none] (ak 0) (cc) (iV)) (av))) (av))) (av))))))
def cO:List D->aA->ai D:=iI 2 4 ll
theorem ni:aX ["_law_script", "_law_k"] ["_law_script", "_law_k"] (au d5):=⟨rfl,rfl,rfl,by decide +kernel,rfl,by decide +kernel,by decide +kernel⟩
def gR:MS:=bo (i5 (fL (az (iJ .Lt) (ah 1) (ax kl (af (ah 0) (av))))) (bV (az dR (ah 0) (ah 1))) (cy))
 (bV (cC (.int 0)))
def cu:List D->aA->ai D:=iI 2 2 gR
theorem ly:aX ["_law_seed"] ["_law_seed"] (au gv):=⟨rfl,rfl,rfl,by decide +kernel,rfl,by decide +kernel,by decide +kernel⟩
def m8:MS:=bo (bw (az pD (az cv (ah 0) (cC (.int 7919))) (cC (.int 2147483647))) (ak 0))
 (bV (az pD (az cv (az cv (az lP (ah 0) (ah 0)) (az lP (cC (.int 48271)) (ah 0))) (cC (.int 12345))) (cC (.int 2147483629))))
def eO:List D->aA->ai D:=iI 1 1 m8
theorem jB:aX ["_law_cell", "_law_left"] ["_law_cell"] (au eZ):=⟨rfl,rfl,rfl,by decide +kernel,rfl,by decide +kernel,by decide +kernel⟩
def kc:MS:=bo (bw (ax qS (af (ah 0) (af (az kh (cC (.int 0)) (ah 0)) (av)))) (ak 1))
 (bV (dy (af (ah 1) (af (ax mQ (af (az (iJ .GtE) (ah 1) (az xc (cC (.int 10)) (cC (.int 18)))) (av))) (af (az pD (ah 1) (cC (.int 1000003))) (av))))))
def dZ:List D->aA->ai D:=iI 1 2 kc
theorem lz:aX ["_law_pen", "_law_many", "_law_found"] ["_law_pen", "_law_many"] (au gx):=⟨rfl,rfl,rfl,by decide +kernel,rfl,by decide +kernel,by decide +kernel⟩
def jA:MS:=bo (i5 (fL (az (eQ false) (az dR (ah 0) (cC (.int 1))) (cC (.int 1)))) (bo (bw (az pD (az dR (ah 0) (cC (.int 0))) (ah 1)) (ak 2))
 (bo (bw (az sM (az dR (ah 0) (cC (.int 0))) (ah 1)) (nY (ah 0) (cC (.int 0))))
 (bV (ah 2)))) (cy))
 (bo (bw (ax eO (af (az cv (ax eO (af (az dR (ah 0) (cC (.int 2))) (av))) (cC (.int 7))) (av))) (nY (ah 0) (cC (.int 2))))
 (bV (az pD (az sM (az dR (ah 0) (cC (.int 2))) (cC (.int 64))) (ah 1))))
def aF:List D->aA->ai D:=iI 2 3 jA
theorem pI:aX ["_law_found"] ["_law_found"] (au fN):=⟨rfl,rfl,rfl,by decide +kernel,rfl,by decide +kernel,by decide +kernel⟩
def sg:MS:=bV (gK (i7 (ip "int") (ah 0)) (sN (i7 (ip "bool") (ah 0))))
def bQ:List D->aA->ai D:=iI 1 1 sg
theorem gm:aX ["_law_e", "_law_marks"] ["_law_e"] (au d4):=⟨rfl,rfl,rfl,by decide +kernel,rfl,by decide +kernel,by decide +kernel⟩
def jE:MS:=bo (bw (dy (af (i7 (km [] ["NoWeb"]) (ah 0)) (af (i7 (km [] ["NoWeb"]) (ah 0)) (af (i7 (km [] ["NoWeb"]) (ah 0)) (af (i7 (km [] ["NoWeb"]) (ah 0)) (av)))))) (ak 1))
 (bo (bw (az cv (ah 1) (dy (af (i7 (km [] ["NoWeb"]) (ah 0)) (af (i7 (km ["NoWeb"] ["NoWeb"]) (ah 0)) (af (i7 (km [] ["NoWeb"]) (ah 0)) (af (i7 (km [] ["NoWeb"]) (ah 0)) (av))))))) (ak 1))
 (bo (i5 (kr (dP (iq (i7 (km ["NoWeb"] ["NoWeb"]) (ah 0)))) (fL (az (eQ true) (sr jL (ah 1) (af (cC (.bl true)) (av))) (cC (.int 1))))) (bV (cC (.str "other"))) (cy))
 (bV (az dR (dy (af (cC (.str "place")) (af (cC (.str "number")) (af (cC (.str "line")) (af (cC (.str "root")) (af (cC (.str "tree")) (af (cC (.str "web")) (af (cC (.str "text")) (af (cC (.str "great")) (av)))))))))) (sr jK (ah 1) (af (cC (.bl true)) (av)))))))
def cq:List D->aA->ai D:=iI 1 2 jE
theorem j7:aX ["_law_web", "_law_names", "_law_ties"] ["_law_web", "_law_names"] (au dk):=⟨rfl,rfl,rfl,by decide +kernel,rfl,by decide +kernel,by decide +kernel⟩
theorem iZ:(["_law_one", "_law_other", "_law_names"]:List Str).Nodup:=by decide +kernel
theorem nr:(["_law_tie"]:List Str).Nodup:=by decide +kernel
def fk:ME:=bT (af (az dR (ah 2) (ah 0)) (af (az dR (ah 2) (ah 1)) (av)))
def fj:ME:=bT (af (ax uJ (af (ah 0) (av))) (af (ax qS (af (ah 0) (av))) (av)))
def lF:MS:=bo (bw (dh (jd (az dR (ah 0) (cC (.int 1)))) [none,none,some 1] (fV 2 (bA (ak 0) (bA (ak 1) (fW)))) (cc) (fk)) (ak 2))
 (bV (bT (af (az dR (ah 0) (cC (.int 0))) (af (ax d9 (af (ax bR (af (ax kJ (af (dh (jd (ah 2)) [none] (ak 0) (cc) (fj)) (av))) (av))) (av))) (av)))))
def eV:List D->aA->ai D:=iI 2 3 lF
theorem iF:aX ["_law_pen", "_law_many", "_law_left"] ["_law_pen", "_law_many"] (au cP):=⟨rfl,rfl,rfl,by decide +kernel,rfl,by decide +kernel,by decide +kernel⟩
theorem kI:(["_law_place", "_law_left", "_law_pen"]:List Str).Nodup:=by decide +kernel
def dw:ME:=sr jr (ah 1) (af (ax aF (af (ah 2) (af (ax kl (af (ah 1) (av))) (av)))) (av))
def i4:MS:=bo (bw (ax lX (af (ah 1) (av))) (ak 2))
 (bV (ax d9 (af (dh (fS ja (af (ah 1) (av))) [none,some 2,some 0] (ak 0) (cc) (dw)) (av))))
def di:List D->aA->ai D:=iI 2 3 i4
theorem cE:aX ["_law_web", "_law_many", "_law_far_here", "_law_place", "_law_size", "_law_one", "_law_other", "_law_a", "_law_b"] ["_law_web"] (au fY):=⟨rfl,rfl,rfl,by decide +kernel,rfl,by decide +kernel,by decide +kernel⟩
theorem pO:(["_law_place", "_law_many"]:List Str).Nodup:=by decide +kernel
def eX:ME:=az lP (dy (af (cC .non) (av))) (ah 1)
def iW:MS:=i5 (kN (fL (az (eQ false) (az dR (az dR (ah 2) (ah 3)) (ah 7)) (az kh (ah 4) (cC (.int 1))))) (fL (az (nP false) (az dR (az dR (ah 2) (ah 3)) (ah 8)) (cC .non)))) (bw (ah 4) (nY (az dR (ah 2) (ah 3)) (ah 8))) (cy)
def gB:MS:=kf (jd (dy (af (bT (af (ah 5) (af (ah 6) (av)))) (af (bT (af (ah 6) (af (ah 5) (av)))) (av))))) (fV 2 (bA (ak 7) (bA (ak 8) (fW)))) iW
def gA:MS:=kf (jd (az dR (ah 0) (cC (.int 1)))) (fV 2 (bA (ak 5) (bA (ak 6) (fW)))) gB
def gy:MS:=bo (bw (cC (.int 0)) (nY (az dR (ah 2) (ah 3)) (ah 3)))
 (kf (fS nO (af (cC (.int 1)) (af (ah 1) (av)))) (ak 4) gA)
def oZ:MS:=bo (bw (az dR (ah 0) (cC (.int 0))) (ak 1))
 (bo (bw (dh (fS ja (af (ah 1) (av))) [none,some 1] (ak 0) (cc) (eX)) (ak 2))
 (bo (kf (fS ja (af (ah 1) (av))) (ak 3) gy)
 (bV (ah 2))))
def gQ:List D->aA->ai D:=iI 1 9 oZ
theorem dX:aX ["_law_web", "_law_k", "_law_far_here", "_law_ties", "_law_one"] ["_law_web", "_law_k"] (au dW):=⟨rfl,rfl,rfl,by decide +kernel,rfl,by decide +kernel,by decide +kernel⟩
theorem nq:(["_law_b", "_law_one", "_law_k", "_law_far_here"]:List Str).Nodup:=by decide +kernel
def fg:ME:=bT (af (ah 1) (af (ah 0) (av)))
def dD:MT:=kN (fL (az (nP true) (az dR (az dR (ah 3) (ah 1)) (ah 0)) (cC .non))) (fL (az (iJ .LtE) (az dR (az dR (ah 3) (ah 1)) (ah 0)) (ah 2)))
def fe:MS:=bw (az cv (ah 3) (dh (fS nO (af (az cv (ah 4) (cC (.int 1))) (af (az dR (ah 0) (cC (.int 0))) (av)))) [none,some 4,some 1,some 2] (ak 0) (dD) (fg))) (ak 3)
def lD:MS:=bo (bw (ax gQ (af (ah 0) (av))) (ak 2))
 (bo (bw (dy (av)) (ak 3))
 (bo (kf (fS ja (af (az dR (ah 0) (cC (.int 0))) (av))) (ak 4) fe)
 (bV (bT (af (az dR (ah 0) (cC (.int 0))) (af (ax d9 (af (ah 3) (av))) (av)))))))
def cY:List D->aA->ai D:=iI 2 5 lD
theorem aV:aX ["_law_pen", "_law_way", "_law_many", "_law_every", "_law_other", "_law_ties"] ["_law_pen"] (au ba):=⟨rfl,rfl,rfl,by decide +kernel,rfl,by decide +kernel,by decide +kernel⟩
theorem jZ:(["_law_one", "_law_other"]:List Str).Nodup:=by decide +kernel
theorem jY:(["_law_pair", "_law_pen"]:List Str).Nodup:=by decide +kernel
theorem jX:(["_law_pair", "_law_pen"]:List Str).Nodup:=by decide +kernel
theorem jW:(["_law_place"]:List Str).Nodup:=by decide +kernel
theorem jV:(["_law_place"]:List Str).Nodup:=by decide +kernel
theorem jU:(["_law_place"]:List Str).Nodup:=by decide +kernel
theorem jT:(["_law_place", "_law_pen"]:List Str).Nodup:=by decide +kernel
def gS:ME:=bT (af (ah 0) (af (ah 1) (av)))
def cZ:MS:=bw (az cv (ah 3) (dh (fS ja (af (ah 4) (av))) [none,some 4] (ak 0) (cc) (gS))) (ak 3)
def eJ:ME:=ah 0
def eE:MT:=fL (az (eQ false) (ax aF (af (ah 1) (af (cC (.int 2)) (av)))) (cC (.int 0)))
def eG:ME:=ah 0
def eD:MT:=fL (az (eQ false) (ax aF (af (ah 1) (af (cC (.int 3)) (av)))) (cC (.int 0)))
def df:ME:=bT (af (ah 0) (af (az cv (ah 0) (cC (.int 1))) (av)))
def eF:ME:=bT (af (ah 0) (af (az cv (ah 0) (cC (.int 1))) (av)))
def de:ME:=bT (af (cC (.int 0)) (af (ah 0) (av)))
def bX:ME:=bT (af (ax aF (af (ah 1) (af (ah 0) (av)))) (af (ah 0) (av)))
def iG:MS:=bo (bw (ax aF (af (ah 0) (af (cC (.int 7)) (av)))) (ak 1))
 (bo (bw (az cv (cC (.int 1)) (ax aF (af (ah 0) (af (cC (.int 6)) (av))))) (ak 2))
 (bo (bw (dy (av)) (ak 3))
 (bo (kf (fS ja (af (ah 2) (av))) (ak 4) cZ)
 (bo (i5 (fL (az (eQ false) (ah 1) (cC (.int 0)))) (bw (dh (jd (ah 3)) [none,some 0] (ak 0) (eE) (eJ)) (ak 5)) (i5 (fL (az (eQ false) (ah 1) (cC (.int 1)))) (bw (dh (jd (ah 3)) [none,some 0] (ak 0) (eD) (eG)) (ak 5)) (i5 (fL (az (eQ false) (ah 1) (cC (.int 2)))) (bw (az cv (dh (fS ja (af (az kh (ah 2) (cC (.int 1))) (av))) [none] (ak 0) (cc) (df)) (az lP (dy (af (bT (af (cC (.int 0)) (af (az kh (ah 2) (cC (.int 1))) (av)))) (av))) (ax mQ (af (az (iJ .Gt) (ah 2) (cC (.int 2))) (av))))) (ak 5)) (i5 (fL (az (eQ false) (ah 1) (cC (.int 3)))) (bw (dh (fS ja (af (az kh (ah 2) (cC (.int 1))) (av))) [none] (ak 0) (cc) (eF)) (ak 5)) (i5 (fL (az (eQ false) (ah 1) (cC (.int 4)))) (bw (dh (fS nO (af (cC (.int 1)) (af (ah 2) (av)))) [none] (ak 0) (cc) (de)) (ak 5)) (bw (dh (fS nO (af (cC (.int 1)) (af (ah 2) (av)))) [none,some 0] (ak 0) (cc) (bX)) (ak 5)))))))
 (bV (ax eV (af (bT (af (ah 2) (af (ax d9 (af (ah 5) (av))) (av)))) (af (ax di (af (ah 0) (af (ah 2) (av)))) (av)))))))))
def cQ:List D->aA->ai D:=iI 1 6 iG
theorem cn:aX ["_law_pen", "_law_web", "_law_way", "_law_spot", "_law_one", "_law_pair"] ["_law_pen"] (au eY):=⟨rfl,rfl,rfl,by decide +kernel,rfl,by decide +kernel,by decide +kernel⟩
def fR:MS:=bo (bw (ax cQ (af (ah 0) (av))) (ak 1))
 (bo (bw (ax aF (af (ah 0) (af (cC (.int 6)) (av)))) (ak 2))
 (bo (i5 (fL (az (iJ .Lt) (ah 2) (cC (.int 3)))) (bw (ax cY (af (ah 1) (af (cC (.int 2)) (av)))) (ak 1)) (cy))
 (bo (i5 (kN (fL (az (eQ false) (ah 2) (cC (.int 0)))) (fL (az (eQ true) (az dR (ah 1) (cC (.int 1))) (bT (av))))) (bo (bw (ax aF (af (ah 0) (af (ax kl (af (az dR (ah 1) (cC (.int 1))) (av))) (av)))) (ak 3))
 (bV (bT (af (az dR (ah 1) (cC (.int 0))) (af (az cv (vS (az dR (ah 1) (cC (.int 1))) (yw) (fT (ah 3))) (vS (az dR (ah 1) (cC (.int 1))) (fT (az cv (ah 3) (cC (.int 1)))) (yw))) (av)))))) (cy))
 (bo (i5 (kN (fL (az (eQ false) (ah 2) (cC (.int 1)))) (fL (az (iJ .Gt) (az dR (ah 1) (cC (.int 0))) (cC (.int 1))))) (bo (bw (ax aF (af (ah 0) (af (az dR (ah 1) (cC (.int 0))) (av)))) (ak 4))
 (bo (bw (ax d9 (af (ax bR (af (bT (af (ah 4) (af (az pD (az cv (az cv (ah 4) (cC (.int 1))) (ax aF (af (ah 0) (af (az kh (az dR (ah 1) (cC (.int 0))) (cC (.int 1))) (av))))) (az dR (ah 1) (cC (.int 0)))) (av)))) (av))) (av))) (ak 5))
 (bV (bT (af (az dR (ah 1) (cC (.int 0))) (af (ax d9 (af (ax bR (af (ax kJ (af (az cv (az dR (ah 1) (cC (.int 1))) (bT (af (ah 5) (av)))) (av))) (av))) (av))) (av))))))) (cy))
 (bV (ah 1))))))
def dY:List D->aA->ai D:=iI 1 6 fR
theorem hZ:aX ["_law_many", "_law_things", "_law_found", "_law_spot", "_law_pair"] ["_law_many", "_law_things"] (au hV):=⟨rfl,rfl,rfl,by decide +kernel,rfl,by decide +kernel,by decide +kernel⟩
def cG:MS:=bo (bw (az dR (ah 1) (ah 3)) (ak 4))
 (bo (i5 (kr (dP (iq (i7 (ip "tuple") (ah 4)))) (kr (fL (az (eQ true) (ax kl (af (ah 4) (av))) (cC (.int 2)))) (kr (dP (iq (ax bQ (af (az dR (ah 4) (cC (.int 0))) (av))))) (dP (iq (ax bQ (af (az dR (ah 4) (cC (.int 1))) (av)))))))) (bV (bT (af (ah 3) (af (cC .non) (av))))) (cy))
 (bo (i5 (kr (dP (fL (iL (iJ .LtE) (iJ .Lt) (cC (.int 0)) (az dR (ah 4) (cC (.int 0))) (ah 0)))) (kr (dP (fL (iL (iJ .LtE) (iJ .Lt) (cC (.int 0)) (az dR (ah 4) (cC (.int 1))) (ah 0)))) (fL (az (eQ false) (az dR (ah 4) (cC (.int 0))) (az dR (ah 4) (cC (.int 1))))))) (bV (bT (af (ah 3) (af (cC .non) (av))))) (cy))
 (j4 (sr cL (ah 2) (af (bT (af (ax uJ (af (ah 4) (av))) (af (ax qS (af (ah 4) (av))) (av)))) (av))))))
def pb:MS:=bo (bw (dy (av)) (ak 2))
 (bo (kf (fS ja (af (ax kl (af (ah 1) (av))) (av))) (ak 3) cG)
 (bV (bT (af (cC .non) (af (bT (af (ah 0) (af (ax d9 (af (ax bR (af (ax kJ (af (ah 2) (av))) (av))) (av))) (av)))) (av))))))
def dC:List D->aA->ai D:=iI 2 5 pb
theorem fQ:aX ["_law_ties", "_law_pen", "_law_left", "_law_found", "_law_pair"] ["_law_ties", "_law_pen"] (au fP):=⟨rfl,rfl,rfl,by decide +kernel,rfl,by decide +kernel,by decide +kernel⟩
def dE:MS:=bo (bw (sr jr (ah 2) (af (ax aF (af (ah 1) (af (ax kl (af (ah 2) (av))) (av)))) (av))) (ak 4))
 (bo (j4 (sr cL (ah 3) (af (az dR (dy (af (ah 4) (af (az v5 (ah 4) (i7 qR (cC (.int 1)))) (av)))) (ax aF (af (ah 1) (af (cC (.int 2)) (av))))) (av))))
 (i5 (fL (az (eQ false) (ax aF (af (ah 1) (af (cC (.int 6)) (av)))) (cC (.int 0)))) (j4 (sr cL (ah 3) (af (ah 4) (av)))) (cy)))
def lG:MS:=bo (bw (ax mP (af (ah 0) (av))) (ak 2))
 (bo (bw (dy (av)) (ak 3))
 (bo (qZ 100 (fL (az (eQ true) (ah 2) (dy (av)))) dE)
 (bV (ah 3))))
def eW:List D->aA->ai D:=iI 2 5 lG
theorem cf:aX ["_law_many", "_law_things", "_law_number", "_law_due_here", "_law_handed", "_law_told", "_law_found", "_law_e"] ["_law_many", "_law_things"] (au fO):=⟨rfl,rfl,rfl,by decide +kernel,rfl,by decide +kernel,by decide +kernel⟩
def ff:MS:=bo (i5 (kr (fL (az (eQ true) (ax cq (af (ah 7) (av))) (cC (.str "web")))) (dP (iq (ax bQ (af (i7 (mR ["NoWeb"] "number") (ah 7)) (av)))))) (bV (cC (.bl false))) (cy))
 (bw (i7 (mR ["NoWeb"] "number") (ah 7)) (ak 6))
def lE:MS:=bo (bw (ax dC (af (ah 0) (af (ah 1) (av)))) (fV 2 (bA (ak 2) (bA (ak 3) (fW)))))
 (bo (bw (ax mP (af (ah 1) (av))) (ak 4))
 (bo (bw (cC .non) (ak 5))
 (bo (bw (cC .non) (ak 6))
 (bo (jh ["NoWeb"] 7 (fun ρ d=>ρ.set 5 (some d)) cO (af (ah 0) (af (ah 4) (av))) ff)
 (bo (i5 (kr (fL (az (eQ true) (ah 4) (ah 1))) (fL (az (eQ true) (ah 6) (ah 2)))) (bV (cC (.bl false))) (cy))
 (bo (j4 (sr cL (ah 4) (af (cC .non) (av))))
 (bV (uK (az (nP true) (ah 2) (cC .non)) (gK (i7 (ip "tuple") (ah 5)) (az (sA false) (ax fB (af (ah 5) (av))) (ax fB (af (ah 3) (av)))))))))))))
def aZ:List D->aA->ai D:=iI 2 8 lE
theorem ia:aX ["_law_many", "_law_e"] ["_law_many"] (au dv):=⟨rfl,rfl,rfl,by decide +kernel,rfl,by decide +kernel,by decide +kernel⟩
def dc:MS:=bV (gK (az (eQ false) (ax cq (af (ah 1) (av))) (cC (.str "web"))) (gK (ax bQ (af (i7 (mR ["NoWeb"] "number") (ah 1)) (av))) (az (eQ false) (i7 (mR ["NoWeb"] "number") (ah 1)) (i7 qR (cC (.int 1))))))
def fJ:MS:=bo (jh ["NoWeb"] 1 (fun ρ _=>ρ) cO (af (ah 0) (af (dy (af (cC .non) (av))) (av))) dc)
 (bV (cC (.bl false)))
def cR:List D->aA->ai D:=iI 1 2 fJ
theorem gf:aX ["_law_script", "_law_many", "_law_cell", "_law_pen", "_law_ties", "_law_things", "_law_turn", "_law_spot", "_law_a", "_law_odd"] ["_law_script"] (au kv):=⟨rfl,rfl,rfl,by decide +kernel,rfl,by decide +kernel,by decide +kernel⟩
def kW:MS:=i5 (dP (iq (ax cR (af (ah 1) (av))))) (bV (cC (.bl false))) (cy)
def nL:MS:=bo (bw (ax aF (af (ah 3) (af (az cv (ax kl (af (ah 5) (av))) (cC (.int 1))) (av)))) (ak 7))
 (bo (bw (ax aF (af (ah 3) (af (ah 1) (av)))) (ak 8))
 (bo (bw (dy (af (bT (af (ah 8) (af (ah 8) (av)))) (af (bT (af (ah 8) (af (ah 1) (av)))) (af (bT (af (ah 1) (af (ah 8) (av)))) (af (bT (af (i7 qR (cC (.int 1))) (af (ah 8) (av)))) (af (bT (af (cC (.bl true)) (af (ah 8) (av)))) (af (bT (af (ah 8) (af (cC .non) (av)))) (af (dy (af (cC (.int 0)) (af (cC (.int 1)) (av)))) (af (cC .non) (af (bT (af (ah 8) (av))) (af (bT (af (cC (.int 0)) (af (cC (.int 1)) (af (cC (.int 2)) (av))))) (af (cC (.str "01")) (af (cC (.int 0)) (av)))))))))))))) (ak 9))
 (bo (bw (az cv (az cv (vS (ah 5) (yw) (fT (ah 7))) (dy (af (az dR (ah 9) (ax aF (af (ah 3) (af (cC (.int 12)) (av))))) (av)))) (vS (ah 5) (fT (az cv (ah 7) (ax aF (af (ah 3) (af (cC (.int 2)) (av)))))) (yw))) (ak 5))
 (i5 (dP (iq (ax aZ (af (ah 1) (af (ah 5) (av)))))) (bV (cC (.bl false))) (cy)))))
def kU:MS:=bo (bw (ax dZ (af (ah 2) (av))) (ak 3))
 (bo (bw (ax dY (af (ah 3) (av))) (fV 2 (bA (ak 1) (bA (ak 4) (fW)))))
 (bo (bw (ax eW (af (ah 4) (af (ah 3) (av)))) (ak 5))
 (bo (i5 (dP (iq (ax aZ (af (ah 1) (af (ah 5) (av)))))) (bV (cC (.bl false))) (cy))
 (kf (fS ja (af (cC (.int 3)) (av))) (ak 6) nL))))
def DK:MS:=bo (kf (jd (dy (af (cC (.int 0)) (af (cC (.int 7)) (af (i7 qR (cC (.int 1))) (af (cC (.bl true)) (af (cC .non) (af (cC (.str "3")) (af (dy (af (cC (.int 3)) (av))) (af (az xc (cC (.int 10)) (cC (.int 30))) (av))))))))))) (ak 1) kW)
 (bo (i5 (kr (dP (iq (ax aZ (af (cC (.int 6)) (af (dy (af (bT (af (cC (.int 5)) (af (cC (.int 0)) (av)))) (af (bT (af (cC (.int 0)) (af (cC (.int 5)) (av)))) (af (bT (af (cC (.int 1)) (af (cC (.int 2)) (av)))) (av))))) (av)))))) (dP (iq (ax aZ (af (cC (.int 1)) (af (dy (av)) (av))))))) (bV (cC (.bl false))) (cy))
 (bo (kf (jd (az cv (dy (af (ax cu (af (ah 0) (af (cC (.int 0)) (av)))) (av))) (vS (ah 0) (fT (cC (.int 1))) (fT (cC (.int 5)))))) (ak 2) kU)
 (bV (cC (.bl true)))))
def sR:List D->aA->ai D:=iI 1 10 DK
theorem uc (nm:Nm mg) {f:Addr}{fd:FuncData} (F:gT K "is_whole" "is_whole" g9 f fd) (hm:mg "is_whole" = some (.ref f)):f7 P w K mg base (fm K w) 1 "is_whole" 1 gO:=
 eM F ua rfl hm (F.b1 (by rfl) fun _ _ _ _ _ _ _=>by rfl) fun cdv A outer s H E hr=>
 aT (bJ (kM (nV (T:="int") (by decide) zI (by decide) (by decide) nm.isinstance nm.int (aL 0)) (mG (Dn (nV (T:="bool") (by decide) wZ (by decide) (by decide) nm.isinstance nm.bool (aL 0))))))
theorem mC (nm:Nm mg) {f:Addr}{fd:FuncData} (F:gT K "is_whole_from" "is_whole_from" dJ f fd) (hm:mg "is_whole_from" = some (.ref f)) (d_is_whole:f7 P w K mg base (fm K w) 1 "is_whole" 1 gO):f7 P w K mg base (fm K w) 2 "is_whole_from" 3 bU:=
 eM F mB rfl hm (F.b3 (by rfl) fun _ _ _ _ _ _ _ _ _=>by rfl) fun cdv A outer s H E hr=>
 aT (bJ (kM (bf d_is_whole (hr.mono (by decide)) (aI (aL 0) (bb))) (mG (GU (iX (op:=.LtE) hr.units) (iX (op:=.LtE) hr.units) (aL 1) (aL 0) (aL 2)))))
theorem ud (nm:Nm mg) {f:Addr}{fd:FuncData} (F:gT K "is_place" "is_place" hG f fd) (hm:mg "is_place" = some (.ref f)) (d_is_whole_from:f7 P w K mg base (fm K w) 2 "is_whole_from" 3 bU):f7 P w K mg base (fm K w) 3 "is_place" 2 gP:=
 eM F ub rfl hm (F.b2 (by rfl) fun _ _ _ _ _ _ _ _=>by rfl) fun cdv A outer s H E hr=>
 aT (bJ (bf d_is_whole_from (hr.mono (by decide)) (aI (aL 1) (aI (bD) (aI (nU (aL 0) (bD)) (bb))))))
theorem rY (nm:Nm mg) {f:Addr}{fd:FuncData} (F:gT K "is_places" "is_places" eU f fd) (hm:mg "is_places" = some (.ref f)) (d_is_place:f7 P w K mg base (fm K w) 3 "is_place" 2 gP):f7 P w K mg base (fm K w) 4 "is_places" 2 f6:=
 eM F rX rfl hm (F.b2 (by rfl) fun _ _ _ _ _ _ _ _=>by rfl) fun cdv A outer s H E hr=>
 aT (bJ (kM (nV (T:="tuple") (by decide) oz (by decide) (by decide) nm.isinstance nm.tuple (aL 1)) (mG (bK HI nm.all (aI (lR (du (N:=["many", "thing"]) (sc:=au eU) (Nc:=["place", "many"]) (cap:=[none,some 0]) rfl rfl (by decide +kernel)) (A7 (aL 1)) (fun _ _ _ _ _=>jO 0 ph) (fun _ _ _ _ _=>jf) (fun _ _ _ _ _=>bf d_is_place (hr.mono (by decide)) (aI (aL 1) (aI (aL 0) (bb))))) (bb))))))
theorem vm (nm:Nm mg) {f:Addr}{fd:FuncData} (F:gT K "is_many" "is_many" iR f fd) (hm:mg "is_many" = some (.ref f)) (c_MOST_PLACES:∃t,mg "MOST_PLACES" = some (.int 6 t)) (d_is_whole_from:f7 P w K mg base (fm K w) 2 "is_whole_from" 3 bU):f7 P w K mg base (fm K w) 3 "is_many" 1 iE:=
 eM F vd rfl hm (F.b1 (by rfl) fun _ _ _ _ _ _ _=>by rfl) fun cdv A outer s H E hr=>
 aT (bJ (bf d_is_whole_from (hr.mono (by decide)) (aI (aL 0) (aI (bD) (aI (Iy c_MOST_PLACES) (bb))))))
theorem vk (nm:Nm mg) {f:Addr}{fd:FuncData} (F:gT K "is_pair" "is_pair" iQ f fd) (hm:mg "is_pair" = some (.ref f)) (d_is_places:f7 P w K mg base (fm K w) 4 "is_places" 2 f6):f7 P w K mg base (fm K w) 5 "is_pair" 2 iD:=
 eM F vc rfl hm (F.b2 (by rfl) fun _ _ _ _ _ _ _ _=>by rfl) fun cdv A outer s H E hr=>
 aT (bJ (kM (bf d_is_places (hr.mono (by decide)) (aI (aL 0) (aI (aL 1) (bb)))) (kM (mI (jQ hr.units) (bK mS nm.len (aI (aL 1) (bb))) (bD)) (mG (mI (sy hr.units) (cg (aL 1) (bD)) (cg (aL 1) (bD)))))))
theorem xN (nm:Nm mg) {f:Addr}{fd:FuncData} (F:gT K "web_of" "web_of" iz f fd) (hm:mg "web_of" = some (.ref f)) {a_NoWeb:Addr} (k_NoWeb:W.nsIn K mainGlobals "NoWeb" = some (some (.ref a_NoWeb))) (i_NoWeb:sP P w K mg base "NoWeb" "number" a_NoWeb) (d_is_many:f7 P w K mg base (fm K w) 3 "is_many" 1 iE) (d_is_pair:f7 P w K mg base (fm K w) 5 "is_pair" 2 iD):xh P w K mg base 6 "web_of" 2 cO:=
 D9 F mf rfl hm (F.b2 (by rfl) fun _ _ _ _ _ _ _ _=>by rfl) fun cdv A outer s H E hr=>
 aO (gF (gW (yq (we d_is_many (hr.mono (by decide)) (aI (aL 0) (bb))))) (aT (sS k_NoWeb i_NoWeb (hr.mono (by decide)) (aI (sG (bD)) (bb)))) (fq))
 (aO (jg PassesOwn.leaving (IR nm.enumerate (aI (aL 1) (bb))) (p6 (gh (jO 2 mf.nd) (gh (jO 3 mf.nd) (p7)))) (aT (gF (gW (yq (we d_is_pair (hr.mono (by decide)) (aI (aL 0) (aI (aL 3) (bb)))))) (aT (sS k_NoWeb i_NoWeb (hr.mono (by decide)) (aI (aL 2) (bb)))) (fq))))
 (aT (bJ (bM (aI (aL 0) (aI (bK g8 nm.tuple (aI (bK jw nm.sorted (aI (Bu (du (N:=["many", "things", "at", "thing"]) (sc:=au iz) (Nc:=["pair"]) (cap:=[none]) rfl rfl (by decide +kernel)) (A7 (aL 1)) (fun _ _ _ _ _=>jO 0 ug) (fun _ _ _ _ _=>jf) (fun _ _ _ _ _ _=>HH rfl hr.units (bM (aI (bK y6 nm.min (aI (aL 0) (bb))) (aI (bK v8 nm.max (aI (aL 0) (bb))) (bb)))))) (bb))) (bb))) (bb)))))))
theorem nk (nm:Nm mg) {f:Addr}{fd:FuncData} (F:gT K "_law_cell_at" "_law_cell_at" d5 f fd) (hm:mg "_law_cell_at" = some (.ref f)):f7 P w K mg base (fm K w) 1 "_law_cell_at" 2 cu:=
 eM F ni rfl hm (F.b2 (by rfl) fun _ _ _ _ _ _ _ _=>by rfl) fun cdv A outer s H E hr=>
 aO (gF (cS (iX (op:=.Lt) hr.units) (aL 1) (bK mS nm.len (aI (aL 0) (bb)))) (aT (bJ (cg (aL 0) (aL 1)))) (fq))
 (aT (bJ (bD)))
theorem rZ (nm:Nm mg) {f:Addr}{fd:FuncData} (F:gT K "_law_next" "_law_next" gv f fd) (hm:mg "_law_next" = some (.ref f)):f7 P w K mg base (fm K w) 1 "_law_next" 1 eO:=
 eM F ly rfl hm (F.b1 (by rfl) fun _ _ _ _ _ _ _=>by rfl) fun cdv A outer s H E hr=>
 aO (bN 0 ly.nd (pV (dN (aL 0) (bD)) (bD)))
 (aT (bJ (pV (dN (dN (vU (aL 0) (aL 0)) (vU (bD) (aL 0))) (bD)) (bD))))
theorem pf (nm:Nm mg) {f:Addr}{fd:FuncData} (F:gT K "_law_pen_of" "_law_pen_of" eZ f fd) (hm:mg "_law_pen_of" = some (.ref f)):f7 P w K mg base (fm K w) 1 "_law_pen_of" 1 dZ:=
 eM F jB rfl hm (F.b1 (by rfl) fun _ _ _ _ _ _ _=>by rfl) fun cdv A outer s H E hr=>
 aO (bN 1 jB.nd (bK v8 nm.max (aI (aL 0) (aI (nU (bD) (aL 0)) (bb)))))
 (aT (bJ (dM (aI (aL 1) (aI (bK DH nm.int (aI (mI (iX (op:=.GtE) hr.units) (aL 1) (Do (bD) (bD))) (bb))) (aI (pV (aL 1) (bD)) (bb)))))))
theorem r6 (nm:Nm mg) {f:Addr}{fd:FuncData} (F:gT K "_law_draw" "_law_draw" gx f fd) (hm:mg "_law_draw" = some (.ref f)) (d__law_next:f7 P w K mg base (fm K w) 1 "_law_next" 1 eO):f7 P w K mg base (fm K w) 2 "_law_draw" 2 aF:=
 eM F lz rfl hm (F.b2 (by rfl) fun _ _ _ _ _ _ _ _=>by rfl) fun cdv A outer s H E hr=>
 aO (gF (cS (jQ hr.units) (cg (aL 0) (bD)) (bD)) (aO (bN 2 lz.nd (pV (cg (aL 0) (bD)) (aL 1)))
 (aO (pZ (ze (cg (aL 0) (bD)) (aL 1)) (vY (aL 0) (bD)))
 (aT (bJ (aL 2))))) (fq))
 (aO (pZ (bf d__law_next (hr.mono (by decide)) (aI (dN (bf d__law_next (hr.mono (by decide)) (aI (cg (aL 0) (bD)) (bb))) (bD)) (bb))) (vY (aL 0) (bD)))
 (aT (bJ (pV (ze (cg (aL 0) (bD)) (bD)) (aL 1)))))
theorem pJ (nm:Nm mg) {f:Addr}{fd:FuncData} (F:gT K "_law_whole" "_law_whole" fN f fd) (hm:mg "_law_whole" = some (.ref f)):nS P w K mg base (fm K w) 1 "_law_whole" 1 bQ:=
 zb F pI rfl hm (F.b1 (by rfl) fun _ _ _ _ _ _ _=>by rfl) fun cdv A outer s H E hr=>
 aT (bJ (kM (nV (T:="int") (by decide) zI (by decide) (by decide) nm.isinstance nm.int (aL 0)) (mG (Dn (nV (T:="bool") (by decide) wZ (by decide) (by decide) nm.isinstance nm.bool (aL 0))))))
theorem nj (nm:Nm mg) {f:Addr}{fd:FuncData} (F:gT K "_law_kind_of" "_law_kind_of" d4 f fd) (hm:mg "_law_kind_of" = some (.ref f)) {a_NoLine a_NoNumber a_NoPlace a_NoRoot a_NoText a_NoTree a_NoWeb a_TooGreat:Addr} (q_NoLine:bG K (.ref a_NoLine) [] ["NoWeb"]) (q_NoNumber:bG K (.ref a_NoNumber) [] ["NoWeb"]) (q_NoPlace:bG K (.ref a_NoPlace) [] ["NoWeb"]) (q_NoRoot:bG K (.ref a_NoRoot) [] ["NoWeb"]) (q_NoText:bG K (.ref a_NoText) [] ["NoWeb"]) (q_NoTree:bG K (.ref a_NoTree) [] ["NoWeb"]) (q_NoWeb:bG K (.ref a_NoWeb) ["NoWeb"] ["NoWeb"]) (q_TooGreat:bG K (.ref a_TooGreat) [] ["NoWeb"]) (q_ValueError:bG K (.type "ValueError") ["NoWeb"] ["NoWeb"]) (m_NoLine:mg "NoLine" = some (.ref a_NoLine)) (m_NoNumber:mg "NoNumber" = some (.ref a_NoNumber)) (m_NoPlace:mg "NoPlace" = some (.ref a_NoPlace)) (m_NoRoot:mg "NoRoot" = some (.ref a_NoRoot)) (m_NoText:mg "NoText" = some (.ref a_NoText)) (m_NoTree:mg "NoTree" = some (.ref a_NoTree)) (m_NoWeb:mg "NoWeb" = some (.ref a_NoWeb)) (m_TooGreat:mg "TooGreat" = some (.ref a_TooGreat)):nS P w K mg base (fm K w) 1 "_law_kind_of" 1 cq:=
 zb F gm rfl hm (F.b1 (by rfl) fun _ _ _ _ _ _ _=>by rfl) fun cdv A outer s H E hr=>
 aO (bN 1 gm.nd (dM (aI (mH q_NoPlace nm.isinstance m_NoPlace (aL 0)) (aI (mH q_NoNumber nm.isinstance m_NoNumber (aL 0)) (aI (mH q_NoLine nm.isinstance m_NoLine (aL 0)) (aI (mH q_NoRoot nm.isinstance m_NoRoot (aL 0)) (bb)))))))
 (aO (bN 1 gm.nd (dN (aL 1) (dM (aI (mH q_NoTree nm.isinstance m_NoTree (aL 0)) (aI (mH q_NoWeb nm.isinstance m_NoWeb (aL 0)) (aI (mH q_NoText nm.isinstance m_NoText (aL 0)) (aI (mH q_TooGreat nm.isinstance m_TooGreat (aL 0)) (bb))))))))
 (aO (gF (pB (qO (gW (yq (Ed q_ValueError nm.isinstance nm.ValueError pR (aL 0)))) (pX (cS (sy hr.units) (GT (aL 1) (aI (yp) (bb))) (bD))))) (aT (bJ (w9))) (fq))
 (aT (bJ (cg (dM (aI (w9) (aI (w9) (aI (w9) (aI (w9) (aI (w9) (aI (w9) (aI (w9) (aI (w9) (bb)))))))))) (GS (aL 1) (aI (yp) (bb))))))))
theorem pM (nm:Nm mg) {f:Addr}{fd:FuncData} (F:gT K "_law_named" "_law_named" dk f fd) (hm:mg "_law_named" = some (.ref f)):f7 P w K mg base (fm K w) 1 "_law_named" 2 eV:=
 eM F j7 rfl hm (F.b2 (by rfl) fun _ _ _ _ _ _ _ _=>by rfl) fun cdv A outer s H E hr=>
 aO (kx 2 j7.nd (du (N:=["_law_web", "_law_names", "_law_ties"]) (sc:=au dk) (Nc:=["_law_one", "_law_other", "_law_names"]) (cap:=[none,none,some 1]) rfl rfl (by decide +kernel)) (A7 (cg (aL 0) (bD))) (fun _ _ _ _ _=>p6 (gh (jO 0 iZ) (gh (jO 1 iZ) (p7)))) (fun _ _ _ _ _=>jf) (fun _ _ _ _ _=>bM (aI (cg (aL 2) (aL 0)) (aI (cg (aL 2) (aL 1)) (bb)))))
 (aT (bJ (bM (aI (cg (aL 0) (bD)) (aI (bK g8 nm.tuple (aI (bK jw nm.sorted (aI (bK (y0 hr.units) nm.set (aI (lR (du (N:=["_law_web", "_law_names", "_law_ties"]) (sc:=au dk) (Nc:=["_law_tie"]) (cap:=[none]) rfl rfl (by decide +kernel)) (A7 (aL 2)) (fun _ _ _ _ _=>jO 0 nr) (fun _ _ _ _ _=>jf) (fun _ _ _ _ _=>bM (aI (bK y6 nm.min (aI (aL 0) (bb))) (aI (bK v8 nm.max (aI (aL 0) (bb))) (bb))))) (bb))) (bb))) (bb))) (bb))))))
theorem mD (nm:Nm mg) {f:Addr}{fd:FuncData} (F:gT K "_law_names_by" "_law_names_by" cP f fd) (hm:mg "_law_names_by" = some (.ref f)) (d__law_draw:f7 P w K mg base (fm K w) 2 "_law_draw" 2 aF):f7 P w K mg base (fm K w) 3 "_law_names_by" 2 di:=
 eM F iF rfl hm (F.b2 (by rfl) fun _ _ _ _ _ _ _ _=>by rfl) fun cdv A outer s H E hr=>
 aO (bN 2 iF.nd (Ec nm.range nm.list (aI (aL 1) (bb))))
 (aT (bJ (bK g8 nm.tuple (aI (lR (du (N:=["_law_pen", "_law_many", "_law_left"]) (sc:=au cP) (Nc:=["_law_place", "_law_left", "_law_pen"]) (cap:=[none,some 2,some 0]) rfl rfl (by decide +kernel)) (pC nm.range (aI (aL 1) (bb))) (fun _ _ _ _ _=>jO 0 kI) (fun _ _ _ _ _=>jf) (fun _ _ _ _ _=>Dp (aL 1) (aI (bf d__law_draw (hr.mono (by decide)) (aI (aL 2) (aI (bK mS nm.len (aI (aL 1) (bb))) (bb)))) (bb)))) (bb)))))
theorem ue (nm:Nm mg) {f:Addr}{fd:FuncData} (F:gT K "_law_far" "_law_far" fY f fd) (hm:mg "_law_far" = some (.ref f)):f7 P w K mg base (fm K w) 1 "_law_far" 1 gQ:=
 eM F cE rfl hm (F.b1 (by rfl) fun _ _ _ _ _ _ _=>by rfl) fun cdv A outer s H E hr=>
 aO (bN 1 cE.nd (cg (aL 0) (bD)))
 (aO (kx 2 cE.nd (du (N:=["_law_web", "_law_many", "_law_far_here", "_law_place", "_law_size", "_law_one", "_law_other", "_law_a", "_law_b"]) (sc:=au fY) (Nc:=["_law_place", "_law_many"]) (cap:=[none,some 1]) rfl rfl (by decide +kernel)) (pC nm.range (aI (aL 1) (bb))) (fun _ _ _ _ _=>jO 0 pO) (fun _ _ _ _ _=>jf) (fun _ _ _ _ _=>vU (dM (aI (vO) (bb))) (aL 1)))
 (aO (jg NS (pC nm.range (aI (aL 1) (bb))) (jO 3 cE.nd) (aO (pZ (bD) (vY (cg (aL 2) (aL 3)) (aL 3)))
 (aT (jg NS (Bi nm.range (aI (bD) (aI (aL 1) (bb)))) (jO 4 cE.nd) (aT (jg NS (A7 (cg (aL 0) (bD))) (p6 (gh (jO 5 cE.nd) (gh (jO 6 cE.nd) (p7)))) (aT (jg NS (A7 (dM (aI (bM (aI (aL 5) (aI (aL 6) (bb)))) (aI (bM (aI (aL 6) (aI (aL 5) (bb)))) (bb))))) (p6 (gh (jO 7 cE.nd) (gh (jO 8 cE.nd) (p7)))) (aT (gF (pB (vW (cS (jQ hr.units) (cg (cg (aL 2) (aL 3)) (aL 7)) (nU (aL 4) (bD))) (qX (cS (Hx) (cg (cg (aL 2) (aL 3)) (aL 8)) (vO))))) (aT (pZ (aL 4) (vY (cg (aL 2) (aL 3)) (aL 8)))) (fq)))))))))))
 (aT (bJ (aL 2)))))
theorem pK (nm:Nm mg) {f:Addr}{fd:FuncData} (F:gT K "_law_steps" "_law_steps" dW f fd) (hm:mg "_law_steps" = some (.ref f)) (d__law_far:f7 P w K mg base (fm K w) 1 "_law_far" 1 gQ):f7 P w K mg base (fm K w) 2 "_law_steps" 2 cY:=
 eM F dX rfl hm (F.b2 (by rfl) fun _ _ _ _ _ _ _ _=>by rfl) fun cdv A outer s H E hr=>
 aO (bN 2 dX.nd (bf d__law_far (hr.mono (by decide)) (aI (aL 0) (bb))))
 (aO (bN 3 dX.nd (dM (bb)))
 (aO (jg NS (pC nm.range (aI (cg (aL 0) (bD)) (bb))) (jO 4 dX.nd) (aT (bN 3 dX.nd (dN (aL 3) (lR (du (N:=["_law_web", "_law_k", "_law_far_here", "_law_ties", "_law_one"]) (sc:=au dW) (Nc:=["_law_b", "_law_one", "_law_k", "_law_far_here"]) (cap:=[none,some 4,some 1,some 2]) rfl rfl (by decide +kernel)) (Bi nm.range (aI (dN (aL 4) (bD)) (aI (cg (aL 0) (bD)) (bb)))) (fun _ _ _ _ _=>jO 0 nq) (fun _ _ _ _ _=>yH (pB (vW (cS (zu) (cg (cg (aL 3) (aL 1)) (aL 0)) (vO)) (qX (cS (iX (op:=.LtE) hr.units) (cg (cg (aL 3) (aL 1)) (aL 0)) (aL 2)))))) (fun _ _ _ _ _=>bM (aI (aL 1) (aI (aL 0) (bb)))))))))
 (aT (bJ (bM (aI (cg (aL 0) (bD)) (aI (bK g8 nm.tuple (aI (aL 3) (bb))) (bb))))))))
theorem lI (nm:Nm mg) {f:Addr}{fd:FuncData} (F:gT K "_law_sparse_by" "_law_sparse_by" ba f fd) (hm:mg "_law_sparse_by" = some (.ref f)) (d__law_draw:f7 P w K mg base (fm K w) 2 "_law_draw" 2 aF) (d__law_named:f7 P w K mg base (fm K w) 1 "_law_named" 2 eV) (d__law_names_by:f7 P w K mg base (fm K w) 3 "_law_names_by" 2 di):f7 P w K mg base (fm K w) 4 "_law_sparse_by" 1 cQ:=
 eM F aV rfl hm (F.b1 (by rfl) fun _ _ _ _ _ _ _=>by rfl) fun cdv A outer s H E hr=>
 aO (bN 1 aV.nd (bf d__law_draw (hr.mono (by decide)) (aI (aL 0) (aI (bD) (bb)))))
 (aO (bN 2 aV.nd (dN (bD) (bf d__law_draw (hr.mono (by decide)) (aI (aL 0) (aI (bD) (bb))))))
 (aO (bN 3 aV.nd (dM (bb)))
 (aO (jg NS (pC nm.range (aI (aL 2) (bb))) (jO 4 aV.nd) (aT (bN 3 aV.nd (dN (aL 3) (lR (du (N:=["_law_pen", "_law_way", "_law_many", "_law_every", "_law_other", "_law_ties"]) (sc:=au ba) (Nc:=["_law_one", "_law_other"]) (cap:=[none,some 4]) rfl rfl (by decide +kernel)) (pC nm.range (aI (aL 4) (bb))) (fun _ _ _ _ _=>jO 0 jZ) (fun _ _ _ _ _=>jf) (fun _ _ _ _ _=>bM (aI (aL 0) (aI (aL 1) (bb)))))))))
 (aO (gF (cS (jQ hr.units) (aL 1) (bD)) (aT (kx 5 aV.nd (du (N:=["_law_pen", "_law_way", "_law_many", "_law_every", "_law_other", "_law_ties"]) (sc:=au ba) (Nc:=["_law_pair", "_law_pen"]) (cap:=[none,some 0]) rfl rfl (by decide +kernel)) (A7 (aL 3)) (fun _ _ _ _ _=>jO 0 jY) (fun _ _ _ _ _=>yH (cS (jQ hr.units) (bf d__law_draw (hr.mono (by decide)) (aI (aL 1) (aI (bD) (bb)))) (bD))) (fun _ _ _ _ _=>aL 0))) (aT (gF (cS (jQ hr.units) (aL 1) (bD)) (aT (kx 5 aV.nd (du (N:=["_law_pen", "_law_way", "_law_many", "_law_every", "_law_other", "_law_ties"]) (sc:=au ba) (Nc:=["_law_pair", "_law_pen"]) (cap:=[none,some 0]) rfl rfl (by decide +kernel)) (A7 (aL 3)) (fun _ _ _ _ _=>jO 0 jX) (fun _ _ _ _ _=>yH (cS (jQ hr.units) (bf d__law_draw (hr.mono (by decide)) (aI (aL 1) (aI (bD) (bb)))) (bD))) (fun _ _ _ _ _=>aL 0))) (aT (gF (cS (jQ hr.units) (aL 1) (bD)) (aT (bN 5 aV.nd (dN (lR (du (N:=["_law_pen", "_law_way", "_law_many", "_law_every", "_law_other", "_law_ties"]) (sc:=au ba) (Nc:=["_law_place"]) (cap:=[none]) rfl rfl (by decide +kernel)) (pC nm.range (aI (nU (aL 2) (bD)) (bb))) (fun _ _ _ _ _=>jO 0 jW) (fun _ _ _ _ _=>jf) (fun _ _ _ _ _=>bM (aI (aL 0) (aI (dN (aL 0) (bD)) (bb))))) (vU (dM (aI (bM (aI (bD) (aI (nU (aL 2) (bD)) (bb)))) (bb))) (bK DH nm.int (aI (mI (iX (op:=.Gt) hr.units) (aL 2) (bD)) (bb))))))) (aT (gF (cS (jQ hr.units) (aL 1) (bD)) (aT (kx 5 aV.nd (du (N:=["_law_pen", "_law_way", "_law_many", "_law_every", "_law_other", "_law_ties"]) (sc:=au ba) (Nc:=["_law_place"]) (cap:=[none]) rfl rfl (by decide +kernel)) (pC nm.range (aI (nU (aL 2) (bD)) (bb))) (fun _ _ _ _ _=>jO 0 jV) (fun _ _ _ _ _=>jf) (fun _ _ _ _ _=>bM (aI (aL 0) (aI (dN (aL 0) (bD)) (bb)))))) (aT (gF (cS (jQ hr.units) (aL 1) (bD)) (aT (kx 5 aV.nd (du (N:=["_law_pen", "_law_way", "_law_many", "_law_every", "_law_other", "_law_ties"]) (sc:=au ba) (Nc:=["_law_place"]) (cap:=[none]) rfl rfl (by decide +kernel)) (Bi nm.range (aI (bD) (aI (aL 2) (bb)))) (fun _ _ _ _ _=>jO 0 jU) (fun _ _ _ _ _=>jf) (fun _ _ _ _ _=>bM (aI (bD) (aI (aL 0) (bb)))))) (aT (kx 5 aV.nd (du (N:=["_law_pen", "_law_way", "_law_many", "_law_every", "_law_other", "_law_ties"]) (sc:=au ba) (Nc:=["_law_place", "_law_pen"]) (cap:=[none,some 0]) rfl rfl (by decide +kernel)) (Bi nm.range (aI (bD) (aI (aL 2) (bb)))) (fun _ _ _ _ _=>jO 0 jT) (fun _ _ _ _ _=>jf) (fun _ _ _ _ _=>bM (aI (bf d__law_draw (hr.mono (by decide)) (aI (aL 1) (aI (aL 0) (bb)))) (aI (aL 0) (bb)))))))))))))))
 (aT (bJ (bf d__law_named (hr.mono (by decide)) (aI (bM (aI (aL 2) (aI (bK g8 nm.tuple (aI (aL 5) (bb))) (bb)))) (aI (bf d__law_names_by (hr.mono (by decide)) (aI (aL 0) (aI (aL 2) (bb)))) (bb))))))))))
theorem pd (nm:Nm mg) {f:Addr}{fd:FuncData} (F:gT K "_law_web_by" "_law_web_by" eY f fd) (hm:mg "_law_web_by" = some (.ref f)) (d__law_sparse_by:f7 P w K mg base (fm K w) 4 "_law_sparse_by" 1 cQ) (d__law_draw:f7 P w K mg base (fm K w) 2 "_law_draw" 2 aF) (d__law_steps:f7 P w K mg base (fm K w) 2 "_law_steps" 2 cY):f7 P w K mg base (fm K w) 5 "_law_web_by" 1 dY:=
 eM F cn rfl hm (F.b1 (by rfl) fun _ _ _ _ _ _ _=>by rfl) fun cdv A outer s H E hr=>
 aO (bN 1 cn.nd (bf d__law_sparse_by (hr.mono (by decide)) (aI (aL 0) (bb))))
 (aO (bN 2 cn.nd (bf d__law_draw (hr.mono (by decide)) (aI (aL 0) (aI (bD) (bb)))))
 (aO (gF (cS (iX (op:=.Lt) hr.units) (aL 2) (bD)) (aT (bN 1 cn.nd (bf d__law_steps (hr.mono (by decide)) (aI (aL 1) (aI (bD) (bb)))))) (fq))
 (aO (gF (pB (vW (cS (jQ hr.units) (aL 2) (bD)) (qX (cS (sy hr.units) (cg (aL 1) (bD)) (bM (bb)))))) (aO (bN 3 cn.nd (bf d__law_draw (hr.mono (by decide)) (aI (aL 0) (aI (bK mS nm.len (aI (cg (aL 1) (bD)) (bb))) (bb)))))
 (aT (bJ (bM (aI (cg (aL 1) (bD)) (aI (dN (yz (cg (aL 1) (bD)) (ny) (jG (aL 3))) (yz (cg (aL 1) (bD)) (jG (dN (aL 3) (bD))) (ny))) (bb))))))) (fq))
 (aO (gF (pB (vW (cS (jQ hr.units) (aL 2) (bD)) (qX (cS (iX (op:=.Gt) hr.units) (cg (aL 1) (bD)) (bD))))) (aO (bN 4 cn.nd (bf d__law_draw (hr.mono (by decide)) (aI (aL 0) (aI (cg (aL 1) (bD)) (bb)))))
 (aO (bN 5 cn.nd (bK g8 nm.tuple (aI (bK jw nm.sorted (aI (bM (aI (aL 4) (aI (pV (dN (dN (aL 4) (bD)) (bf d__law_draw (hr.mono (by decide)) (aI (aL 0) (aI (nU (cg (aL 1) (bD)) (bD)) (bb))))) (cg (aL 1) (bD))) (bb)))) (bb))) (bb))))
 (aT (bJ (bM (aI (cg (aL 1) (bD)) (aI (bK g8 nm.tuple (aI (bK jw nm.sorted (aI (bK (y0 hr.units) nm.set (aI (dN (cg (aL 1) (bD)) (bM (aI (aL 5) (bb)))) (bb))) (bb))) (bb))) (bb)))))))) (fq))
 (aT (bJ (aL 1)))))))
theorem uf (nm:Nm mg) {f:Addr}{fd:FuncData} (F:gT K "_law_due" "_law_due" hV f fd) (hm:mg "_law_due" = some (.ref f)) (d__law_whole:nS P w K mg base (fm K w) 1 "_law_whole" 1 bQ):f7 P w K mg base (fm K w) 2 "_law_due" 2 dC:=
 eM F hZ rfl hm (F.b2 (by rfl) fun _ _ _ _ _ _ _ _=>by rfl) fun cdv A outer s H E hr=>
 aO (bN 2 hZ.nd (dM (bb)))
 (aO (jg NS (pC nm.range (aI (bK mS nm.len (aI (aL 1) (bb))) (bb))) (jO 3 hZ.nd) (aO (bN 4 hZ.nd (cg (aL 1) (aL 3)))
 (aO (gF (pB (qO (gW (yq (nV (T:="tuple") (by decide) oz (by decide) (by decide) nm.isinstance nm.tuple (aL 4)))) (qO (cS (sy hr.units) (bK mS nm.len (aI (aL 4) (bb))) (bD)) (qO (gW (yq (bf d__law_whole.d (hr.mono (by decide)) (aI (cg (aL 4) (bD)) (bb))))) (pX (gW (yq (bf d__law_whole.d (hr.mono (by decide)) (aI (cg (aL 4) (bD)) (bb)))))))))) (aT (bJ (bM (aI (aL 3) (aI (vO) (bb)))))) (fq))
 (aO (gF (pB (qO (gW (Dr (iX (op:=.LtE) hr.units) (iX (op:=.Lt) hr.units) (bD) (cg (aL 4) (bD)) (aL 0))) (qO (gW (Dr (iX (op:=.LtE) hr.units) (iX (op:=.Lt) hr.units) (bD) (cg (aL 4) (bD)) (aL 0))) (pX (cS (jQ hr.units) (cg (aL 4) (bD)) (cg (aL 4) (bD))))))) (aT (bJ (bM (aI (aL 3) (aI (vO) (bb)))))) (fq))
 (aT (qY (vV (aL 2) (aI (bM (aI (bK y6 nm.min (aI (aL 4) (bb))) (aI (bK v8 nm.max (aI (aL 4) (bb))) (bb)))) (bb)))))))))
 (aT (bJ (bM (aI (vO) (aI (bM (aI (aL 0) (aI (bK g8 nm.tuple (aI (bK jw nm.sorted (aI (bK (y0 hr.units) nm.set (aI (aL 2) (bb))) (bb))) (bb))) (bb)))) (bb)))))))
theorem pN (nm:Nm mg) {f:Addr}{fd:FuncData} (F:gT K "_law_mixed" "_law_mixed" fP f fd) (hm:mg "_law_mixed" = some (.ref f)) (d__law_draw:f7 P w K mg base (fm K w) 2 "_law_draw" 2 aF):f7 P w K mg base (fm K w) 3 "_law_mixed" 2 eW:=
 eM F fQ rfl hm (F.b2 (by rfl) fun _ _ _ _ _ _ _ _=>by rfl) fun cdv A outer s H E hr=>
 aO (bN 2 fQ.nd (bK zK nm.list (aI (aL 0) (bb))))
 (aO (bN 3 fQ.nd (dM (bb)))
 (aO (B1 100 NS (cS (sy hr.units) (aL 2) (dM (bb))) (aO (bN 4 fQ.nd (Dp (aL 2) (aI (bf d__law_draw (hr.mono (by decide)) (aI (aL 1) (aI (bK mS nm.len (aI (aL 2) (bb))) (bb)))) (bb))))
 (aO (qY (vV (aL 3) (aI (cg (dM (aI (aL 4) (aI (Eb (aL 4) (sG (bD))) (bb)))) (bf d__law_draw (hr.mono (by decide)) (aI (aL 1) (aI (bD) (bb))))) (bb))))
 (aT (gF (cS (jQ hr.units) (bf d__law_draw (hr.mono (by decide)) (aI (aL 1) (aI (bD) (bb)))) (bD)) (aT (qY (vV (aL 3) (aI (aL 4) (bb))))) (fq))))))
 (aT (bJ (aL 3)))))
theorem pL (nm:Nm mg) {f:Addr}{fd:FuncData} (F:gT K "_law_right" "_law_right" fO f fd) (hm:mg "_law_right" = some (.ref f)) {a_RootError:Addr} (m_RootError:mg "RootError" = some (.ref a_RootError)) (kn_RootError:kP K "RootError" a_RootError ["NoWeb"]) (ka_number:iP K "number" ["NoWeb"]) (d__law_due:f7 P w K mg base (fm K w) 2 "_law_due" 2 dC) (d_web_of:xh P w K mg base 6 "web_of" 2 cO) (d__law_kind_of:nS P w K mg base (fm K w) 1 "_law_kind_of" 1 cq) (d__law_whole:nS P w K mg base (fm K w) 1 "_law_whole" 1 bQ):f7 P w K mg base (fm K w) 7 "_law_right" 2 aZ:=
 eM F cf rfl hm (F.b2 (by rfl) fun _ _ _ _ _ _ _ _=>by rfl) fun cdv A outer s H E hr=>
 aO (pZ (bf d__law_due (hr.mono (by decide)) (aI (aL 0) (aI (aL 1) (bb)))) (p6 (gh (jO 2 cf.nd) (gh (jO 3 cf.nd) (p7)))))
 (aO (bN 4 cf.nd (bK zK nm.list (aI (aL 1) (bb))))
 (aO (bN 5 cf.nd (vO))
 (aO (bN 6 cf.nd (vO))
 (aO (D6 (j:=5) (i:=7) zB (fun _ _ z=>z) d_web_of (hr.mono (by decide)) (aI (aL 0) (aI (aL 4) (bb))) cf.nd kn_RootError m_RootError (fun ea=>aO (gF (pB (qO (cS (sy hr.units) (nz d__law_kind_of ((hr.h.mark _).mono (by decide)) (aI (aL 7) (bb))) (w9)) (pX (gW (yq (nz d__law_whole ((hr.h.mark _).mono (by decide)) (aI (qV ka_number (aL 7)) (bb)))))))) (aT (bJ (yp))) (fq))
 (aT (bN 6 cf.nd (qV ka_number (aL 7))))))
 (aO (gF (pB (qO (cS (sy hr.units) (aL 4) (aL 1)) (pX (cS (sy hr.units) (aL 6) (aL 2))))) (aT (bJ (yp))) (fq))
 (aO (qY (vV (aL 4) (aI (vO) (bb))))
 (aT (bJ (Iu (mI (zu) (aL 2) (vO)) (mG (kM (nV (T:="tuple") (by decide) oz (by decide) (by decide) nm.isinstance nm.tuple (aL 5)) (mG (mI (Hy) (bK (w6 hr) nm.repr (aI (aL 5) (bb))) (bK (w6 hr) nm.repr (aI (aL 3) (bb))))))))))))))))
theorem lJ (nm:Nm mg) {f:Addr}{fd:FuncData} (F:gT K "_law_no_number" "_law_no_number" dv f fd) (hm:mg "_law_no_number" = some (.ref f)) {a_RootError:Addr} (m_RootError:mg "RootError" = some (.ref a_RootError)) (kn_RootError:kP K "RootError" a_RootError ["NoWeb"]) (ka_number:iP K "number" ["NoWeb"]) (d_web_of:xh P w K mg base 6 "web_of" 2 cO) (d__law_kind_of:nS P w K mg base (fm K w) 1 "_law_kind_of" 1 cq) (d__law_whole:nS P w K mg base (fm K w) 1 "_law_whole" 1 bQ):f7 P w K mg base (fm K w) 7 "_law_no_number" 1 cR:=
 eM F ia rfl hm (F.b1 (by rfl) fun _ _ _ _ _ _ _=>by rfl) fun cdv A outer s H E hr=>
 aO (D5 (i:=1) zB (fun _ _ z=>z) d_web_of (hr.mono (by decide)) (aI (aL 0) (aI (dM (aI (vO) (bb))) (bb))) ia.nd kn_RootError m_RootError (fun ea=>aT (bJ (kM (mI (jQ hr.units) (nz d__law_kind_of ((hr.h.mark _).mono (by decide)) (aI (aL 1) (bb))) (w9)) (kM (nz d__law_whole ((hr.h.mark _).mono (by decide)) (aI (qV ka_number (aL 1)) (bb))) (mG (mI (jQ hr.units) (qV ka_number (aL 1)) (sG (bD)))))))))
 (aT (bJ (yp)))
theorem F7 (nm:Nm mg) {f:Addr}{fd:FuncData} (F:gT K "law" "law" kv f fd) (d__law_no_number:f7 P w K mg base (fm K w) 7 "_law_no_number" 1 cR) (d__law_right:f7 P w K mg base (fm K w) 7 "_law_right" 2 aZ) (d__law_cell_at:f7 P w K mg base (fm K w) 1 "_law_cell_at" 2 cu) (d__law_pen_of:f7 P w K mg base (fm K w) 1 "_law_pen_of" 1 dZ) (d__law_web_by:f7 P w K mg base (fm K w) 5 "_law_web_by" 1 dY) (d__law_mixed:f7 P w K mg base (fm K w) 3 "_law_mixed" 2 eW) (d__law_draw:f7 P w K mg base (fm K w) 2 "_law_draw" 2 aF):i6 P w K mg base uD 8 f fd ["_law_script"] (A6 (fm K w) 1 sR):=
 HE F gf rfl fun cdv A outer s H E hr=>
 aO (jg NS (A7 (dM (aI (bD) (aI (bD) (aI (sG (bD)) (aI (yp) (aI (vO) (aI (w9) (aI (dM (aI (bD) (bb))) (aI (Do (bD) (bD)) (bb))))))))))) (jO 1 gf.nd) (aT (gF (gW (yq (bf d__law_no_number (hr.mono (by decide)) (aI (aL 1) (bb))))) (aT (bJ (yp))) (fq))))
 (aO (gF (pB (qO (gW (yq (bf d__law_right (hr.mono (by decide)) (aI (bD) (aI (dM (aI (bM (aI (bD) (aI (bD) (bb)))) (aI (bM (aI (bD) (aI (bD) (bb)))) (aI (bM (aI (bD) (aI (bD) (bb)))) (bb))))) (bb)))))) (pX (gW (yq (bf d__law_right (hr.mono (by decide)) (aI (bD) (aI (dM (bb)) (bb))))))))) (aT (bJ (yp))) (fq))
 (aO (jg NS (A7 (dN (dM (aI (bf d__law_cell_at (hr.mono (by decide)) (aI (aL 0) (aI (bD) (bb)))) (bb))) (yz (aL 0) (jG (bD)) (jG (bD))))) (jO 2 gf.nd) (aO (bN 3 gf.nd (bf d__law_pen_of (hr.mono (by decide)) (aI (aL 2) (bb))))
 (aO (pZ (bf d__law_web_by (hr.mono (by decide)) (aI (aL 3) (bb))) (p6 (gh (jO 1 gf.nd) (gh (jO 4 gf.nd) (p7)))))
 (aO (bN 5 gf.nd (bf d__law_mixed (hr.mono (by decide)) (aI (aL 4) (aI (aL 3) (bb)))))
 (aO (gF (gW (yq (bf d__law_right (hr.mono (by decide)) (aI (aL 1) (aI (aL 5) (bb)))))) (aT (bJ (yp))) (fq))
 (aT (jg NS (pC nm.range (aI (bD) (bb))) (jO 6 gf.nd) (aO (bN 7 gf.nd (bf d__law_draw (hr.mono (by decide)) (aI (aL 3) (aI (dN (bK mS nm.len (aI (aL 5) (bb))) (bD)) (bb)))))
 (aO (bN 8 gf.nd (bf d__law_draw (hr.mono (by decide)) (aI (aL 3) (aI (aL 1) (bb)))))
 (aO (bN 9 gf.nd (dM (aI (bM (aI (aL 8) (aI (aL 8) (bb)))) (aI (bM (aI (aL 8) (aI (aL 1) (bb)))) (aI (bM (aI (aL 1) (aI (aL 8) (bb)))) (aI (bM (aI (sG (bD)) (aI (aL 8) (bb)))) (aI (bM (aI (yp) (aI (aL 8) (bb)))) (aI (bM (aI (aL 8) (aI (vO) (bb)))) (aI (dM (aI (bD) (aI (bD) (bb)))) (aI (vO) (aI (bM (aI (aL 8) (bb))) (aI (bM (aI (bD) (aI (bD) (aI (bD) (bb))))) (aI (w9) (aI (bD) (bb)))))))))))))))
 (aO (bN 5 gf.nd (dN (dN (yz (aL 5) (ny) (jG (aL 7))) (dM (aI (cg (aL 9) (bf d__law_draw (hr.mono (by decide)) (aI (aL 3) (aI (bD) (bb))))) (bb)))) (yz (aL 5) (jG (dN (aL 7) (bf d__law_draw (hr.mono (by decide)) (aI (aL 3) (aI (bD) (bb)))))) (ny))))
 (aT (gF (gW (yq (bf d__law_right (hr.mono (by decide)) (aI (aL 1) (aI (aL 5) (bb)))))) (aT (bJ (yp))) (fq))))))))))))))
 (aT (bJ (yp)))))
end
end Lw
namespace Lv
variable{adj:Int->Int->Prop}{p:Int}
def R(adj:Int->Int->Prop)(p:Int):Nat->Int->Prop
 |0,q=>q=p
 |n+1,q=>R adj p n q\/∃r,adj r q/\R adj p n r
def qN(adj:Int->Int->Prop)(p:Int):Nat->Int->Prop
 |0,q=>q=p
 |n+1,q=>R adj p (n+1) q/\¬ R adj p n q
theorem R.up{n:Nat}{q:Int}(h:R adj p n q):R adj p (n+1) q:=.inl h
theorem R.mono{n m:Nat}{q:Int}(h:R adj p n q)(hm:n<=m):R adj p m q:=by
 induction hm with
 |refl=>exact h
 |step _ ih=>exact ih.up
theorem qN.r{n:Nat}{q:Int}(h:qN adj p n q):R adj p n q:=by
 cases n with
 |zero=>exact h
 |succ n=>exact h.1
theorem R.lev{n:Nat}{q:Int}(h:R adj p n q):∃j,j<=n/\qN adj p j q:=by
 induction n with
 |zero=>exact⟨0,Kc _,h⟩
 |succ n ih=>
  by_cases hr:R adj p n q
  ·obtain⟨j,hj,hl⟩:=ih hr;exact⟨j,by omega,hl⟩
  ·exact⟨n+1,Kc _,h,hr⟩
theorem qN.low{n j:Nat}{q:Int}(h:qN adj p n q)(hj:j<n):¬ R adj p j q:=by
 cases n with
 |zero=>omega
 |succ n=>exact fun hr=>h.2 (hr.mono (by omega))
theorem qN.one{n m:Nat}{q:Int}(h:qN adj p n q)(h':qN adj p m q):n=m:=by
 rcases Nat.lt_trichotomy n m with z|z|z
 ·exact absurd h.r (h'.low z)
 ·exact z
 ·exact absurd h'.r (h.low z)
theorem ju{n:Nat}{q:Int}:qN adj p (n+1) q↔¬ R adj p n q/\∃r,adj r q/\qN adj p n r:=by
 constructor
 ·rintro ⟨h1, h2⟩
  refine⟨h2,?_⟩;rcases h1 with h1|⟨r,ha,hr⟩
  ·exact absurd h1 h2
  ·refine ⟨r, ha, ?_⟩;cases n with
   |zero=>exact hr
   |succ n=>exact⟨hr,fun z=>h2 (.inr ⟨r,ha,z⟩)⟩
 ·rintro ⟨h1, r, ha, hr⟩
  exact⟨.inr ⟨r,ha,hr.r⟩,h1⟩
def Up(adj:Int->Int->Prop)(p:Int)(D:Int->Prop)(n:Nat)(f:Int->Option Nat):Prop:=∀q,D q->∀j,f q=some j↔(j<=n/\qN adj p j q)
theorem Up.none{D:Int->Prop}{n:Nat}{f:Int->Option Nat}(h:Up adj p D n f){q:Int}(hq:D q):f q=none↔¬ R adj p n q:=by
 constructor
 ·intro e hr;obtain⟨j,hj,hl⟩:=hr.lev;have:=(h q hq j).mpr ⟨hj,hl⟩;rw[e]at this;cases this
 ·intro hr;cases e:f q with
  |none=>rfl
  |some j=>
   obtain⟨hj,hl⟩:=(h q hq j).mp e;exact absurd (hl.r.mono hj) hr
theorem Di{D:Int->Prop}{f:Int->Option Nat}(h:∀q,D q->f q=if q=p then some 0 else Option.none):Up adj p D 0 f:=fun q hq j=>by
 rw[h q hq];by_cases e:q=p
 ·rw [Jz e];constructor
  ·intro z;cases z;exact⟨Kc _,e⟩
  ·rintro ⟨h1, _⟩
   have:j=0:=by omega
   rw[this]
 ·rw [JA e];constructor
  ·intro z;cases z
  ·rintro ⟨h1, h2⟩
   have:j=0:=by omega
   subst this;exact absurd h2 e
theorem Up.next{D:Int->Prop}{n:Nat}{f f':Int->Option Nat}(h:Up adj p D n f)(hD:∀a b,adj a b->D a)(e:∀q,D q->∀j,f' q=some j↔(f q=some j\/(f q=Option.none/\j=n+1/\∃r,adj r q/\f r=some n))):Up adj p D (n+1) f':=fun q hq j=>by
 rw[e q hq j];constructor
 ·rintro (z | ⟨z1, z2, r, z3, z4⟩)
  ·obtain⟨hj,hl⟩:=(h q hq j).mp z;exact⟨by omega,hl⟩
  ·subst z2;refine⟨Kc _,ju.mpr ⟨(h.none hq).mp z1,r,z3,?_⟩⟩;exact((h r (hD r q z3) n).mp z4).2
 ·rintro ⟨hj, hl⟩
  by_cases hn:j<=n
  ·exact .inl ((h q hq j).mpr ⟨hn,hl⟩)
  ·have : j = n + 1 := by omega
   subst this;obtain⟨h1,r,ha,hr⟩:=ju.mp hl;exact .inr ⟨(h.none hq).mpr h1,rfl,r,ha,(h r (hD r q ha) n).mpr ⟨Kc _,hr⟩⟩
def yF(adj:Int->Int->Prop)(p:Int)(D:Int->Prop)(f:Int->Option Nat):Prop:=∀q,D q->∀j,f q=some j↔qN adj p j q
theorem qN.below{n:Nat}:∀{q:Int},qN adj p n q->∀j,j<=n->∃r,qN adj p j r:=by
 induction n with
 | zero => intro q h j hj; exact ⟨q, by have : j = 0 := by omega
                                        subst this;exact h⟩
 |succ n ih=>
  intro q h j hj;by_cases e:j=n+1
  ·subst e;exact⟨q,h⟩
  ·obtain⟨_,r,_,hr⟩:=ju.mp h;exact ih hr j (by omega)
theorem Up.full{D:Int->Prop}{n:Nat}{f:Int->Option Nat}(h:Up adj p D n f)(hD:∀a b,adj a b->D b)(e:∀q,D q->¬ qN adj p (n+1) q):yF adj p D f:=fun q hq j=>by
 rw[h q hq j];constructor
 ·exact fun z=>z.2
 ·intro hl;refine⟨?_,hl⟩;apply Nat.le_of_not_lt;intro hj;obtain⟨r,hr⟩:=hl.below (n+1) (by omega);obtain⟨_,s,hs,_⟩:=ju.mp hr;exact e r (hD s r hs) hr
theorem FI{m:Nat}(hp:0<=p/\p<m)(hD:∀a b,adj a b->0<=b/\b<m){n:Nat}{q:Int}(h:qN adj p n q):n<m:=by
 have hr:∀j,∃r,j<=n->qN adj p j r:=fun j=>by
  by_cases hj:j<=n
  ·obtain⟨r,hr⟩:=h.below j hj;exact⟨r,fun _=>hr⟩
  ·exact⟨0,fun z=>absurd z hj⟩
 let r:Nat->Int:=fun j=>(hr j).choose
 have hr':∀j,j<=n->qN adj p j (r j):=fun j hj=>(hr j).choose_spec hj
 have rng:∀j,j<=n->0<=r j/\r j<m:=fun j hj=>by
  have:=hr' j hj;cases j with
  |zero=>rw[show r 0=p from this];exact hp
  |succ j=>
   obtain⟨_,s,hs,_⟩:=ju.mp this;exact hD s _ hs
 have nd:((List.range (n+1)).map fun j=>(r j).toNat).Nodup:=by
  rw[List.Nodup,Ng];refine List.Pairwise.imp_of_mem (R:=(·<·)) ?_ Mu;intro a b ha hb hab e;rw[JG]at ha hb;have r1:=rng a (by omega);have r2:=rng b (by omega);have e':r a=r b:=by omega
  have h1:=hr' a (by omega);have h2:=hr' b (by omega);rw[e']at h1;have:=h1.one h2;omega
 have sub:((List.range (n+1)).map fun j=>(r j).toNat) ⊆ List.range m:=fun x hx=>by
  obtain⟨j,hj,rfl⟩:=Mc.mp hx;rw[JG]at hj⊢;have:=rng j (by omega);omega
 have:=nd.length_le_of_subset sub;rw[KE,L6,L6]at this;omega
end Lv
namespace Lv
def uE(f:Int->Option Nat)(r:Int)(v:Nat):Int->Option Nat:=fun q=>if q=r then some v else f q
def yv(n:Nat)(f:Int->Option Nat)(qr:Int×Int):Int->Option Nat:=if f qr.1=some n/\f qr.2=none then uE f qr.2 (n+1) else f
theorem BE{n:Nat}{f0 f:Int->Option Nat}{done:List (Int×Int)}{qr:Int×Int}
  (h:∀q j,f q=some j↔(f0 q=some j\/(f0 q=none/\j=n+1/\∃r,(r,q)∈done/\f0 r=some n))) :
  ∀q j,yv n f qr q=some j↔(f0 q=some j\/(f0 q=none/\j=n+1/\∃r,(r,q)∈done++[qr]/\f0 r=some n)):=by
 intro q j
 have hn:∀r,f r=some n↔f0 r=some n:=fun r=>by
  rw[h r n];constructor
  ·rintro (z | ⟨_, z, _⟩)
   ·exact z
   ·omega
  ·exact .inl
 have h0:∀r,f r=none->f0 r=none:=fun r e=>by
  cases e0:f0 r with
  |none=>rfl
  |some i=>
   have:=(h r i).mpr (.inl e0);rw[e]at this;cases this
 obtain⟨a,b⟩:=qr;unfold yv;dsimp only;by_cases c:f a=some n/\f b=none
 ·rw [Jz c];unfold uE;by_cases e:q=b
  ·subst e;rw[Jz rfl];have z:=h0 q c.2;constructor
   ·intro e;cases e;exact .inr ⟨z,rfl,a,by simp,(hn a).mp c.1⟩
   ·rintro (y | ⟨_, y, _⟩)
    ·rw[z]at y;cases y
    ·rw[y]
  ·rw [JA e, h q j];constructor
   ·rintro (y | ⟨y1, y2, r, y3, y4⟩)
    ·exact .inl y
    ·exact .inr ⟨y1,y2,r,JQ _ y3,y4⟩
   ·rintro (y | ⟨y1, y2, r, y3, y4⟩)
    ·exact .inl y
    ·rcases JP.mp y3 with y3 | y3
     ·exact .inr ⟨y1,y2,r,y3,y4⟩
     ·simp at y3;exact absurd y3.2 e
 ·rw [JA c, h q j];constructor
  ·rintro (y | ⟨y1, y2, r, y3, y4⟩)
   ·exact .inl y
   ·exact .inr ⟨y1,y2,r,JQ _ y3,y4⟩
  ·rintro (y | ⟨y1, y2, r, y3, y4⟩)
   ·exact .inl y
   ·rcases JP.mp y3 with y3 | y3
    ·exact .inr ⟨y1,y2,r,y3,y4⟩
    ·simp at y3;obtain⟨rfl,rfl⟩:=y3;have c2:f q≠none:=fun z=>c ⟨(hn r).mpr y4,z⟩;cases e:f q with
     |none=>exact absurd e c2
     |some i=>
      have:=(h q i).mp e;rcases this with w|⟨w1,w2,w3⟩
      ·rw[y1]at w;cases w
      ·exact .inr ⟨y1,y2,w3⟩
theorem tR{n:Nat}{f0:Int->Option Nat}:∀(qs done:List (Int×Int))(f:Int->Option Nat),
  (∀q j,f q=some j↔(f0 q=some j\/(f0 q=none/\j=n+1/\∃r,(r,q)∈done/\f0 r=some n))) ->
  ∀q j,qs.foldl (yv n) f q=some j↔(f0 q=some j\/(f0 q=none/\j=n+1/\∃r,(r,q)∈done++qs/\f0 r=some n))
 |[],done,f,h=>by simpa using h
 |qr::qs,done,f,h=>by
  have:=tR qs (done++[qr]) (yv n f qr) (BE h);simpa[Lj] using this
theorem Ai{adj:Int->Int->Prop}{p:Int}{D:Int->Prop}{n:Nat}{f:Int->Option Nat}{qs:List (Int×Int)}(h:Up adj p D n f)(hD:∀a b,adj a b->D a)(ha:∀a b,adj a b↔(a,b)∈qs):Up adj p D (n+1) (qs.foldl (yv n) f):=by
 refine h.next hD fun q hq j=>?_;have:=tR (n:=n) (f0:=f) qs [] f (fun q j=>by simp) q j;rw[this];simp only[Lo,ha]
end Lv
namespace Lw
open PySem L2 RS
theorem dQ:1000<=sizeLine:=by decide
theorem wm{μ:aA}(s:Int):∃r:Int,eO [.int s] μ=.ok (.int r) μ:=by
 have h0:0<=(s+7919)%2147483647:=NT _ (by decide);have h1:(s+7919)%2147483647<2147483647:=NU _ (by decide);generalize ht:(s+7919)%2147483647=t at h0 h1;refine⟨(t*t+48271*t+12345)%2147483629,?_⟩;have c1:sF t t:=.inl ⟨by omega,by omega⟩;have c2:sF 48271 t:=.inl ⟨by omega,by omega⟩;unfold eO;rw[ig];simp[m8,ht,c1,c2];exact cb (by simp)
def bI(a b c:Int):O:=.lst [.int a,.int b,.int c]
theorem nC{n:Nat}{a b c:Int}:(bI a b c).low n:=by simp[bI,O.low]
theorem Ex{μ:aA}(x:Int):∃a b c:Int,dZ [.int x] μ=.ok (.obj μ.length) (μ++[bI a b c]):=by
 have e:∀i j:Int,qS [.int i,.int j] μ=.ok (.int (if j>i then j else i)) μ:=fun _ _=>rfl;have p1:D4 10 18:=⟨by decide,by decide,by decide⟩;have ib:∀k:Bool,∀μ,mQ [.bl k] μ=.ok (.int (if k then 1 else 0)) μ:=fun _ _=>rfl;refine⟨(if 0-x>x then 0-x else x),(if cH .GtE (if 0-x>x then 0-x else x) (10^(18:Int).toNat) then 1 else 0),(if 0-x>x then 0-x else x)%1000003,?_⟩;unfold dZ;rw[ig];have l3:(3:Nat)<=sizeLine:=by decide
 simp only[kc,aK,aY,aG,ar,aw,aj,ao,aH,bj,aa,ag,ae,HF,e,bL,aC,cI,cJ,List.set,List.replicate,NV,NW];have pw:xc (.int 10) (.int 18) μ=.ok (.int (10^(18:Int).toNat)) μ:=kz p1;have md:∀x,pD (.int x) (.int 1000003) μ=.ok (.int (x%1000003)) μ:=fun x=>kz (show (0:Int)<1000003 by decide);simp only[pw,md,aa,ag,eT,ib,Lx,L7,Jz l3,ae,bP];rw[yU (by simp)];rfl
theorem rA{μ:aA}{i:Nat}{a b c m:Int}(hp:μ[i]?=some (bI a b c))(h0:0<m)(h1:m<1000) :
  ∃r a' b' c':Int,0<=r/\r<m/\aF [.obj i,.int m] μ=.ok (.int r) (μ.set i (bI a' b' c')):=by
 have hi:i<μ.length:=(JR.mp hp).1;have hp':μ[i]?=some (.lst [.int a,.int b,.int c]):=hp;have md:∀{x:Int}{μ:aA},pD (.int x) (.int m) μ=.ok (.int (x%m)) μ:=fun {x μ}=>kz (show (fun _ j=>(0:Int)<j) x m from h0);have fd:∀{x:Int}{μ:aA},sM (.int x) (.int m) μ=.ok (.int (x / m)) μ:=fun {x μ}=>kz (show Bn x m from⟨h0,by omega⟩);have f64:∀{x:Int}{μ:aA},sM (.int x) (.int 64) μ=.ok (.int (x / 64)) μ:=fun {x μ}=>kz (show Bn x 64 from⟨by decide,by decide⟩);unfold aF;rw[eS];by_cases hb:b=1
 ·subst hb;refine⟨a%m,a / m,1,c,NT _ (by omega),NU _ h0,?_⟩;simp only[jA,aK,bp,cz,aH,aj,ao,bj,aa,ag];rw[fA hp' wc];simp only[aa,ag,cw,Ls,KO,bg,ae,aK,aY,aH,aj,ao,bj];simp only[Lu,KN,KO,aK,aY,aH,aj,ao,bj,aa,ag];rw[fA hp' sO];simp only[aa,ag,md,ae,bL,aC,List.replicate,NV,NW,aj,ao,bj,aH,aY,aK];rw[fA hp' sO];simp only[aa,ag,fd,ae,nI,aj,ao,bj];rw[rF hp' (og (by decide) (by simp))];simp only[aa,ag,ae,aC,cI,aj,ao,n6,bP];exact wK (by simp only[CU]) (nC (a:=a / m) (b:=1) (c:=c))
 ·obtain ⟨s1, e1⟩ := wm (μ := μ) c;obtain⟨s2,e2⟩:=wm (μ:=μ) (s1+7);refine⟨s2 / 64%m,a,b,s2,NT _ (by omega),NU _ h0,?_⟩;have hb':(b == 1)=false:=by simpa using hb
  simp only[jA,aK,bp,cz,aH,aj,ao,bj,aa,ag];rw[fA hp' wc];simp only[aa,ag,cw,hb',bg,ae,Lu,KN,bF,aC,aK,aY,aG,ar,aw,aH,aj,ao,bj];rw[fA hp' DI];simp only[aa,ag,e1,gr,e2,ae,nI,aj,ao,bj];rw[rF hp' (og (by decide) (by simp))];have hg:(μ.set i (.lst ([D.int a,D.int b,D.int c].set (2:Int).toNat (.int s2))))[i]?=some (.lst [D.int a,D.int b,D.int s2]):=by rw[JT hi];rfl
  simp only[aa,ag,ae,aC,cI,aH,aj,ao,bj];rw[fA hg DI];simp only[aa,ag,f64,md,ae,bP];exact wK (by simp) (nC (a:=a) (b:=b) (c:=s2))
theorem aR{μ g:aA}{i:Nat}{o:O}(h:μ[i]?=some o):(μ++g)[i]?=some o:=by
 rw[Ky (JR.mp h).1];exact h
theorem kT{μ g:aA}{i:Nat}{o:O}(h:i<μ.length):(μ++g).set i o=μ.set i o++g:=by
 rw[List.set_append_left _ _ h]
theorem iN{μ:aA}{i:Nat}{o:O}(h:i<μ.length):(μ.set i o)[i]?=some o:=JT h
theorem ml{β γ:Type}{f:β->γ}:∀{l:List β}{i:Nat},(l.map f).eraseIdx i=(l.eraseIdx i).map f
 |[],_=>rfl
 |_::_,0=>rfl
 |x::r,i+1=>by simp[ml (l:=r) (i:=i)]
theorem CJ{μ:aA}{i:Nat}{a b c:Int}{L:List Int}{ys:List D}{x:D}(hi:i<μ.length)(hL:0<L.length)(hL2:L.length<1000) :
  ∃(r:Nat)(y:Int)(a' b' c':Int),L[r]?=some y/\dw [some x,some (.obj μ.length),some (.obj i)] ((μ.set i (bI a b c)++[.lst (L.map D.int)])++.lst ys::[]) =
   .ok (.int y) ((μ.set i (bI a' b' c')++[.lst ((L.eraseIdx r).map D.int)])++.lst ys::[]):=by
 have hn:((μ.set i (bI a b c)++[.lst (L.map D.int)])++.lst ys::[])[μ.length]?=some (.lst (L.map D.int)):=by
  have e:μ.length=(μ.set i (bI a b c)).length:=by simp
  rw[Lj,e];exact ay
 have hp:((μ.set i (bI a b c)++[.lst (L.map D.int)])++.lst ys::[])[i]?=some (bI a b c):=aR (aR (iN hi));obtain⟨r,a',b',c',h0,h1,e⟩:=rA (m:=(L.length:Int)) hp (by omega) (by omega);have hr:r.toNat<L.length:=by omega
 refine⟨r.toNat,L[r.toNat],a',b',c',Nt hr,?_⟩
 have hset:((μ.set i (bI a b c)++[O.lst (L.map D.int)])++O.lst ys::[]).set i (bI a' b' c')=(μ.set i (bI a' b' c')++[O.lst (L.map D.int)])++O.lst ys::[]:=by
  rw[kT (by simp;omega),kT (by simpa using hi),List.set_set]
 have hn':((μ.set i (bI a' b' c')++[.lst (L.map D.int)])++.lst ys::[])[μ.length]?=some (.lst (L.map D.int)):=by
  have e:μ.length=(μ.set i (bI a' b' c')).length:=by simp
  rw[Lj,e];exact ay
 have hl:so (.obj μ.length) ((μ.set i (bI a b c)++[.lst (L.map D.int)])++.lst ys::[])=true:=by
  unfold so;simp only[hn]
 unfold dw;simp only[mM,ao,aj,aa,ag,hl,KO,ar,aw,aG];rw[nH hn];simp only[aa,ag,KE];rw[e];simp only[aa,ag,hset];unfold jr;dsimp only;rw[hn'];dsimp only;rw[og h0 (by simpa using h1)];dsimp only;rw[KA,Nt hr];dsimp only[Option.map_some];rw[Jz (by omega)];congr 1;have e2:μ.length=(μ.set i (bI a' b' c')).length:=by simp
 rw[Lj,e2];show (μ.set i (bI a' b' c')++O.lst (L.map D.int)::[O.lst ys]).set _ _=_;rw[js,Lj];congr 2;congr 1;exact ml
theorem vg{L:List Int}{r:Nat}{y:Int}(h:L[r]?=some y):L.Perm (y::L.eraseIdx r):=by
 induction L generalizing r with
 |nil=>simp at h
 |cons x l ih=>
  cases r with
  |zero=>simp at h;subst h;exact List.Perm.refl _
  |succ r=>
   simp at h;exact((ih h).cons x).trans (List.Perm.swap y x _)
theorem zW{μ:aA}{i:Nat}{a b c m:Int}(hp:μ[i]?=some (bI a b c))(h0:1<=m)(h1:m<=6) :
  ∃(ns:List Int)(a' b' c':Int),ns.Nodup/\(ns.length:Int)=m/\(∀n∈ns,0<=n/\n<m)/\di [.obj i,.int m] μ=.ok (.tup (ns.map D.int)) (μ.set i (bI a' b' c')):=by
 have hi:i<μ.length:=(JR.mp hp).1
 have h00:μ=μ.set i (bI a b c):=by
  apply Nb;intro j;by_cases hj:i=j
  ·subst hj;rw[iN hi];exact hp
  ·rw[JU hj]
 let N0:List Int:=(List.range m.toNat).map fun(k:Nat)=>(k:Int)
 have hN0:br 0 m.toNat=N0.map D.int:=by
  simp only[br,N0,LY];apply LZ;intro k _;simp
 have run:=iy (src:=.fix (br 0 m.toNat)) (g:=ak 0) (t:=cc) (e:=dw) (n:=μ.length+1)
  (fun xs ys ρ μ1 s=>s=[]/\∃(o:Option D)(L ns:List Int)(a b c:Int),ρ=[o,some (.obj μ.length),some (.obj i)]/\μ1=μ.set i (bI a b c)++[.lst (L.map D.int)]/\ys=ns.map D.int/\(ns++L).Perm N0/\L.length=xs.length/\xs.length<=6)
  (fun ys ρ μ1 s ⟨_,o,L,ns,a,b,c,_,e,_⟩=>⟨by rw[e];simp,trivial⟩)
  (fun x r ys ρ μ1 s hJJ => by
   obtain⟨es,o,L,ns,a,b,c,e1,e2,e3,e4,e5,e6⟩:=hJJ;subst es;refine⟨by rw[e2];simp,trivial,[some x,some (.obj μ.length),some (.obj i)],μ1,[],true,μ1,[],by rw[e1];rfl,rfl,fun _=>?_,fun z=>by cases z⟩;simp only[Lx]at e5 e6;obtain⟨j,y,a',b',c',hj,e⟩:=CJ (a:=a) (b:=b) (c:=c) (L:=L) (ys:=ys) (x:=x) hi (by omega) (by omega);rw[e2];refine⟨.int y,_,[],e,?_,by simp,rfl,some x,L.eraseIdx j,ns++[y],a',b',c',rfl,rfl,by rw[e3];simp,?_,?_,by omega⟩
   ·rw [e3, KE];have:=e4.length_eq;have hN:N0.length=m.toNat:=by simp[N0]
    rw[KD,hN]at this;exact JC (show ns.length<1000 by omega) dQ
   ·rw[Lj];exact(List.Perm.append_left ns (vg hj).symm).trans e4
   ·have hlt := (JR.mp hj).1
    rw[List.length_eraseIdx,Jz hlt];omega)
  (xs:=br 0 m.toNat) (ys:=[]) (ρ:=[none,some (.obj μ.length),some (.obj i)]) (μ1:=μ++[.lst (br 0 m.toNat)]) (s:=[])
  ⟨rfl,none,N0,[],a,b,c,rfl,by rw[<- h00,hN0],rfl,by simp,by simp[N0,br],by simp[br];omega⟩
 obtain⟨ys',ρ',μ1',s',⟨es,o,L,ns,a',b',c',f1,f2,f3,f4,f5,_⟩,run⟩:=run;have hLn:L=[]:=NM (by simpa using f5);subst hLn es;rw[Kk]at f4;refine⟨ns,a',b',c',?_,?_,fun n hn=>?_,?_⟩
 ·rw[f4.nodup_iff];simp only[N0];rw[List.nodup_iff_pairwise_ne,Ng];exact(Me (n:=m.toNat)).imp fun h e=>h (by omega)
 ·have:=f4.length_eq;rw[this];simp[N0];omega
 ·have:=f4.mem_iff.mp hn;simp only[N0,Mc,JG]at this;obtain⟨k,hk,rfl⟩:=this;omega
 ·unfold di;rw[eS]
  have lr:lX [.int m] μ=.ok (.obj μ.length) (μ++[.lst (br 0 m.toNat)]):=by
   unfold lX;dsimp only;rw[Jz (by omega)]
  simp only[i4,aK,aY,aG,ar,aw,ao,aj,aa,ag,lr,ae,bL,aC,cI,d3,cK];simp only[List.replicate,NV,NW,ao,aj,aa,ag];rw[fM (by omega) (by omega)];simp only[aa,ag,bH,KD,Lx,L7];rw[show f9 [none,some 2,some 0] [some (D.obj i),some (D.int m),some (D.obj μ.length)]=[none,some (.obj μ.length),some (.obj i)] from rfl];rw[run];simp only[aa,ag]
  have hl:(μ1'++[O.lst ys'])[μ.length+1]?=some (.lst ys'):=by
   have:μ1'.length=μ.length+1:=by rw[f2];simp
   rw[<- this];exact ay
  rw[g6 hl];simp only[ae,ag,bP];rw[f2,f3,Lj];exact uS (ix.mpr (by simp)) nC
def nv(m:Int)(k:List Int):Prop:=∃a b:Int,k=[a,b]/\0<=a/\a<b/\b<m
theorem nv.prs{m:Int}{k:List Int}(h:nv m k)(hm:m<=6):k∈prs:=by
 obtain⟨a,b,rfl,h1,h2,h3⟩:=h;exact wy h1 h2 (by omega)
def fv(d:D)(m:Int)(ks:List (List Int)):Prop:=d=.tup [.int m,.tup (ks.map aD)]/\1<=m/\m<=6/\(ks.Pairwise fun a b=>pS a<pS b)/\∀k∈ks,nv m k
theorem fZ{m:Int}{ks:List (List Int)}(h0:1<=m)(h1:m<=6)(hk:∀k∈ks,nv m k):fv (.tup [.int m,.tup ((eR ks).map aD)]) m (eR ks):=by
 refine⟨rfl,h0,h1,oJ.filter _,fun k h=>?_⟩;unfold eR at h;rw[JF,NK]at h;exact hk k h.2
theorem la{m:Int}{ks:List (List Int)}{d:D}(h:fv d m ks):ks.length<=15:=by
 obtain⟨_,_,hm,hp,hk⟩:=h;have hn:ks.Nodup:=hp.imp fun h e=>by subst e;omega
 have hs:ks ⊆ prs:=fun k h=>(hk k h).prs hm;have:=hn.length_le_of_subset hs;rw[wz]at this;exact this
def bq(p:Int×Int):D:=.tup [.int p.1,.int p.2]
theorem l2:(2:Nat)<=sizeLine:=by decide
theorem DS{u v:Int}{μ:aA}:uJ [.tup [.int u,.int v]] μ=.ok (.int (min u v)) μ:=rfl
theorem DT{u v:Int}{μ:aA}:qS [.tup [.int u,.int v]] μ=.ok (.int (max u v)) μ:=rfl
theorem zX{μ:aA}{m:Int}{ps:List (Int×Int)}{ns:List Int}(h0:1<=m)(h1:m<=6)(hps:∀p∈ps,0<=p.1/\p.1<m/\0<=p.2/\p.2<m/\p.1≠p.2)(hl:ps.length<1000)
  (hn:ns.Nodup) (hnl:(ns.length:Int)=m) (hnr:∀n∈ns,0<=n/\n<m) :
  ∃d ks,fv d m ks/\eV [.tup [.int m,.tup (ps.map bq)],.tup (ns.map D.int)] μ=.ok d μ:=by
 let nm:Int->Int:=fun k=>ns.getD k.toNat 0
 have nmD:∀k,0<=k->k<m->atI (ns.map D.int) k=some (.int (nm k)):=fun k k0 k1=>by
  have hk:k.toNat<ns.length:=by omega
  refine lY k0 ?_;rw[KA,Nt hk];simp[nm,Na,Nt hk]
 have nmR:∀k,0<=k->k<m->0<=nm k/\nm k<m:=fun k k0 k1=>by
  have hk:k.toNat<ns.length:=by omega
  have:nm k=ns[k.toNat]:=by simp[nm,Na,Nt hk]
  rw[this];exact hnr _ (Nr hk)
 have nmI:∀j k,0<=j->j<m->0<=k->k<m->j≠k->nm j≠nm k:=fun j k j0 j1 k0 k1 hjk e=>by
  have hj:j.toNat<ns.length:=by omega
  have hk:k.toNat<ns.length:=by omega
  have e1:nm j=ns[j.toNat]:=by simp[nm,Na,Nt hj]
  have e2:nm k=ns[k.toNat]:=by simp[nm,Na,Nt hk]
  rw[e1,e2]at e;have:=(JS hn).mp e;omega
 let qs:List (Int×Int):=ps.map fun p=>(nm p.1,nm p.2)
 let ks:List (List Int):=qs.map fun p=>[min p.1 p.2,max p.1 p.2]
 have hks:∀k∈ks,nv m k:=fun k hk=>by
  simp only[ks,qs,LY,Mc,Function.comp_apply]at hk;obtain⟨p,hp,rfl⟩:=hk;obtain⟨a1,a2,a3,a4,a5⟩:=hps p hp;have b1:=nmR p.1 a1 a2;have b2:=nmR p.2 a3 a4;have b3:=nmI p.1 p.2 a1 a2 a3 a4 a5;exact⟨_,_,rfl,by omega,by omega,by omega⟩
 refine⟨_,_,fZ h0 h1 hks,?_⟩
 have c1:compLoop (.fix (ps.map bq)) μ.length (fV 2 (bA (ak 0) (bA (ak 1) fW))) cc fk (ps.map bq) [none,none,some (.tup (ns.map D.int))] (μ++[.lst []])=.ok (.obj μ.length) (μ++[.lst (qs.map bq)]):=by
  have:=fF (src:=.fix (ps.map bq)) (g:=fV 2 (bA (ak 0) (bA (ak 1) fW))) (t:=cc) (e:=fk) (μ1:=μ) (q:=fun _=>true)
   (h:=fun d=>match d with | .tup [.int a,.int b]=>bq (nm a,nm b)|_=>.non) (fun ρ=>∃o1 o2,ρ=[o1,o2,some (.tup (ns.map D.int))]) (fun _=>trivial) (xs:=ps.map bq) (acc:=[]) (ρ:=[none,none,some (.tup (ns.map D.int))]) ⟨none,none,rfl⟩
   (by rw[KE,L7];exact JH (by omega) dQ)
   (fun x hx a ρ hJJ => by
    obtain⟨o1,o2,ho⟩:=hJJ;obtain⟨p,hp,rfl⟩:=Mc.mp hx;obtain⟨a1,a2,a3,a4,a5⟩:=hps p hp;refine⟨[some (.int p.1),some (.int p.2),some (.tup (ns.map D.int))],⟨_,_,rfl⟩,by subst ho;rfl,rfl,fun _=>?_⟩;unfold fk;simp only[bY,ar,aw,aH,ao,aj,aa,ag];rw[lV (nmD p.1 a1 a2)];simp only[aa,ag];rw[lV (nmD p.2 a3 a4)];simp only[aa,ag,Lx,L7,Jz l2]
    rfl)
  rw[this,NX.mpr (fun _ _=>rfl)];simp only[Lo,LY,qs];rfl
 have c2:compLoop (.own μ.length (qs.map bq)) (μ++[O.lst (qs.map bq)]).length (ak 0) cc fj (qs.map bq) [none] ((μ++[O.lst (qs.map bq)])++[.lst []])=.ok (.obj (μ++[O.lst (qs.map bq)]).length) ((μ++[O.lst (qs.map bq)])++[.lst (ks.map aD)]):=by
  have:=fF (src:=.own μ.length (qs.map bq)) (g:=ak 0) (t:=cc) (e:=fj) (μ1:=μ++[O.lst (qs.map bq)]) (q:=fun _=>true)
   (h:=fun d=>match d with | .tup [.int a,.int b]=>aD [min a b,max a b]|_=>.non) (fun ρ=>∃o1,ρ=[o1]) (fun a=>aR ay) (xs:=qs.map bq) (acc:=[]) (ρ:=[none]) ⟨none,rfl⟩
   (by rw[KE,L7];simp only[qs,KE];exact JH (by omega) dQ)
   (fun x hx a ρ hJJ => by
    obtain⟨o1,ho⟩:=hJJ;obtain⟨p,hp,rfl⟩:=Mc.mp hx;refine⟨[some (bq p)],⟨_,rfl⟩,by subst ho;rfl,rfl,fun _=>?_⟩;unfold fj bq;simp only[bY,ar,aw,aG,aj,aa,ag,DS,DT,Lx,L7,Jz l2]
    rfl)
  rw[this,NX.mpr (fun _ _=>rfl)];simp only[Lo,LY,ks];rfl
 have kd:mL (ks.map aD)=some ks:=k7 fun k hk=>(hks k hk).prs h1;unfold eV;rw[eS];simp only[lF,aK,aY,d3,gq,aH,aj,ao,bj,aa,ag,gp,wO,bH];rw[show f9 [none,none,some 1] (some (D.tup [D.int m,D.tup (List.map bq ps)])::some (D.tup (List.map D.int ns))::List.replicate (3-2) none)=[none,none,some (.tup (ns.map D.int))] from rfl,c1];simp only[ae,bL,aC,cI,bY,ar,aw,aG,aH,aj,ao,bj,aa,ag,List.replicate,NV,NW,dG,d3,gq];rw[iO ay];simp only[aa,ag,fD];rw[show f9 [none] _=[none] from rfl,c2];simp only[aa,ag]
 have s1:kJ [.obj (μ++[O.lst (qs.map bq)]).length] (μ++[O.lst (qs.map bq)]++[O.lst (ks.map aD)])=.ok (.obj (μ++[O.lst (qs.map bq)]++[O.lst (ks.map aD)]).length) ((μ++[O.lst (qs.map bq)]++[O.lst (ks.map aD)])++[.set (bZ ks)]):=by
  unfold kJ;dsimp only;rw[ay];dsimp only;unfold nW;rw[kd]
 rw[s1];simp only[aa,ag]
 have s2:∀M:aA,bR [.obj M.length] (M++[.set (bZ ks)])=.ok (.obj (M++[O.set (bZ ks)]).length) ((M++[.set (bZ ks)])++[.lst ((eR ks).map aD)]):=fun M=>by
  unfold bR;dsimp only;rw[ay];dsimp only;rw[hX]
 rw[s2];simp only[aa,ag];rw[g6 ay];simp only[aa,ag,Lx,L7,Jz l2,ae,bP];rw[Lj,Lj,Lj];exact ie (by simp;exact ix.mpr (fun x hx=>by obtain⟨k,_,rfl⟩:=Mc.mp hx;simp[aD];exact ix.mpr (by simp)))
theorem k9{n:Nat}{d:D}{m:Int}{ks:List (List Int)}(h:fv d m ks):d.low n:=by
 obtain⟨rfl,_⟩:=h;simp
 exact ix.mpr fun x hx=>by
  obtain⟨k,_,rfl⟩:=Mc.mp hx;simp[aD];exact ix.mpr (by simp)
theorem dH{lo:Int}{n:Nat}:br lo (n+1)=.int lo::br (lo+1) n:=by
 unfold br;rw[LX,K7,LY];congr 1
 ·simp
 ·apply LZ;intro i _;simp only[Function.comp_apply];congr 1;omega
theorem fC{lo:Int}:br lo 0=[]:=rfl
theorem kZ{lo:Int}{n:Nat}(h:br lo n=[]):n=0:=by
 cases n with
 |zero=>rfl
 |succ n=>rw[dH]at h;cases h
theorem tS{x:D}:∀k:Nat,(List.replicate k [x]).flatten=List.replicate k x
 |0=>rfl
 |k+1=>by rw[Lg,Lh,tS k];rfl
theorem l1:(1:Nat)<=sizeLine:=by decide
theorem IW{M:aA}{m:Nat}{x:D}(hm:m<=6):eX [some x,some (.int m)] M=.ok (.obj (M.length+1)) (M++[.lst [.non],.lst (List.replicate m .non)]):=by
 unfold eX;simp only[aH,cJ,ar,aw,bj,aa,ag,Lx,L7,Jz l1,ao,aj];unfold lP;dsimp only;rw[ay];dsimp only;have hz:(6:Nat)<=sizeLine:=by decide
 rw[Jz (by refine⟨by omega,by omega,?_⟩;simp only[Lx,L7];omega)];simp only[KM,tS,KD,Lx,L7,Lj,L9,Lo]
end Lw
namespace Lw
open PySem L2 RS Lv
def qP:Option Nat->D
 |none=>.non
 |some n=>.int n
theorem xK(o:Option Nat):qP o=.non\/∃i,qP o=.int i:=by
 cases o with
 |none=>exact .inl rfl
 |some n=>exact .inr ⟨n,rfl⟩
def nN(m:Nat)(f:Int->Option Nat):List D:=(List.range m).map fun q:Nat=>qP (f q)
theorem Ah{m:Nat}{f:Int->Option Nat}{q:Int}(q0:0<=q)(q1:q<m):atI (nN m f) q=some (qP (f q)):=by
 refine lY q0 ?_;unfold nN;rw[KA,Nd (by omega)];simp only[Option.map_some,Mx q0]
theorem Ag{m:Nat}{f:Int->Option Nat}{q:Int}{v:Nat}(q0:0<=q)(q1:q<m):(nN m f).set q.toNat (.int v)=nN m (uE f q v):=by
 unfold nN;apply Nb;intro i;rw[NR,KE,L6,KA,KA];by_cases e:q.toNat=i
 ·rw[Jz e,Jz (by omega),Nd (by omega),<- e];simp only[Option.map_some,Mx q0,uE,Jz rfl];rfl
 ·rw [JA e];by_cases hi:i<m
  ·rw[Nd hi];simp only[Option.map_some,uE];rw[JA (by omega)]
  ·rw[Nf (by rw[L6];omega)];rfl
def ic(T:Int->Int->Option Nat)(p:Int)(f:Int->Option Nat):Int->Int->Option Nat:=fun p'=>if p'=p then f else T p'
theorem me{T:Int->Int->Option Nat}{p:Int}{f:Int->Option Nat}:ic T p f p=f:=Jz rfl
theorem tf{T:Int->Int->Option Nat}{p:Int}{f g:Int->Option Nat}:ic (ic T p f) p g=ic T p g:=by
 funext p';unfold ic;by_cases e:p'=p
 ·rw[Jz e,Jz e]
 ·rw[JA e,JA e,JA e]
def FT(μ0:aA)(m a:Nat)(T:Int->Int->Option Nat)(μ:aA):Prop:=μ0.length<=a/\(∀i,i<μ0.length->μ[i]?=μ0[i]?)/\∃bs:List Nat,bs.Nodup/\μ[a]?=some (.lst (bs.map D.obj))/\bs.length=m /\
 ∀(p b:Nat),bs[p]?=some b->μ0.length<=b/\b≠a/\μ[b]?=some (.lst (nN m (T p)))
theorem FT.app{μ0 μ g:aA}{m a:Nat}{T:Int->Int->Option Nat}(h:FT μ0 m a T μ):FT μ0 m a T (μ++g):=by
 obtain⟨h1,h2,bs,h0,h3,h4,h5⟩:=h;have hl:μ0.length<=μ.length:=JH h1 (JI (JR.mp h3).1);refine⟨h1,fun i hi=>?_,bs,h0,aR h3,h4,fun p b hb=>?_⟩
 ·rw[Ky (by omega)];exact h2 i hi
 ·obtain⟨g1,g2,g3⟩:=h5 p b hb;exact⟨g1,g2,aR g3⟩
theorem FT.pre{μ0 μ:aA}{m a:Nat}{T:Int->Int->Option Nat}(h:FT μ0 m a T μ):∃g,μ=μ0++g:=by
 obtain⟨h1,h2,bs,h0,h3,h4,h5⟩:=h;refine⟨μ.drop μ0.length,?_⟩;apply Nb;intro i;by_cases hi:i<μ0.length
 ·rw[Ky hi,h2 i hi]
 ·rw[Kw (by omega),List.getElem?_drop];congr 1;omega
theorem FT.get{μ0 μ:aA}{m a:Nat}{T:Int->Int->Option Nat}{p:Int}(h:FT μ0 m a T μ)(p0:0<=p)(p1:p<m):∃b,dR (.obj a) (.int p) μ=.ok (.obj b) μ/\(∀q:Int,0<=q->q<m->dR (.obj b) (.int q) μ=.ok (qP (T p q)) μ) /\
  ∀(q:Int)(v:Nat),0<=q->q<m->∃μ',uG (.obj b) (.int q) (.int v) μ=.ok () μ'/\(∀(n:Nat) xs t,μ[n]?=some (.lst xs)->D.tup t∈xs->μ'[n]?=some (.lst xs))/\FT μ0 m a (ic T p (uE (T p) q v)) μ':=by
 obtain⟨h1,h2,bs,h0,h3,h4,h5⟩:=h;have hp:p.toNat<bs.length:=by omega
 have hpe:((p.toNat:Nat):Int)=p:=Mx p0;obtain⟨g1,g2,g3⟩:=h5 p.toNat bs[p.toNat] (Nt hp);rw[hpe]at g3;refine⟨bs[p.toNat],fA h3 (lY p0 (by rw[KA,Nt hp];rfl)),fun q q0 q1=>fA g3 (Ah q0 q1),fun q v q0 q1=>?_⟩;have hlen:(nN m (T p)).length=m:=by unfold nN;rw[KE,L6]
 refine⟨_,rF g3 (og q0 (by rw[hlen];exact q1)),fun n xs t hn ht=>?_,h1,fun i hi=>?_,bs,h0,?_,h4,fun p' b hb=>?_⟩
 ·by_cases e : bs[p.toNat] = n
  ·subst e;rw[g3]at hn;cases hn;unfold nN at ht;obtain⟨j,_,hj⟩:=Mc.mp ht;rcases xK (T p j) with z|⟨i,z⟩ <;> (rw[z]at hj;cases hj)
  ·rw[JU e];exact hn
 ·rw[JU (by omega)];exact h2 i hi
 ·rw[JU (by omega)];exact h3
 ·obtain ⟨k1, k2, k3⟩ := h5 p' b hb;obtain⟨hp',hbe⟩:=JR.mp hb;refine⟨k1,k2,?_⟩;by_cases e:p'=p.toNat
  ·subst e;rw[hbe,iN (JR.mp (hbe ▸ g3)).1,Ag q0 q1,hpe,me]
  ·have hne:bs[p.toNat]≠b:=fun z=>e ((JS h0).mp (hbe.trans z.symm));rw[JU hne,k3];unfold ic;rw[JA (by omega)]
def uI(ks:List (List Int)):List (Int×Int):=ks.flatMap fun k=>match k with
 |[u,v]=>[(u,v),(v,u)]
 |_=>[]
def DR(ks:List (List Int))(a b:Int):Prop:=(a,b)∈uI ks
theorem Gc{μ:aA}{o:Option Nat}{n:Nat}:eQ false (qP o) (.int ((n:Int)+1-1)) μ=.ok (.bl (decide (o=some n))) μ:=by
 cases o with
 |none=>rfl
 |some k=>
  show eQ false (.int k) (.int ((n:Int)+1-1)) μ=_;rw[cw];simp only[Lu,KN];congr 2;by_cases e:k=n
  ·subst e;simp
  ·have : ¬ (k : Int) = (n : Int) + 1 - 1 := by omega
   rw[Jx (show ¬ some k=some n by simp[e])];exact beq_eq_false_iff_ne.mpr this
theorem qo{o:Option Nat}:(qP o).isNon=decide (o=none):=by
 cases o <;> rfl
section
variable{μ0 μ:aA}{m a:Nat}{web:D}{M p u v q r:Int}{n:Nat}{T:Int->Int->Option Nat}{f:Int->Option Nat}
theorem Jf(h:FT μ0 m a (ic T p f) μ)(p0:0<=p)(p1:p<m)(q0:0<=q)(q1:q<m)(r0:0<=r)(r1:r<m) :
  ∃μ',iW [some web,some (.int M),some (.obj a),some (.int p),some (.int ((n:Int)+1)),some (.int u),some (.int v),some (.int q),some (.int r)] μ=.next [some web,some (.int M),some (.obj a),some (.int p),some (.int ((n:Int)+1)),some (.int u),some (.int v),some (.int q),some (.int r)] μ' /\
   (∀(n:Nat) xs t,μ[n]?=some (.lst xs)->D.tup t∈xs->μ'[n]?=some (.lst xs))/\FT μ0 m a (ic T p (yv n f (q,r))) μ':=by
 obtain⟨b,e1,e2,k⟩:=h.get p0 p1;rw[me]at k e2;have sub1:∀x:Int,kh (.int x) (.int 1) μ=.ok (.int (x-1)) μ:=fun _=>rfl;unfold iW;simp only[bp,g7,cz,aH,ao,aj,bj,aa,ag,e1,e2 q q0 q1,sub1,Gc,bg];unfold yv;dsimp only;by_cases c1:f q=some n
 ·simp only [Lp c1, KO, e1, e2 r r0 r1, aa, ag, rh, qo, Lu, KN, bg, ae];by_cases c2:f r=none
  ·obtain⟨μ',g1,g2,g3⟩:=k r (n+1) r0 r1;rw[tf]at g3;rw[show ((n+1:Nat):Int)=(n:Int)+1 by push_cast;rfl]at g1;simp only[Lp c2,KO,aY,ao,aj,ae,nI,aH,aa,ag,e1,g1];rw[Jz ⟨c1,c2⟩];exact⟨μ',rfl,g2,g3⟩
  ·simp only[Jx c2,Lu,KN,bF];rw[JA fun z=>c2 z.2];exact⟨μ,rfl,fun _ _ _ h _=>h,h⟩
 ·simp only[Jx c1,Lu,KN,ae,ag,bF];rw[JA fun z=>c1 z.1];exact⟨μ,rfl,fun _ _ _ h _=>h,h⟩
theorem fr3(h:FT μ0 m a (ic T p f) μ)(p0:0<=p)(p1:p<m)(u0:0<=u)(u1:u<m)(v0:0<=v)(v1:v<m){o7 o8:Option D} :
  ∃o7' o8' μ',gB [some web,some (.int M),some (.obj a),some (.int p),some (.int ((n:Int)+1)),some (.int u),some (.int v),o7,o8] μ=.next [some web,some (.int M),some (.obj a),some (.int p),some (.int ((n:Int)+1)),some (.int u),some (.int v),o7',o8'] μ'/\FT μ0 m a (ic T p (yv n (yv n f (u,v)) (v,u))) μ':=by
 unfold gB;simp only[gk,gq,cJ,ar,aw,bY,ao,aj,aa,ag,Lx,L7,Jz l2];rw[iO ay];simp only[ae,ag,fD];have hn:(μ++[O.lst [.tup [.int u,.int v],.tup [.int v,.int u]]])[μ.length]?=some (.lst [.tup [.int u,.int v],.tup [.int v,.int u]]):=ay;obtain⟨μ1,e1,e2,e3⟩:=Jf (web:=web) (M:=M) (n:=n) (u:=u) (v:=v) (h.app (g:=[O.lst [.tup [.int u,.int v],.tup [.int v,.int u]]])) p0 p1 u0 u1 v0 v1;have hn1:=e2 _ _ _ hn JK;obtain⟨μ2,f1,f2,f3⟩:=Jf (web:=web) (M:=M) (n:=n) (u:=u) (v:=v) e3 p0 p1 v0 v1 u0 u1;have hn2:=f2 _ _ _ hn1 JK;refine⟨some (.int v),some (.int u),μ2,?_,f3⟩;have g1:fV 2 (bA (ak 7) (bA (ak 8) fW)) (.tup [.int u,.int v]) [some web,some (.int M),some (.obj a),some (.int p),some (.int ((n:Int)+1)),some (.int u),some (.int v),o7,o8] (μ++[O.lst [.tup [.int u,.int v],.tup [.int v,.int u]]])=.ok [some web,some (.int M),some (.obj a),some (.int p),some (.int ((n:Int)+1)),some (.int u),some (.int v),some (.int u),some (.int v)] (μ++[O.lst [.tup [.int u,.int v],.tup [.int v,.int u]]]):=rfl;have g2:fV 2 (bA (ak 7) (bA (ak 8) fW)) (.tup [.int v,.int u]) [some web,some (.int M),some (.obj a),some (.int p),some (.int ((n:Int)+1)),some (.int u),some (.int v),some (.int u),some (.int v)] μ1=.ok [some web,some (.int M),some (.obj a),some (.int p),some (.int ((n:Int)+1)),some (.int u),some (.int v),some (.int v),some (.int u)] μ1:=rfl;unfold d7;rw[Jz (show bW (.own μ.length _) _ from hn),g1,ae,e1,nD];unfold d7;rw[Jz (show bW (.own μ.length _) _ from hn1),g2,ae,f1,nD];unfold d7;rw[Jz (show bW (.own μ.length _) _ from hn2)]
theorem Jp{ks:List (List Int)}(hk:∀k∈ks,nv m k)(h:FT μ0 m a (ic T p f) μ)(p0:0<=p)(p1:p<m){o5 o6 o7 o8:Option D} :
  ∃o5' o6' o7' o8' μ',gA [some (.tup [.int M,.tup (ks.map aD)]),some (.int M),some (.obj a),some (.int p),some (.int ((n:Int)+1)),o5,o6,o7,o8] μ=.next [some (.tup [.int M,.tup (ks.map aD)]),some (.int M),some (.obj a),some (.int p),some (.int ((n:Int)+1)),o5',o6',o7',o8'] μ'/\FT μ0 m a (ic T p ((uI ks).foldl (yv n) f)) μ':=by
 unfold gA;simp only[gk,gq,aH,aj,bj,aa,ag,gp,wO,ae,bH]
 have run:=gY (src:=.fix (ks.map aD)) (g:=fV 2 (bA (ak 5) (bA (ak 6) fW))) (fb:=gB)
  (fun xs ρ μ1=>∃ys zs:List (List Int),xs=zs.map aD/\ks=ys++zs/\FT μ0 m a (ic T p ((uI ys).foldl (yv n) f)) μ1/\∃o5 o6 o7 o8,ρ=[some (.tup [.int M,.tup (ks.map aD)]),some (.int M),some (.obj a),some (.int p),some (.int ((n:Int)+1)),o5,o6,o7,o8])
  (fun _ _ _=>trivial)
  (fun x xs ρ μ1 hJJ => by
   obtain⟨ys,zs,hx,hks,hF,o5,o6,o7,o8,e⟩:=hJJ;subst e;cases zs with
   |nil=>cases hx
   |cons k zs=>
    injection hx with hx1 hx2
    subst hx1 hx2;obtain⟨u,v,rfl,u0,uv,v1⟩:=hk k (by rw[hks];simp);obtain⟨o7',o8',μ3,e1,e3⟩:=fr3 (web:=.tup [.int M,.tup (ks.map aD)]) (M:=M) (n:=n) (u:=u) (v:=v) (o7:=o7) (o8:=o8) hF p0 p1 u0 (by omega) (by omega) v1;refine⟨trivial,_,μ1,_,μ3,rfl,e1,ys++[[u,v]],zs,rfl,by rw[hks];simp,?_,_,_,_,_,rfl⟩;have:uI (ys++[[u,v]])=uI ys++[(u,v),(v,u)]:=by simp[uI]
    rw[this,ML]
    exact e3)
  (xs:=ks.map aD) (ρ:=[some (.tup [.int M,.tup (ks.map aD)]),some (.int M),some (.obj a),some (.int p),some (.int ((n:Int)+1)),o5,o6,o7,o8]) (μ:=μ)
  ⟨[],ks,rfl,rfl,h,o5,o6,o7,o8,rfl⟩
 obtain⟨ρ',μ',⟨ys,zs,hx,hks,hF,o5',o6',o7',o8',e⟩,run⟩:=run;subst e
 have hz:zs=[]:=by cases zs with
  |nil=>rfl
  |cons=>cases hx
 subst hz;rw[Kk]at hks;subst hks;exact⟨o5',o6',o7',o8',μ',run,hF⟩
theorem rK{ks:List (List Int)}(hk:∀k∈ks,nv m k){x y:Int}(h:DR ks x y):(0<=x/\x<m)/\(0<=y/\y<m):=by
 unfold DR uI at h;obtain⟨k,hk',hm⟩:=List.mem_flatMap.mp h;obtain⟨u,v,rfl,u0,uv,v1⟩:=hk k hk';simp at hm;omega
theorem fr5{ks:List (List Int)}(hk:∀k∈ks,nv m k)(h:FT μ0 m a (ic T p fun _=>none) μ)(p0:0<=p)(p1:p<m)(hm:m<=6){o4 o5 o6 o7 o8:Option D} :
  ∃o4' o5' o6' o7' o8' μ' f,gy [some (.tup [.int m,.tup (ks.map aD)]),some (.int m),some (.obj a),some (.int p),o4,o5,o6,o7,o8] μ=.next [some (.tup [.int m,.tup (ks.map aD)]),some (.int m),some (.obj a),some (.int p),o4',o5',o6',o7',o8'] μ'/\FT μ0 m a (ic T p f) μ'/\yF (DR ks) p (fun q=>0<=q/\q<m) f:=by
 obtain⟨b,e1,_,k⟩:=h.get p0 p1;obtain⟨μ1,e3,_,h1⟩:=k p 0 p0 p1;rw[tf,me]at h1;unfold gy;simp only[aK,aY,bj,ae,nI,aH,ao,aj,aa,ag,e1];rw[show (D.int 0)=.int ((0:Nat):Int) from rfl,e3];simp only[aa,ag,ae,aC,gk,cK,ar,aw,bj,ao,aj];rw[nG (by omega) (by omega) (by omega) (by omega)];simp only[ae,ag,bH]
 have run:=gY (src:=.fix (br 1 ((m:Int)-1).toNat)) (g:=ak 4) (fb:=gA)
  (fun xs ρ μ1=>∃(n c:Nat)(f:Int->Option Nat),xs=br ((n:Int)+1) c/\n+1+c=m/\FT μ0 m a (ic T p f) μ1/\Up (DR ks) p (fun q=>0<=q/\q<m) n f/\∃o4 o5 o6 o7 o8,ρ=[some (.tup [.int m,.tup (ks.map aD)]),some (.int m),some (.obj a),some (.int p),o4,o5,o6,o7,o8])
  (fun _ _ _=>trivial)
  (fun x xs ρ μ1 hJJ => by
   obtain⟨n,c,f,hx,hc,hF,hU,o4,o5,o6,o7,o8,e⟩:=hJJ;subst e;cases c with
   |zero=>rw[fC]at hx;cases hx
   |succ c=>
    rw[dH]at hx;injection hx with hx1 hx2
    subst hx1 hx2;obtain⟨o5',o6',o7',o8',μ3,e1,e3⟩:=Jp (M:=m) (n:=n) (o5:=o5) (o6:=o6) (o7:=o7) (o8:=o8) hk hF p0 p1
    exact⟨trivial,_,μ1,_,μ3,rfl,e1,n+1,c,_,by push_cast;rfl,by omega,e3,Ai hU (fun a b h=>(rK hk h).1) (fun a b=>Iff.rfl),_,_,_,_,_,rfl⟩)
  (xs:=br 1 ((m:Int)-1).toNat) (ρ:=[some (.tup [.int m,.tup (ks.map aD)]),some (.int m),some (.obj a),some (.int p),o4,o5,o6,o7,o8]) (μ:=μ1)
  ⟨0,m-1,_,by rw[show ((m:Int)-1).toNat=m-1 by omega];rfl,by omega,h1,Di (fun q _=>by unfold uE;rfl),o4,o5,o6,o7,o8,rfl⟩
 obtain⟨ρ',μ',⟨n,c,f,hx,hc,hF,hU,o4',o5',o6',o7',o8',e⟩,run⟩:=run;subst e;have hz:=kZ hx.symm;subst hz;refine⟨o4',o5',o6',o7',o8',μ',f,run,hF,hU.full (fun a b h=>(rK hk h).2) fun q hq hl=>?_⟩;have:=FI (m:=m) ⟨p0,p1⟩ (fun a b h=>(rK hk h).2) hl;omega
end
theorem xB{m:Nat}:nN m (fun _=>none)=List.replicate m .non:=by
 unfold nN qP;rw[List.map_const',L6]
theorem C4{μ:aA}{m:Nat}(hm:m<=6):∃(bs:List Nat)(s:aA),compLoop (.fix (br 0 m)) μ.length (ak 0) cc eX (br 0 m) [none,some (.int m)] (μ++[.lst []])=.ok (.obj μ.length) (μ++.lst (bs.map D.obj)::s)/\bs.length=m/\bs.Nodup/\∀b∈bs,∃j,b=μ.length+1+j/\s[j]?=some (.lst (List.replicate m .non)):=by
 have run:=iy (src:=.fix (br 0 m)) (g:=ak 0) (t:=cc) (e:=eX) (n:=μ.length)
  (fun xs ys ρ μ1 s=>μ1=μ/\(∃o,ρ=[o,some (.int m)])/\∃bs:List Nat,ys=bs.map D.obj/\bs.length+xs.length=m/\bs.Nodup/\∀b∈bs,∃j,b=μ.length+1+j/\s[j]?=some (.lst (List.replicate m .non)))
  (fun ys ρ μ1 s ⟨e,_⟩=>⟨by rw[e],trivial⟩)
  (fun x r ys ρ μ1 s hJJ => by
   obtain⟨e1,⟨o,e2⟩,bs,e3,e4,e6,e5⟩:=hJJ;subst e1 e2;refine⟨rfl,trivial,[some x,some (.int m)],_,s,true,_,s,rfl,rfl,fun _=>?_,fun z=>by cases z⟩;have e:=IW (M:=μ1++.lst ys::s) (x:=x) hm;simp only[Lx]at e4;refine⟨.obj ((μ1++O.lst ys::s).length+1),μ1,s++[.lst [.non],.lst (List.replicate m .non)],by rw[e];simp,?_,rfl,rfl,⟨_,rfl⟩,bs++[(μ1++O.lst ys::s).length+1],by rw[e3];simp,by simp;omega,?_,fun b hb=>?_⟩
   ·rw[e3,KE];exact JC (show bs.length<1000 by omega) dQ
   ·rw[MF];refine⟨e6,by simp,fun b hb c hc=>?_⟩;obtain⟨j,f1,f2⟩:=e5 b hb;have:=(JR.mp f2).1;simp only[LH,KD,Lx]at hc;omega
   ·rcases JP.mp hb with z | z
    ·obtain⟨j,f1,f2⟩:=e5 b z;exact⟨j,f1,aR f2⟩
    ·refine ⟨s.length + 1, ?_, ?_⟩
     ·simp only[LH,KD,Lx]at z;omega
     ·rw[Kw (by omega)];simp)
  (xs:=br 0 m) (ys:=[]) (ρ:=[none,some (.int m)]) (μ1:=μ) (s:=[])
  ⟨rfl,⟨_,rfl⟩,[],rfl,by simp[br],by simp,by simp⟩
 obtain⟨ys',ρ',μ1',s',⟨e1,_,bs,e3,e4,e6,e5⟩,run⟩:=run;subst e1 e3;exact⟨bs,s',run,by simpa using e4,e6,e5⟩
theorem BI{μ:aA}{k:Nat}{ks:List (List Int)}(h:fv (.tup [.int k,.tup (ks.map aD)]) k ks):∃a μ' T,gQ [.tup [.int k,.tup (ks.map aD)]] μ=.ok (.obj a) μ'/\FT μ k a T μ'/\∀p:Int,0<=p->p<k->yF (DR ks) p (fun q=>0<=q/\q<k) (T p):=by
 obtain⟨_,h0,h1,hp,hk⟩:=h;have hk6:k<=6:=by omega
 obtain⟨bs,s,e1,e2,e4,e3⟩:=C4 (μ:=μ) hk6
 have F0:FT μ k μ.length (fun _ _=>none) (μ++.lst (bs.map D.obj)::s):=by
  refine⟨Kc _,fun i hi=>by rw[Ky hi],bs,e4,ay,e2,fun p b hb=>?_⟩;obtain⟨j,rfl,f⟩:=e3 b (KC hb);refine⟨by omega,by omega,?_⟩;rw[Kw (by omega),show μ.length+1+j-μ.length=j+1 by omega,xB];exact f
 have run:=gY (src:=.fix (br 0 k)) (g:=ak 3) (fb:=gy)
  (fun xs ρ μ1=>∃(n c:Nat)(T:Int->Int->Option Nat),xs=br n c/\n+c=k/\FT μ k μ.length T μ1/\(∀p:Int,(n:Int)<=p->T p=fun _=>none)/\(∀p:Int,0<=p->p<n->yF (DR ks) p (fun q=>0<=q/\q<k) (T p))/\∃o3 o4 o5 o6 o7 o8,ρ=[some (.tup [.int k,.tup (ks.map aD)]),some (.int k),some (.obj μ.length),o3,o4,o5,o6,o7,o8])
  (fun _ _ _=>trivial)
  (fun x xs ρ μ1 hJJ => by
   obtain⟨n,c,T,hx,hc,hF,hN,hU,o3,o4,o5,o6,o7,o8,e⟩:=hJJ;subst e;cases c with
   |zero=>rw[fC]at hx;cases hx
   |succ c=>
    rw[dH]at hx;injection hx with hx1 hx2
    subst hx1 hx2
    have hT:ic T n (fun _=>none)=T:=by
     funext p';unfold ic;by_cases e:p'=(n:Int)
     ·rw[Jz e,e,hN n (Int.le_refl _)]
     ·rw[JA e]
    obtain⟨o4',o5',o6',o7',o8',μ3,f,g1,g3,g4⟩:=fr5 (T:=T) (p:=(n:Int)) (o4:=o4) (o5:=o5) (o6:=o6) (o7:=o7) (o8:=o8) hk (by rw[hT];exact hF) (by omega) (by omega) hk6;refine⟨trivial,_,μ1,_,μ3,rfl,g1,n+1,c,_,by push_cast;rfl,by omega,g3,fun p hp=>?_,fun p p0 p1=>?_,_,_,_,_,_,_,rfl⟩
    ·unfold ic;rw[JA (by omega)];exact hN p (by omega)
    ·unfold ic;by_cases e:p=(n:Int)
     ·rw[Jz e,e];exact g4
     ·rw[JA e];exact hU p p0 (by omega))
  (xs:=br 0 k) (ρ:=[some (.tup [.int k,.tup (ks.map aD)]),some (.int k),some (.obj μ.length),none,none,none,none,none,none]) (μ:=μ++.lst (bs.map D.obj)::s)
  ⟨0,k,_,rfl,by omega,F0,fun _ _=>rfl,fun p p0 p1=>by omega,_,_,_,_,_,_,rfl⟩
 obtain⟨ρ',μ',⟨n,c,T,hx,hc,hF,hN,hU,o3,o4,o5,o6,o7,o8,e⟩,run⟩:=run;subst e;have hz:=kZ hx.symm;subst hz;have hnk:n=k:=by omega
 subst hnk;refine⟨μ.length,μ',T,?_,hF,hU⟩;unfold gQ;rw[ig];simp only[oZ,aK,aY,aH,aj,bj,aa,ag,dG,ae,bL,aC,d3,cK,ar,aw];simp only[List.replicate,NV,NW,ao,aj,aa,ag];rw[fM (by omega) (by omega)];simp only[aa,ag,bH,KM];rw[show f9 [none,some 1] [some (D.tup [D.int n,D.tup (List.map aD ks)]),some (D.int n),none,none,none,none,none,none,none]=[none,some (.int n)] from rfl,e1];simp only[ae,bL,aC,aK,gk,cK,ar,aw,NV,NW,ao,aj,aa,ag];rw[fM (by omega) (by omega)];simp only[ae,ag,bH,KM];rw[run];simp only[aC,cI,ao,aj,ae,ag,bP];exact yU (by simp)
def HR(k:Int):Option Nat->Bool
 |some j=>decide ((j:Int)<=k)
 |none=>false
def kg(T:Int->Int->Option Nat)(k p lo:Int)(c:Nat):List (List Int):=(((List.range c).map fun i:Nat=>lo+(i:Int)).filter fun q=>HR k (T p q)).map fun q=>[p,q]
def DL(m:Nat)(T:Int->Int->Option Nat)(k:Int):List (List Int):=(List.range m).flatMap fun p:Nat=>kg T k p ((p:Int)+1) (m-(p+1))
theorem tj{T:Int->Int->Option Nat}{k p lo:Int}{c:Nat}:(kg T k p lo c).length<=c:=by
 unfold kg;rw[KE];refine JH (List.length_filter_le _ _) ?_;rw[KE,L6];exact Kc _
theorem oq{T:Int->Int->Option Nat}{k p lo:Int}{c:Nat}{x:List Int}(h:x∈kg T k p lo c):∃q:Int,x=[p,q]/\lo<=q/\q<lo+c:=by
 unfold kg at h;obtain⟨q,hq,rfl⟩:=Mc.mp h;obtain⟨hq,_⟩:=JF.mp hq;obtain⟨i,hi,rfl⟩:=Mc.mp hq;rw[JG]at hi;exact⟨_,rfl,by omega,by omega⟩
theorem B3{T:Int->Int->Option Nat}{k p lo:Int}{c:Nat}:(kg T k p lo c).Pairwise fun a b=>pS a<pS b:=by
 unfold kg;rw[Ng];apply List.Pairwise.filter;rw[Ng];exact Mu.imp fun {a b} h=>by show p*6+(lo+(a:Int))<p*6+(lo+(b:Int));omega
theorem sV{m:Nat}{T:Int->Int->Option Nat}{k:Int}(h0:1<=m)(h1:m<=6):fv (.tup [.int m,.tup ((DL m T k).map aD)]) m (DL m T k):=by
 refine⟨rfl,by omega,by omega,?_,fun x hx=>?_⟩
 ·unfold DL;rw[List.pairwise_flatMap];refine⟨fun p _=>B3,?_⟩;refine List.Pairwise.imp_of_mem (R:=(·<·)) ?_ Mu;intro a b ha hb hab x hx y hy;rw[JG]at ha hb;obtain⟨q,rfl,q0,q1⟩:=oq hx;obtain⟨r,rfl,r0,r1⟩:=oq hy;show (a:Int)*6+q<(b:Int)*6+r;omega
 ·unfold DL at hx;obtain⟨p,hp,hx⟩:=List.mem_flatMap.mp hx;rw[JG]at hp;obtain⟨q,rfl,q0,q1⟩:=oq hx;exact⟨_,_,rfl,by omega,by omega,by omega⟩
theorem Af{T:Int->Int->Option Nat}{k p lo:Int}{c:Nat}:((br lo c).filter fun d=>match d with | .int q=>HR k (T p q)|_=>false).map (fun d=>match d with | .int q=>aD [p,q]|_=>.non)=(kg T k p lo c).map aD:=by
 unfold br kg;rw[List.filter_map,LY,List.filter_map,LY,LY];rfl
section
variable{μ0 μ:aA}{m a:Nat}{p q:Int}{k:Int}{T:Int->Int->Option Nat}
theorem zP(h:FT μ0 m a T μ)(p0:0<=p)(p1:p<m)(q0:0<=q)(q1:q<m):dD [some (.int q),some (.int p),some (.int k),some (.obj a)] μ=.ok (HR k (T p q)) μ:=by
 obtain⟨b,e1,e2,_⟩:=h.get p0 p1;unfold dD;simp only[g7,cz,aH,ao,aj,bj,aa,ag,e1,e2 q q0 q1,rh,qo,bg];cases e:T p q with
 |none=>rfl
 |some j=>
  simp only[Jx (show ¬ some j=none by simp),MK,KO,eT,aa,ag,bg,qP];rfl
theorem zQ(h:FT μ0 m a T μ)(hm:m<=6)(p0:0<=p)(p1:p<m) :
  compLoop (.fix (br (p+1) ((m:Int)-(p+1)).toNat)) μ.length (ak 0) dD fg (br (p+1) ((m:Int)-(p+1)).toNat) [none,some (.int p),some (.int k),some (.obj a)] (μ++[.lst []])=.ok (.obj μ.length) (μ++[.lst ((kg T k p (p+1) ((m:Int)-(p+1)).toNat).map aD)]):=by
 have:=fF (src:=.fix (br (p+1) ((m:Int)-(p+1)).toNat)) (g:=ak 0) (t:=dD) (e:=fg) (μ1:=μ) (q:=fun d=>match d with | .int q=>HR k (T p q)|_=>false)
  (h:=fun d=>match d with | .int q=>aD [p,q]|_=>.non) (fun ρ=>∃o,ρ=[o,some (.int p),some (.int k),some (.obj a)]) (fun _=>trivial) (xs:=br (p+1) ((m:Int)-(p+1)).toNat) (acc:=[]) (ρ:=[none,some (.int p),some (.int k),some (.obj a)]) ⟨none,rfl⟩
  (by unfold br;rw[KE,L7,L6];exact JH (by omega) dQ)
  (fun x hx acc ρ hJJ => by
   obtain⟨o,ho⟩:=hJJ;unfold br at hx;obtain⟨i,hi,rfl⟩:=Mc.mp hx;rw[JG]at hi;subst ho;refine⟨[some (.int (p+1+(i:Int))),some (.int p),some (.int k),some (.obj a)],⟨_,rfl⟩,rfl,zP (h.app) p0 p1 (by omega) (by omega),fun _=>?_⟩;unfold fg;simp only[bY,ar,aw,ao,aj,aa,ag,Lx,L7,Jz l2]
   rfl)
 rw[this,Af];rfl
end
theorem lb{m:Nat}{T:Int->Int->Option Nat}{k:Int}(h:m<=6):∀n,((List.range n).flatMap fun p:Nat=>kg T k p ((p:Int)+1) (m-(p+1))).length<=6*n
 |0=>by simp
 |n+1=>by
  rw[List.range_succ,List.flatMap_append,KD];have:=lb (T:=T) (k:=k) h n;have h2:=tj (T:=T) (k:=k) (p:=n) (lo:=(n:Int)+1) (c:=m-(n+1));simp only[NY,List.flatMap_nil,Kk];omega
theorem xp{μ:aA}{m:Nat}{k:Int}{ks:List (List Int)}(h:fv (.tup [.int m,.tup (ks.map aD)]) m ks):∃T,(∀p:Int,0<=p->p<m->yF (DR ks) p (fun q=>0<=q/\q<m) (T p)) /\
  cY [.tup [.int m,.tup (ks.map aD)],.int k] μ=.ok (.tup [.int m,.tup ((DL m T k).map aD)]) μ:=by
 obtain⟨a,μf,T,ef,hF,hT⟩:=BI (μ:=μ) h;obtain⟨_,h0,h1,hp,hk⟩:=h;have hm6:m<=6:=by omega
 refine⟨T,hT,?_⟩
 have run:=gY (src:=.fix (br 0 m)) (g:=ak 4) (fb:=fe)
  (fun xs ρ μ1=>∃(n c t:Nat)(o4:Option D),xs=br n c/\n+c=m/\ρ=[some (.tup [.int m,.tup (ks.map aD)]),some (.int k),some (.obj a),some (.obj t),o4]/\FT μ m a T μ1/\μ1[t]?=some (.lst (((List.range n).flatMap fun p:Nat=>kg T k p ((p:Int)+1) (m-(p+1))).map aD)))
  (fun _ _ _=>trivial)
  (fun x r ρ μ1 hJJ => by
   obtain⟨n,c,t,o4,e1,e3,e4,e5,e6⟩:=hJJ;subst e4;cases c with
   |zero=>rw[fC]at e1;cases e1
   |succ c=>
    rw[dH]at e1;injection e1 with ex er
    subst ex er;have q3:=zQ (k:=k) (p:=(n:Int)) e5 hm6 (by omega) (by omega);rw[show ((m:Int)-((n:Int)+1)).toNat=m-(n+1) by omega]at q3;have hlen:=lb (T:=T) (k:=k) hm6 n;have hrow:=tj (T:=T) (k:=k) (p:=n) (lo:=(n:Int)+1) (c:=m-(n+1));refine⟨trivial,_,μ1,[some (.tup [.int m,.tup (ks.map aD)]),some (.int k),some (.obj a),some (.obj (μ1.length+1)),some (.int n)],(μ1++[O.lst ((kg T k n ((n:Int)+1) (m-(n+1))).map aD)])++[O.lst (((List.range (n+1)).flatMap fun p:Nat=>kg T k p ((p:Int)+1) (m-(p+1))).map aD)],rfl,?_,n+1,c,μ1.length+1,some (.int n),by push_cast;rfl,by omega,rfl,(e5.app).app,?_⟩
    ·show fe [some (.tup [.int m, .tup (ks.map aD)]), some (.int k), some (.obj a), some (.obj t), some (.int n)] μ1 = _;unfold fe;simp only[aY,aH,ao,aj,aa,ag,d3,cK,ar,aw,bj,gr,dG];rw[nG (by omega) (by omega) (by omega) (by omega)];simp only[aa,ag,bH];rw[show ((m:Int)-((n:Int)+1)).toNat=m-(n+1) by omega];rw[show f9 [none,some 4,some 1,some 2] [some (D.tup [D.int ↑m,D.tup (List.map aD ks)]),some (D.int k),some (D.obj a),some (D.obj t),some (D.int n)]=[none,some (.int n),some (.int k),some (.obj a)] from rfl,q3];simp only[aa,ag];unfold cv;dsimp only;rw[aR e6,ay];dsimp only
     rw[Jz (by
      rw[KE,KE]
      exact JH (show _<=1000 by omega) dQ)]
     simp only[ae,ag,bL];simp only[KD,Lx,L7,NV,NW,List.range_succ,List.flatMap_append,Mj,NY,List.flatMap_nil,Kk]
    ·have : μ1.length + 1 = (μ1 ++ [O.lst ((kg T k n ((n : Int) + 1) (m - (n + 1))).map aD)]).length := by simp
     rw[this];exact ay)
  (xs:=br 0 m) (ρ:=[some (.tup [.int m,.tup (ks.map aD)]),some (.int k),some (.obj a),some (.obj μf.length),none]) (μ:=μf++[.lst []])
  ⟨0,m,μf.length,none,rfl,by omega,rfl,hF.app,ay⟩
 obtain⟨ρ',μ',⟨n,c,t,o4,e1,e3,e4,e5,e6⟩,run⟩:=run;subst e4;have hz:=kZ e1.symm;subst hz;have hnm:n=m:=by omega
 subst hnm;have hg:fv (.tup [.int n,.tup ((DL n T k).map aD)]) n (DL n T k):=sV (by omega) hm6;obtain⟨g,hpre⟩:=e5.pre;unfold cY;rw[eS];simp only[lD,aK,aY,aG,ar,aw,aj,aa,ag,ef,ae,bL,aC,cJ];have l0:(0:Nat)<=sizeLine:=LG _;simp only[L7,Jz l0,ae,aC,List.replicate,NV,NW,aK,gk,cK,ar,aw,aH,aj,bj,aa,ag,dG];rw[fM (by omega) (by omega)];simp only[ae,ag,bH,KM];rw[run];simp only[aC,cI,bY,ar,aw,aH,aG,ao,aj,bj,aa,ag,dG];rw[g6 e6];simp only[aa,ag,Lx,L7,Jz l2,ae,bP];rw[hpre];exact ie (k9 hg)
theorem tO{μ:aA}{i j:Nat}{o o':O}(h:μ[j]?=some o')(ne:i≠j):(μ.set i o)[j]?=some o':=by rw[JU ne];exact h
def gJ(k:List Int):PyData:=.tuple (k.map PyData.int)
theorem mh{μ:aA}{m:Int}:∀{ks:List (List Int)},(∀k∈ks,nv m k)->ir μ (ks.map aD)=some (ks.map gJ)
 |[],_=>rfl
 |k::ks,h=>by
  obtain⟨a,b,rfl,_⟩:=h k JK;have ih:=mh (μ:=μ) fun x hx=>h x (JL _ hx);simp only[K7,ir,ih];rfl
theorem jM{m:Int}:∀{ks:List (List Int)},(∀k∈ks,nv m k)->PyData.canLayAll0 (ks.map gJ)=true/\PyData.depthAll (ks.map gJ)<=1
 |[],_=>by simp[PyData.canLayAll0,PyData.depthAll]
 |k::ks,h=>by
  obtain⟨a,b,rfl,_⟩:=h k JK;have ih:=jM fun x hx=>h x (JL _ hx);simp only[K7,PyData.canLayAll0,PyData.depthAll,ih.1,gJ,K6,PyData.canLay0,PyData.depth];refine⟨rfl,?_⟩;have:=ih.2;omega
def lN(m:Int)(ks:List (List Int)):PyData:=.tuple [.int m,.tuple (ks.map gJ)]
end Lw
namespace Lw
open PySem L2 RS
def Pn(μ0:aA)(i:Nat)(μ:aA):Prop:=∃a b c g,μ=μ0.set i (bI a b c)++g
theorem Pn.app{μ0 μ g:aA}{i:Nat}(h:Pn μ0 i μ):Pn μ0 i (μ++g):=by
 obtain⟨a,b,c,g',rfl⟩:=h;exact⟨a,b,c,g'++g,by rw[Lj]⟩
theorem Pn.get{μ0 μ:aA}{i:Nat}(h:Pn μ0 i μ)(hi:i<μ0.length):∃a b c,μ[i]?=some (bI a b c):=by
 obtain⟨a,b,c,g',rfl⟩:=h;exact⟨a,b,c,aR (iN hi)⟩
theorem Pn.set{μ0 μ:aA}{i:Nat}{a b c:Int}(h:Pn μ0 i μ)(hi:i<μ0.length):Pn μ0 i (μ.set i (bI a b c)):=by
 obtain⟨a',b',c',g',rfl⟩:=h;exact⟨a,b,c,g',by rw[kT (by simpa using hi),List.set_set]⟩
theorem Pn.len{μ0 μ:aA}{i:Nat}(h:Pn μ0 i μ):μ0.length<=μ.length:=by
 obtain⟨a',b',c',g',rfl⟩:=h;simp
theorem Pn.self{μ0:aA}{i:Nat}{a b c:Int}(h:μ0[i]?=some (bI a b c)):Pn μ0 i μ0:=by
 refine⟨a,b,c,[],?_⟩;rw[Kk];apply Nb;intro j;by_cases e:i=j
 ·subst e;rw[iN (JR.mp h).1,h]
 ·rw[JU e]
theorem Pn.draw{μ0 μ:aA}{i:Nat}{m:Int}(h:Pn μ0 i μ)(hi:i<μ0.length)(h0:0<m)(h1:m<1000) :
  ∃r a b c:Int,0<=r/\r<m/\aF [.obj i,.int m] μ=.ok (.int r) (μ.set i (bI a b c))/\Pn μ0 i (μ.set i (bI a b c)):=by
 obtain⟨a,b,c,hp⟩:=h.get hi;obtain⟨r,a',b',c',r0,r1,e⟩:=rA hp h0 h1;exact⟨r,a',b',c',r0,r1,e,h.set hi⟩
theorem Pn.gc{μ0 μ:aA}{i:Nat}{d:D}(h:Pn μ0 i μ)(hd:d.low μ0.length):∃a b c,mF μ0 (.ok d μ)=.ok d (μ0.set i (bI a b c)):=by
 obtain⟨a,b,c,g',rfl⟩:=h;exact⟨a,b,c,uS hd nC⟩
theorem lh{μ1:aA}{e:ME}{rest:Ro}{f:Int->Int×Int}{lo:Int}{n:Nat}(hn:n<1000)(he:∀v a,e (some (.int v)::rest) (μ1++[.lst a])=.ok (bq (f v)) (μ1++[.lst a])) :
  compLoop (.fix (br lo n)) μ1.length (ak 0) cc e (br lo n) (none::rest) (μ1++[.lst []])=.ok (.obj μ1.length) (μ1++[.lst (((List.range n).map fun k:Nat=>f (lo+(k:Int))).map bq)]):=by
 have:=fF (src:=.fix (br lo n)) (g:=ak 0) (t:=cc) (e:=e) (μ1:=μ1) (q:=fun _=>true)
  (h:=fun d=>match d with | .int a=>bq (f a)|_=>.non) (fun ρ=>∃o,ρ=o::rest) (fun _=>trivial) (xs:=br lo n) (acc:=[]) (ρ:=none::rest) ⟨none,rfl⟩
  (by unfold br;rw[KE,L7,L6];exact JH (by omega) dQ)
  (fun x hx a ρ hJJ => by
   obtain⟨o,ho⟩:=hJJ;unfold br at hx;obtain⟨k,hk,rfl⟩:=Mc.mp hx
   exact⟨_,⟨_,rfl⟩,by subst ho;rfl,rfl,fun _=>he _ _⟩)
 rw[this,NX.mpr (fun _ _=>rfl)];unfold br;simp only[Lo,LY];rfl
def Gv(m:Int)(ps:List (Int×Int)):Prop:=ps.length<=40/\∀p∈ps,0<=p.1/\p.1<m/\0<=p.2/\p.2<m/\p.1≠p.2
theorem oO{μ0 μ1:aA}{i t:Nat}{m:Int}{k:Int}{ps:List (Int×Int)}(hi:i<μ0.length)(ht:μ0.length<=t)(h:Pn μ0 i μ1)(hl:μ1[t]?=some (.lst (ps.map bq)))(hps:Gv m ps)(k0:0<k)(k1:k<1000) :
  ∃qs μ2,Gv m qs/\Pn μ0 i μ2/\μ2.length=μ1.length/\compLoop (.own t (ps.map bq)) μ1.length (ak 0) (fL (az (eQ false) (ax aF (af (ah 1) (af (cC (.int k)) (av)))) (cC (.int 0)))) (ah 0) (ps.map bq) [none,some (.obj i)] (μ1++[.lst []])=.ok (.obj μ1.length) (μ2++[.lst (qs.map bq)]):=by
 have run:=iy (src:=.own t (ps.map bq)) (g:=ak 0) (t:=(fL (az (eQ false) (ax aF (af (ah 1) (af (cC (.int k)) (av)))) (cC (.int 0))))) (e:=ah 0) (n:=μ1.length)
  (fun xs ys ρ μ2 s=>s=[]/\μ2.length=μ1.length/\Pn μ0 i μ2/\μ2[t]?=some (.lst (ps.map bq))/\(∃o,ρ=[o,some (.obj i)])/\∃rs qs:List (Int×Int),xs=rs.map bq/\ys=qs.map bq/\qs.length+rs.length<=40/\(∀p∈rs,0<=p.1/\p.1<m/\0<=p.2/\p.2<m/\p.1≠p.2)/\(∀p∈qs,0<=p.1/\p.1<m/\0<=p.2/\p.2<m/\p.1≠p.2))
  (fun ys ρ μ2 s ⟨_,e1,_,e2,_⟩=>⟨e1,aR e2⟩)
  (fun x r ys ρ μ2 s hJJ => by
   obtain⟨es,e1,e2,e3,⟨o,e4⟩,rs,qs,e5,e6,e7,e8,e9⟩:=hJJ;subst es e4 e6;cases rs with
   |nil=>cases e5
   |cons p rs=>
    injection e5 with ex er
    subst ex er;obtain⟨v,a,b,c,v0,v1,ed,hp⟩:=(e2.app (g:=[.lst (qs.map bq)])).draw hi k0 k1;have i2:i<μ2.length:=JC hi e2.len;rw[kT i2]at ed;refine⟨e1,aR e3,[some (bq p),some (.obj i)],μ2,[],v == 0,μ2.set i (bI a b c),[],rfl,?_,fun hc=>?_,fun hc=>?_⟩
    ·simp only[cz,aH,aG,ar,aw,ao,aj,bj,aa,ag,ed,cw,Lu,KN,bg]
    ·refine ⟨bq p, μ2.set i (bI a b c), [], by rw [aj], ?_, by simpa using e1, rfl, by simpa using e1, e2.set hi, tO e3 (by omega), ⟨_, rfl⟩, rs, qs ++ [p], rfl, by simp, by simp at e7 ⊢; omega, fun q hq => e8 q (JL _ hq), fun q hq => ?_⟩
     ·rw[KE];simp only[Lx]at e7;exact JC (show qs.length<1000 by omega) dQ
     ·rcases JP.mp hq with z | z
      ·exact e9 q z
      ·simp at z;subst z;exact e8 _ JK
    ·exact⟨rfl,by simpa using e1,e2.set hi,tO e3 (by omega),⟨_,rfl⟩,rs,qs,rfl,rfl,by simp at e7⊢;omega,fun q hq=>e8 q (JL _ hq),e9⟩)
  (xs:=ps.map bq) (ys:=[]) (ρ:=[none,some (.obj i)]) (μ1:=μ1) (s:=[])
  ⟨rfl,rfl,h,hl,⟨_,rfl⟩,ps,[],rfl,rfl,by have:=hps.1;simpa using this,hps.2,by simp⟩
 obtain⟨ys',ρ',μ2,s',⟨es,e1,e2,e3,⟨o,e4⟩,rs,qs,e5,e6,e7,e8,e9⟩,run⟩:=run;subst es e6;exact⟨qs,μ2,⟨by omega,e9⟩,e2,e1,run⟩
theorem vB{μ0 μ1:aA}{i:Nat}{m:Int}(hi:i<μ0.length)(h:Pn μ0 i μ1)(m0:1<=m)(m1:m<=6) :
  ∃qs μ2,Gv m qs/\Pn μ0 i μ2/\μ2.length=μ1.length/\compLoop (.fix (br 1 (m-1).toNat)) μ1.length (ak 0) cc bX (br 1 (m-1).toNat) [none,some (.obj i)] (μ1++[.lst []])=.ok (.obj μ1.length) (μ2++[.lst (qs.map bq)]):=by
 have run:=iy (src:=.fix (br 1 (m-1).toNat)) (g:=ak 0) (t:=cc) (e:=bX) (n:=μ1.length)
  (fun xs ys ρ μ2 s=>s=[]/\μ2.length=μ1.length/\Pn μ0 i μ2/\(∃o,ρ=[o,some (.obj i)])/\∃(lo:Int)(n:Nat)(qs:List (Int×Int)),xs=br lo n/\1<=lo/\lo+n=m/\ys=qs.map bq/\qs.length+n<=40/\(∀p∈qs,0<=p.1/\p.1<m/\0<=p.2/\p.2<m/\p.1≠p.2))
  (fun ys ρ μ2 s ⟨_,e1,_⟩=>⟨e1,trivial⟩)
  (fun x r ys ρ μ2 s hJJ => by
   obtain⟨es,e1,e2,⟨o,e4⟩,lo,n,qs,e5,e6,e7,e8,e9,e10⟩:=hJJ;subst es e4 e8;cases n with
   |zero=>rw[fC]at e5;cases e5
   |succ n=>
    rw[dH]at e5;injection e5 with ex er
    subst ex er;obtain⟨v,a,b,c,v0,v1,ed,hp⟩:=(e2.app (g:=[.lst (qs.map bq)])).draw (m:=lo) hi (by omega) (by omega);have i2:i<μ2.length:=JC hi e2.len;rw[kT i2]at ed;refine⟨e1,trivial,[some (.int lo),some (.obj i)],μ2,[],true,μ2,[],rfl,rfl,fun hc=>?_,fun hc=>nomatch hc⟩;refine⟨bq (v,lo),μ2.set i (bI a b c),[],?_,?_,by simpa using e1,rfl,by simpa using e1,e2.set hi,⟨_,rfl⟩,lo+1,n,qs++[(v,lo)],rfl,by omega,by omega,by simp,by simp;omega,fun q hq=>?_⟩
    ·unfold bX;simp only[bY,aG,ar,aw,ao,aj,bj,aa,ag,ed,Lx,L7,Jz l2];rfl
    ·rw[KE];exact JC (show qs.length<1000 by omega) dQ
    ·rcases JP.mp hq with z | z
     ·exact e10 q z
     ·simp at z;subst z;exact⟨v0,by omega,by omega,by omega,by dsimp only;omega⟩)
  (xs:=br 1 (m-1).toNat) (ys:=[]) (ρ:=[none,some (.obj i)]) (μ1:=μ1) (s:=[])
  ⟨rfl,rfl,h,⟨_,rfl⟩,1,_,[],rfl,by omega,by omega,rfl,by simp;omega,by simp⟩
 obtain⟨ys',ρ',μ2,s',⟨es,e1,e2,⟨o,e4⟩,lo,n,qs,e5,e6,e7,e8,e9,e10⟩,run⟩:=run;subst es e8;exact⟨qs,μ2,⟨by omega,e10⟩,e2,e1,run⟩
def fH:MS:=(i5 (fL (az (eQ false) (ah 1) (cC (.int 0)))) (bw (dh (jd (ah 3)) [none,some 0] (ak 0) (eE) (eJ)) (ak 5)) (i5 (fL (az (eQ false) (ah 1) (cC (.int 1)))) (bw (dh (jd (ah 3)) [none,some 0] (ak 0) (eD) (eG)) (ak 5)) (i5 (fL (az (eQ false) (ah 1) (cC (.int 2)))) (bw (az cv (dh (fS ja (af (az kh (ah 2) (cC (.int 1))) (av))) [none] (ak 0) (cc) (df)) (az lP (dy (af (bT (af (cC (.int 0)) (af (az kh (ah 2) (cC (.int 1))) (av)))) (av))) (ax mQ (af (az (iJ .Gt) (ah 2) (cC (.int 2))) (av))))) (ak 5)) (i5 (fL (az (eQ false) (ah 1) (cC (.int 3)))) (bw (dh (fS ja (af (az kh (ah 2) (cC (.int 1))) (av))) [none] (ak 0) (cc) (eF)) (ak 5)) (i5 (fL (az (eQ false) (ah 1) (cC (.int 4)))) (bw (dh (fS nO (af (cC (.int 1)) (af (ah 2) (av)))) [none] (ak 0) (cc) (de)) (ak 5)) (bw (dh (fS nO (af (cC (.int 1)) (af (ah 2) (av)))) [none,some 0] (ak 0) (cc) (bX)) (ak 5)))))))
theorem BZ{μ0 μ1:aA}{i t:Nat}{m w:Int}{ps:List (Int×Int)}{o4:Option D}(hi:i<μ0.length)(ht:μ0.length<=t)(h:Pn μ0 i μ1)(hl:μ1[t]?=some (.lst (ps.map bq)))(hps:Gv m ps)(m0:1<=m)(m1:m<=6) :
  ∃(o:Nat)(qs:List (Int×Int))(μ2:aA),Gv m qs/\Pn μ0 i μ2/\μ2[o]?=some (.lst (qs.map bq))/\fH [some (.obj i),some (.int w),some (.int m),some (.obj t),o4,none] μ1=.next [some (.obj i),some (.int w),some (.int m),some (.obj t),o4,some (.obj o)] μ2:=by
 unfold fH
 have r1:∀n a,df (some (.int n)::[]) (μ1++[.lst a])=.ok (bq (n,n+1)) (μ1++[.lst a]):=fun n a=>by
  unfold df;simp only[bY,ar,aw,aH,aj,bj,aa,ag,gr,Lx,L7,Jz l2];rfl
 have r2:∀n a,eF (some (.int n)::[]) (μ1++[.lst a])=.ok (bq (n,n+1)) (μ1++[.lst a]):=r1
 have r3:∀n a,de (some (.int n)::[]) (μ1++[.lst a])=.ok (bq (0,n)) (μ1++[.lst a]):=fun n a=>by
  unfold de;simp only[bY,ar,aw,aH,aj,bj,aa,ag,gr,Lx,L7,Jz l2];rfl
 have sb:kh (.int m) (.int 1) μ1=.ok (.int (m-1)) μ1:=rfl;have rn:(List.range (m-1).toNat).length<=5:=by rw[L6];omega
 have pth:∀p∈(List.range (m-1).toNat).map (fun k:Nat=>(((0:Int)+(k:Int)),(0:Int)+(k:Int)+1)),0<=p.1/\p.1<m/\0<=p.2/\p.2<m/\p.1≠p.2:=fun p hp=>by
  obtain⟨k,hk,rfl⟩:=Mc.mp hp;rw[JG]at hk;dsimp only;omega
 by_cases w0:w=0
 ·subst w0;obtain⟨qs,μ2,q1,q2,q3,q4⟩:=oO (k:=2) hi ht h hl hps (by decide) (by decide);refine⟨μ1.length,qs,μ2++[.lst (qs.map bq)],q1,q2.app,by rw[<- q3];exact ay,?_⟩;simp only[bp,cz,aH,ao,aj,bj,aa,ag,cw,Ls,bg,ae,Lu,KN,KO,aY,d3,gq];rw[iO hl];simp only[aa,ag,fD];rw[show f9 [none,some 0] [some (D.obj i),some (.int 0),some (.int m),some (.obj t),o4,none]=[none,some (.obj i)] from rfl];unfold eE eJ;rw[q4];rfl
 have w0':(w == 0)=false:=by simpa using w0
 by_cases w1:w=1
 ·subst w1;obtain⟨qs,μ2,q1,q2,q3,q4⟩:=oO (k:=3) hi ht h hl hps (by decide) (by decide);refine⟨μ1.length,qs,μ2++[.lst (qs.map bq)],q1,q2.app,by rw[<- q3];exact ay,?_⟩;simp only[bp,cz,aH,ao,aj,bj,aa,ag,cw,w0',Ls,bg,ae,Lu,KN,KO,aY,d3,gq];rw[iO hl];simp only[aa,ag,fD];rw[show f9 [none,some 0] [some (D.obj i),some (.int 1),some (.int m),some (.obj t),o4,none]=[none,some (.obj i)] from rfl];unfold eD eG;rw[q4];rfl
 have w1':(w == 1)=false:=by simpa using w1
 by_cases w2:w=2
 ·subst w2;let ps1:List (Int×Int):=(List.range (m-1).toNat).map (fun k:Nat=>(((0:Int)+(k:Int)),(0:Int)+(k:Int)+1))
  let ps2:List (Int×Int):=(List.replicate (if cH .Gt m 2 then (1:Int) else 0).toNat [((0:Int),m-1)]).flatten
  have hb:ps2=if cH .Gt m 2 then [((0:Int),m-1)] else []:=by
   simp only[ps2];cases cH .Gt m 2 <;> rfl
  have hb2:ps2.length<=1/\∀p∈ps2,p=(0,m-1)/\2<m:=by
   rw[hb];by_cases z:cH .Gt m 2=true
   ·rw [Jz z];have:2<m:=by simpa[cH] using z
    simp[this]
   ·rw[JA z];simp
  refine⟨_,ps1++ps2,((μ1++[O.lst (ps1.map bq)]++[O.lst [bq (0,m-1)]])++[O.lst (ps2.map bq)])++[O.lst ((ps1++ps2).map bq)],⟨?_,fun p hp=>?_⟩,((h.app).app.app).app,ay,?_⟩
  ·rw [KD];have:ps1.length<=5:=by simp only[ps1,KE];exact rn
   omega
  ·rcases JP.mp hp with z | z
   ·exact pth p z
   ·obtain⟨rfl,z2⟩:=hb2.2 p z;dsimp only;omega
  ·simp only [bp, cz, aH, ao, aj, bj, aa, ag, cw, w0', w1', Ls, bg, ae, Lu, KN, KO, aY, d3, cK, ar, aw, sb];rw[fM (by omega) (by omega)];simp only[aa,ag,bH];rw[show f9 [none] _=[none] from rfl,lh (f:=fun v=>(v,v+1)) (by omega) r1];have l1:(1:Nat)<=sizeLine:=by decide
   have sb':∀μ,kh (.int m) (.int 1) μ=.ok (.int (m-1)) μ:=fun _=>rfl;have ib:∀k:Bool,∀μ,mQ [.bl k] μ=.ok (.int (if k then 1 else 0)) μ:=fun _ _=>rfl;simp only[aa,ag,cJ,bY,ar,aw,aH,ao,aj,bj,sb',Lx,L7,Jz l2,Jz l1,aG,eT,ib]
   have mu:∀M:aA,lP (.obj M.length) (.int (if cH .Gt m 2=true then 1 else 0)) (M++[O.lst [bq (0,m-1)]])=.ok (.obj (M++[O.lst [bq (0,m-1)]]).length) ((M++[O.lst [bq (0,m-1)]])++[O.lst (ps2.map bq)]):=fun M=>by
    unfold lP;dsimp only;rw[ay];dsimp only
    have:(List.replicate (if cH .Gt m 2=true then (1:Int) else 0).toNat [bq (0,m-1)]).flatten=ps2.map bq:=by
     simp only[ps2];cases cH .Gt m 2 <;> rfl
    rw[this,Jz];have l1':(1:Nat)<=sizeLine:=by decide
    cases cH .Gt m 2
    ·exact⟨by decide,by decide,LG _⟩
    ·exact⟨by decide,by decide,l1'⟩
   rw[show (D.tup [D.int 0,D.int (m-1)])=bq (0,m-1) from rfl,mu];simp only[aa,ag]
   have ad:cv (.obj μ1.length) (.obj (μ1++[O.lst (ps1.map bq)]++[O.lst [bq (0,m-1)]]).length) ((μ1++[O.lst (ps1.map bq)]++[O.lst [bq (0,m-1)]])++[O.lst (ps2.map bq)])=.ok (.obj ((μ1++[O.lst (ps1.map bq)]++[O.lst [bq (0,m-1)]])++[O.lst (ps2.map bq)]).length) (((μ1++[O.lst (ps1.map bq)]++[O.lst [bq (0,m-1)]])++[O.lst (ps2.map bq)])++[O.lst ((ps1++ps2).map bq)]):=by
    unfold cv;dsimp only;rw[ay,aR (aR ay)];dsimp only;rw[Jz,Mj];have e1:((List.range (m-1).toNat).map (fun k:Nat=>(((0:Int)+(k:Int)),(0:Int)+(k:Int)+1))).length<=5:=by rw[KE];exact rn
    have e2:((ps1.map bq).length:Nat)<=5:=by rw[KE];exact e1
    have e3:((ps2.map bq).length:Nat)<=1:=by rw[KE];exact hb2.1
    exact JH (show _<=1000 by omega) dQ
   rw[ad];rfl
 have w2':(w == 2)=false:=by simpa using w2
 by_cases w3:w=3
 ·subst w3;refine⟨μ1.length,(List.range (m-1).toNat).map (fun k:Nat=>(((0:Int)+(k:Int)),(0:Int)+(k:Int)+1)),μ1++[.lst _],⟨by rw[KE];omega,pth⟩,h.app,ay,?_⟩;simp only[bp,cz,aH,ao,aj,bj,aa,ag,cw,w0',w1',w2',Ls,bg,ae,Lu,KN,KO,aY,d3,cK,ar,aw,sb];rw[fM (by omega) (by omega)];simp only[aa,ag,bH];rw[show f9 [none] _=[none] from rfl,lh (f:=fun v=>(v,v+1)) (by omega) r2];rfl
 have w3':(w == 3)=false:=by simpa using w3
 by_cases w4:w=4
 ·subst w4;refine⟨μ1.length,(List.range (m-1).toNat).map (fun k:Nat=>((0:Int),(1:Int)+(k:Int))),μ1++[.lst _],⟨by rw[KE];omega,fun p hp=>?_⟩,h.app,ay,?_⟩
  ·obtain⟨k,hk,rfl⟩:=Mc.mp hp;rw[JG]at hk;dsimp only;omega
  simp only[bp,cz,aH,ao,aj,bj,aa,ag,cw,w0',w1',w2',w3',Ls,bg,ae,Lu,KN,KO,aY,d3,cK,ar,aw,sb];rw[nG (by omega) (by omega) (by omega) (by omega)];simp only[aa,ag,bH];rw[show f9 [none] _=[none] from rfl,lh (f:=fun v=>(0,v)) (by omega) r3];rfl
 have w4':(w == 4)=false:=by simpa using w4
 obtain⟨qs,μ2,q1,q2,q3,q4⟩:=vB hi h m0 m1;refine⟨μ1.length,qs,μ2++[.lst (qs.map bq)],q1,q2.app,by rw[<- q3];exact ay,?_⟩;simp only[bp,cz,aH,ao,aj,bj,aa,ag,cw,w0',w1',w2',w3',w4',bg,ae,Lu,KN,aY,d3,cK,ar,aw];rw[nG (by omega) (by omega) (by omega) (by omega)];simp only[aa,ag,bH];rw[show f9 [none,some 0] [some (D.obj i),some (.int w),some (.int m),some (.obj t),o4,none]=[none,some (.obj i)] from rfl,q4];rfl
theorem iB{n:Nat}{d:D}{m:Int}{ks:List (List Int)}(h:fv d m ks):d.low n:=k9 h
theorem xq{μ:aA}{i:Nat}{a b c:Int}(hp:μ[i]?=some (bI a b c)):∃d m ks a' b' c',fv d m ks/\cQ [.obj i] μ=.ok d (μ.set i (bI a' b' c')):=by
 have hi:i<μ.length:=(JR.mp hp).1;have P0:Pn μ i μ:=Pn.self hp;obtain⟨w,a1,b1,c1,w0,w1,ew,P1⟩:=P0.draw (m:=7) hi (by decide) (by decide);generalize hM1:μ.set i (bI a1 b1 c1)=M1 at ew P1;obtain⟨m',a2,b2,c2,m0,m1,em,P2⟩:=P1.draw (m:=6) hi (by decide) (by decide);generalize hM2:M1.set i (bI a2 b2 c2)=M2 at em P2
 have run:=gY (src:=.fix (br 0 (1+m').toNat)) (g:=ak 4) (fb:=cZ)
  (fun xs ρ μ1 => ∃ (lo : Int) (n : Nat) (t : Nat) (ps : List (Int × Int)) (o4 : Option D), xs = br lo n /\ 0 <= lo /\ lo + n = 1 + m' /\ ρ = [some (.obj i), some (.int w), some (.int (1 + m')), some (.obj t), o4, none] /\ Pn μ i μ1 /\ μ.length <= t /\ μ1[t]? = some (.lst (ps.map bq)) /\
   (ps.length:Int)<=6*lo/\(∀p∈ps,0<=p.1/\p.1<p.2/\p.2<lo))
  (fun _ _ _=>trivial)
  (fun x r ρ μ1 hJJ => by
   obtain⟨lo,n,t,ps,o4,e1,e2,e3,e4,e5,e6,e7,e8,e9⟩:=hJJ;subst e4;cases n with
   |zero=>rw[fC]at e1;cases e1
   |succ n=>
    rw[dH]at e1;injection e1 with ex er
    subst ex er;let qs:List (Int×Int):=(List.range lo.toNat).map fun k:Nat=>((0:Int)+(k:Int),lo)
    have hq:(qs.length:Int)=lo:=by simp only[qs,KE,L6];omega
    refine⟨trivial,_,μ1,[some (.obj i),some (.int w),some (.int (1+m')),some (.obj (μ1.length+1)),some (.int lo),none],(μ1++[O.lst (qs.map bq)])++[O.lst ((ps++qs).map bq)],rfl,?_,lo+1,n,μ1.length+1,ps++qs,some (.int lo),rfl,by omega,by omega,rfl,e5.app.app,?_,?_,?_,fun p hp=>?_⟩
    ·show cZ [some (.obj i), some (.int w), some (.int (1 + m')), some (.obj t), some (.int lo), none] μ1 = _;unfold cZ;simp only[aY,aH,ao,aj,aa,ag,d3,cK,ar,aw];rw[fM (by omega) (by omega)];simp only[aa,ag,bH]
     rw[show f9 [none,some 4] [some (D.obj i),some (.int w),some (.int (1+m')),some (.obj t),some (.int lo),none]=[none,some (.int lo)] from rfl,
      lh (f:=fun v=>(v,lo)) (by omega) (fun v a=>by
       unfold gS;simp only[bY,ar,aw,ao,aj,aa,ag,Lx,L7,Jz l2]
       rfl)]
     simp only[aa,ag];unfold cv;dsimp only;rw[aR e7,ay];dsimp only
     rw[Jz (by
      rw[KE,KE];have:qs.length=((List.range lo.toNat).map fun k:Nat=>((0:Int)+(k:Int),lo)).length:=rfl;rw[<- this]
      exact JH (show _<=1000 by omega) dQ)]
     simp only[ae,ag,bL];simp only[KD,Lx,L7,NV,NW,Mj];rfl
    ·have:=e5.len;omega
    ·have : μ1.length + 1 = (μ1 ++ [O.lst (qs.map bq)]).length := by simp
     rw[this];exact ay
    ·rw[KD];push_cast;omega
    ·rcases JP.mp hp with z | z
     ·have:=e9 p z;omega
     ·simp only [qs] at z;obtain⟨k,hk,rfl⟩:=Mc.mp z;rw[JG]at hk;dsimp only
      omega)
  (xs:=br 0 (1+m').toNat) (ρ:=[some (.obj i),some (.int w),some (.int (1+m')),some (.obj M2.length),none,none]) (μ:=M2++[.lst []])
  ⟨0,(1+m').toNat,M2.length,[],none,rfl,by omega,by omega,rfl,P2.app,P2.len,ay,by simp,by simp⟩
 obtain⟨ρ',M3,⟨lo,n,t,ps,o4,e1,e2,e3,e4,e5,e6,e7,e8,e9⟩,run⟩:=run;subst e4;have hn:=kZ e1.symm;subst hn;obtain⟨o,qs,M4,q1,q2,q3,q4⟩:=BZ (m:=1+m') (w:=w) (o4:=o4) hi e6 e5 e7 ⟨by omega,fun p hp=>by have:=e9 p hp;omega⟩ (by omega) (by omega);obtain⟨a5,b5,c5,hp4⟩:=q2.get hi;obtain⟨ns,a6,b6,c6,n1,n2,n3,n4⟩:=zW hp4 (m:=1+m') (by omega) (by omega);obtain⟨d,ks,g1,g2⟩:=zX (μ:=M4.set i (bI a6 b6 c6)) (m:=1+m') (by omega) (by omega) q1.2 (by have:=q1.1;omega) n1 n2 n3;obtain⟨a7,b7,c7,hg⟩:=(q2.set (a:=a6) (b:=b6) (c:=c6) hi).gc (iB g1);refine⟨d,1+m',ks,a7,b7,c7,g1,?_⟩;unfold cQ;rw[ig];simp only[iG,aK,aY,aG,ar,aw,aj,bj,aa,ag,ew,ae,bL,aC,List.replicate,NV,NW,aH,hM1,em,hM2,gr,cJ,L7,Jz (LG sizeLine),gk,cK,ao];rw[fM (by omega) (by omega)];simp only[ae,ag,bH];rw[run];simp only[aC,aK];have hW:=q4;unfold fH at hW;rw[hW];simp only[aC,cI,aG,ar,aw,ao,aj,bY,aa,ag];rw[g6 q3];simp only[aa,ag,Lx,L7,Jz l2,n4,g2,ae,bP];exact hg
theorem zU{μ:aA}{d:D}{m k:Int}{ks:List (List Int)}(h:fv d m ks):∃d' ks',fv d' m ks'/\cY [d,.int k] μ=.ok d' μ:=by
 have hd:=h.1;have hm:1<=m/\m<=6:=⟨h.2.1,h.2.2.1⟩;subst hd;obtain⟨n,rfl⟩:∃n:Nat,m=(n:Int):=⟨m.toNat,by omega⟩;obtain⟨T,_,e⟩:=xp (μ:=μ) (k:=k) h;exact⟨_,_,sV (by omega) (by omega),e⟩
theorem xJ{m:Int}{ks:List (List Int)}(h:∀k∈ks,nv m k):ik (.tuple (ks.map gJ))=true:=by
 have:=jM h;simp only[ik,PyData.canLay0,this.1,PyData.depth,Bool.true_and];exact Lp (by omega)
theorem wF{μ:aA}{m:Int}{ks:List (List Int)}(h:∀k∈ks,nv m k):eQ true (.tup (ks.map aD)) (.tup []) μ=.ok (.bl (!ks.isEmpty)) μ:=by
 have e1:sk μ (.tup (ks.map aD))=some (.tuple (ks.map gJ)):=by
  simp only[sk,mh h,Option.map_some]
 have e2:sk μ (.tup [])=some (.tuple []):=rfl;unfold eQ;rw[e1,e2];dsimp only;rw[Jz ⟨xJ h,by decide⟩];congr 2;cases ks with
 |nil=>rfl
 |cons k ks=>simp[PyData.eqv,PyData.eqvAll]
theorem AS{m:Int}{ks ks':List (List Int)}{d:D}(h:fv d m ks)(hs:ks'.Sublist ks):fv (.tup [.int m,.tup (ks'.map aD)]) m ks':=by
 obtain⟨_,h0,h1,hp,hk⟩:=h;exact⟨rfl,h0,h1,hp.sublist hs,fun k hk'=>hk k (hs.subset hk')⟩
theorem zF{β:Type}{xs:List β}{r:Nat}(h:r<=xs.length):ko xs none (some (r:Int))=xs.take r:=by
 unfold ko;rw[HT.sIx_none,HT.sIx_nat];simp[NZ h]
theorem AY{β:Type}{xs:List β}{r:Nat}(h:r<=xs.length):ko xs (some (r:Int)) none=xs.drop r:=by
 unfold ko;rw[HT.sIx_none,HT.sIx_nat,NZ h];exact Mb (by rw[KU];exact Kc _)
theorem G8{a b:Int}{μ:aA}:bR [.tup [.int a,.int b]] μ=.ok (.obj μ.length) (μ++[.lst [.int (min a b),.int (max a b)]]):=by
 have e:[min a b,max a b]=mJ [a,b]:=by
  refine sX ?_ (by simp;omega);by_cases h:a<=b
  ·rw[Int.min_eq_left h,Int.max_eq_right h]
  ·rw[Int.min_eq_right (by omega),Int.max_eq_left (by omega)];exact List.Perm.swap a b []
 have e2:jl [.int a,.int b]=some [a,b]:=rfl;unfold bR;dsimp only;rw[e2];dsimp only;rw[Jz (show [a,b].length<64 from (by decide:2<64)),<- e];rfl
theorem zT{μ:aA}{i:Nat}{a b c:Int}(hp:μ[i]?=some (bI a b c)):∃d m ks a' b' c',fv d m ks/\dY [.obj i] μ=.ok d (μ.set i (bI a' b' c')):=by
 have hi:i<μ.length:=(JR.mp hp).1;obtain⟨d0,m,ks0,a0,b0,c0,g0,e0⟩:=xq hp;have P0:Pn μ i (μ.set i (bI a0 b0 c0)):=⟨a0,b0,c0,[],by simp⟩;generalize hM0:μ.set i (bI a0 b0 c0)=M0 at e0 P0;obtain⟨w,a1,b1,c1,w0,w1,ew,P1⟩:=P0.draw (m:=6) hi (by decide) (by decide);generalize hM1:M0.set i (bI a1 b1 c1)=M1 at ew P1;have cmpw:cH .Lt w 3=decide (w<3):=rfl
 have st:∃d ks,fv d m ks/\i5 (fL (az (iJ .Lt) (ah 2) (cC (.int 3)))) (bw (ax cY (af (ah 1) (af (cC (.int 2)) (av)))) (ak 1)) (cy) [some (.obj i),some d0,some (.int w),none,none,none] M1=.next [some (.obj i),some d,some (.int w),none,none,none] M1:=by
  obtain⟨d',ks',g',e'⟩:=zU (μ:=M1) (k:=2) g0;by_cases hw:w<3
  ·refine⟨d',ks',g',?_⟩;simp only[bp,cz,aH,ao,aj,bj,aa,ag,eT,cmpw,Lp hw,bg,ae,KO,aY,aG,ar,aw,e',bL,NV,NW]
  ·refine⟨d0,ks0,g0,?_⟩;simp only[bp,cz,aH,ao,aj,bj,aa,ag,eT,cmpw,Jx hw,bg,ae,Lu,KN,bF]
 obtain⟨d,ks,g,es⟩:=st;have hlow:=fun n=>iB (n:=n) g;have hg:=g;obtain⟨rfl,h0,h1,hpw,hk⟩:=hg;unfold dY;rw[ig];have sub1:∀x y:Int,∀μ,kh (.int x) (.int y) μ=.ok (.int (x-y)) μ:=fun _ _ _=>rfl;by_cases z0:w=0/\ks≠[]
 ·obtain ⟨rfl, hne⟩ := z0;have hlen:=la g;have hpos:0<ks.length:=NP.mpr hne;have hem:ks.isEmpty=false:=by simpa using hne
  obtain⟨r,a2,b2,c2,r0,r1,er,P2⟩:=P1.draw (m:=(ks.length:Int)) hi (by omega) (by omega);generalize hM2:M1.set i (bI a2 b2 c2)=M2 at er P2;obtain⟨rn,rfl⟩:∃rn:Nat,r=(rn:Int):=⟨r.toNat,by omega⟩
  have gs:fv (.tup [.int m,.tup ((ks.take rn++ks.drop (rn+1)).map aD)]) m (ks.take rn++ks.drop (rn+1)):=by
   refine AS g ?_;have:=List.Sublist.append (List.Sublist.refl (ks.take rn)) (List.drop_sublist 1 (ks.drop rn))
   rwa [Mh,List.drop_drop]at this
  obtain⟨a7,b7,c7,hgc⟩:=P2.gc (iB gs);refine⟨_,m,_,a7,b7,c7,gs,?_⟩;simp only[fR,aK,aY,aG,ar,aw,aj,ao,bj,aa,ag,e0,hM0,ae,bL,aC,List.replicate,NV,NW,ew,hM1];rw[es];simp only[aC,aK,bp,g7,cz,aH,ao,aj,bj,aa,ag,cw,Ls,Lu,KN,KO,bg,gp,bY,aw,L7,Jz (LG sizeLine),wF hk,hem,MK,ae,aY,aG,ar,rG,KE,er,hM2,bL,NV,NW,cI,dG,vZ,uT,lg,rj,gr]
  have s1:∀μ,yr (.tup (ks.map aD)) none (some (rn:Int)) μ=.ok (.tup ((ks.map aD).take rn)) μ:=fun μ=>by
   unfold yr;dsimp only;rw[zF (by rw[KE];omega)]
  have s2:∀μ,yr (.tup (ks.map aD)) (some ((rn:Int)+1)) none μ=.ok (.tup ((ks.map aD).drop (rn+1))) μ:=fun μ=>by
   unfold yr;dsimp only;rw[show ((rn:Int)+1)=((rn+1:Nat):Int) by push_cast;rfl,AY (by rw[KE];omega)]
  simp only[s1,s2,aa,ag]
  have s3:∀μ,cv (.tup ((ks.map aD).take rn)) (.tup ((ks.map aD).drop (rn+1))) μ=.ok (.tup ((ks.take rn++ks.drop (rn+1)).map aD)) μ:=fun μ=>by
   unfold cv;dsimp only;rw[Jz,Mj,Ml,Mm];rw[Ku,KU,KE];exact JH (show _<=1000 by omega) dQ
  simp only[s3,aa,ag,Lx,L7,Jz l2,ae,n6,bP];exact hgc
 ·
  have t0:kN (fL (az (eQ false) (ah 2) (cC (.int 0)))) (fL (az (eQ true) (az dR (ah 1) (cC (.int 1))) (bT (av)))) [some (.obj i),some (.tup [.int m,.tup (ks.map aD)]),some (.int w),none,none,none] M1=.ok false M1:=by
   by_cases hw:w=0
   ·subst hw
    have hem:ks.isEmpty=true:=by
     cases ks with
     |nil=>rfl
     |cons x y=>exact absurd ⟨rfl,by simp⟩ z0
    simp only[g7,cz,aH,ao,aj,bj,aa,ag,cw,Ls,Lu,KN,KO,bg,gp,bY,aw,L7,Jz (LG sizeLine),wF hk,hem,My]
   ·have hw' : (w == 0) = false := by simpa using hw
    simp only[g7,cz,aH,ao,aj,bj,aa,ag,cw,hw',Lu,KN,bg]
  by_cases z1:w=1/\1<m
  ·obtain ⟨rfl, hm⟩ := z1;obtain⟨u,a2,b2,c2,u0,u1,eu,P2⟩:=P1.draw (m:=m) hi (by omega) (by omega);generalize hM2:M1.set i (bI a2 b2 c2)=M2 at eu P2;obtain⟨v,a3,b3,c3,v0,v1,ev,P3⟩:=P2.draw (m:=m-1) hi (by omega) (by omega);generalize hM3:M2.set i (bI a3 b3 c3)=M3 at ev P3;have hx0:0<=(u+1+v)%m:=NT _ (by omega);have hx1:(u+1+v)%m<m:=NU _ (by omega)
   have hxne:(u+1+v)%m≠u:=by
    by_cases hh:u+1+v<m
    ·rw[Int.emod_eq_of_lt (by omega) hh];omega
    ·rw[show u+1+v=(u+1+v-m)+m by omega,Int.add_emod_right,Int.emod_eq_of_lt (by omega) (by omega)];omega
   have md:∀x μ,pD (.int x) (.int m) μ=.ok (.int (x%m)) μ:=fun x μ=>kz (show (fun _ j=>(0:Int)<j) x m by show 0<m;omega);generalize hx:(u+1+v)%m=x at hx0 hx1 hxne
   have hks:∀k∈ks++[[min u x,max u x]],nv m k:=fun k hk'=>by
    rcases JP.mp hk' with z|z
    ·exact hk k z
    ·simp at z;subst z;exact⟨_,_,rfl,by omega,by omega,by omega⟩
   have gs:=fZ h0 h1 hks;have kd:mL ((ks++[[min u x,max u x]]).map aD)=some (ks++[[min u x,max u x]]):=k7 fun k hk=>(hks k hk).prs h1;obtain⟨a7,b7,c7,hgc⟩:=(((P3.app (g:=[.lst [.int (min u x),.int (max u x)]])).app (g:=[.set (bZ (ks++[[min u x,max u x]]))])).app (g:=[.lst ((eR (ks++[[min u x,max u x]])).map aD)])).gc (iB gs);refine⟨_,m,_,a7,b7,c7,gs,?_⟩;have cm:cH .Gt m 1=true:=by simpa[cH] using hm
   have l1:(1:Nat)<=sizeLine:=by decide
   have s3:∀μ,cv (.tup (ks.map aD)) (.tup [.tup [.int (min u x),.int (max u x)]]) μ=.ok (.tup ((ks++[[min u x,max u x]]).map aD)) μ:=fun μ=>by
    unfold cv;dsimp only;rw[Jz,Mj]
    ·rfl
    ·have:=la g;rw[KE];simp only[Lx,L7];exact JH (show _<=1000 by omega) dQ
   have s4:∀μ,kJ [.tup ((ks++[[min u x,max u x]]).map aD)] μ=.ok (.obj μ.length) (μ++[.set (bZ (ks++[[min u x,max u x]]))]):=fun μ=>by
    unfold kJ;dsimp only;unfold nW;rw[kd]
   have s5:∀M:aA,bR [.obj M.length] (M++[.set (bZ (ks++[[min u x,max u x]]))])=.ok (.obj (M++[O.set (bZ (ks++[[min u x,max u x]]))]).length) ((M++[.set (bZ (ks++[[min u x,max u x]]))])++[.lst ((eR (ks++[[min u x,max u x]])).map aD)]):=fun M=>by
    unfold bR;dsimp only;rw[ay];dsimp only;rw[hX]
   simp only[fR,aK,aY,aG,ar,aw,aj,ao,bj,aa,ag,e0,hM0,ae,bL,aC,List.replicate,NV,NW,ew,hM1];rw[es];simp only[aC];rw[aK,bp,t0];simp only[ae,Lu,KN,bF,aC,aK,bp,g7,cz,aH,ao,aj,bj,aa,ag,cw,Ls,KO,bg,dG,eT,cm,aY,aG,ar,aw,eu,hM2,bL,NV,NW,bY,sub1,ev,hM3,gr,md,hx,Lx,L7,Jz l2,Jz l1,G8];rw[g6 ay];simp only[aa,ag,ae,bL,NV,NW,aC,cI,bY,ar,aw,aH,aG,ao,aj,bj,dG,gp,Lx,L7,Jz l2,Jz l1,s3,s4,s5];rw[g6 ay];simp only[aa,ag,ae,Lx,L7,Jz l2,n6,bP];exact hgc
  ·have t1:kN (fL (az (eQ false) (ah 2) (cC (.int 1)))) (fL (az (iJ .Gt) (az dR (ah 1) (cC (.int 0))) (cC (.int 1)))) [some (.obj i),some (.tup [.int m,.tup (ks.map aD)]),some (.int w),none,none,none] M1=.ok false M1:=by
    by_cases hw:w=1
    ·subst hw
     have cm:cH .Gt m 1=false:=by
      have:¬ 1<m:=fun h=>z1 ⟨rfl,h⟩;simpa[cH] using this
     simp only[g7,cz,aH,ao,aj,bj,aa,ag,cw,Ls,Lu,KN,KO,bg,dG,eT,cm]
    ·have hw' : (w == 1) = false := by simpa using hw
     simp only[g7,cz,aH,ao,aj,bj,aa,ag,cw,hw',Lu,KN,bg]
   obtain⟨a7,b7,c7,hgc⟩:=P1.gc (iB g);refine⟨_,m,_,a7,b7,c7,g,?_⟩;simp only[fR,aK,aY,aG,ar,aw,aj,ao,bj,aa,ag,e0,hM0,ae,bL,aC,List.replicate,NV,NW,ew,hM1];rw[es];simp only[aC];rw[aK,bp,t0];simp only[ae,ag,Lu,KN,bF,aC];rw[aK,bp,t1];simp only[ae,ag,Lu,KN,bF,aC,cI,ao,aj,bP];exact hgc
end Lw
namespace Lv
def Iz(ks:List (List Int))(a b:Int):Bool:=decide ([min a b,max a b]∈ks)
def rg(m:Nat):List Int:=(List.range m).map Int.ofNat
def Hw(w:List Int):Int:=w.getLast?.getD 0
def Hv(m:Nat)(ks:List (List Int))(w:List Int):List Int:=(rg m).filter fun p=>!decide (p∈w)&&Iz ks (Hw w) p
def IX(m:Nat)(ks:List (List Int))(w:List Int):List (List Int):=(Hv m ks w).map fun p=>w++[p]
def Iv(m:Nat)(ks:List (List Int)):Nat->List (List Int)
 |0=>(rg m).map fun p=>[p]
 |k+1=>(Iv m ks k).flatMap (IX m ks)
structure Jt(m k:Nat)(w:List Int):Prop where
 len:w.length=k+1
 nd:w.Nodup
 rng:∀p∈w,0<=p/\p<(m:Int)
theorem lb{m:Nat}{f:List Int->List (List Int)}(h:∀w,(f w).length<=m):∀l:List (List Int),(l.flatMap f).length<=l.length*m
 |[]=>by simp
 |w::l=>by
  rw[NY,KD,Lx,Nat.succ_mul];have:=h w;have:=lb h l;omega
end Lv
namespace Lw
open PySem L2 RS Lv
end Lw
namespace Lw
open PySem L2 RS Lv
section
variable{μ0:aA}{m A:Nat}{p:Int}{ks:List (List Int)}{w:D}
end
end Lw
namespace Lw
open PySem L2 RS Lv
end Lw
namespace Lv
section
variable{adj adj':Int->Int->Prop}{D:Int->Prop}{p:Int}
end
end Lv
namespace Lw
open PySem L2 RS Lv
end Lw
namespace Lw
open PySem L2 RS Lv
section
variable{m:Nat}{ks:List (List Int)}
end
end Lw
namespace Lw
open PySem L2 RS Lv
mutual
def Kn(μ:aA):D->Prop
 |.tup xs=>xs.length<1000/\Kns μ xs
 |.obj n=>∃tn,Dj μ (.obj n)=some tn/\tn ≠ "int" /\ tn ≠ "bool" /\ tn ≠ "tuple"
 |_=>True
def Kns(μ:aA):List D->Prop
 |[]=>True
 |x::xs=>Kn μ x/\Kns μ xs
end
theorem wI{μ:aA}:∀{xs:List D},Kns μ xs↔∀x∈xs,Kn μ x
 |[]=>by simp[Kns]
 |x::xs=>by simp[Kns,wI (xs:=xs)]
theorem Bv{μ g:aA}{n:Nat}{tn:String}(h:Dj μ (.obj n)=some tn):Dj (μ++g) (.obj n)=some tn:=by
 unfold Dj at h⊢;dsimp only at h⊢;cases e:μ[n]? with
 |none=>rw[e]at h;cases h
 |some o=>rw[Ky (JR.mp e).1,e];rw[e]at h;exact h
mutual
theorem nE{μ:aA}(g:aA):∀{d:D},Kn μ d->Kn (μ++g) d
 |.non,_=>by simp[Kn]
 |.bl _,_=>by simp[Kn]
 |.int _,_=>by simp[Kn]
 |.str _,_=>by simp[Kn]
 |.frz _,_=>by simp[Kn]
 |.obj n,h=>by
  simp only[Kn]at h⊢;obtain⟨tn,h1,h2⟩:=h;exact⟨tn,Bv h1,h2⟩
 |.tup xs,h=>by
  simp only[Kn]at h⊢;exact⟨h.1,kns_more g h.2⟩
theorem kns_more{μ:aA}(g:aA):∀{xs:List D},Kns μ xs->Kns (μ++g) xs
 |[],_=>by simp[Kns]
 |x::xs,h=>by
  simp only[Kns]at h⊢;exact⟨nE g h.1,kns_more g h.2⟩
end
def isInt:D->Bool
 |.int _=>true
 |_=>false
def fU:D->Bool
 |.tup _=>true
 |_=>false
def dn(a b:Int):D->Bool
 |.int i=>decide (a<=i)&&decide (i<=b)
 |_=>false
theorem xW {μ:aA}{d:D} (h:Kn μ d):∃b,ip "int" d μ=.ok (.bl b) μ/\(b=true↔(isInt d=true\/∃c,d=.bl c)):=by
 cases d with
 |obj n=>
  simp only[Kn]at h;obtain⟨tn,h1,h2,h3,h4⟩:=h;refine⟨_,by unfold ip;rw[h1],?_⟩;simp[jc,isInt,h2,h3]
 |non=>exact⟨_,rfl,by simp[jc,isInt]⟩
 |bl b=>exact⟨_,rfl,by simp[jc,isInt]⟩
 |int b=>exact⟨_,rfl,by simp[jc,isInt]⟩
 |str b=>exact⟨_,rfl,by simp[jc,isInt]⟩
 |tup b=>exact⟨_,rfl,by simp[jc,isInt]⟩
 |frz b=>exact⟨_,rfl,by simp[jc,isInt]⟩
theorem AQ {μ:aA}{d:D} (h:Kn μ d):∃b,ip "bool" d μ=.ok (.bl b) μ/\(b=true↔∃c,d=.bl c):=by
 cases d with
 |obj n=>
  simp only[Kn]at h;obtain⟨tn,h1,h2,h3,h4⟩:=h;refine⟨_,by unfold ip;rw[h1],?_⟩;simp[jc,h2,h3]
 |non=>exact⟨_,rfl,by simp[jc]⟩
 |bl b=>exact⟨_,rfl,by simp[jc]⟩
 |int b=>exact⟨_,rfl,by simp[jc]⟩
 |str b=>exact⟨_,rfl,by simp[jc]⟩
 |tup b=>exact⟨_,rfl,by simp[jc]⟩
 |frz b=>exact⟨_,rfl,by simp[jc]⟩
theorem mi {μ:aA}{d:D} (h:Kn μ d):ip "tuple" d μ=.ok (.bl (fU d)) μ:=by
 cases d with
 |obj n=>
  simp only[Kn]at h;obtain⟨tn,h1,h2,h3,h4⟩:=h;unfold ip;rw[h1];simp[jc,fU,h4]
 |non=>rfl
 |bl b=>rfl
 |int b=>rfl
 |str b=>rfl
 |tup b=>rfl
 |frz b=>rfl
theorem oF{μ:aA}{d:D}(h:Kn μ d):gO [d] μ=.ok (.bl (isInt d)) μ:=by
 obtain⟨b1,e1,f1⟩:=xW h;obtain⟨b2,e2,f2⟩:=AQ h;unfold gO;rw[ig]
 have:(b1 && !b2)=isInt d:=by
  cases d <;> simp[isInt]at f1 f2⊢ <;> simp[f1,f2]
 simp[oX,e1,e2];cases b1 <;> cases b2 <;> simp at this⊢ <;> rw[<- this] <;> exact cb (by simp)
theorem gC{μ:aA}{d:D}(h:Kn μ d):bQ [d] μ=.ok (.bl (isInt d)) μ:=oF h
theorem sW{μ:aA}{d:D}{a b:Int}(h:Kn μ d):bU [d,.int a,.int b] μ=.ok (.bl (dn a b d)) μ:=by
 unfold bU;rw[Ga];simp[i3,oF h]
 cases d <;> simp[isInt,dn] <;> first
  |exact cb (by simp)
  |skip
 simp[cH];split <;> (rename_i hc;simp[hc];exact cb (by simp))
theorem u9{μ:aA}{d:D}{m:Int}(h:Kn μ d):gP [.int m,d] μ=.ok (.bl (dn 0 (m-1) d)) μ:=by
 unfold gP;rw[eS];simp[oY,sW h];exact cb (by simp)
theorem l9{μ:aA}{d:D}(h:Kn μ d):iE [d] μ=.ok (.bl (dn 1 6 d)) μ:=by
 unfold iE;rw[ig];simp[qM,sW h];exact cb (by simp)
def pk(m:Int):D->Bool
 |.tup xs=>xs.all (dn 0 (m-1))
 |_=>false
theorem A0{μ:aA}{xs:List D}{h:D->Bool}{e:ME}{c:D}(hl:xs.length<=sizeLine)(he:∀x∈xs,∀a,e [some x,some c] (μ++[.lst a])=.ok (.bl (h x)) (μ++[.lst a])) :
  compLoop (.fix xs) μ.length (ak 0) cc e xs [none,some c] (μ++[.lst []])=.ok (.obj μ.length) (μ++[.lst ((xs.map h).map D.bl)]):=by
 have:=fF (src:=.fix xs) (g:=ak 0) (t:=cc) (e:=e) (μ1:=μ) (q:=fun _=>true) (h:=fun x=>D.bl (h x)) (fun ρ=>∃o,ρ=[o,some c]) (fun _=>trivial) (xs:=xs) (acc:=[]) (ρ:=[none,some c]) ⟨none,rfl⟩ (by simpa using hl)
  (fun x hx a ρ ⟨o,ho⟩=>⟨[some x,some c],⟨_,rfl⟩,by subst ho;rfl,rfl,fun _=>he x hx a⟩)
 rw[this,NX.mpr (fun _ _=>rfl)];simp[LY,Function.comp_def]
theorem z5:1000<=sizeLine:=by decide
theorem xr{μ:aA}{d:D}{m:Int}(h:Kn μ d):f6 [.int m,d] μ=.ok (.bl (pk m d)) μ:=by
 unfold f6;rw[eS];simp[m7,mi h];cases d with
 |tup xs=>
  simp only[fU,KO,pk];simp;simp only[Kn]at h;rw[A0 (h:=dn 0 (m-1)) (JH (JI h.1) z5) fun x hx a=>?_]
  ·simp;rw[C7 (bs:=xs.map (dn 0 (m-1))) (by simp)];simp[List.all_map,Function.comp_def];exact ie (by simp)
  ·simp[j9];exact u9 (nE _ (wI.mp h.2 x hx))
 |non=>simp[fU,pk];exact cb (by simp)
 |bl b=>simp[fU,pk];exact cb (by simp)
 |int b=>simp[fU,pk];exact cb (by simp)
 |str b=>simp[fU,pk];exact cb (by simp)
 |frz b=>simp[fU,pk];exact cb (by simp)
 |obj b=>simp[fU,pk];exact cb (by simp)
def eN(m:Int)(d:D):Bool:=pk m d&&(match d with
 |.tup [.int a,.int b]=>a != b
 |_=>false)
theorem Aq{m:Int}{xs:List D}(h:pk m (.tup xs)=true):∃ns:List Int,xs=ns.map D.int/\∀n∈ns,0<=n/\n<=m-1:=by
 simp only[pk]at h
 induction xs with
 |nil=>exact⟨[],rfl,by simp⟩
 |cons x r ih=>
  rw[Ld,K4]at h;obtain⟨ns,e,f⟩:=ih h.2;cases x with
  |int i=>
   simp[dn]at h;exact⟨i::ns,by rw[e];rfl,fun n hn=>(JN.mp hn).elim (fun z=>by rw[z];exact h.1) (f n)⟩
  |non=>simp[dn]at h
  |bl b=>simp[dn]at h
  |str b=>simp[dn]at h
  |tup b=>simp[dn]at h
  |frz b=>simp[dn]at h
  |obj b=>simp[dn]at h
theorem l7{μ:aA}{d:D}{m:Int}(h:Kn μ d):iD [.int m,d] μ=.ok (.bl (eN m d)) μ:=by
 unfold iD;rw[eS];simp[qL,xr h];cases hp:pk m d with
 |false=>simp[eN,hp];exact cb (by simp)
 |true=>
  cases d with
  |tup xs=>
   obtain⟨ns,rfl,_⟩:=Aq hp;simp
   match ns with
   |[]=>simp[eN];exact cb (by simp)
   |[a]=>simp[eN];exact cb (by simp)
   |[a,b]=>
    simp only[Lx,L7,K7,K6];simp[lV (sO),lV (wc),eN,hp];simp at hp;rw[hp];simp[bne];exact cb (by simp)
   |a::b::c::r=>
    have:((r.length:Int)+1+1+1 == 2)=false:=by simp;omega
    simp[this,eN];exact cb (by simp)
  |non=>simp[pk]at hp
  |bl b=>simp[pk]at hp
  |int b=>simp[pk]at hp
  |str b=>simp[pk]at hp
  |frz b=>simp[pk]at hp
  |obj b=>simp[pk]at hp
theorem wo{x:DX}{μ:aA}{g:MS}:(SO.exc x μ).bind g=.exc x μ:=NG (NH _)
theorem tF{x:DX}{μ:aA}:(SO.exc x μ).out=.exc x μ:=NG (NH _)
theorem zy{x:DX}{μ μ':aA}:mF μ (.exc x μ')=.exc x μ':=NG (NH _)
theorem qB{c a:Str}{fr:MA}{ρ:Ro}{μ μ1:aA}{i:Int}(h:fr ρ μ=.ok [.int i] μ1):iM c a fr ρ μ=.exc ⟨c,[(a,i)]⟩ μ1:=by
 unfold iM;rw[h]
section
variable{μ:aA}{d:D}{t:Nat}
theorem Bt (hk:Kn μ d) (h:dn 1 6 d=false):cO [d,.obj t] μ=.exc ⟨"NoWeb",[("number",-1)]⟩ μ:=by
 unfold cO;rw[eS];simp only[ll,List.replicate];rw[aK,bp];simp only[cD,d8,aG,ar,aw,aj,aa,l9 hk,ag,h,cW,MK,ae,KO];rw[qB (i:=-1) (μ1:=μ) (by simp only[ar,aw,iu,bj,oi,aa])];rw[wo,tF,zy]
abbrev wG:MG:=fV 2 (bA (ak 2) (bA (ak 3) (fW)))
theorem rl{m:Int}{k:Nat}{x:D}{o2 o3:Option D}:wG (.tup [.int (k:Int),x]) [some (.int m),some (.obj t),o2,o3] μ=.ok [some (.int m),some (.obj t),some (.int (k:Int)),some x] μ:=rfl
theorem wd{m:Int}{all:List D}(ht:μ[t]?=some (.lst all)):∀(ts:List D)(k:Nat)(o2 o3:Option D),(∀x∈ts,Kn μ x/\eN m x=true) ->
  ∃b2 b3,d7 (.eno t all) wG ck (gn k ts) [some (.int m),some (.obj t),o2,o3] μ=.next [some (.int m),some (.obj t),b2,b3] μ
 |[],k,o2,o3,_=>⟨o2,o3,by
  simp only[gn];unfold d7
  rw[Jz (show bW (.eno t all) μ from ht)]⟩
 |x::ts,k,o2,o3,h=>by
  obtain⟨b2,b3,e⟩:=wd ht ts (k+1) (some (.int (k:Int))) (some x) fun y hy=>h y (JL _ hy);obtain⟨hk,hp⟩:=h x JK;refine⟨b2,b3,?_⟩;simp only[gn];unfold d7;rw[Jz (show bW (.eno t all) μ from ht),rl];simp only[ae]
  have e1:ck [some (.int m),some (.obj t),some (.int (k:Int)),some x] μ=.next [some (.int m),some (.obj t),some (.int (k:Int)),some x] μ:=by
   unfold ck;simp only[bp,cD,d8,aG,ar,aw,aj,ao,aa,ag,l7 hk,hp,cW,My,ae,Lu,KN,bF]
  rw[e1];exact e
theorem zd{m:Int}{all:List D}(ht:μ[t]?=some (.lst all)){x:D}{bs:List D}(hx:Kn μ x)(hb:eN m x=false):∀(as:List D)(k:Nat)(o2 o3:Option D),(∀y∈as,Kn μ y/\eN m y=true) ->
  d7 (.eno t all) wG ck (gn k (as++x::bs)) [some (.int m),some (.obj t),o2,o3] μ=.exc ⟨"NoWeb",[("number",((k+as.length:Nat):Int))]⟩ μ
 |[],k,o2,o3,_=>by
  simp only[Lo,gn,L7,Nat.add_zero];unfold d7;rw[Jz (show bW (.eno t all) μ from ht),rl];simp only[ae]
  have e1:ck [some (.int m),some (.obj t),some (.int (k:Int)),some x] μ=.exc ⟨"NoWeb",[("number",(k:Int))]⟩ μ:=by
   unfold ck;simp only[bp,cD,d8,aG,ar,aw,aj,ao,aa,ag,l7 hx,hb,cW,MK,ae,KO];exact qB (by simp only[ar,aw,aj,ao,aa])
  rw[e1];rfl
 |y::as,k,o2,o3,h=>by
  have e:=zd (bs:=bs) ht hx hb as (k+1) (some (.int (k:Int))) (some y) fun z hz=>h z (JL _ hz);obtain⟨hk,hp⟩:=h y JK;simp only[L9,gn,Lx];unfold d7;rw[Jz (show bW (.eno t all) μ from ht),rl];simp only[ae]
  have e1:ck [some (.int m),some (.obj t),some (.int (k:Int)),some y] μ=.next [some (.int m),some (.obj t),some (.int (k:Int)),some y] μ:=by
   unfold ck;simp only[bp,cD,d8,aG,ar,aw,aj,ao,aa,ag,l7 hk,hp,cW,My,ae,Lu,KN,bF]
  rw[e1];rw[show k+(as.length+1)=k+1+as.length from by omega];exact e
theorem Ea{m:Int}{as bs:List D}{x:D}(h1:1<=m)(h6:m<=6)(ht:μ[t]?=some (.lst (as++x::bs)))(ha:∀y∈as,Kn μ y/\eN m y=true)(hx:Kn μ x)(hb:eN m x=false) :
  cO [.int m,.obj t] μ=.exc ⟨"NoWeb",[("number",(as.length:Int))]⟩ μ:=by
 have hm:Kn μ (.int m):=by simp[Kn]
 have hr:dn 1 6 (.int m)=true:=by simp only[dn,K4,NK];omega
 have e:=zd (bs:=bs) ht hx hb as 0 none none ha;rw[Mt]at e;unfold cO;rw[eS];simp only[ll,List.replicate];rw[aK,bp];simp only[cD,d8,aG,ar,aw,aj,aa,l9 hm,ag,hr,cW,My,ae,Lu,KN,bF,aC];rw[aK,gk];simp only[cK,ar,aw,aj,ao,aa];rw[show mO [.obj t] μ=.ok (.eno t (as++x::bs)) μ from by unfold mO;simp[ht]];simp only[ae];rw[show d7 (.eno t (as++x::bs)) (fV 2 (bA (ak 2) (bA (ak 3) (fW)))) ck (nu.eno t (as++x::bs)).items [some (.int m),some (.obj t),none,none] μ=_ from e];rw[wo,tF,zy]
end
theorem uU {subs:List Str}{n:Nat}{fs:List (Str×Int)}{μ:aA} (h:μ[n]?=some (.exn "NoWeb" fs)):km subs ["NoWeb"] (.obj n) μ=.ok (.bl (subs.contains "NoWeb")) μ:=by
 unfold km;dsimp only;rw[h];dsimp only;rw[Jz (by decide +kernel)]
theorem yX {n:Nat}{i:Int}{μ:aA} (h:μ[n]?=some (.exn "NoWeb" [("number",i)])):mR ["NoWeb"] "number" (.obj n) μ=.ok (.int i) μ:=by
 unfold mR;dsimp only;rw[h];dsimp only;rw[Jz (by decide +kernel)];rw[show List.lookup ("number" : Str) [("number",i)]=some i from by simp[Lr]]
theorem nK{μ:aA}{a b:Nat}{xs ys:List D}(h:μ[a]?=some (.lst xs))(g:μ[b]?=some (.lst ys))(hn:xs.length+ys.length<=1000000):cv (.obj a) (.obj b) μ=.ok (.obj μ.length) (μ++[.lst (xs++ys)]):=by
 unfold cv;simp only[h,g];rw[Jz (JH hn (by decide))]
theorem l4:(4:Nat)<=sizeLine:=by decide
theorem l8:(8:Nat)<=sizeLine:=by decide
abbrev nX:List D:=[.str "place",.str "number",.str "line",.str "root",.str "tree",.str "web",.str "text",.str "great"]
abbrev kA:List D:=[D.bl false,D.bl false,D.bl false,D.bl false]
abbrev kB:List D:=[D.bl false,D.bl true,D.bl false,D.bl false]
abbrev kR(μ:aA):aA:=μ++[O.lst kA]++[O.lst kB]
abbrev kS(μ:aA):aA:=kR μ++[O.lst (kA++kB)]
theorem Dt {μ:aA}{n:Nat}{fs:List (Str×Int)} (h:μ[n]?=some (.exn "NoWeb" fs)):cq [.obj n] μ=.ok (.str "web") μ:=by
 have h1:(μ++[O.lst kA])[n]?=some (.exn "NoWeb" fs):=aR h;have h2:(kR μ)[n]?=some (.exn "NoWeb" fs):=aR h1;have h3:(kS μ)[n]?=some (.exn "NoWeb" fs):=aR h2;have m3:(kS μ)[(kR μ).length]?=some (.lst (kA++kB)):=ay;have m4:(kS μ++[O.lst nX])[(kR μ).length]?=some (.lst (kA++kB)):=aR m3;have k4:(kS μ++[O.lst nX])[(kS μ).length]?=some (.lst nX):=ay;have a1:=nK (μ:=kR μ) (a:=μ.length) (b:=(μ++[O.lst kA]).length) (xs:=kA) (ys:=kB) (aR ay) ay (show 8<=1000000 by decide)
 have c1:jL (.obj (kR μ).length) [.bl true] (kS μ)=.ok (.int 1) (kS μ):=by
  unfold jL;dsimp only;rw[m3];rfl
 have i1:jK (.obj (kR μ).length) [.bl true] (kS μ++[O.lst nX])=.ok (.int 5) (kS μ++[O.lst nX]):=by
  unfold jK;dsimp only;rw[m4];dsimp only;rw[Jz ⟨by rfl,by simp,by rfl⟩];rfl
 have e3:so (.obj (kR μ).length) (kS μ)=true:=by unfold so;dsimp only;rw[m3]
 have e4:so (.obj (kR μ).length) (kS μ++[O.lst nX])=true:=by unfold so;dsimp only;rw[m4]
 have ct:((["NoWeb"]:List Str).contains "NoWeb")=true:=by decide +kernel
 have c0:(([]:List Str).contains "NoWeb")=false:=rfl;unfold cq;rw[ig];simp only[jE,List.replicate,aK,aY,cJ,ar,aw,iu,aj,aa,ag,uU h,ct,c0];rw[Jz (show kA.length<=sizeLine from l4)];simp only[ae,ag];rw[show ak 1 (D.obj μ.length) [some (D.obj n),none] (μ++[O.lst kA])=.ok [some (D.obj n),some (D.obj μ.length)] (μ++[O.lst kA]) from rfl];simp only[ae,aC,aK,aY,aH,cJ,ar,aw,iu,aj,ao,aa,ag,uU h1,ct,c0];rw[Jz (show kB.length<=sizeLine from l4)];simp only[aa,ag];rw[a1];simp only[ae,ag];rw[show ak 1 (D.obj (kR μ).length) [some (D.obj n),some (D.obj μ.length)] (kS μ)=.ok [some (D.obj n),some (D.obj (kR μ).length)] (kS μ) from rfl];simp only[ae,aC,aK,bp,jq,cD,d8,iu,aH,ar,aw,aj,ao,bj,aa,ag,uU h3,ct,c0,cW,My,Lu,KN];unfold fL;simp only[aH,mM,ar,aw,aj,ao,bj,aa,ag,e3,KO,c1,cw,bg];rw[show (!((1:Int) == 1))=false from rfl];simp only[ae,Lu,KN,bF,aC,cI,aH,cJ,ar,aw,bj,aa,ag];rw[Jz (show [D.str "place",D.str "number",D.str "line",D.str "root",D.str "tree",D.str "web",D.str "text",D.str "great"].length<=sizeLine from l8)];simp only[aa,ag,mM,ar,aw,ao,aj,bj,e4,KO,i1];rw[fA (xs:=nX) (d:=.str "web") k4 (by rfl)];simp only[ae,ag,bP,Lj];exact ie (by simp)
end Lw
namespace Lw
open PySem L2 RS Lv
section
variable{known:List Str}{i:Nat}{st:Ro->D->Ro}{F:List D->aA->ai D}{fr:MA}{fh:MS}{ρ:Ro}{μ μ1 μ2:aA}{ds:List D}
theorem wN{x:DX}(h1:fr ρ μ=.ok ds μ1)(h2:F ds μ1=.exc x μ2)(hk:known.contains x.cls=true):jh known i st F fr fh ρ μ=L2.tryEnd i (fh (ρ.set i (some (.obj μ2.length))) (μ2++[DN x])):=by
 unfold jh;rw[h1];dsimp only;rw[h2];dsimp only;rw[Jz hk]
theorem C6{d:D}(h1:fr ρ μ=.ok ds μ1)(h2:F ds μ1=.ok d μ2):jh known i st F fr fh ρ μ=.next (st ρ d) μ2:=by
 unfold jh;rw[h1];dsimp only;rw[h2]
end
theorem rH{μ:aA}{x:D}{p:PyData}{neg:Bool}(e:sk μ x=some p)(f:ik p=true):eQ neg x x μ=.ok (.bl (!neg)) μ:=by
 unfold eQ;rw[e];dsimp only;rw[Jz ⟨f,f⟩,SeqAt.eqv_refl _ (fX f)];cases neg <;> rfl
theorem wM:ik (.str "web")=true:=by decide +kernel
theorem zV{μ:aA}{d:D}(hk:Kn μ d)(h:dn 1 6 d=false):cR [d] μ=.ok (.bl true) μ:=by
 let M1:aA:=μ++[O.lst [.non]]
 have w:=Bt (t:=μ.length) (nE [O.lst [.non]] hk) h;let M2:aA:=M1++[O.exn "NoWeb" [("number",-1)]]
 have x2:M2[M1.length]?=some (.exn "NoWeb" [("number",-1)]):=ay;have n1:0+1<=sizeLine:=by decide
 have e:fJ [some d,none] μ=.ret (.bl true) M2:=by
  unfold fJ
  rw[aK,wN (ds:=[d,.obj μ.length]) (μ1:=M1) (μ2:=M1) (x:=⟨"NoWeb",[("number",-1)]⟩) (by
   simp only[ar,aw,cJ,aj,ao,bj,aa,Lx,L7,Jz n1]
   rfl) w (by decide +kernel)]
  have hs:dc [some d,some (.obj M1.length)] M2=.ret (.bl true) M2:=by
   unfold dc;rw[cI];simp only[wV,aH,iu,aG,ar,aw,aj,ao,bj,oi,aa,Dt x2];rw[show eQ false (.str "web") (.str "web") M2=.ok (.bl true) M2 from rH (p:=.str "web") rfl wM];simp only[aa,bg,KO,yX x2,gC (μ:=M2) (d:=.int (-1)) (by simp[Kn])];rfl
  show (L2.tryEnd 1 (dc [some d,some (.obj M1.length)] M2)).bind _=_;rw[hs];rfl
 unfold cR;rw[ig];simp only[List.replicate];rw[e,bP];have e2:M2=μ++([O.lst [.non]]++[O.exn "NoWeb" [("number",-1)]]):=by simp only[M2,M1,Lj]
 rw[e2];exact ie (by simp)
end Lw
namespace Lw
open PySem L2 RS Lv
theorem DF{a b:Int}{μ:aA}:eQ false (.int a) (.int b) μ=.ok (.bl (a == b)) μ:=by
 have:=cw (neg:=false) (i:=a) (j:=b) (μ:=μ);simpa using this
section
variable{μ:aA}{m:Int}{t k:Nat}{all:List D}{o2 o4:Option D}{x:D}
theorem Da(hk:Kn μ x)(hb:eN m x=false)(ht:μ[t]?=some (.lst all))(hx:all[k]?=some x) :
  cG [some (.int m),some (.obj t),o2,some (.int (k:Int)),o4] μ=.ret (.tup [.int (k:Int),.non]) μ:=by
 have n2:0+1+1<=sizeLine:=by decide
 have hat:atI all (k:Int)=some x:=lY (by omega) (by rw[KM];exact hx);unfold cG;rw[aK,aY];simp only[aH,aj,ao,aa];rw[fA ht hat];simp only[ae,bL,aC,NV,NW];rw[aK,bp];simp only[jq,cD,d8,iu,aj,ao,aa,mi hk,cW]
 have rt:∀ρ:Ro,ρ[3]?=some (some (.int (k:Int)))->bV (bT (af (ah 3) (af (cC .non) av))) ρ μ=.ret (.tup [.int (k:Int),.non]) μ:=fun ρ h=>by
  rw[cI];simp only[bY,ar,aw,bj,aa];unfold ah;rw[h];simp only[aa,Lx,L7,Jz n2,ae]
 cases x with
 |tup xs=>
  have hks:Kns μ xs:=by simp only[Kn]at hk;exact hk.2
  simp only[fU,My,Lu,KN,cz,aH,aG,ar,aw,aj,ao,bj,aa,rG,cw,bg];by_cases hl:xs.length=2
  ·obtain⟨a,b,rfl⟩:∃a b,xs=[a,b]:=by
    match xs,hl with
    |[a,b],_=>exact⟨a,b,rfl⟩
   have ka:Kn μ a:=by simp only[Kns]at hks;exact hks.1
   have kb:Kn μ b:=by simp only[Kns]at hks;exact hks.2.1
   rw[show (((([a,b]:List D).length:Nat):Int) == 2)=true from rfl];simp only[My,Lu,KN,dG,gp,aa,gC ka,gC kb,cW];simp only[KO,Lu,KN];cases ha:isInt a with
   |false=>
    simp only[MK,KO,ae];rw[rt _ rfl];rfl
   |true=>
    cases hb2:isInt b with
    |false=>
     simp only[My,MK,Lu,KN,KO,ae];rw[rt _ rfl];rfl
    |true=>
     obtain⟨i,rfl⟩:∃i,a=.int i:=by cases a <;> first|exact⟨_,rfl⟩|cases ha
     obtain⟨j,rfl⟩:∃j,b=.int j:=by cases b <;> first|exact⟨_,rfl⟩|cases hb2
     simp only[My,Lu,KN,ae,bF,aC];rw[aK,bp];simp only[jq,cD,cz,aH,tW,bj,aj,ao,aa,dG,gp,eT,bg,DF]
     have A:∀z:Int,(if cH .LtE 0 z=true then ai.ok (D.bl (cH .Lt z m)) μ else ai.ok (D.bl false) μ)=ai.ok (D.bl (decide (0<=z/\z<m))) μ:=fun z=>by
      by_cases h0:0<=z
      ·rw[Jz (show cH .LtE 0 z=true from Lp h0),show cH .Lt z m=decide (z<m) from rfl];congr 2;simp[h0]
      ·rw[JA (show ¬ cH .LtE 0 z=true from by rw[show cH .LtE 0 z=decide (0<=z) from rfl];simpa using h0)];congr 2;simp[h0]
     rw[A i];simp only[aa,bg];by_cases hi:0<=i/\i<m
     ·rw [Lp hi];simp only[My,Lu,KN,A j,aa,bg];by_cases hj:0<=j/\j<m
      ·rw [Lp hj]
       have hij:(i == j)=true:=by
        simp only[eN,pk,Ld,List.all_nil,dn,Bool.and_true]at hb;rw[N5]at hb;rcases hb with hb|hb
        ·exfalso;rw[N5]at hb;rcases hb with hb|hb <;> simp only[N5,decide_eq_false_iff_not]at hb <;> omega
        ·simpa using hb
       simp only[My,Lu,KN,aa,hij,ae,KO];rw[rt _ rfl];rfl
      ·rw[Jx hj];simp only[MK,KO,aa,ae];rw[rt _ rfl];rfl
     ·rw[Jx hi];simp only[MK,KO,aa,ae];rw[rt _ rfl];rfl
  ·rw[show ((xs.length:Int) == 2)=false from by simp;omega];simp only[MK,KO,ae];rw[rt _ rfl];rfl
 |non=>
  simp only[fU,MK,KO,ae];rw[rt _ rfl];rfl
 |bl b=>
  simp only[fU,MK,KO,ae];rw[rt _ rfl];rfl
 |int b=>
  simp only[fU,MK,KO,ae];rw[rt _ rfl];rfl
 |str b=>
  simp only[fU,MK,KO,ae];rw[rt _ rfl];rfl
 |frz b=>
  simp only[fU,MK,KO,ae];rw[rt _ rfl];rfl
 |obj b=>
  simp only[fU,MK,KO,ae];rw[rt _ rfl];rfl
end
end Lw
namespace Lw
open PySem L2 RS Lv
section
variable{μ:aA}{m i j:Int}{t k f:Nat}{all acc:List D}{o4:Option D}
theorem AX(hi:0<=i/\i<m)(hj:0<=j/\j<m)(hij:i≠j)(ht:μ[t]?=some (.lst all))(hx:all[k]?=some (.tup [.int i,.int j]))(hf:μ[f]?=some (.lst acc))(hl:acc.length<1000) :
  cG [some (.int m),some (.obj t),some (.obj f),some (.int (k:Int)),o4] μ=.next [some (.int m),some (.obj t),some (.obj f),some (.int (k:Int)),some (.tup [.int i,.int j])] (μ.set f (.lst (acc++[.tup [.int (min i j),.int (max i j)]]))):=by
 have n2:0+1+1<=sizeLine:=by decide
 have hk:Kn μ (.tup [.int i,.int j]):=by simp[Kn,Kns]
 have hat:atI all (k:Int)=some (.tup [.int i,.int j]):=lY (by omega) (by rw[KM];exact hx);have il:so (.obj f) μ=true:=by unfold so;dsimp only;rw[hf]
 have ap:cL (.obj f) [.tup [.int (min i j),.int (max i j)]] μ=.ok .non (μ.set f (.lst (acc++[.tup [.int (min i j),.int (max i j)]]))):=by
  unfold cL;dsimp only;rw[hf];dsimp only;rw[Jz (JC hl dQ)]
 have ki:Kn μ (.int i):=by simp[Kn]
 have kj:Kn μ (.int j):=by simp[Kn]
 unfold cG;rw[aK,aY];simp only[aH,aj,ao,aa];rw[fA ht hat];simp only[ae,bL,aC,NV,NW];rw[aK,bp];simp only[jq,cD,d8,iu,aj,ao,aa,mi hk,cW];simp only[fU,My,Lu,KN,cz,aH,aG,ar,aw,aj,ao,bj,aa,rG,cw,bg];rw[show (((([.int i,.int j]:List D).length:Nat):Int) == 2)=true from rfl];simp only[My,Lu,KN,dG,gp,aa,gC ki,gC kj,cW,KO,isInt,ae,bF,aC];rw[aK,bp];simp only[jq,cD,cz,aH,tW,bj,aj,ao,aa,dG,gp,eT,bg,DF];rw[Jz (show cH .LtE 0 i=true from Lp hi.1),show cH .Lt i m=true from Lp hi.2];simp only[aa,bg,My,Lu,KN];rw[Jz (show cH .LtE 0 j=true from Lp hj.1),show cH .Lt j m=true from Lp hj.2];simp only[aa,bg,My,Lu,KN];rw[show (i == j)=false from by simpa using hij];simp only[ae,Lu,KN,bF,aC];simp only[nJ,mM,ar,aw,bY,aG,aj,ao,aa,il,KO,DS,DT,Lx,L7,Jz n2,ap,ae]
end
end Lw
namespace Lw
open PySem L2 RS Lv
def mm(p:Int×Int):List Int:=[min p.1 p.2,max p.1 p.2]
def PP(m:Int)(p:Int×Int):Prop:=(0<=p.1/\p.1<m)/\(0<=p.2/\p.2<m)/\p.1≠p.2
theorem PP.ok{m:Int}{p:Int×Int}(h:PP m p):nv m (mm p):=⟨_,_,rfl,by have:=h.1;have:=h.2.1;omega,by have:=h.2.2;omega,by have:=h.1;have:=h.2.1;omega⟩
theorem PP.pair{m:Int}{p:Int×Int}(h:PP m p):eN m (bq p)=true:=by
 obtain⟨h1,h2,h3⟩:=h;simp only[eN,pk,bq,Ld,List.all_nil,dn,Bool.and_true,K4,NK,bne_iff_ne];exact⟨⟨by omega,by omega⟩,h3⟩
theorem Cq{m:Int}{x:D}(h:eN m x=true):∃p,x=bq p/\PP m p:=by
 unfold eN at h;rw[K4]at h;obtain⟨h1,h2⟩:=h;split at h2
 ·rename_i a b;simp only[pk,Ld,List.all_nil,dn,Bool.and_true,K4,NK]at h1;exact⟨(a,b),rfl,by dsimp only;omega,by dsimp only;omega,bne_iff_ne.mp h2⟩
 ·cases h2
theorem yS{μ:aA}{p:Int×Int}:Kn μ (bq p):=by simp[bq,Kn,Kns]
section
variable{μ:aA}{m:Int}{t:Nat}{all:List D}
theorem rJ{X:List D}(ht:μ[t]?=some (.lst all)):∀(as:List (Int×Int))(k n:Nat)(acc:List D)(o3 o4:Option D)(bs:List D),(∀p∈as,PP m p)->all.drop k=as.map bq++bs->acc.length+as.length<1000 ->
  ∃o3' o4',d7 (.fix X) (ak 3) cG (br (k:Int) (as.length+n)) [some (.int m),some (.obj t),some (.obj μ.length),o3,o4] (μ++[.lst acc])=d7 (.fix X) (ak 3) cG (br ((k+as.length:Nat):Int) n) [some (.int m),some (.obj t),some (.obj μ.length),o3',o4'] (μ++[.lst (acc++(as.map mm).map aD)])/\all.drop (k+as.length)=bs
 |[],k,n,acc,o3,o4,bs,_,hd,_=>⟨o3,o4,by simp,by simpa using hd⟩
 |p::as,k,n,acc,o3,o4,bs,h,hd,hl=>by
  obtain⟨h1,h2,h3⟩:=h p JK
  have hx:all[k]?=some (bq p):=by
   have:=JY (fun l=>l[0]?) hd;simpa using this
  have hd2:all.drop (k+1)=as.map bq++bs:=by
   have:=JY (List.drop 1) hd;simpa[List.drop_drop] using this
  simp only[Lx]at hl;obtain⟨o3',o4',e1,e2⟩:=rJ (X:=X) ht as (k+1) n (acc++[aD (mm p)]) (some (.int (k:Int))) (some (bq p)) bs (fun q hq=>h q (JL _ hq)) hd2 (by simp;omega);refine⟨o3',o4',?_,by rw[<- e2];congr 1;simp;omega⟩;have g:=AX (o4:=o4) (k:=k) h1 h2 h3 (aR (g:=[.lst acc]) ht) hx (ay (μ1:=μ)) (by omega);refine Eq.trans ?_ (e1.trans ?_)
  ·rw [show (p :: as).length + n = (as.length + n) + 1 from by simp; omega, dH]
   conv=>lhs;unfold d7
   rw[Jz (show bW (.fix X) (μ++[.lst acc]) from trivial)];simp only[bL,NV,NW,ae];rw[g,js];rfl
  ·rw[show k+1+as.length=k+(p::as).length from by simp;omega];simp
theorem F8{M:aA}{ρ:Ro}{f:ME}{ks:List (List Int)}(kd:∀k∈ks,k∈prs)(hf:f ρ M=.ok (.obj t) M)(ht:M[t]?=some (.lst (ks.map aD))) :
  ax d9 (af (ax bR (af (ax kJ (af f av)) av)) av) ρ M=.ok (.tup ((eR ks).map aD)) (M++([.set (bZ ks)]++[.lst ((eR ks).map aD)])):=by
 simp only[aG,ar,aw,hf,aa];rw[show kJ [.obj t] M=.ok (.obj M.length) (M++[.set (bZ ks)]) from by unfold kJ;dsimp only;rw[ht];dsimp only;unfold nW;rw[k7 kd]];simp only[aa];rw[show bR [.obj M.length] (M++[.set (bZ ks)])=.ok (.obj (M++[O.set (bZ ks)]).length) ((M++[.set (bZ ks)])++[.lst ((eR ks).map aD)]) from by unfold bR;dsimp only;rw[ay];dsimp only;rw[hX]];simp only[aa];rw[g6 ay,Lj]
theorem zE{all:List D}{K:aA->SO}{n:Nat}(hl:all.length<500)(hn:all.length=n)(ht:μ[t]?=some (.lst all)){r:ai D}
  (e:mF μ ((d7 (.fix (br 0 n)) (ak 3) cG (br ((0:Nat):Int) n) [some (.int m),some (.obj t),some (.obj μ.length),none,none] (μ++[.lst []])).bind (bV (bT (af (cC .non) (af (bT (af (ah 0) (af (ax d9 (af (ax bR (af (ax kJ (af (ah 2) av)) av)) av)) av))) av))))).out=r) :
  dC [.int m,.obj t] μ=r:=by
 have z0:(0:Nat)<=sizeLine:=LG _;rw[<- e];unfold dC;rw[eS];simp only[pb,List.replicate];rw[aK,aY];simp only[cJ,aw,aa,L7,Jz z0,ae,bL,aC,NV,NW];rw[aK,gk];simp only[cK,ar,aw,aG,aj,ao,aa,nH (aR ht)];rw[fM (by omega) (by omega),ae,bH,show ((all.length:Int)).toNat=n from by omega];rfl
theorem Ez{ps:List (Int×Int)}(h1:1<=m)(m6:m<=6)(hl:ps.length<500)(ht:μ[t]?=some (.lst (ps.map bq)))(h:∀p∈ps,PP m p) :
  dC [.int m,.obj t] μ=.ok (.tup [.non,.tup [.int m,.tup ((eR (ps.map mm)).map aD)]]) μ:=by
 have hk:∀k∈ps.map mm,nv m k:=fun k hk=>by obtain⟨p,hp,rfl⟩:=Mc.mp hk;exact(h p hp).ok
 obtain⟨o3,o4,e,_⟩:=rJ (X:=br 0 ps.length) (m:=m) ht ps 0 0 [] none none [] h (by simp) (by simp;omega);refine zE (n:=ps.length) (K:=fun _=>.bad) (by rw[KE];exact hl) (KE ..) ht ?_;rw[Nat.add_zero]at e;rw[e,fC];unfold d7;rw[Jz (show bW (.fix _) _ from trivial),aC,cI,Lo];rw[bY,ar,bj,aa,ar,bY,ar,aj,aa,ar,F8 (t:=μ.length) (ks:=ps.map mm) (fun k z=>(hk k z).prs m6) rfl ay];simp only[aw,aa,Lx,L7,Jz l2,ae,bP];rw[Lj];have lw:=k9 (n:=μ.length) (fZ h1 m6 hk);exact ie (by simp only[D.low,D.lows]at lw⊢;exact⟨trivial,lw,trivial⟩)
theorem BJ{ps:List (Int×Int)}{x:D}{bs:List D}(hl:ps.length+bs.length<400)(ht:μ[t]?=some (.lst (ps.map bq++x::bs)))(h:∀p∈ps,PP m p)(hx:Kn μ x)(hb:eN m x=false) :
  dC [.int m,.obj t] μ=.ok (.tup [.int (ps.length:Int),.non]) μ:=by
 obtain⟨o3,o4,e,e2⟩:=rJ (X:=br 0 (ps.length+(bs.length+1))) (m:=m) ht ps 0 (bs.length+1) [] none none (x::bs) h (by simp) (by simp;omega);refine zE (n:=ps.length+(bs.length+1)) (K:=fun _=>.bad) (by simp;omega) (by simp) ht ?_;rw[e,dH];unfold d7;rw[Jz (show bW (.fix _) _ from trivial)];simp only[bL,NV,NW,ae]
 rw[Da (nE [_] hx) hb (aR ht) (by
  have:=JY (fun l=>l[0]?) e2
  simpa using this),FH,n6,bP,Mt]
 exact ie (by simp[D.low,D.lows])
end
end Lw
namespace Lw
open PySem L2 RS Lv
section
variable{μ:aA}{m:Int}{t:Nat}
theorem sZ{M:aA}{xs:List D}(hm:m<=6)(ht:M[t]?=some (.lst xs)):∀(rs:List (Int×Int))(acc:List (List Int))(o:Option D),(∀p∈rs,PP m p) ->
  ∃o',jj (.own t xs) M.length (ak 0) cc iV (rs.map bq) [o] (M++[.set acc])=.ok [o'] (M++[.set ((rs.map mm).foldl ku acc)])
 |[],acc,o,_=>by
  refine⟨o,?_⟩;rw[K6];unfold jj;rw[Jz (show bW (.own t xs) (M++[.set acc]) from aR ht)];rfl
 |p::rs,acc,o,h=>by
  obtain⟨o',e⟩:=sZ hm ht rs (ku acc (mm p)) (some (bq p)) fun q hq=>h q (JL _ hq);refine⟨o',?_⟩;have hp:=(h p JK).ok.prs hm
  have ee:iV M.length [some (bq p)] (M++[.set acc])=.ok [some (bq p)] (M++[.set (ku acc (mm p))]):=by
   unfold iV v3 oW bq;simp only[bY,ar,aw,aG,aj,aa,DS,DT,Lx,L7,Jz l2,ag];unfold Bj;rw[ay];dsimp only;rw[Jz (show [min p.1 p.2,max p.1 p.2]∈prs from hp)];simp only[aa,ag];rw[show (M++[O.set acc]).set M.length (O.set (ku acc [min p.1 p.2,max p.1 p.2]))=M++[O.set (ku acc [min p.1 p.2,max p.1 p.2])] from js];rfl
  rw[K7];unfold jj;rw[Jz (show bW (.own t xs) (M++[.set acc]) from aR ht)];rw[show ak 0 (bq p) [o] (M++[.set acc])=.ok [some (bq p)] (M++[.set acc]) from rfl];simp only[ag,aa];rw[show cc [some (bq p)] (M++[.set acc])=.ok true (M++[.set acc]) from rfl];simp only[ag,aa,KO];rw[ee];simp only[ag,aa];rw[e];rfl
theorem zS{ps:List (Int×Int)}(h0:1<=m)(hm:m<=6)(ht:μ[t]?=some (.lst (ps.map bq)))(hps:∀p∈ps,PP m p):cO [.int m,.obj t] μ=.ok (.tup [.int m,.tup ((eR (ps.map mm)).map aD)]) μ:=by
 have hks:∀k∈ps.map mm,nv m k:=fun k hk=>by obtain⟨p,hp,rfl⟩:=Mc.mp hk;exact(hps p hp).ok
 have hk:Kn μ (.int m):=by simp[Kn]
 have hr:dn 1 6 (.int m)=true:=by simp only[dn,K4,NK];omega
 obtain⟨b2,b3,run⟩:=wd (m:=m) ht (ps.map bq) 0 none none fun x hx=>by
  obtain⟨p,hp,rfl⟩:=Mc.mp hx;exact⟨yS,(hps p hp).pair⟩
 obtain⟨o',sl⟩:=sZ hm ht ps [] none hps;unfold cO;rw[eS];simp only[ll,List.replicate];rw[aK,bp];simp only[cD,d8,aG,ar,aw,aj,aa,l9 hk,ag,hr,cW,My,ae,Lu,KN,bF,aC];rw[aK,gk];simp only[cK,ar,aw,aj,ao,aa];rw[show mO [.obj t] μ=.ok (.eno t (ps.map bq)) μ from by unfold mO;simp[ht]];simp only[ae];rw[show d7 (.eno t (ps.map bq)) (fV 2 (bA (ak 2) (bA (ak 3) (fW)))) ck (nu.eno t (ps.map bq)).items [some (.int m),some (.obj t),none,none] μ=_ from run];simp only[aC,cI,bY,ar,aw,aG,aj,ao,aa];unfold rk;simp only[gq,ao,aj,aa,ag];rw[iO ht];simp only[aa,ag,fD];rw[show f9 [none] _=[none] from rfl,sl];simp only[aa,ag];rw[show (ps.map mm).foldl ku []=bZ (ps.map mm) from rfl]
 have s2:bR [.obj μ.length] (μ++[.set (bZ (ps.map mm))])=.ok (.obj (μ++[O.set (bZ (ps.map mm))]).length) ((μ++[.set (bZ (ps.map mm))])++[.lst ((eR (ps.map mm)).map aD)]):=by
  unfold bR;dsimp only;rw[ay];dsimp only;rw[hX]
 rw[s2];simp only[aa,ag];rw[g6 ay];simp only[aa,ag,Lx,L7,Jz l2,ae,bP];rw[Lj];exact ie (k9 (fZ (by omega) (by omega) hks))
end
theorem ma{a:Int}(h0:0<=a)(h1:a<7):PyData.showable (.int a)=true/\PyData.leavesShort 8 (.int a)=true/\PyData.weight (.int a)<=3:=by
 have:a=0\/a=1\/a=2\/a=3\/a=4\/a=5\/a=6:=by omega
 rcases this with rfl|rfl|rfl|rfl|rfl|rfl|rfl <;> decide +kernel
theorem oK{m:Int}{μ:aA}(hm:m<=6):∀{ks:List (List Int)},(∀k∈ks,nv m k)->jP (vP μ 3) (ks.map aD)=some (ks.map gJ)/\PyData.showableAll (ks.map gJ)=true/\PyData.leavesShortAll 8 (ks.map gJ)=true/\PyData.weightAll (ks.map gJ)<=9*ks.length
 |[],_=>by simp[PyData.showableAll,PyData.leavesShortAll,PyData.weightAll,jP]
 |k::ks,h=>by
  obtain⟨a,b,rfl,a0,ab,bm⟩:=h k JK;have ih:=oK (μ:=μ) hm fun x hx=>h x (JL _ hx);have ha:=ma (a:=a) a0 (by omega);have hb:=ma (a:=b) (by omega) (by omega);refine⟨by rw[K7,jP,ih.1];rfl,?_⟩;have ih:=ih.2;simp only[K7,K6,gJ,PyData.showableAll,PyData.leavesShortAll,PyData.weightAll,PyData.showable,PyData.leavesShort,PyData.weight]at ih ha hb⊢;refine⟨by simp only[ha.1,hb.1,ih.1,MD],by simp only[ha.2.1,hb.2.1,ih.2.1,MD],?_⟩;simp only[Lx];omega
theorem EO{μ:aA}{d:D}{m:Int}{ks:List (List Int)}(h:fv d m ks):fB [d] μ=.ok (.str (lN m ks).shown) μ:=by
 have hl:=la h;obtain⟨rfl,h0,h1,_,hk⟩:=h;obtain⟨e,s⟩:=oK (μ:=μ) h1 hk;have l:=jM hk;have si:=ma (a:=m) (by omega) (by omega)
 have g:vP μ 5 (.tup [.int m,.tup (ks.map aD)])=some (lN m ks):=by
  have g4:vP μ 4 (.tup (ks.map aD))=some (.tuple (ks.map gJ)):=by
   show (jP (vP μ 3) (ks.map aD)).map PyData.tuple=_;rw[e];rfl
  show (jP (vP μ 4) [.int m,.tup (ks.map aD)]).map PyData.tuple=_;simp only[jP];rw[g4];rfl
 have hy:(lN m ks).leavesShort 8=true:=by simp only[lN,PyData.leavesShort,PyData.leavesShortAll]at si⊢;simp only[si.2.1,s.2.1,MD]
 have hw:(lN m ks).weight<=1000:=by simp only[lN,PyData.weight,PyData.weightAll]at si⊢;have:=s.2.2;omega
 have hc:(lN m ks).canLay0=true:=by simp only[lN,PyData.canLay0,PyData.canLayAll0,l.1,MD]
 have hs:=PyData.shown_le 8 (Kc _) _ hy;have hz:(10008:Nat)<=sizeLine:=by decide
 have ok:nA (lN m ks)=true:=by
  unfold nA;rw[PyData.hasDict_of_canLay _ hc,Lp (show (lN m ks).shown.length<=sizeLine by omega)];rw[Lp (show (lN m ks).depth<=60 by simp only[lN,PyData.depth,PyData.depthAll];have:=l.2;omega)];simp only[lN,PyData.showable,PyData.showableAll]at si⊢;simp only[si.1,s.1,MD,MK,Bool.true_or]
 unfold fB;dsimp only;rw[g];dsimp only;rw[Jz ⟨rfl,ok⟩]
end Lw
namespace Lw
open PySem L2 RS Lv
def Th(M:aA)(x:D):Prop:=(∃q,(∀M',su M' x=some q/\Kn M' x)/\q.canLay0=true/\q.depth<=3)\/∃n,x=.obj n/\M[n]?=some (.lst [.int 0,.int 1])
section
variable{M μ:aA}{m:Int}{t:Nat}{x:D}{xs:List D}
theorem Th.keep{M':aA}(h:Th M x)(k:∀n:Nat,M[n]?=some (O.lst [.int 0,.int 1])->M'[n]?=some (O.lst [.int 0,.int 1])):Th M' x:=by
 rcases h with h|⟨n,e,g⟩
 ·exact .inl h
 ·exact .inr ⟨n,e,k n g⟩
theorem Th.more{g:aA}(h:Th M x):Th (M++g) x:=h.keep fun _ e=>aR e
theorem Th.kn(h:Th M x):Kn M x:=by
 rcases h with⟨q,h,_⟩|⟨n,rfl,g⟩
 ·exact(h M).2
 ·simp only[Kn];refine⟨"list",?_,by decide,by decide,by decide⟩;unfold Dj;dsimp only;rw[g]
theorem Th.fit(h:Th M x):∃q,su M x=some q/\q.canLay0=true/\q.depth<=3:=by
 rcases h with⟨q,h,h1,h2⟩|⟨n,rfl,g⟩
 ·exact⟨q,(h M).1,h1,h2⟩
 ·refine⟨.list [.int 0,.int 1],?_,by decide,by decide⟩;unfold su;dsimp only;rw[g];rfl
theorem wj:∀{xs:List D},(∀x∈xs,Th M x)->∃qs,ir M xs=some qs/\PyData.canLayAll0 qs=true/\PyData.depthAll qs<=3
 |[],_=>⟨[],rfl,rfl,by decide⟩
 |x::xs,h=>by
  obtain⟨q,e1,e2,e3⟩:=(h x JK).fit;obtain⟨qs,f1,f2,f3⟩:=wj fun y hy=>h y (JL _ hy);refine⟨q::qs,?_,?_,?_⟩
  ·simp only[ir,e1,f1,Option.bind_some,Option.map_some]
  ·simp only[PyData.canLayAll0,e2,f2,MD]
  ·simp only[PyData.depthAll];omega
theorem Dq{p:Int×Int}:Th M (bq p):=.inl ⟨.tuple [.int p.1,.int p.2],fun _=>⟨rfl,yS⟩,rfl,by simp only[PyData.depth,PyData.depthAll];decide⟩
theorem C8{a b:Nat}{neg:Bool}(ha:M[a]?=some (.lst xs))(hb:M[b]?=some (.lst xs))(h:∀x∈xs,Th M x):eQ neg (.obj a) (.obj b) M=.ok (.bl (!neg)) M:=by
 obtain⟨qs,e1,e2,e3⟩:=wj h
 have f:ik (.list qs)=true:=by
  simp only[ik,PyData.canLay0,PyData.depth,e2,Bool.true_and];exact Lp (by omega)
 have g:∀c:Nat,M[c]?=some (.lst xs)->sk M (.obj c)=some (.list qs):=fun c hc=>by
  unfold sk;dsimp only;rw[hc];dsimp only;rw[e1];rfl
 unfold eQ;rw[g a ha,g b hb];dsimp only;rw[Jz ⟨f,f⟩,SeqAt.eqv_refl _ (fX f)];cases neg <;> rfl
theorem qA:∀xs:List D,(∃ps:List (Int×Int),xs=ps.map bq/\∀p∈ps,PP m p)\/∃(ps:List (Int×Int))(x:D)(bs:List D),xs=ps.map bq++x::bs/\(∀p∈ps,PP m p)/\eN m x=false
 |[]=>.inl ⟨[],rfl,by simp⟩
 |x::xs=>by
  cases hb:eN m x with
  |false=>exact .inr ⟨[],x,xs,rfl,by simp,hb⟩
  |true=>
   obtain⟨p,rfl,hp⟩:=Cq hb
   have ad:∀ps:List (Int×Int),(∀q∈ps,PP m q)->∀q∈p::ps,PP m q:=fun ps h q hq=>by
    rcases JN.mp hq with rfl|hq
    ·exact hp
    ·exact h q hq
   rcases qA xs with⟨ps,e,h⟩|⟨ps,y,bs,e,h,h2⟩
   ·exact .inl ⟨p::ps,by rw[e];rfl,ad ps h⟩
   ·exact .inr ⟨p::ps,y,bs,by rw[e];rfl,ad ps h,h2⟩
theorem zi{g:aA}{num due told found:D}{o7:Option D}(hl:xs.length<300)(ht:μ[t]?=some (.lst xs))(hx:∀x∈xs,Th μ x)
  (e1:eQ true found num (μ++.lst xs::g)=.ok (.bl false) (μ++.lst xs::g))
  (e2:∀N:aA,uK (az (nP true) (ah 2) (cC .non)) (gK (i7 (ip "tuple") (ah 5)) (az (sA false) (ax fB (af (ah 5) av)) (ax fB (af (ah 3) av)))) [some (.int m),some (.obj t),some num,some due,some (.obj μ.length),some told,some found,o7] N=.ok (.bl true) N) :
  mF μ (bo (i5 (kr (fL (az (eQ true) (ah 4) (ah 1))) (fL (az (eQ true) (ah 6) (ah 2)))) (bV (cC (.bl false))) (cy))
   (bo (j4 (sr cL (ah 4) (af (cC .non) (av))))
   (bV (uK (az (nP true) (ah 2) (cC .non)) (gK (i7 (ip "tuple") (ah 5)) (az (sA false) (ax fB (af (ah 5) (av))) (ax fB (af (ah 3) (av)))))))) [some (.int m),some (.obj t),some num,some due,some (.obj μ.length),some told,some found,o7] (μ++.lst xs::g)).out=.ok (.bl true) μ:=by
 have il:so (.obj μ.length) (μ++.lst xs::g)=true:=by unfold so;dsimp only;rw[ay]
 have ap:cL (.obj μ.length) [.non] (μ++.lst xs::g)=.ok .non (μ++.lst (xs++[.non])::g):=by
  unfold cL;dsimp only;rw[ay];dsimp only;rw[Jz (JC (show xs.length<1000 by omega) dQ),js]
 rw[aK,bp];simp only[jq,cz,aH,aj,ao,aa,C8 (neg:=true) (ay (μ1:=μ) (g:=g)) (aR ht) (fun x z=>(hx x z).more),My,bg,Lu,KN,e1,ae,bF,aC];rw[aK,nJ];simp only[mM,ar,aw,bj,aj,ao,aa,il,KO,ap,ae,aC];rw[cI,e2,ae,bP];exact ie (by simp[D.low])
theorem wt{num due:D}{g:aA}{K:MS}(ht:μ[t]?=some (.lst xs))(e:dC [.int m,.obj t] μ=.ok (.tup [num,due]) μ){r:ai D}
  (h : mF μ ((jh ["NoWeb"] 7 (fun ρ d => ρ.set 5 (some d)) cO (af (ah 0) (af (ah 4) (av))) ff [some (.int m), some (.obj t), some num, some due, some (.obj μ.length), some .non, some .non, none] (μ ++ [.lst xs])).bind (bo (i5 (kr (fL (az (eQ true) (ah 4) (ah 1))) (fL (az (eQ true) (ah 6) (ah 2)))) (bV (cC (.bl false))) (cy))
   (bo (j4 (sr cL (ah 4) (af (cC .non) (av))))
   (bV (uK (az (nP true) (ah 2) (cC .non)) (gK (i7 (ip "tuple") (ah 5)) (az (sA false) (ax fB (af (ah 5) (av))) (ax fB (af (ah 3) (av)))))))))).out=r):aZ [.int m,.obj t] μ=r:=by
 rw[<- h];have dl:mP [.obj t] μ=.ok (.obj μ.length) (μ++[.lst xs]):=by unfold mP;dsimp only;rw[ht]
 unfold aZ;rw[eS];simp only[lE,List.replicate];rw[aK,aY];simp only[aG,ar,aw,aj,ao,aa,e,ae,wR,Lx,L7,KO,tV,bL,wU,aC,NV,NW];rw[aK,aY];simp only[aG,ar,aw,aj,ao,aa,dl,ae,bL,aC,NV,NW];rw[aK,aY];simp only[bj,ae,bL,aC,NV,NW];rw[aK,aY];simp only[bj,ae,bL,aC,NV,NW];rw[aK]
theorem kY(h1:1<=m)(m6:m<=6)(hl:xs.length<300)(ht:μ[t]?=some (.lst xs))(hx:∀x∈xs,Th μ x):aZ [.int m,.obj t] μ=.ok (.bl true) μ:=by
 rcases qA (m:=m) xs with⟨ps,rfl,h⟩|⟨ps,x,bs,rfl,h,hb⟩
 ·rw [KE] at hl;have hk:∀k∈ps.map mm,nv m k:=fun k hk=>by obtain⟨p,hp,rfl⟩:=Mc.mp hk;exact(h p hp).ok
  have gw:=fZ h1 m6 hk;refine wt (g:=[]) (K:=cy) ht (Ez h1 m6 (by omega) ht h) ?_;rw[C6 (ds:=[.int m,.obj μ.length]) (μ1:=μ++[.lst (ps.map bq)]) (by simp only[ar,aw,aj,ao,aa]) (zS h1 m6 ay h),aC];refine zi (g:=[]) (by rw[KE];exact hl) ht hx ?_ fun N=>?_
  ·exact rH (p:=.none) (neg:=true) rfl (by decide)
  ·simp only[zC,wV,aH,iu,aG,ar,aw,bj,aj,ao,aa,rh,D.isNon,KO,My,bg,Lu,KN];rw[show ip "tuple" (.tup [.int m,.tup ((eR (ps.map mm)).map aD)]) N=.ok (.bl true) N from rfl];simp only[aa,bg,KO,EO gw];unfold sA;dsimp only;rw[Lp rfl];rfl
 ·have hx2 := hx x (by simp);simp only[KD,KE,Lx]at hl;refine wt (g:=[]) (K:=cy) ht (BJ (by omega) ht h hx2.kn hb) ?_
  have w:=Ea (m:=m) (μ:=μ++[.lst (ps.map bq++x::bs)]) h1 m6 ay (fun y hy=>by
   obtain⟨p,hp,rfl⟩:=Mc.mp hy
   exact⟨yS,(h p hp).pair⟩) hx2.more.kn hb
  rw[KE]at w;generalize hM:μ++[O.lst (ps.map bq++x::bs)]=M1 at w;rw[wN (F:=cO) (ds:=[.int m,.obj μ.length]) (μ1:=M1) (μ2:=M1) (x:=⟨"NoWeb",[("number",(ps.length:Int))]⟩) (by simp only[ar,aw,aj,ao,aa]) w (show (["NoWeb"]:List Str).contains ("NoWeb" : Str)=true by decide +kernel)];have x2:(M1++[O.exn "NoWeb" [("number",(ps.length:Int))]])[M1.length]?=some (.exn "NoWeb" [("number",(ps.length:Int))]):=ay
  have hs:ff [some (.int m),some (.obj t),some (.int (ps.length:Int)),some .non,some (.obj μ.length),some .non,some .non,some (.obj M1.length)] (M1++[O.exn "NoWeb" [("number",(ps.length:Int))]])=.next [some (.int m),some (.obj t),some (.int (ps.length:Int)),some .non,some (.obj μ.length),some .non,some (.int (ps.length:Int)),some (.obj M1.length)] (M1++[O.exn "NoWeb" [("number",(ps.length:Int))]]):=by
   have kw:∀N:aA,bQ [.int (ps.length:Int)] N=.ok (.bl true) N:=fun N=>gC (μ:=N) (by simp[Kn]);unfold ff;rw[aK,bp];simp only[jq,cD,d8,cz,aH,iu,aG,ar,aw,aj,ao,bj,aa,Dt x2];rw[rH (x:=.str "web") (p:=.str "web") (neg:=true) rfl wM];simp only[aa,bg,My,Lu,KN,yX x2,kw,isInt,cW,ae,bF,aC];rw[aY,iu];simp only[aj,ao,aa,yX x2,ae,bL,NV,NW]
  refine(JY (fun o=>mF μ ((L2.tryEnd 7 o).bind _).out) hs).trans ?_;rw[<- hM,Lj];refine zi (g:=[O.exn "NoWeb" [("number",(ps.length:Int))]]) (xs:=ps.map bq++x::bs) (o7:=none) (by simp;omega) ht hx ?_ fun N=>?_
  ·rw[cw];simp
  ·simp only[zC,aH,bj,aj,ao,aa,rh,D.isNon,KO,MK,bg]
end
def Kq(P:Nat)(M0 M:aA):Prop:=(∃a b c,M[P]?=some (bI a b c))/\∀(j:Nat)(o:O),j≠P->M0[j]?=some o->M[j]?=some o
section
variable{P t L F:Nat}{M0 M M' g:aA}{o:O}{x:D}{xs:List D}{m:Int}
theorem Kq.app(h:Kq P M0 M):Kq P M0 (M++g):=⟨by obtain⟨a,b,c,e⟩:=h.1;exact⟨a,b,c,aR e⟩,fun j o n q=>aR (h.2 j o n q)⟩
theorem Kq.set(h:Kq P M0 M)(h1:t≠P)(h2:M0.length<=t):Kq P M0 (M.set t o):=
 ⟨by obtain ⟨a, b, c, e⟩ := h.1; exact ⟨a, b, c, by rw [JU h1]; exact e⟩, fun j o' n q => by
  have hj:=(JR.mp q).1;rw[JU (by omega)]
  exact h.2 j o' n q⟩
theorem Kq.trans{M1:aA}(h:Kq P M0 M1)(h':Kq P M1 M):Kq P M0 M:=⟨h'.1,fun j o n q=>h'.2 j o n (h.2 j o n q)⟩
theorem Kq.lt(h:Kq P M0 M):P<M.length:=by
 obtain⟨⟨a,b,c,e⟩,_⟩:=h;exact(JR.mp e).1
theorem Kq.pen(h:Kq P M0 M){a b c:Int}:Kq P M0 (M.set P (bI a b c)):=⟨⟨a,b,c,iN h.lt⟩,fun j o n q=>by rw[JU (JO n)];exact h.2 j o n q⟩
theorem Kq.self{a b c:Int}(h:M[P]?=some (bI a b c)):Kq P M M:=⟨⟨a,b,c,h⟩,fun _ _ _ e=>e⟩
theorem Kq.draw(h:Kq P M0 M){k:Int}(h0:0<k)(h1:k<1000):∃(r:Int)(M':aA),0<=r/\r<k/\aF [.obj P,.int k] M=.ok (.int r) M'/\Kq P M0 M'/\(∀(j:Nat)(o:O),j≠P->M[j]?=some o->M'[j]?=some o):=by
 obtain⟨a,b,c,e⟩:=h.1;obtain⟨r,a',b',c',r0,r1,er⟩:=rA e h0 h1;exact⟨r,_,r0,r1,er,h.pen,fun j o n q=>by rw[JU (JO n)];exact q⟩
theorem Th.kq(h:Th M x)(k:Kq P M M')(hp:∃a b c,M[P]?=some (bI a b c)):Th M' x:=h.keep fun n e=>k.2 n _ (by
 rintro rfl
 obtain⟨a,b,c,e2⟩:=hp;rw[e2]at e;injection e with e
 unfold bI at e;injection e with e
 simp at e) e
theorem DJ(h:M[t]?=some (.lst xs))(hl:xs.length<1000):cL (.obj t) [x] M=.ok .non (M.set t (.lst (xs++[x]))):=by
 unfold cL;dsimp only;rw[h];dsimp only;rw[Jz (JC hl dQ)]
theorem DU(h:M[t]?=some (.lst xs)):so (.obj t) M=true:=by unfold so;dsimp only;rw[h]
theorem uQ(h:M[t]?=some o){o':O}:(M.set t o')[t]?=some o':=iN (JR.mp h).1
theorem wH{ks:List (List Int)}{ρ:Ro}(hv:ah 2 ρ M=.ok (.obj L) M)(h:M[L]?=some (.lst (ks.map aD)))(hk:∀k∈ks,nv m k) :
  fL (az (eQ true) (ah 2) (dy av)) ρ M=.ok (!ks.isEmpty) (M++[.lst []]):=by
 have z0:(0:Nat)<=sizeLine:=LG _;simp only[cz,aH,hv,cJ,aw,aa,L7,Jz z0];have l:=jM hk
 have f:ik (.list (ks.map gJ))=true:=by
  simp only[ik,PyData.canLay0,l.1,PyData.depth,Bool.true_and];exact Lp (by omega)
 have e1:sk (M++[.lst []]) (.obj L)=some (.list (ks.map gJ)):=by
  unfold sk;dsimp only;rw[aR h];dsimp only;rw[mh hk];rfl
 have e2:sk (M++[.lst []]) (.obj M.length)=some (.list []):=by
  unfold sk;dsimp only;rw[ay];rfl
 rw[show eQ true (.obj L) (.obj M.length) (M++[.lst []])=.ok (.bl (!ks.isEmpty)) (M++[.lst []]) from by
  unfold eQ;rw[e1,e2];dsimp only;rw[Jz ⟨f,by decide⟩];congr 2;cases ks with
  |nil=>rfl
  |cons k ks=>simp[PyData.eqv,PyData.eqvAll]]
 simp only[aa,bg]
theorem CK{ks:List (List Int)}{ps:List (Int×Int)}{o0 o4:Option D}(h:Kq P M0 M)(hL:M[L]?=some (.lst (ks.map aD)))(hF:M[F]?=some (.lst (ps.map bq)))(l0:M0.length<=L)(f0:M0.length<=F)(lf:L≠F)(lp:L≠P)(fp:F≠P)
  (hk:∀k∈ks,nv m k) (hp:∀p∈ps,PP m p) (hn:ks≠[]) (hl:ks.length<100) (hs:ps.length<500) :
  ∃(k4:Option D)(ks':List (List Int))(ps':List (Int×Int))(M':aA),dE [o0,some (.obj P),some (.obj L),some (.obj F),o4] M=.next [o0,some (.obj P),some (.obj L),some (.obj F),k4] M'/\Kq P M0 M'/\M'[L]?=some (.lst (ks'.map aD))/\M'[F]?=some (.lst (ps'.map bq))/\ks'.length+1=ks.length/\ps'.length<=ps.length+2/\(∀k∈ks',nv m k)/\(∀p∈ps',PP m p):=by
 have k0:0<ks.length:=by cases ks with|nil=>exact absurd rfl hn|cons _ _=>simp
 obtain⟨r,M1,r0,r1,er,q1,u1⟩:=h.draw (k:=(ks.length:Int)) (by omega) (by omega);have hr:r.toNat<ks.length:=by omega
 obtain⟨a,b,ek,a0,ab,bm⟩:=hk _ (Nr hr)
 have pop:jr (.obj L) [.int r] M1=.ok (bq (a,b)) (M1.set L (.lst ((ks.eraseIdx r.toNat).map aD))):=by
  unfold jr;dsimp only;rw[u1 L _ lp hL];dsimp only;rw[og r0 (by rw[KE];omega)];dsimp only;rw[KA,Nt hr,ek];dsimp only[Option.map_some];rw[Jz ⟨by omega,by omega⟩,ml];rfl
 generalize hM2:M1.set L (.lst ((ks.eraseIdx r.toNat).map aD))=M2 at pop;have q2:Kq P M0 M2:=hM2 ▸ q1.set lp l0;have L2:M2[L]?=some (.lst ((ks.eraseIdx r.toNat).map aD)):=hM2 ▸ uQ (u1 L _ lp hL);have F2:M2[F]?=some (.lst (ps.map bq)):=by rw[<- hM2,JU lf];exact u1 F _ fp hF
 obtain⟨s,M3,s0,s1,es,q3,u3⟩:=(q2.app (g:=[.lst [bq (a,b),bq (b,a)]])).draw (k:=2) (by omega) (by omega);have x3:M3[M2.length]?=some (.lst [bq (a,b),bq (b,a)]):=u3 _ _ (by have:=q2.lt;omega) ay
 obtain⟨p,hpp,ep⟩:∃p,PP m p/\atI [bq (a,b),bq (b,a)] s=some (bq p):=by
  have:s=0\/s=1:=by omega
  rcases this with rfl|rfl
  ·exact⟨(a,b),⟨⟨a0,by dsimp only;omega⟩,⟨by dsimp only;omega,bm⟩,by dsimp only;omega⟩,rfl⟩
  ·exact⟨(b,a),⟨⟨by dsimp only;omega,bm⟩,⟨a0,by dsimp only;omega⟩,by dsimp only;omega⟩,rfl⟩
 have F3:=u3 F _ fp (aR F2);have L3:=u3 L _ lp (aR L2);have a3:=DJ (x:=bq p) F3 (by rw[KE];omega);generalize hM4:M3.set F (.lst (ps.map bq++[bq p]))=M4 at a3;have q4:Kq P M0 M4:=hM4 ▸ q3.set fp f0;have L4:M4[L]?=some (.lst ((ks.eraseIdx r.toNat).map aD)):=by rw[<- hM4,JU (JO lf)];exact L3
 have F4:M4[F]?=some (.lst ((ps++[p]).map bq)):=by rw[<- hM4,Mj];exact uQ F3
 obtain⟨z,M5,z0,z1,ez,q5,u5⟩:=q4.draw (k:=6) (by omega) (by omega);have L5:=u5 L _ lp L4;have F5:=u5 F _ fp F4;have hab:PP m (a,b):=⟨⟨a0,by dsimp only;omega⟩,⟨by dsimp only;omega,bm⟩,by dsimp only;omega⟩;have er':(ks.eraseIdx r.toNat).length+1=ks.length:=by rw[List.length_eraseIdx_of_lt hr];omega
 have ke:∀k∈ks.eraseIdx r.toNat,nv m k:=fun k hk'=>hk k (List.mem_of_mem_eraseIdx hk')
 have pe:∀q∈ps++[p],PP m q:=fun q hq=>by
  rcases JP.mp hq with z|z
  ·exact hp q z
  ·rw[LH.mp z];exact hpp
 have body:dE [o0,some (.obj P),some (.obj L),some (.obj F),o4] M=i5 (fL (az (eQ false) (ax aF (af (ah 1) (af (cC (.int 6)) (av)))) (cC (.int 0)))) (j4 (sr cL (ah 3) (af (ah 4) (av)))) (cy) [o0,some (.obj P),some (.obj L),some (.obj F),some (bq (a,b))] M4:=by
  unfold dE;rw[aK,aY];simp only[mM,ar,aw,aG,aj,ao,aa,DU hL,KO,nH hL,KE,er,pop,ae,bL,aC,NV,NW];rw[aK,nJ];simp only[mM,ar,aw,aG,aH,iu,cJ,bj,oi,aj,ao,aa,DU F2,KO];rw[show v5 (bq (a,b)) (.int (-1)) M2=.ok (bq (b,a)) M2 from rfl];simp only[aa,Lx,L7,Jz l2,es,fA x3 ep,a3,ae,aC]
 rw[body];simp only[bp,cz,aH,aG,ar,aw,bj,aj,ao,aa,ez,cw,Lu,KN,bg,ae];cases hz:z == 0 with
 |false=>exact⟨some (bq (a,b)),_,_,M5,by simp only[Lu,KN,bF],q5,L5,F5,er',by simp,ke,pe⟩
 |true=>
  have a5:=DJ (x:=bq (a,b)) F5 (by rw[KE];simp;omega);refine⟨some (bq (a,b)),_,ps++[p]++[(a,b)],M5.set F (.lst ((ps++[p]).map bq++[bq (a,b)])),?_,q5.set fp f0,by rw[JU (JO lf)];exact L5,by rw[Mj (l₁:=ps++[p])];exact uQ F5,er',by simp,ke,fun q hq=>?_⟩
  ·simp only[KO,nJ,mM,ar,aw,aj,ao,aa,DU F5,a5,ae]
  ·rcases JP.mp hq with y | y
   ·exact pe q y
   ·rw[LH.mp y];exact hab
theorem CL{o0:Option D}(l0:M0.length<=L)(f0:M0.length<=F)(lf:L≠F)(lp:L≠P)(fp:F≠P):∀(n c:Nat)(ks:List (List Int))(ps:List (Int×Int))(M:aA)(o4:Option D),ks.length=n->n<c->n<100->ps.length+2*n<=100->(∀k∈ks,nv m k)->(∀p∈ps,PP m p)->Kq P M0 M->M[L]?=some (.lst (ks.map aD))->M[F]?=some (.lst (ps.map bq)) ->
  ∃(ps':List (Int×Int))(M':aA)(k4:Option D),jo (fL (az (eQ true) (ah 2) (dy av))) dE c [o0,some (.obj P),some (.obj L),some (.obj F),o4] M=.next [o0,some (.obj P),some (.obj L),some (.obj F),k4] M'/\Kq P M0 M'/\M'[F]?=some (.lst (ps'.map bq))/\(∀p∈ps',PP m p)/\ps'.length<=100:=by
 intro n
 induction n with
 |zero=>
  intro c ks ps M o4 e hc _ hs hk hp q hL hF;obtain⟨c,rfl⟩:∃c',c=c'+1:=⟨c-1,by omega⟩;cases ks with
  |cons _ _=>cases e
  |nil=>
   refine⟨ps,M++[.lst []],o4,?_,q.app,aR hF,hp,by omega⟩;unfold jo;rw[wH rfl hL hk];rfl
 |succ n ih=>
  intro c ks ps M o4 e hc h1 hs hk hp q hL hF;obtain⟨c,rfl⟩:∃c',c=c'+1:=⟨c-1,by omega⟩;have ne:ks≠[]:=by rintro rfl;cases e
  obtain⟨k4,ks',ps',M',e1,e2,e3,e4,e5,e6,e7,e8⟩:=CK (o0:=o0) (o4:=o4) (q.app (g:=[.lst []])) (aR hL) (aR hF) l0 f0 lf lp fp hk hp ne (by omega) (by omega);obtain⟨ps2,M2,k42,f1,f2⟩:=ih c ks' ps' M' k4 (by omega) (by omega) (by omega) (by omega) e7 e8 e2 e3 e4;refine⟨ps2,M2,k42,?_,f2⟩;unfold jo;rw[wH rfl hL hk,ae,Jz (by cases ks with|nil=>exact absurd rfl ne|cons _ _=>rfl),e1,nD,f1]
theorem zY{ks:List (List Int)}{a b c:Int}(hp:M[P]?=some (bI a b c))(hl:ks.length<=15)(hk:∀k∈ks,nv m k):∃(t:Nat)(ps:List (Int×Int))(M':aA),eW [.tup (ks.map aD),.obj P] M=.ok (.obj t) M'/\P<t/\Kq P M M'/\M'[t]?=some (.lst (ps.map bq))/\(∀p∈ps,PP m p)/\ps.length<=100:=by
 have hP:=(Kq.self hp).lt;have z0:(0:Nat)<=sizeLine:=LG _;have s1:(M++[O.lst (ks.map aD)]).length=M.length+1:=by simp
 obtain⟨ps,M',k4,e1,e2,e3,e4,e5⟩:=CL (m:=m) (o0:=some (.tup (ks.map aD))) (L:=M.length) (F:=M.length+1) (M0:=M) (P:=P) (Kc _) (by omega) (by omega) (by omega) (by omega) ks.length 100 ks [] (M++[.lst (ks.map aD)]++[.lst []]) none rfl (by omega) (by omega) (by simp;omega) hk (by simp) (Kq.self hp).app.app (aR ay) (by rw[<- s1];exact ay);refine⟨M.length+1,ps,M',?_,by omega,e2,e3,e4,e5⟩;unfold eW;rw[eS];simp only[lG,List.replicate];rw[aK,aY];simp only[aG,ar,aw,aj,aa];rw[show mP [.tup (ks.map aD)] M=.ok (.obj M.length) (M++[.lst (ks.map aD)]) from rfl];simp only[ae,bL,aC,NV,NW];rw[aK,aY];simp only[cJ,aw,aa,L7,Jz z0,ae,bL,aC,NV,NW,s1];rw[aK];unfold qZ;rw[e1,aC,cI];simp only[aj,ao,ae,bP];exact yU (by simp[D.low])
end
theorem Gj{xs:List D}{k:Nat}:ko xs (some (k:Int)) none=xs.drop k:=by
 unfold ko;rw[HT.sIx_none,HT.sIx_nat];rw[Mb (by rw[KU];exact Kc _)];by_cases h:k<=xs.length
 ·rw[NZ h]
 ·rw[Nat.min_eq_right (by omega),List.drop_eq_nil_of_le (Kc _),List.drop_eq_nil_of_le (by omega)]
theorem Gm{xs:List D}{r:Int}(h0:0<=r)(h1:r<(xs.length:Int)):∃y∈xs,atI xs r=some y:=by
 have hr:r.toNat<xs.length:=by omega
 exact⟨_,Nr hr,lY h0 (Nt hr)⟩
abbrev yD (m a:Int) (n:Nat):List D:=[.tup [.int a,.int a],.tup [.int a,.int m],.tup [.int m,.int a],.tup [.int (-1),.int a],.tup [.bl true,.int a],.tup [.int a,.non],.obj n,.non,.tup [.int a],.tup [.int 0,.int 1,.int 2],.str "01",.int 0]
theorem Ej{M:aA}{m a:Int}{n:Nat}(h:M[n]?=some (.lst [.int 0,.int 1])):∀y∈yD m a n,Th M y:=by
 have two:∀x y:D,(∃p,(∀M',uz M' x=some p/\Kn M' x)/\p.canLay0=true/\p.depth=0)->(∃p,(∀M',uz M' y=some p/\Kn M' y)/\p.canLay0=true/\p.depth=0)->Th M (.tup [x,y]):=fun x y ⟨p,h1,h2,h3⟩ ⟨q,k1,k2,k3⟩=>
  .inl ⟨.tuple [p,q],fun M'=>⟨by simp only[su,uz,toPs,(h1 M').1,(k1 M').1];rfl,by simp only[Kn,Kns];exact⟨by simp,(h1 M').2,(k1 M').2,trivial⟩⟩,by simp only[PyData.canLay0,PyData.canLayAll0,h2,k2];rfl,by simp only[PyData.depth,PyData.depthAll,h3,k3];decide⟩
 have I:∀i:Int,∃p,(∀M',uz M' (.int i)=some p/\Kn M' (.int i))/\p.canLay0=true/\p.depth=0:=fun i=>⟨.int i,fun M'=>⟨rfl,by simp[Kn]⟩,rfl,rfl⟩;intro y hy;simp only[yD,JN,LU,LV]at hy;rcases hy with rfl|rfl|rfl|rfl|rfl|rfl|rfl|rfl|rfl|rfl|rfl|rfl
 ·exact two _ _ (I _) (I _)
 ·exact two _ _ (I _) (I _)
 ·exact two _ _ (I _) (I _)
 ·exact two _ _ (I _) (I _)
 ·exact two _ _ ⟨.bool true,fun M'=>⟨rfl,by simp[Kn]⟩,rfl,rfl⟩ (I _)
 ·exact two _ _ (I _) ⟨.none,fun M'=>⟨rfl,by simp[Kn]⟩,rfl,rfl⟩
 ·exact .inr ⟨n,rfl,h⟩
 ·exact .inl ⟨.none,fun M'=>⟨rfl,by simp[Kn]⟩,rfl,by decide⟩
 ·exact .inl ⟨.tuple [.int a],fun M'=>⟨rfl,by simp[Kn,Kns]⟩,rfl,by simp only[PyData.depth,PyData.depthAll];decide⟩
 ·exact .inl ⟨.tuple [.int 0,.int 1,.int 2],fun M'=>⟨rfl,by simp[Kn,Kns]⟩,rfl,by simp only[PyData.depth,PyData.depthAll];decide⟩
 ·exact .inl ⟨.str "01",fun M'=>⟨rfl,by simp[Kn]⟩,by decide +kernel,by decide⟩
 ·exact .inl ⟨.int 0,fun M'=>⟨rfl,by simp[Kn]⟩,rfl,by decide⟩
section
variable{M M0:aA}{P t:Nat}{m:Int}{xs:List D}{a0 a1 a2 a3 a4 a5 a6 a7 a8 a9:Option D}
theorem CS(h:Kq P M0 M)(m1:1<=m)(m6:m<=6)(tp:t≠P)(ht:M[t]?=some (.lst xs))(hl:xs.length<200)(hx:∀x∈xs,Th M x) :
  ∃(t':Nat)(xs':List D)(M':aA)(b7 b8 b9:Option D),nL [a0,some (.int m),a2,some (.obj P),a4,some (.obj t),a6,a7,a8,a9] M=.next [a0,some (.int m),a2,some (.obj P),a4,some (.obj t'),a6,b7,b8,b9] M'/\Kq P M0 M'/\t'≠P/\M'[t']?=some (.lst xs')/\xs'.length<=xs.length+1/\∀x∈xs',Th M' x:=by
 have hp:=h.1;have k0:Kq P M M:=⟨hp,fun _ _ _ e=>e⟩;obtain⟨sp,M1,s0,s1,es,k1,u1⟩:=k0.draw (k:=(xs.length:Int)+1) (by omega) (by omega);obtain⟨a,M2,a0',a1',ea,k2,u2⟩:=k1.draw (k:=m) (by omega) (by omega);have t2:=u2 t _ tp (u1 t _ tp ht);let N3:aA:=(M2++[.lst [.int 0,.int 1]])++[.lst (yD m a M2.length)]
 have o3:N3[(M2++[O.lst [.int 0,.int 1]]).length]?=some (.lst (yD m a M2.length)):=ay;have z3:N3[M2.length]?=some (.lst [.int 0,.int 1]):=aR ay;have t3:N3[t]?=some (.lst xs):=aR (aR t2);let N4:aA:=N3++[.lst (xs.take sp.toNat)]
 have k4:Kq P M N4:=k2.app.app.app;have e4:Kq P N3 N4:=⟨k4.1,fun _ _ _ e=>aR e⟩;obtain⟨r,M5,r0,r1,er,k5,u5⟩:=e4.draw (k:=12) (by omega) (by omega)
 have l4:P<N3.length:=by
  obtain⟨a,b,c,e⟩:=(k2.app.app:Kq P M N3).1;exact(JR.mp e).1
 have l2':=k2.lt;have f5:M5[N3.length]?=some (.lst (xs.take sp.toNat)):=u5 _ _ (by omega) ay;have o5:=u5 _ _ (by simp;omega) (aR o3);obtain⟨y,hy,ey⟩:=Gm (xs:=yD m a M2.length) r0 (by simpa using r1);let N6:aA:=M5++[.lst [y]]
 let N7:aA:=N6++[.lst (xs.take sp.toNat++[y])]
 have e7:Kq P N3 N7:=k5.app.app;obtain⟨w,M8,w0,w1,ew,k8,u8⟩:=e7.draw (k:=2) (by omega) (by omega);have t8:M8[t]?=some (.lst xs):=k8.2 t _ tp t3;let N9:aA:=M8++[.lst (xs.drop (sp.toNat+w.toNat))]
 let xs':=xs.take sp.toNat++[y]++xs.drop (sp.toNat+w.toNat)
 let NA:aA:=N9++[.lst xs']
 have kA:Kq P N3 NA:=k8.app.app;have kB:Kq P M NA:=(k2.app.app:Kq P M N3).trans kA;have f8:M8[N6.length]?=some (.lst (xs.take sp.toNat++[y])):=u8 _ _ (by have:=k5.lt;simp only[N6];simp;omega) ay
 have hl':xs'.length<=xs.length+1:=by
  simp only[xs',KD,Ku,KU,Lx,L7];omega
 have hx':∀x∈xs',Th NA x:=fun x hx1=>by
  rcases JP.mp hx1 with z|z
  ·rcases JP.mp z with z | z
   ·exact(hx x (Mp z)).kq kB hp
   ·rw[LH.mp z];exact(Ej z3 y hy).kq kA (k2.app.app:Kq P M N3).1
  ·exact(hx x (Mq z)).kq kB hp
 refine⟨N9.length,xs',NA,some (.int sp),some (.int a),some (.obj (M2++[O.lst [.int 0,.int 1]]).length),?_,h.trans kB,by have:=k8.lt;simp only[N9];simp;omega,ay,hl',hx'⟩;have n1:0+1<=sizeLine:=by decide
 have n2:0+1+1<=sizeLine:=by decide
 have n3:0+1+1+1<=sizeLine:=by decide
 have n12:0+1+1+1+1+1+1+1+1+1+1+1+1<=sizeLine:=by decide
 let ρ:Ro:=[a0,some (.int m),a2,some (.obj P),a4,some (.obj t),a6,some (.int sp),some (.int a),some (.obj (M2++[O.lst [.int 0,.int 1]]).length)]
 have hA:vS (ah 5) yw (fT (ah 7)) ρ N3=.ok (.obj N3.length) N4:=by
  simp only[ρ,vZ,uT,lg,rj,aj,ao,aa];unfold yr;dsimp only;rw[t3];dsimp only;rw[show sp=((sp.toNat:Nat):Int) by omega,zF (by omega)]
  all_goals rfl
 have hB:dy (af (az dR (ah 9) (ax aF (af (ah 3) (af (cC (.int 12)) av)))) av) ρ N4=.ok (.obj M5.length) N6:=by
  simp only[ρ,cJ,ar,aw,aH,aG,bj,aj,ao,aa,er,fA o5 ey,Lx,L7,Jz n1]
  all_goals rfl
 have hC:cv (.obj N3.length) (.obj M5.length) N6=.ok (.obj N6.length) N7:=nK (aR f5) ay (by simp only[Ku,Lx,L7];omega)
 have hD:vS (ah 5) (fT (az cv (ah 7) (ax aF (af (ah 3) (af (cC (.int 2)) av))))) yw ρ N7=.ok (.obj M8.length) N9:=by
  simp only[ρ,vZ,uT,lg,rj,aH,aG,ar,aw,bj,aj,ao,aa,ew,gr];unfold yr;dsimp only;rw[t8];dsimp only;rw[show sp+w=((sp.toNat+w.toNat:Nat):Int) by omega,Gj]
  all_goals rfl
 have hE:cv (.obj N6.length) (.obj M8.length) N9=.ok (.obj N9.length) NA:=nK (aR f8) ay (by simp only[KD,Ku,KU,Lx,L7];omega);have rt:aZ [.int m,.obj N9.length] NA=.ok (.bl true) NA:=kY m1 m6 (show xs'.length<300 by omega) ay hx'
 have tail:bo (bw (az cv (az cv (vS (ah 5) (yw) (fT (ah 7))) (dy (af (az dR (ah 9) (ax aF (af (ah 3) (af (cC (.int 12)) (av))))) (av)))) (vS (ah 5) (fT (az cv (ah 7) (ax aF (af (ah 3) (af (cC (.int 2)) (av)))))) (yw))) (ak 5))
   (i5 (dP (iq (ax aZ (af (ah 1) (af (ah 5) (av)))))) (bV (cC (.bl false))) (cy)) ρ N3=.next (ρ.set 5 (some (.obj N9.length))) NA:=by
  rw[aK,aY,aH,aH,hA,aa,hB,aa,hC,aa,hD,aa,hE,ae];simp only[ρ,bL,ae,aC,NV,NW,bp,cD,d8,aG,ar,aw,aj,ao,aa,rt,cW,My,Lu,KN,bF]
 unfold nL;rw[aK,aY];simp only[aG,ar,aw,aH,bj,aj,ao,aa,nH ht,gr,es,ae,bL,aC,NV,NW];rw[aK,aY];simp only[aG,ar,aw,aj,ao,aa,ea,ae,bL,aC,NV,NW];rw[aK,aY];simp only[cJ,bY,iu,oi,ar,aw,bj,aj,ao,aa,Lx,L7,Jz n1,Jz n2,Jz n3,Jz n12,ae,bL,aC,NV,NW];exact tail
theorem AJ(m1:1<=m)(m6:m<=6){X:List D}:∀(n:Nat)(lo:Int)(M:aA)(t:Nat)(xs:List D)(a6 a7 a8 a9:Option D),Kq P M0 M->t≠P->M[t]?=some (.lst xs)->xs.length+n<200->(∀x∈xs,Th M x) ->
  ∃(M':aA)(b5 b6 b7 b8 b9:Option D),d7 (.fix X) (ak 6) nL (br lo n) [a0,some (.int m),a2,some (.obj P),a4,some (.obj t),a6,a7,a8,a9] M=.next [a0,some (.int m),a2,some (.obj P),a4,b5,b6,b7,b8,b9] M'/\Kq P M0 M':=by
 intro n
 induction n with
 |zero=>
  intro lo M t xs a6 a7 a8 a9 h _ _ _ _;refine⟨M,some (.obj t),a6,a7,a8,a9,?_,h⟩;rw[fC];unfold d7;exact Jz trivial
 |succ n ih=>
  intro lo M t xs a6 a7 a8 a9 h tp ht hl hx;obtain⟨t',xs',M',b7,b8,b9,e1,e2,e3,e4,e5,e6⟩:=CS (a0:=a0) (a2:=a2) (a4:=a4) (a6:=some (.int lo)) (a7:=a7) (a8:=a8) (a9:=a9) h m1 m6 tp ht (by omega) hx;obtain⟨M2,c5,c6,c7,c8,c9,f1,f2⟩:=ih (lo+1) M' t' xs' (some (.int lo)) b7 b8 b9 e2 e3 e4 (by omega) e6;refine⟨M2,c5,c6,c7,c8,c9,?_,f2⟩;rw[dH];unfold d7;rw[Jz (show bW (.fix X) M from trivial)];simp only[bL,ae,NV,NW];rw[e1,nD,f1]
theorem CT{x:Int}:∃(M':aA)(b1 b3 b4 b5 b6 b7 b8 b9:Option D),kU [a0,a1,some (.int x),a3,a4,a5,a6,a7,a8,a9] M=.next [a0,b1,some (.int x),b3,b4,b5,b6,b7,b8,b9] M'/\∀(j:Nat)(o:O),M[j]?=some o->M'[j]?=some o:=by
 obtain⟨a,b,c,e1⟩:=Ex (μ:=M) x;have p1:(M++[bI a b c])[M.length]?=some (bI a b c):=ay;obtain⟨d,m,ks,a',b',c',g,e2⟩:=zT p1;have hl:=la g;obtain⟨rfl,m1,m6,_,hk⟩:=g;have k1:Kq M.length (M++[bI a b c]) (M++[bI a b c]):=Kq.self p1;have k2:=k1.pen (a:=a') (b:=b') (c:=c');generalize (M++[bI a b c]).set M.length (bI a' b' c')=M2 at e2 k2;obtain⟨u,v,w,p2⟩:=k2.1;obtain⟨t,ps,M3,e3,pt,k3,t3,hp,hs⟩:=zY p2 hl hk;have k4:=k2.trans k3
 have hx:∀x∈ps.map bq,Th M3 x:=fun x hx=>by
  obtain⟨p,_,rfl⟩:=Mc.mp hx;exact Dq
 obtain⟨M4,b5,b6,b7,b8,b9,e4,k5⟩:=AJ (a0:=a0) (a2:=some (.int x)) (a4:=some (.tup (ks.map aD))) (X:=br 0 3) m1 m6 3 0 M3 t (ps.map bq) a6 a7 a8 a9 k4 (by omega) t3 (by rw[KE];omega) hx;refine⟨M4,some (.int m),some (.obj M.length),some (.tup (ks.map aD)),b5,b6,b7,b8,b9,?_,fun j o e=>k5.2 j o (by have:=(JR.mp e).1;omega) (aR e)⟩;unfold kU;rw[aK,aY];simp only[aG,ar,aw,aj,ao,aa,e1,ae,bL,aC,NV,NW];rw[aK,aY];simp only[aG,ar,aw,aj,ao,aa,e2,ae,wR,Lx,L7,KO,tV,bL,wU,aC,NV,NW];rw[aK,aY];simp only[aG,ar,aw,aj,ao,aa,e3,ae,bL,aC,NV,NW];rw[aK,bp];simp only[cD,d8,aG,ar,aw,aj,ao,aa,kY m1 m6 (by rw[KE];omega) t3 hx,cW,My,ae,Lu,KN,bF,aC];rw[gk];simp only[cK,ar,aw,bj,aa];rw[fM (by omega) (by omega),ae,bH];exact e4
end
theorem BK{μ:aA}{ns:List Int}:∃x:Int,cu [.frz (ns.map D.int),.int 0] μ=.ok (.int x) μ:=by
 unfold cu;rw[eS];cases ns with
 |nil=>
  refine⟨0,?_⟩;simp only[gR,K6,List.replicate,aK,bp,cz,aH,ao,aj,aG,ar,aw,wQ,L7,aa,eT];rw[show cH .Lt 0 ((0:Nat):Int)=false from rfl];simp only[bg,ae,Lu,KN,bF,aC,cI,bj,bP];exact cb (by simp)
 |cons x r=>
  refine⟨x,?_⟩;simp only[gR,K7,List.replicate,aK,bp,cz,aH,ao,aj,aG,ar,aw,wQ,Lx,aa,eT];rw[show cH .Lt 0 (((r.map D.int).length+1:Nat):Int)=true from Lp (by omega)];simp only[bg,ae,KO,cI,aH,ao,aj,aa];rw[F9 sO];simp only[ae,n6,bP];exact cb (by simp)
abbrev uL:List D:=[.int 0,.int 7,.int (-1),.bl true,.non,.str "3",.obj 0,.int (10^30)]
abbrev N0:aA:=[.lst [.int 3],.lst uL]
theorem Gk:∀x∈uL,Kn N0 x/\dn 1 6 x=false:=by
 intro x hx;simp only[uL,JN,LU,LV]at hx;rcases hx with rfl|rfl|rfl|rfl|rfl|rfl|rfl|rfl
 ·exact⟨by simp[Kn],by decide⟩
 ·exact⟨by simp[Kn],by decide⟩
 ·exact⟨by simp[Kn],by decide⟩
 ·exact⟨by simp[Kn],by decide⟩
 ·exact⟨by simp[Kn],by decide⟩
 ·exact⟨by simp[Kn],rfl⟩
 ·refine⟨?_,rfl⟩;simp only[Kn];exact⟨"list",rfl,by decide,by decide,by decide⟩
 ·exact⟨by simp[Kn],by decide⟩
theorem Ey(ns:List Int):∃μ',sR [.frz (ns.map D.int)] []=.ok (.bl true) μ':=by
 let N1:aA:=N0++[.lst [bq (5,0),bq (0,5),bq (1,2)]]
 let N2:aA:=N1++[.lst []]
 have rt1:aZ [.int 6,.obj 2] N1=.ok (.bl true) N1:=kY (xs:=[bq (5,0),bq (0,5),bq (1,2)]) (by omega) (by omega) (by simp) rfl fun x hx=>by
  simp only[JN,LU,LV]at hx;rcases hx with rfl|rfl|rfl <;> exact Dq
 have rt2:aZ [.int 1,.obj 3] N2=.ok (.bl true) N2:=kY (xs:=[]) (by omega) (by omega) (by simp) rfl fun x hx=>by cases hx
 obtain⟨ρ1,M1,⟨hM1,_,o1,e1⟩,run1⟩:=gY (src:=.own 1 uL) (g:=ak 1) (fb:=kW)
  (fun zs ρ μ=>μ=N0/\(∀x∈zs,x∈uL)/\∃o1,ρ=[some (.frz (ns.map D.int)),o1,none,none,none,none,none,none,none,none])
  (fun ρ μ hJJ=>by rw[hJJ.1];rfl)
  (fun x r ρ μ hJJ => by
   obtain⟨h1,h2,o1,e⟩:=hJJ;subst e h1;obtain⟨k1,k2⟩:=Gk x (h2 x JK);refine⟨rfl,_,N0,[some (.frz (ns.map D.int)),some x,none,none,none,none,none,none,none,none],N0,rfl,?_,rfl,fun y hy=>h2 y (JL _ hy),_,rfl⟩;show kW [some (.frz (ns.map D.int)),some x,none,none,none,none,none,none,none,none] N0=_;unfold kW
   simp only[bp,cD,d8,aG,ar,aw,aj,ao,aa,zV k1 k2,cW,My,ae,Lu,KN,bF])
  (xs:=uL) (ρ:=[some (.frz (ns.map D.int)),none,none,none,none,none,none,none,none,none]) (μ:=N0)
  ⟨rfl,fun x hx=>hx,none,rfl⟩
 subst hM1 e1;obtain⟨x0,ex0⟩:=BK (μ:=N2) (ns:=ns)
 obtain⟨xs,hxs,hxl⟩:∃xs:List Int,ko (ns.map D.int) (some 1) (some 5)=xs.map D.int/\xs.length<=6:=by
  refine⟨(ns.drop (HT.sIx ns.length 0 (some 1))).take (HT.sIx ns.length ns.length (some 5)-HT.sIx ns.length 0 (some 1)),?_,?_⟩
  ·unfold ko;rw[KE,Ml,Mm]
  ·rw[Ku];have h6:HT.sIx ns.length ns.length (some 5)=min 5 ns.length:=HT.sIx_nat _ _ 5;omega
 let N3:aA:=N2++[O.lst [.int x0]]++[O.lst (xs.map D.int)]
 let M5:aA:=N3++[O.lst ((x0::xs).map D.int)]
 have h5:M5[6]?=some (.lst ((x0::xs).map D.int)):=rfl
 obtain⟨ρ3,M6,_,run3⟩:=gY (src:=.own 6 ((x0::xs).map D.int)) (g:=ak 2) (fb:=kU)
  (fun zs ρ μ=>μ[6]?=some (O.lst ((x0::xs).map D.int))/\(∃rs:List Int,zs=rs.map D.int)/\∃o0 o1 o2 o3 o4 o5 o6 o7 o8 o9,ρ=[o0,o1,o2,o3,o4,o5,o6,o7,o8,o9])
  (fun ρ μ hJJ=>hJJ.1)
  (fun x r ρ μ hJJ => by
   obtain⟨h2,⟨rs,er⟩,o0,o1,o2,o3,o4,o5,o6,o7,o8,o9,eρ⟩:=hJJ;subst eρ;cases rs with
   |nil=>cases er
   |cons y rs=>
    injection er with ex er
    subst ex er;obtain⟨M',b1,b3,b4,b5,b6,b7,b8,b9,e1,e2⟩:=CT (M:=μ) (x:=y) (a0:=o0) (a1:=o1) (a3:=o3) (a4:=o4) (a5:=o5) (a6:=o6) (a7:=o7) (a8:=o8) (a9:=o9)
    exact⟨h2,_,μ,_,_,rfl,e1,e2 6 _ h2,⟨rs,rfl⟩,_,_,_,_,_,_,_,_,_,_,rfl⟩)
  (xs:=(x0::xs).map D.int) (ρ:=[some (.frz (ns.map D.int)),o1,none,none,none,none,none,none,none,none]) (μ:=M5)
  ⟨h5,⟨_,rfl⟩,_,_,_,_,_,_,_,_,_,_,rfl⟩
 obtain⟨μ',hend⟩:∃μ',mF [] (.ok (.bl true) M6)=.ok (.bl true) μ':=by
  rcases FZ (μ:=[]) (d:=.bl true) (μ':=M6) with e|⟨e,_⟩ <;> exact⟨_,e⟩
 refine⟨μ',?_⟩;unfold sR;rw[ig];unfold DK;have n1:0+1<=sizeLine:=by decide
 have n2:0+1+1<=sizeLine:=by decide
 have n3:0+1+1+1<=sizeLine:=by decide
 have n8:0+1+1+1+1+1+1+1+1<=sizeLine:=by decide
 have z0:(0:Nat)<=sizeLine:=LG _
 have pw:∀μ,xc (.int 10) (.int 30) μ=.ok (.int (10^30)) μ:=fun μ=>by
  unfold xc;exact kz ⟨by decide,by decide,by decide⟩
 have sl:∀μ,yr (.frz (ns.map D.int)) (some 1) (some 5) μ=.ok (.obj μ.length) (μ++[.lst (xs.map D.int)]):=fun μ=>by
  unfold yr;dsimp only;rw[hxs]
 have ad:cv (.obj 4) (.obj 5) N3=.ok (.obj 6) M5:=nK (μ:=N3) (a:=4) (b:=5) (xs:=[.int x0]) rfl rfl (by rw[KE];simp only[Lx,L7];omega);simp only[List.replicate];rw[aK,gk,gq,cJ];simp only[cJ,iu,oi,aH,ar,aw,bj,aa,pw,Lx,L7,Jz n1,Jz n8]
 have f1:(sx (.obj 1) N0).bindS (fun src μ1=>d7 src (ak 1) kW src.items [some (.frz (ns.map D.int)),none,none,none,none,none,none,none,none,none] μ1)=.next [some (.frz (ns.map D.int)),o1,none,none,none,none,none,none,none,none] N0:=by
  rw[iO (xs:=uL) rfl,ae,fD,run1]
 refine(JY (fun z:SO=>mF [] (z.bind _).out) f1).trans ?_;rw[aC];let ρ:Ro:=[some (.frz (ns.map D.int)),o1,none,none,none,none,none,none,none,none]
 have c1:dP (iq (ax aZ (af (cC (.int 6)) (af (dy (af (bT (af (cC (.int 5)) (af (cC (.int 0)) (av)))) (af (bT (af (cC (.int 0)) (af (cC (.int 5)) (av)))) (af (bT (af (cC (.int 1)) (af (cC (.int 2)) (av)))) (av))))) (av))))) ρ N0=.ok false N1:=by
  simp only[cD,d8,aG,cJ,bY,ar,aw,bj,aa,Lx,L7,Jz n2,Jz n3];exact JY (fun z:ai D=>(z.bind uF).bind fun b μ1=>.ok (!b) μ1) rt1
 have c2:dP (iq (ax aZ (af (cC (.int 1)) (af (dy (av)) (av))))) ρ N1=.ok false N2:=by
  simp only[cD,d8,aG,cJ,ar,aw,bj,aa,L7,Jz z0];exact JY (fun z:ai D=>(z.bind uF).bind fun b μ1=>.ok (!b) μ1) rt2
 have c3:jd (az cv (dy (af (ax cu (af (ah 0) (af (cC (.int 0)) (av)))) (av))) (vS (ah 0) (fT (cC (.int 1))) (fT (cC (.int 5))))) ρ N2=.ok (.own 6 ((x0::xs).map D.int)) M5:=by
  simp only[ρ,gq,aH,cJ,aG,ar,aw,bj,aj,aa,ex0,Lx,L7,Jz n1,vZ,lg,rj,sl];exact(JY (fun z:ai D=>z.bind sx) ad).trans (iO h5)
 have rest:bo (i5 (kr (dP (iq (ax aZ (af (cC (.int 6)) (af (dy (af (bT (af (cC (.int 5)) (af (cC (.int 0)) (av)))) (af (bT (af (cC (.int 0)) (af (cC (.int 5)) (av)))) (af (bT (af (cC (.int 1)) (af (cC (.int 2)) (av)))) (av))))) (av)))))) (dP (iq (ax aZ (af (cC (.int 1)) (af (dy (av)) (av))))))) (bV (cC (.bl false))) (cy))
   (bo (kf (jd (az cv (dy (af (ax cu (af (ah 0) (af (cC (.int 0)) (av)))) (av))) (vS (ah 0) (fT (cC (.int 1))) (fT (cC (.int 5)))))) (ak 2) kU)
   (bV (cC (.bl true)))) ρ N0=.ret (.bl true) M6:=by
  rw[aK,bp,jq,c1,aa,JA J6,c2,ae,JA J6,bF,aC,aK,gk,c3,ae,fD,run3,aC,cI,bj,ae]
 refine(JY (fun z:SO=>mF [] z.out) rest).trans ?_;rw[bP];exact hend
end Lw
namespace Lw
open PySem PySem.Spec PyProof.Rows L2 RS
theorem dq(P:Params)(f:Addr)(n m:Str)(t:Tok)(c:Addr)(st:Stmt)(l:(Kz P).lookup f=some (fo n st m t c))(q:W.codeIn (Kz P) (.ref c) n=true):gT (Kz P) n n st f (W.fnOf n n (cX st) (bC st) (au st) .none .none .none (.str m t) none (.ref c) .none):=zA l q (by unfold W.keepIn;dsimp only;rw[l];rfl)
theorem zz(P:Params)(f:Addr)(n q m:Str)(t:Tok)(c:Addr)(st:Stmt)(l:(Kz P).lookup f=some (Im n q st m t c))(e:W.codeIn (Kz P) (.ref c) q=true):gT (Kz P) n q st f (W.fnOf n q (cX st) (bC st) (au st) .none .none .none (.str m t) none (.ref c) .none):=zA l e (by unfold W.keepIn;dsimp only;rw[l];rfl)
theorem Gn {l:W.OpenLaw}{w:World}{h:Heap}{mg:Str->Option Value}{fa:Addr} (X:(Kz w.params).In h) (G:h.Ns mainGlobals mg) (hfa:mg "law" = some (.ref fa)) :
  ∃fd:FuncData,(∀(s:Shared) (v:Value),BindsTo s fd ⟨[v],[]⟩ [("_law_script",v)])/\∀base:Heap,(Kz w.params).In base->base.Ns mainGlobals mg->i6 l.prog w (Kz w.params) mg base uD 8 fa fd ["_law_script"] (A6 (fm (Kz w.params) w) 1 sR):=by
 have e:=hfa.symm.trans (W.mg_of X G (v:=.ref 298) (by kernel_rfl));cases e;have nm:Nm mg:=⟨W.mg_none_of X G (by kernel_rfl),W.mg_none_of X G (by kernel_rfl),W.mg_none_of X G (by kernel_rfl),W.mg_none_of X G (by kernel_rfl),W.mg_none_of X G (by kernel_rfl),W.mg_none_of X G (by kernel_rfl),W.mg_none_of X G (by kernel_rfl),W.mg_none_of X G (by kernel_rfl),W.mg_none_of X G (by kernel_rfl),W.mg_none_of X G (by kernel_rfl),W.mg_none_of X G (by kernel_rfl),W.mg_none_of X G (by kernel_rfl),W.mg_none_of X G (by kernel_rfl),W.mg_none_of X G (by kernel_rfl),W.mg_none_of X G (by kernel_rfl)⟩;have c_MOST_PLACES:=W.mg_of X G (n:="MOST_PLACES") (v:=(.int 6 398)) (by kernel_rfl);have F:=dq w.params 298 "law" "law_rootwebs_k02_webs_made" 421 297 kv (by kernel_rfl) (by kernel_rfl);refine⟨W.fnOf "law" "law" (cX kv) (bC kv) (au kv) .none .none .none (.str "law_rootwebs_k02_webs_made" 421) none (.ref 297) .none,fun s v=>.of_eq rfl,fun base Xb Gb=>?_⟩;have d_is_whole:=uc (P:=l.prog) (w:=w) (base:=base)  nm (dq w.params 151 "is_whole" "rootwebs.kinds" 364 150 g9 (by kernel_rfl) (by kernel_rfl)) (W.mg_of X G (by kernel_rfl));have d_is_whole_from:=mC (P:=l.prog) (w:=w) (base:=base)  nm (dq w.params 158 "is_whole_from" "rootwebs.kinds" 364 157 dJ (by kernel_rfl) (by kernel_rfl)) (W.mg_of X G (by kernel_rfl)) d_is_whole;have d_is_place:=ud (P:=l.prog) (w:=w) (base:=base)  nm (dq w.params 165 "is_place" "rootwebs.kinds" 364 164 hG (by kernel_rfl) (by kernel_rfl)) (W.mg_of X G (by kernel_rfl)) d_is_whole_from;have d_is_places:=rY (P:=l.prog) (w:=w) (base:=base)  nm (dq w.params 170 "is_places" "rootwebs.kinds" 364 169 eU (by kernel_rfl) (by kernel_rfl)) (W.mg_of X G (by kernel_rfl)) d_is_place;have d_is_many:=vm (P:=l.prog) (w:=w) (base:=base)  nm (dq w.params 177 "is_many" "rootwebs.webs" 396 176 iR (by kernel_rfl) (by kernel_rfl)) (W.mg_of X G (by kernel_rfl)) ⟨_,c_MOST_PLACES⟩ d_is_whole_from;have d_is_pair:=vk (P:=l.prog) (w:=w) (base:=base)  nm (dq w.params 184 "is_pair" "rootwebs.webs" 396 183 iQ (by kernel_rfl) (by kernel_rfl)) (W.mg_of X G (by kernel_rfl)) d_is_places;have d_web_of:=xN (P:=l.prog) (w:=w) (base:=base) (a_NoWeb:=104) nm (dq w.params 189 "web_of" "rootwebs.webs" 396 188 iz (by kernel_rfl) (by kernel_rfl)) (W.mg_of X G (by kernel_rfl)) (by kernel_rfl) (sP.of (uM.of (fI:=101) (oI:=Im "__init__" "NoWeb.__init__" (HS (top 7) 0) "rootwebs.errors" 187 100) (nm:="NoWeb") (q:="NoWeb") (N:=103) (bs:=[(.ref 24)]) (bm:=[(.ref 24),(.type "ValueError"),(.type "Exception"),(.type "BaseException"),(.type "object")]) (hd:=true) (sn:=[]) (sub:=[]) (ab:=false) (col:=none) (dd:=none) (k0:=some (.ref 88)) (k1:=none) (k2:=some (.str "NoWeb" 287)) (k3:=some (.str "NoWeb" 295)) (k5:=some (.bool true)) Xb Gb (by kernel_rfl) (by kernel_rfl) (by kernel_rfl) (by kernel_rfl) (by kernel_rfl) (by kernel_rfl) rfl) (zz w.params 101 "__init__" "NoWeb.__init__" "rootwebs.errors" 187 100 (HS (top 7) 0) (by kernel_rfl) (by kernel_rfl)) ⟨rfl,rfl,rfl,by decide +kernel,rfl,by decide +kernel,by decide +kernel⟩ rfl (by kernel_rfl) (by kernel_rfl) (cd:=⟨"NoWeb",[(.ref 24)],[(.ref 104),(.ref 24),(.type "ValueError"),(.type "Exception"),(.type "BaseException"),(.type "object")],103, "NoWeb",true,[],[],false,none,false⟩) (by kernel_rfl) rfl rfl (by kernel_rfl) (.inl rfl) (.inl rfl) ((zz w.params 101 "__init__" "NoWeb.__init__" "rootwebs.errors" 187 100 (HS (top 7) 0) (by kernel_rfl) (by kernel_rfl)).b2 (by rfl) fun _ _ _ _ _ _ _ _=>by rfl)) d_is_many d_is_pair;have d__law_cell_at:=nk (P:=l.prog) (w:=w) (base:=base)  nm (dq w.params 196 "_law_cell_at" "law_rootwebs_k02_webs_made" 421 195 d5 (by kernel_rfl) (by kernel_rfl)) (W.mg_of X G (by kernel_rfl));have d__law_next:=rZ (P:=l.prog) (w:=w) (base:=base)  nm (dq w.params 203 "_law_next" "law_rootwebs_k02_webs_made" 421 202 gv (by kernel_rfl) (by kernel_rfl)) (W.mg_of X G (by kernel_rfl));have d__law_pen_of:=pf (P:=l.prog) (w:=w) (base:=base)  nm (dq w.params 210 "_law_pen_of" "law_rootwebs_k02_webs_made" 421 209 eZ (by kernel_rfl) (by kernel_rfl)) (W.mg_of X G (by kernel_rfl));have d__law_draw:=r6 (P:=l.prog) (w:=w) (base:=base)  nm (dq w.params 217 "_law_draw" "law_rootwebs_k02_webs_made" 421 216 gx (by kernel_rfl) (by kernel_rfl)) (W.mg_of X G (by kernel_rfl)) d__law_next;have d__law_whole:=pJ (P:=l.prog) (w:=w) (base:=base)  nm (dq w.params 224 "_law_whole" "law_rootwebs_k02_webs_made" 421 223 fN (by kernel_rfl) (by kernel_rfl)) (W.mg_of X G (by kernel_rfl));have d__law_kind_of:=nj (P:=l.prog) (w:=w) (base:=base) (a_NoLine:=61) (a_NoNumber:=49) (a_NoPlace:=37) (a_NoRoot:=73) (a_NoText:=123) (a_NoTree:=85) (a_NoWeb:=104) (a_TooGreat:=142) nm (dq w.params 231 "_law_kind_of" "law_rootwebs_k02_webs_made" 421 230 d4 (by kernel_rfl) (by kernel_rfl)) (W.mg_of X G (by kernel_rfl)) (bG.of (by kernel_rfl)) (bG.of (by kernel_rfl)) (bG.of (by kernel_rfl)) (bG.of (by kernel_rfl)) (bG.of (by kernel_rfl)) (bG.of (by kernel_rfl)) (bG.of (by kernel_rfl)) (bG.of (by kernel_rfl)) (bG.of (by kernel_rfl)) (W.mg_of X G (by kernel_rfl)) (W.mg_of X G (by kernel_rfl)) (W.mg_of X G (by kernel_rfl)) (W.mg_of X G (by kernel_rfl)) (W.mg_of X G (by kernel_rfl)) (W.mg_of X G (by kernel_rfl)) (W.mg_of X G (by kernel_rfl)) (W.mg_of X G (by kernel_rfl));have d__law_named:=pM (P:=l.prog) (w:=w) (base:=base)  nm (dq w.params 236 "_law_named" "law_rootwebs_k02_webs_made" 421 235 dk (by kernel_rfl) (by kernel_rfl)) (W.mg_of X G (by kernel_rfl));have d__law_names_by:=mD (P:=l.prog) (w:=w) (base:=base)  nm (dq w.params 241 "_law_names_by" "law_rootwebs_k02_webs_made" 421 240 cP (by kernel_rfl) (by kernel_rfl)) (W.mg_of X G (by kernel_rfl)) d__law_draw;have d__law_far:=ue (P:=l.prog) (w:=w) (base:=base)  nm (dq w.params 246 "_law_far" "law_rootwebs_k02_webs_made" 421 245 fY (by kernel_rfl) (by kernel_rfl)) (W.mg_of X G (by kernel_rfl));have d__law_steps:=pK (P:=l.prog) (w:=w) (base:=base)  nm (dq w.params 251 "_law_steps" "law_rootwebs_k02_webs_made" 421 250 dW (by kernel_rfl) (by kernel_rfl)) (W.mg_of X G (by kernel_rfl)) d__law_far;have d__law_sparse_by:=lI (P:=l.prog) (w:=w) (base:=base)  nm (dq w.params 256 "_law_sparse_by" "law_rootwebs_k02_webs_made" 421 255 ba (by kernel_rfl) (by kernel_rfl)) (W.mg_of X G (by kernel_rfl)) d__law_draw d__law_named d__law_names_by;have d__law_web_by:=pd (P:=l.prog) (w:=w) (base:=base)  nm (dq w.params 263 "_law_web_by" "law_rootwebs_k02_webs_made" 421 262 eY (by kernel_rfl) (by kernel_rfl)) (W.mg_of X G (by kernel_rfl)) d__law_sparse_by d__law_draw d__law_steps;have d__law_due:=uf (P:=l.prog) (w:=w) (base:=base)  nm (dq w.params 270 "_law_due" "law_rootwebs_k02_webs_made" 421 269 hV (by kernel_rfl) (by kernel_rfl)) (W.mg_of X G (by kernel_rfl)) d__law_whole;have d__law_mixed:=pN (P:=l.prog) (w:=w) (base:=base)  nm (dq w.params 277 "_law_mixed" "law_rootwebs_k02_webs_made" 421 276 fP (by kernel_rfl) (by kernel_rfl)) (W.mg_of X G (by kernel_rfl)) d__law_draw;have d__law_right:=pL (P:=l.prog) (w:=w) (base:=base) (a_RootError:=24) nm (dq w.params 284 "_law_right" "law_rootwebs_k02_webs_made" 421 283 fO (by kernel_rfl) (by kernel_rfl)) (W.mg_of X G (by kernel_rfl)) (W.mg_of X G (by kernel_rfl)) (kP.of (by kernel_rfl)) (iP.of (by kernel_rfl)) d__law_due d_web_of d__law_kind_of d__law_whole;have d__law_no_number:=lJ (P:=l.prog) (w:=w) (base:=base) (a_RootError:=24) nm (dq w.params 291 "_law_no_number" "law_rootwebs_k02_webs_made" 421 290 dv (by kernel_rfl) (by kernel_rfl)) (W.mg_of X G (by kernel_rfl)) (W.mg_of X G (by kernel_rfl)) (kP.of (by kernel_rfl)) (iP.of (by kernel_rfl)) d_web_of d__law_kind_of d__law_whole;exact F7 nm F d__law_no_number d__law_right d__law_cell_at d__law_pen_of d__law_web_by d__law_mixed d__law_draw
theorem Iw {l:W.OpenLaw}{q:Program}{loose:List Str}{XP:(Str->Option Value)->Heap->Prop}{d:DefRec} (hn:l.most=some 63) (hdf:d.params.defaults=[]) (hd:d.name = "law") :
  W.WalkO q loose XP (W.Hook.says Hz) l.row.toRowW d [] (fun f vs=>PySem.call f vs):=
 L2.walk_of (K:=Kz) (n:=63) (k:=8) (x:="_law_script") (CX:=fun _=>uD) (sp:=fun w=>A6 (fm (Kz w.params) w) 1 sR) hn (by decide) hdf ⟨rfl,by decide,by decide,rfl⟩ (fun _ _ Y=>W.kIn_of Y) (fun _ _ _ _ X G e=>Gn X G (hd ▸ e)) (fun w H a ns hl hO hS=>AK (Ey ns) hO hS) fun _ _ _ _ _ z=>z
end Lw
open PySem PySem.W PyProof.Rows Lw
set_option maxRecDepth 100000 in
set_option maxHeartbeats 0 in
theorem PySem.Challenge.cw_rootwebs_k02_webs_made_holds : PySem.Challenge.rw_rootwebs_k02_webs_made.Holds := by
 w_on;refine holds_law D7 fun said=>?_
 exact holds_open (Xt:=Xz) (XP:=XL Qz []) (YP:=Hook.says Hz) D8 (Hook.of Hz) (Hook.keeps Hz) (fun s e=>xl_of s (Bool.and_eq_true_iff.mp e).1) XL.keeps (by rfl) (by rfl) (by rfl) (fun s e=>recFacts_of (Bool.and_eq_true_iff.mp e).2) (by rfl) said (by decide +kernel) ⟨rfl,rfl,rfl,rfl,rfl,by decide +kernel⟩ (by w_witness2) (Iw rfl rfl rfl)
