import PyProof.Rows.All
import Wide.All
import OpenK.AllK
import Wide.FinOn
import PyProof.EqAt
import PyProof.EqKinds
import PyProof.TupleCall
import PyProof.P3In
import PyProof.NeData
import PyProof.ConsumeS
import PyProof.WalksMore
import PyProof.ReprRoads
import PyProof.ReprLen
import Lean
import PySem.Challenge.RW_rootwebs_k51_spare_ties
-- CHANGE: your row's module here, as the last of these rows
set_option Elab.async false
set_option linter.all false
set_option maxRecDepth 100000
/-! THE HAND LAYER, for ints, bools, texts, own classes, LISTS and tuples (index, slices, in, append, pop ..), calls, loops. Paste it whole ahead of your own text; what your proof does not reach may be deleted. -/
namespace L2
open PySem PySem.Spec PyProof.Rows

/-- a key: an int or a str -/
abbrev Key := Sum Int Str
def keyIs : Key → Value → Bool
  | .inl k, v => Value.isInt k v
  | .inr x, v => Value.isStrOf x v
def keyH (w : World) : Key → Int
  | .inl k => hashInt k
  | .inr x => hashStr w x
theorem keyIs_shape : ∀ {k : Key} {v : Value}, keyIs k v = true → (∃ i t, k = Sum.inl i ∧ v = Value.int i t) ∨ (∃ x t, k = Sum.inr x ∧ v = Value.str x t)
  | .inl i, v, h => by
    obtain ⟨t, e⟩ := Value.isInt_shape (k := i) (v := v) h
    exact .inl ⟨i, t, rfl, e⟩
  | .inr x, v, h => by
    obtain ⟨t, e⟩ := Value.isStrOf_shape (x := x) (v := v) h
    exact .inr ⟨x, t, rfl, e⟩
theorem key_ll (a b : Int) : decide ((Sum.inl a : Key) = Sum.inl b) = (a == b) := by
  by_cases e : a = b
  · subst e; simp
  · have h : ¬ (Sum.inl a : Key) = Sum.inl b := fun q => e (Sum.inl.inj q)
    rw [decide_eq_false h]
    exact (beq_eq_false_iff_ne.mpr e).symm
theorem key_rr (a b : Str) : decide ((Sum.inr a : Key) = Sum.inr b) = decide (a = b) := by
  by_cases e : a = b
  · subst e; simp
  · have h : ¬ (Sum.inr a : Key) = Sum.inr b := fun q => e (Sum.inr.inj q)
    rw [decide_eq_false h, decide_eq_false e]
theorem key_lr (a : Int) (b : Str) : decide ((Sum.inl a : Key) = Sum.inr b) = false := decide_eq_false (fun q => nomatch q)
theorem key_rl (a : Str) (b : Int) : decide ((Sum.inr a : Key) = Sum.inl b) = false := decide_eq_false (fun q => nomatch q)

def mixKind (prog : Program) (w : World) : PySem.KeyKind prog w Key where
  is := keyIs
  hash := keyH w
  inj := fun v a b ha hb => by
    rcases keyIs_shape ha with ⟨i, t, rfl, rfl⟩ | ⟨x, t, rfl, rfl⟩
    · rcases keyIs_shape hb with ⟨j, u, rfl, e⟩ | ⟨y, u, rfl, e⟩
      · injection e with e1 _; rw [e1]
      · exact nomatch e
    · rcases keyIs_shape hb with ⟨j, u, rfl, e⟩ | ⟨y, u, rfl, e⟩
      · exact nomatch e
      · injection e with e1 _; rw [e1]
  byValue := fun k v h => by
    rcases keyIs_shape h with ⟨i, t, rfl, rfl⟩ | ⟨x, t, rfl, rfl⟩ <;> rfl
  pyHash := fun hv h => by
    rcases keyIs_shape hv with ⟨i, t, rfl, rfl⟩ | ⟨x, t, rfl, rfl⟩
    · exact wpAny_pyHash_int h
    · exact wpAny_pyHash_str h
  eqBool := fun hu hv h => by
    rcases keyIs_shape hu with ⟨i, t, rfl, rfl⟩ | ⟨x, t, rfl, rfl⟩
    · rcases keyIs_shape hv with ⟨j, u, rfl, rfl⟩ | ⟨y, u, rfl, rfl⟩
      · rw [key_ll] at h; exact wpAny_eqBool_int h
      · rw [key_lr] at h; exact SeqAt.EqAt.int_str i t y u _ _ _ _ h
    · rcases keyIs_shape hv with ⟨j, u, rfl, rfl⟩ | ⟨y, u, rfl, rfl⟩
      · rw [key_rl] at h; exact SeqAt.EqAt.str_int x t j u _ _ _ _ h
      · rw [key_rr] at h; exact wpAny_eqBool_str h
  «strs» := fun k x t v h => by
    rcases keyIs_shape h with ⟨i, u, rfl, e⟩ | ⟨y, u, rfl, e⟩
    · exact nomatch e
    · injection e with e1 _
      subst e1
      cases v <;> rfl

end L2

namespace L2
open PySem PySem.Spec PyProof.Rows

/-- a value, without the heap -/
inductive V where
  | non | bl (b : Bool) | int (i : Int) | str (x : Str) | byt (b : Array UInt8) | flt (b : UInt64) | ref (a : Addr) | ty (n : String)
  deriving DecidableEq

def RelV : V → Value → Prop
  | .non, u => u = Value.none
  | .bl b, u => u = Value.bool b
  | .int i, u => ∃ t, u = Value.int i t
  | .str x, u => ∃ t, u = Value.str x t
  | .byt b, u => ∃ t, u = Value.bytes b t
  | .flt b, u => ∃ t, u = Value.float b t
  | .ref a, u => u = Value.ref a
  | .ty n, u => u = Value.type n

abbrev Vals : List V → List Value → Prop := Paired RelV
theorem Vals.length {xs : List V} {us : List Value} (r : Vals xs us) : xs.length = us.length := Paired.length r
theorem Vals.get : ∀ {xs : List V} {us : List Value} {i : Nat} {x : V}, Vals xs us → xs[i]? = some x → ∃ u, us[i]? = some u ∧ RelV x u
  | _, _, _, _, .nil, e => by simp at e
  | _, _, 0, _, .cons r _, e => by simp at e; subst e; exact ⟨_, rfl, r⟩
  | _, _, i + 1, x, .cons _ t, e => by
    obtain ⟨u, h1, h2⟩ := Vals.get (i := i) (x := x) t (by simpa using e)
    exact ⟨u, by simpa using h1, h2⟩
theorem Vals.set {x : V} {u : Value} (r : RelV x u) : ∀ {xs : List V} {us : List Value} (i : Nat), Vals xs us → Vals (xs.set i x) (us.set i u)
  | _, _, _, .nil => .nil
  | _, _, 0, .cons _ t => .cons r t
  | _, _, i + 1, .cons q t => .cons q (Vals.set r i t)
theorem Vals.append : ∀ {xs ys : List V} {us ws : List Value}, Vals xs us → Vals ys ws → Vals (xs ++ ys) (us ++ ws)
  | _, _, _, _, .nil, s => s
  | _, _, _, _, .cons r t, s => .cons r (Vals.append t s)
theorem Vals.take : ∀ {xs : List V} {us : List Value} (n : Nat), Vals xs us → Vals (xs.take n) (us.take n)
  | _, _, 0, _ => .nil
  | _, _, _ + 1, .nil => .nil
  | _, _, n + 1, .cons r t => .cons r (Vals.take n t)
theorem Vals.drop : ∀ {xs : List V} {us : List Value} (n : Nat), Vals xs us → Vals (xs.drop n) (us.drop n)
  | _, _, 0, r => r
  | _, _, _ + 1, .nil => .nil
  | _, _, n + 1, .cons _ t => Vals.drop n t

def RelO : Option V → Option Value → Prop
  | some v, some u => RelV v u
  | none, none => True
  | _, _ => False
def KV {κ : Type} : List (κ × V) → List (κ × Value) → Prop := Paired fun (p : κ × V) (q : κ × Value) => p.1 = q.1 ∧ RelV p.2 q.2

/-- a key of a dict (00_mix): an int or a text -/
def kV : Key → V
  | .inl i => .int i
  | .inr x => .str x

/-- what stands at a tracked address -/
inductive HO where
  /-- a list -/
  | lst (xs : List V)
  /-- a tuple (never changes) -/
  | tup (xs : List V)
  /-- a dict whose keys are ints and texts; one whose keys are tuples of ints and texts (the empty one is both) -/
  | dK (kvs : List (Key × V)) | dT (kvs : List (List Key × V))
  /-- a set of ints: its members, its size -/
  | set (S : Int → Bool) (n : Nat)
  /-- an instance of the class at C, its dict at dx, its attributes -/
  | ins (C dx : Addr) (fs : List (Str × V))
  /-- the dict of the instance at x -/
  | own (x : Addr)
  /-- the dict of an exception -/
  | xd (fs : List (Str × V))
  /-- a bound method, f of x -/
  | met (f x : Addr)
  /-- a range object lo, lo + 1, .. below hi -/
  | rng (lo hi : Int)
  /-- a thing that is known to the object (the script; a dict while a loop walks it): read, never written while it is so -/
  | frz (o : Obj) (u : HO)
  /-- a code object's table -/
  | tbl (ps : Array Value)
  /-- any other thing, by what is true of its one object (a def of one's own: SetO a S n := HO.ext fun h => ..) -/
  | ext (φ : Heap → Prop)

abbrev Hp := Addr → Option HO
def upd (H : Hp) (a : Addr) (o : HO) : Hp := fun b => if b = a then some o else H b
theorem upd_same {H : Hp} {a : Addr} {o : HO} : upd H a o a = some o := by unfold upd; rw [if_pos rfl]
theorem upd_ne {H : Hp} {a b : Addr} {o : HO} (h : b ≠ a) : upd H a o b = H b := by unfold upd; rw [if_neg h]
/-- two objects of different content stand apart -/
theorem ne_of {H : Hp} {a b : Addr} {o u : HO} (h : H a = some o) (h' : H b = some u) (d : o ≠ u) : a ≠ b := by
  intro e; subst e; rw [h] at h'; exact d (Option.some.inj h')
theorem ne_of_none {H : Hp} {a b : Addr} {o : HO} (h : H a = some o) (h' : H b = none) : a ≠ b := by
  intro e; subst e; rw [h] at h'; cases h'

section
variable (P : Program) (w : World)
def ObjOk (H : Hp) (h : Heap) (a : Addr) : HO → Prop
  | .lst xs => xs.length ≤ sizeLine ∧ ∃ (its : List Value) (n : Nat), Vals xs its ∧ h.get? a = some { cls := .type "list", data := .seq its.toArray n }
  | .tup xs => xs.length ≤ sizeLine ∧ ∃ its : List Value, Vals xs its ∧ IsTup h a its.toArray
  | .dK kvs => kvs.length ≤ sizeLine ∧ (a == sysModules) = false ∧ ∃ vs, KV kvs vs ∧ h.DictOf (mixKind P w) a vs
  | .dT kvs => kvs.length ≤ sizeLine ∧ (a == sysModules) = false ∧ ∃ xs : List (List Key × Addr × Value),
      Paired (fun (p : List Key × V) (q : List Key × Addr × Value) => p.1 = q.1 ∧ H q.2.1 = some (.tup (p.1.map kV)) ∧ RelV p.2 q.2.2) kvs xs ∧
      ∃ o es ep, h.get? a = some o ∧ o.ExactDict ∧ o.data = .dict es ep ∧ es.toList = xs.map (entryOfKey (tupleKind (mixKind P w))) ∧ (xs.map (·.1)).Nodup
  | .set S n => h.SetOf (intKind P w) a S n
  | .ins C dx fs => H dx = some (.own a) ∧ fs.length ≤ 1000 ∧ dx ≠ a ∧ h.get? a = some (PySem.W.instObj C dx) ∧
      ∃ mA, h.Ns1 dx mA ∧ (∀ f, RelO (fs.lookup f) (mA f)) ∧ PySem.Within mA (fs.map (·.1))
  | .own _ => ∃ o, h.get? a = some o
  | .xd fs => ∃ mA, h.Ns1 a mA ∧ ∀ f, RelO (fs.lookup f) (mA f)
  | .rng lo hi => ∃ t u v, h.get? a = some { cls := .type "range", data := .fields #[.int lo t, .int hi u, .int 1 v] }
  | .frz o u => h.get? a = some o ∧ ObjOk H h a u
  | .tbl ps => h.get? a = some { cls := .none, data := .fields ps }
  | .met f x => h.get? a = some (PySem.W.methodObj (.ref f) (.ref x))
  | .ext φ => φ h ∧ (∃ o, h.get? a = some o) ∧ ∀ h1 h2 : Heap, φ h1 → (∀ o, h1.get? a = some o → h2.get? a = some o) → φ h2
/-- the abstract heap is held -/
def HOk (H : Hp) (h : Heap) : Prop := ∀ a o, H a = some o → ObjOk P w H h a o
end

section
variable {P : Program} {w : World} {H H' : Hp} {h h' : Heap} {a : Addr} {o : HO}
theorem ObjOk.lt (x : ObjOk P w H h a o) : a < h.objs.size := by
  cases o with
  | lst xs => obtain ⟨_, _, _, _, e⟩ := x; exact Heap.lt_size e
  | tup xs => obtain ⟨_, _, _, p⟩ := x; exact p.lt
  | dK kvs => obtain ⟨_, _, _, _, o, _, _, e, _⟩ := x; exact Heap.lt_size e
  | dT kvs => obtain ⟨_, _, _, _, o, _, _, e, _⟩ := x; exact Heap.lt_size e
  | set S n => obtain ⟨o, _, _, _, e, _⟩ := x; exact Heap.lt_size e
  | ins C dx fs => obtain ⟨_, _, _, e, _⟩ := x; exact Heap.lt_size e
  | own y => obtain ⟨_, e⟩ := x; exact Heap.lt_size e
  | xd fs => obtain ⟨_, ⟨_, _, _, e, _⟩, _⟩ := x; exact Heap.lt_size e
  | rng lo hi => obtain ⟨_, _, _, e⟩ := x; exact Heap.lt_size e
  | frz ob u => obtain ⟨e, _⟩ := x; exact Heap.lt_size e
  | tbl ps => exact Heap.lt_size (show h.get? a = some _ from x)
  | met f y => exact Heap.lt_size (show h.get? a = some _ from x)
  | ext φ => obtain ⟨_, ⟨_, e⟩, _⟩ := x; exact Heap.lt_size e
theorem Paired.mapP {α β : Type} {F G : α → β → Prop} : ∀ {l₁ : List α} {l₂ : List β}, Paired F l₁ l₂ → (∀ a b, F a b → G a b) → Paired G l₁ l₂
  | _, _, .nil, _ => .nil
  | _, _, .cons r t, f => .cons (f _ _ r) (Paired.mapP t f)
/-- what an object's description leans on: its own object, its own dict, the tuples -/
theorem ObjOk.stay (x : ObjOk P w H h a o) (k : ∀ b u, (b = a ∨ H b = some (.own a)) → h.get? b = some u → h'.get? b = some u)
    (ho : ∀ b, H b = some (.own a) → H' b = some (.own a)) (ht : ∀ b xs, H b = some (.tup xs) → H' b = some (.tup xs)) : ObjOk P w H' h' a o := by
  induction o with
  | lst xs => obtain ⟨z, its, n, r, e⟩ := x; exact ⟨z, its, n, r, k _ _ (.inl rfl) e⟩
  | tup xs => obtain ⟨z, its, r, ob, e, c⟩ := x; exact ⟨z, its, r, ob, k _ _ (.inl rfl) e, c⟩
  | dK kvs => obtain ⟨z, y, vs, r, ob, es, ep, e, c⟩ := x; exact ⟨z, y, vs, r, ob, es, ep, k _ _ (.inl rfl) e, c⟩
  | dT kvs =>
    obtain ⟨z, y, xs, r, ob, es, ep, e, c⟩ := x
    exact ⟨z, y, xs, Paired.mapP r fun p q z => ⟨z.1, ht _ _ z.2.1, z.2.2⟩, ob, es, ep, k _ _ (.inl rfl) e, c⟩
  | set S n => obtain ⟨ob, es, ep, t, e, c⟩ := x; exact ⟨ob, es, ep, t, k _ _ (.inl rfl) e, c⟩
  | ins C dx fs =>
    obtain ⟨d, z, ne, e, mA, ⟨od, es, ep, e2, c⟩, r⟩ := x
    exact ⟨ho _ d, z, ne, k _ _ (.inl rfl) e, mA, ⟨od, es, ep, k _ _ (.inr d) e2, c⟩, r⟩
  | own y => obtain ⟨ob, e⟩ := x; exact ⟨ob, k _ _ (.inl rfl) e⟩
  | xd fs => obtain ⟨mA, ⟨od, es, ep, e, c⟩, r⟩ := x; exact ⟨mA, ⟨od, es, ep, k _ _ (.inl rfl) e, c⟩, r⟩
  | rng lo hi => obtain ⟨t, u, v, e⟩ := x; exact ⟨t, u, v, k _ _ (.inl rfl) e⟩
  | frz ob u ih => obtain ⟨e, q⟩ := x; exact ⟨k _ _ (.inl rfl) e, ih q⟩
  | tbl ps =>
    have e : h.get? a = some { cls := .none, data := .fields ps } := x
    show h'.get? a = some { cls := .none, data := .fields ps }
    exact k a _ (.inl rfl) e
  | met f y =>
    have e : h.get? a = some (PySem.W.methodObj (.ref f) (.ref y)) := x
    show h'.get? a = some (PySem.W.methodObj (.ref f) (.ref y))
    exact k a _ (.inl rfl) e
  | ext φ => obtain ⟨p, ⟨o, e⟩, st⟩ := x; exact ⟨st _ _ p fun o q => k _ _ (.inl rfl) q, ⟨o, k _ _ (.inl rfl) e⟩, st⟩
theorem HOk.lt (x : HOk P w H h) (e : H a = some o) : a < h.objs.size := (x a o e).lt
theorem HOk.fresh (x : HOk P w H h) (e : h.objs.size ≤ a) : H a = none := by
  cases q : H a with
  | none => rfl
  | some u => exact absurd (Nat.lt_of_lt_of_le (x.lt q) e) (Nat.lt_irrefl _)
/-- every object of the heap is kept -/
theorem HOk.kept (x : HOk P w H h) (k : ∀ b u, h.get? b = some u → h'.get? b = some u) : HOk P w H h' := fun a o e =>
  (x a o e).stay (fun b u _ q => k b u q) (fun _ q => q) fun _ _ q => q
/-- a new object is laid and tracked -/
theorem HOk.laid (x : HOk P w H h) (k : ∀ b u, h.get? b = some u → h'.get? b = some u) (hp : h.objs.size ≤ a) (new : ObjOk P w (upd H a o) h' a o) : HOk P w (upd H a o) h' := fun b u e => by
  have hn := x.fresh hp
  by_cases hb : b = a
  · subst hb; rw [upd_same] at e; cases e; exact new
  · rw [upd_ne hb] at e
    exact (x b u e).stay (fun c v _ q => k c v q) (fun c q => by rw [upd_ne (ne_of_none q hn)]; exact q) fun c xs q => by rw [upd_ne (ne_of_none q hn)]; exact q
end

/-- what may be read as u: it is u, or a known u -/
def Rd (H : Hp) (a : Addr) (u : HO) : Prop := H a = some u ∨ ∃ o, H a = some (.frz o u)
theorem Rd.ok {P : Program} {w : World} {H : Hp} {h : Heap} {a : Addr} {u : HO} (r : Rd H a u) (x : HOk P w H h) : ObjOk P w H h a u := by
  rcases r with r | ⟨o, r⟩
  · exact x a u r
  · obtain ⟨_, q⟩ := x a _ r
    exact q
/-- what may be written -/
def Mut : Option HO → Prop
  | some (.lst _) => True
  | some (.dK _) => True
  | some (.dT _) => True
  | some (.set _ _) => True
  | some (.ins _ _ _) => True
  | some (.ext _) => True
  | _ => False
section
variable {P : Program} {w : World} {H : Hp} {h h' : Heap} {x e : Addr} {o' : HO}
/-- the object at e is changed: x itself, or the dict of the instance x -/
theorem HOk.write (ok : HOk P w H h) (mu : Mut (H x)) (he : e = x ∨ H e = some (.own x)) (k : ∀ b u, b ≠ e → h.get? b = some u → h'.get? b = some u) (heo : ∃ u, h'.get? e = some u)
    (new : ObjOk P w (upd H x o') h' x o') : HOk P w (upd H x o') h' := fun b u q => by
  have nown : ∀ c y, H c = some (.own y) → c ≠ x := fun c y r z => by subst z; rw [r] at mu; exact mu
  have ntup : ∀ c xs, H c = some (.tup xs) → c ≠ x := fun c xs r z => by subst z; rw [r] at mu; exact mu
  by_cases hb : b = x
  · subst hb; rw [upd_same] at q; cases q; exact new
  · rw [upd_ne hb] at q
    by_cases hbe : b = e
    · have q' : H b = some (.own x) := by
        rcases he with z | z
        · exact absurd (hbe.trans z) hb
        · rw [hbe]; exact z
      rw [q] at q'; cases q'
      obtain ⟨v, hv⟩ := heo
      exact ⟨v, by rw [hbe]; exact hv⟩
    · refine (ok b u q).stay (fun c v hc r => k c v ?_ r) (fun c r => by rw [upd_ne (nown c b r)]; exact r) fun c xs r => by rw [upd_ne (ntup c xs r)]; exact r
      rcases hc with rfl | hc
      · exact hbe
      · rintro rfl
        rcases he with z | z
        · exact nown c b hc z
        · rw [hc] at z; cases z; exact hb rfl
end

/-! ### kept unless tracked; of the frames at fs (the callers') the slots may change (an exception that passes writes there); of the records at ex (iterators) nothing is said -/
structure Un (fs ex : List Addr) (H H' : Hp) (h h' : Heap) : Prop where
  keep : ∀ b o, h.get? b = some o → H b = none → b ∉ fs → b ∉ ex → h'.get? b = some o
  slot : ∀ b o, h.get? b = some o → H b = none → b ∈ fs → b ∉ ex → ∃ sl, h'.get? b = some { o with slots := sl }
  free : ∀ b o, h.get? b = some o → H b = none → b ∉ ex → H' b = none
  there : ∀ b o, h.get? b = some o → b ∉ ex → ∃ o', h'.get? b = some o'
  tups : ∀ b xs, H b = some (.tup xs) → H' b = some (.tup xs)
  frzs : ∀ b o u, H b = some (.frz o u) → H' b = some (.frz o u)
  tbls : ∀ b ps, H b = some (.tbl ps) → ∃ more, H' b = some (.tbl (ps ++ more))
section
variable {fs fs' ex ex' : List Addr} {H H1 H2 : Hp} {h h1 h2 h' : Heap} {a x e : Addr} {o : HO}
theorem Un.any (u : Un fs ex H H1 h h1) {b : Addr} {ob : Obj} (q : h.get? b = some ob) (n : H b = none) (hx : b ∉ ex) : ∃ sl, h1.get? b = some { ob with slots := sl } := by
  by_cases hb : b ∈ fs
  · exact u.slot b ob q n hb hx
  · exact ⟨ob.slots, u.keep b ob q n hb hx⟩
theorem Un.kept (k : ∀ b u, h.get? b = some u → h'.get? b = some u) : Un fs ex H H h h' :=
  ⟨fun b ob q _ _ _ => k b ob q, fun b ob q _ _ _ => ⟨ob.slots, k b ob q⟩, fun _ _ _ n _ => n, fun b ob q _ => ⟨ob, k b ob q⟩, fun _ _ q => q, fun _ _ _ q => q, fun _ ps q => ⟨#[], by rw [q]; simp⟩⟩
theorem Un.refl : Un fs ex H H h h := Un.kept fun _ _ q => q
theorem Un.laid (k : ∀ b u, h.get? b = some u → h'.get? b = some u) (hp : h.objs.size ≤ a) (hn : H a = none) : Un fs ex H (upd H a o) h h' where
  keep := fun b u q _ _ _ => k b u q
  slot := fun b u q _ _ _ => ⟨u.slots, k b u q⟩
  free := fun b u q n _ => by rw [upd_ne (Nat.ne_of_lt (Nat.lt_of_lt_of_le (Heap.lt_size q) hp))]; exact n
  there := fun b u q _ => ⟨u, k b u q⟩
  tups := fun b xs q => by rw [upd_ne (ne_of_none q hn)]; exact q
  frzs := fun b u xs q => by rw [upd_ne (ne_of_none q hn)]; exact q
  tbls := fun b ps q => ⟨#[], by rw [upd_ne (ne_of_none q hn), q]; simp⟩
theorem Un.write (mu : Mut (H x)) (he : e = x ∨ H e = some (.own x)) (k : ∀ b u, b ≠ e → h.get? b = some u → h'.get? b = some u) (heo : ∃ u, h'.get? e = some u) : Un fs ex H (upd H x o) h h' := by
  have hx : ∀ b, H b = none → b ≠ x := fun b n z => by subst z; rw [n] at mu; exact mu
  have hb : ∀ b, H b = none → b ≠ e := fun b n z => by
    subst z
    rcases he with r | r
    · exact hx b n r
    · rw [n] at r; cases r
  have hm : ∀ b u, H b = some u → ¬ Mut (some u) → b ≠ x := fun b u q nm z => by subst z; rw [q] at mu; exact nm mu
  refine ⟨fun b u q n _ _ => k b u (hb b n) q, fun b u q n _ _ => ⟨u.slots, k b u (hb b n) q⟩, fun b u q n _ => by rw [upd_ne (hx b n)]; exact n, fun b u q _ => ?_,
    fun b xs q => by rw [upd_ne (hm b _ q fun z => z)]; exact q, fun b u xs q => by rw [upd_ne (hm b _ q fun z => z)]; exact q, fun b ps q => ⟨#[], by rw [upd_ne (hm b _ q fun z => z), q]; simp⟩⟩
  by_cases hbe : b = e
  · subst hbe; exact heo
  · exact ⟨u, k b u hbe q⟩
end

/-! ### the heap without what is tracked -/
def trk (h : Heap) (H : Hp) : List Addr := (List.range h.objs.size).filter fun a => (H a).isSome
def hidT (h : Heap) (H : Hp) : Heap := PySem.W.hideAll h (trk h H)
theorem hidT_size (h : Heap) (H : Hp) : (hidT h H).objs.size = h.objs.size := PySem.W.hideAll_size _ _
theorem hidT_get {h : Heap} {H : Hp} {b : Addr} {o : Obj} (e : h.get? b = some o) (n : H b = none) : (hidT h H).get? b = some o :=
  PySem.W.hideAll_get _ e fun hm => by
    have q : (H b).isSome = true := (List.mem_filter.mp hm).2
    rw [n] at q; simp at q
theorem of_hidT {h : Heap} {H : Hp} {b : Addr} {o : Obj} (e : (hidT h H).get? b = some o) : h.get? b = some o ∧ H b = none := by
  have e' : h.get? b = some o := PySem.W.of_hideAll (trk h H) e
  refine ⟨e', ?_⟩
  cases q : H b with
  | none => rfl
  | some x =>
    have hm : b ∈ trk h H := List.mem_filter.mpr ⟨List.mem_range.mpr (Heap.lt_size e'), by simp [q]⟩
    have z : (hidT h H).get? b = none := PySem.W.hideAll_none (trk h H) hm
    rw [z] at e; cases e

/-! ### OpenK's ledger, filled with every new object but one -/
def allNews (g h : Heap) (L : Addr) : List (Addr × Obj) := (List.range h.objs.size).filterMap fun a => if a = L ∨ (g.get? a).isSome = true then none else (h.get? a).map fun o => (a, o)
def rest (g h : Heap) (L d : Addr) : List (Addr × Obj) := (allNews g h L).filter fun p => decide (p.1 ≠ d)
end L2

namespace L2
open PySem PySem.Spec PyProof.Rows

/-- the module's facts, over the base: the heap at the law's entry without what is tracked there -/
structure Mod (K : PySem.W.Frag) (mg : Str → Option Value) (base : Heap) : Prop where
  kin : K.In base
  glob : base.Ns mainGlobals mg
  blt : ∃ mb, base.Ns builtinsNs mb ∧ ∀ x : Str, x ≠ "__name__" → mb x = bootBuiltins x
  nolimit : base.NoLimit

/-- the context: a def's body (or a comprehension's block) running. base: fixed through the whole law; s₀, H₀: the entry; outer: the frames whose slots others may change (a def's callers); stack: all frames that run;
   ex: iterators that were made ahead of the entry and are walked here (a comprehension's); fn: the names whose cells were made at the entry (a def: all; a comprehension's block: its own); calm: not within an except suite; pn: pins that every state bears; xe: what is wanted of an exception that leaves the code -/
structure Cx where
  prog : Program
  w : World
  K : PySem.W.Frag
  mg : Str → Option Value
  base : Heap
  A : Around
  N : List Str
  s₀ : Shared
  H₀ : Hp
  env : Env
  outer : List Env
  stack : List Env
  ex : List Addr
  fn : Str → Bool
  calm : Bool
  pn : List (Addr × Obj)
  xe : Value → Shared → Prop
/-- the callers' frames -/
def frs (l : List Env) : List Addr := l.filterMap (·.frame)
abbrev Cx.fs (X : Cx) : List Addr := frs X.outer

def Vis (sc : Scope) (x : Str) : Prop := sc.names.lookup x = some .local ∨ sc.names.lookup x = some .cell ∨ sc.names.lookup x = some .free
def Loc (sc : Scope) (x : Str) : Prop := sc.names.lookup x = some .local ∨ sc.names.lookup x = some .cell
def Look (env : Env) (h : Heap) (m : Str → Option Value) (x : Str) (u : Value) : Prop :=
  (env.kindOf x = some .local ∧ m x = some u) ∨ ((env.kindOf x = some .cell ∨ env.kindOf x = some .free) ∧ ∃ c, env.cells.lookup x = some c ∧ h.IsCell c (some u))

structure Cx.Ok (X : Cx) : Prop where
  mod : Mod X.K X.mg X.base
  kind : X.env.scope.kind = .function
  glob : X.env.globals = mainGlobals
  blt : X.env.builtins = builtinsNs
  above : X.s₀.heap.objs.size ≤ X.env.locals
  inj : ∀ x y c, X.env.cells.lookup x = some c → X.env.cells.lookup y = some c → x = y
  has : ∀ x, (X.env.kindOf x = some .cell ∨ X.env.kindOf x = some .free) → ∃ c, X.env.cells.lookup x = some c
  cab : ∀ x c, X.fn x = true → X.env.cells.lookup x = some c → X.s₀.heap.objs.size ≤ c
  hd : X.calm = true → X.A.handled = none
  frames : X.A.frames = some X.stack
  stk : X.stack = X.outer ∨ (X.stack = X.env :: X.outer ∧ X.env.frame = some X.env.locals)
  exf : ∀ b ∈ X.ex, b ≠ X.env.locals ∧ ∀ x c, X.env.cells.lookup x = some c → c ≠ b
  bs : ∀ b o, X.base.get? b = some o → X.s₀.heap.get? b = some o ∧ X.H₀ b = none
  bsz : X.base.objs.size ≤ X.s₀.heap.objs.size
  noex : ∀ b o, X.base.get? b = some o → b ∉ X.ex
  exfs : ∀ b ∈ X.ex, b ∉ X.fs
  funs : X.s₀.heap.FunFrames X.base X.outer
  frf : ∀ b ∈ X.fs, X.H₀ b = none

structure Inv (X : Cx) (pins : List (Addr × Obj)) (σ : List (Option V)) (H : Hp) (s : Shared) : Prop where
  ok : X.Ok
  os : s.os = X.s₀.os
  bare : AllBare s.gens
  base : Un X.fs X.ex X.H₀ H X.s₀.heap s.heap
  loc : ∃ m, s.heap.Ns X.env.locals m ∧ ∀ (i : Nat) (x : Str) (v : V), X.N[i]? = some x → σ[i]? = some (some v) → Vis X.env.scope x → ∃ u, RelV v u ∧ Look X.env s.heap m x u
  cell : ∀ x c, X.env.cells.lookup x = some c → ∃ v, s.heap.IsCell c v
  free : H X.env.locals = none
  freeC : ∀ x c, X.env.cells.lookup x = some c → H c = none
  pin : ∀ p ∈ X.pn ++ pins, s.heap.get? p.1 = some p.2 ∧ H p.1 = none ∧ p.1 ≠ X.env.locals ∧ p.1 ∉ X.fs ∧ ∀ v, p.2.data ≠ .cell v
  hok : HOk X.prog X.w H s.heap
  len : σ.length = X.N.length

section
variable {X : Cx} {pins : List (Addr × Obj)} {σ : List (Option V)} {H H' : Hp} {s : Shared} {h' : Heap}

theorem Cx.Ok.nofr (ok : X.Ok) {b : Addr} {o : Obj} (e : X.base.get? b = some o) : b ∉ X.fs := fun hb => by
  have := (ok.funs.mem hb).1
  rw [e] at this; cases this
theorem Inv.bs (I : Inv X pins σ H s) : ∀ b o, X.base.get? b = some o → s.heap.get? b = some o ∧ H b = none := fun b o e =>
  ⟨I.base.keep b o (I.ok.bs b o e).1 (I.ok.bs b o e).2 (I.ok.nofr e) (I.ok.noex b o e), I.base.free b o (I.ok.bs b o e).1 (I.ok.bs b o e).2 (I.ok.noex b o e)⟩
theorem Inv.bk (I : Inv X pins σ H s) : ∀ b o, X.base.get? b = some o → s.heap.get? b = some o := fun b o e => (I.bs b o e).1
theorem Inv.mod (I : Inv X pins σ H s) : Mod X.K X.mg X.base := I.ok.mod
theorem Inv.kIn (I : Inv X pins σ H s) : X.K.In s.heap := I.ok.mod.kin.keeps I.bk
theorem Inv.lt (I : Inv X pins σ H s) : X.env.locals < s.heap.objs.size := let ⟨_, hn, _⟩ := I.loc; hn.lt
theorem Inv.sz (I : Inv X pins σ H s) : X.s₀.heap.objs.size ≤ s.heap.objs.size := Nat.le_trans I.ok.above (Nat.le_of_lt I.lt)
theorem Inv.nofs (I : Inv X pins σ H s) {a : Addr} (h : s.heap.objs.size ≤ a) : a ∉ X.fs := fun hb => by
  obtain ⟨_, o, ho, _⟩ := I.ok.funs.mem hb
  exact absurd (Nat.lt_of_lt_of_le (Heap.lt_size ho) (Nat.le_trans I.sz h)) (Nat.lt_irrefl _)
theorem Inv.cne (I : Inv X pins σ H s) : ∀ x c, X.env.cells.lookup x = some c → c ≠ X.env.locals := fun x c e z => by
  obtain ⟨v, o, ho, hd⟩ := I.cell x c e
  obtain ⟨m, ⟨o', es, ep, ho', hd', _⟩, _⟩ := I.loc
  rw [z, ho'] at ho; cases ho; rw [hd'] at hd; cases hd
theorem Inv.funs (I : Inv X pins σ H s) : s.heap.FunFrames X.base X.outer := by
  have all : ∀ (l : List Env), (∀ b ∈ frs l, b ∈ X.fs) → X.s₀.heap.FunFrames X.base l → s.heap.FunFrames X.base l := by
    intro l
    induction l with
    | nil => intro _ _; trivial
    | cons env r ih =>
      intro hs hl
      obtain ⟨hk, ⟨L, o, hf, hn, ho, hd⟩, hr⟩ := hl
      have hL : L ∈ X.fs := hs L (by unfold frs; rw [List.filterMap_cons, hf]; exact List.mem_cons_self)
      obtain ⟨sl, e⟩ := I.base.slot L o ho (I.ok.frf L hL) hL fun z => I.ok.exfs L z hL
      exact ⟨hk, ⟨L, _, hf, hn, e, hd⟩, ih (fun b hb => hs b (by unfold frs; rw [List.filterMap_cons, hf]; exact List.mem_cons_of_mem _ hb)) hr⟩
  exact all X.outer (fun _ hb => hb) I.ok.funs

/-- the frames that run, for a call -/
theorem Inv.stack (I : Inv X pins σ H s) : s.heap.FunFrames X.base X.stack := by
  rcases I.ok.stk with e | ⟨e, hf⟩
  · rw [e]; exact I.funs
  · rw [e]
    obtain ⟨m, hn, _⟩ := I.loc
    refine .cons (by rw [I.ok.kind]; decide) hf hn ?_ I.funs
    exact Heap.get?_none_of_le (Nat.le_trans I.ok.bsz I.ok.above)
theorem Inv.stkSub (I : Inv X pins σ H s) : ∀ b ∈ frs X.stack, b ∈ X.env.locals :: X.fs := fun b hb => by
  rcases I.ok.stk with e | ⟨e, hf⟩
  · rw [e] at hb; exact List.mem_cons_of_mem _ hb
  · rw [e] at hb
    unfold frs at hb
    rw [List.filterMap_cons, hf] at hb
    exact hb
theorem Inv.stkFree (I : Inv X pins σ H s) : ∀ b ∈ frs X.stack, H b = none := fun b hb => by
  rcases List.mem_cons.mp (I.stkSub b hb) with e | hb
  · rw [e]; exact I.free
  · obtain ⟨_, o, ho, _⟩ := I.ok.funs.mem hb
    exact I.base.free b o ho (I.ok.frf b hb) fun z => I.ok.exfs b z hb

/-- THE STEP: the untracked objects but the frame and the records at ch are kept (the callers' frames up to slots), the frame's map is kept, the new abstract heap is held -/
theorem Inv.step {g' : Array GenState} {t' : Nat} {d' : Drawn} {ch : List Addr} (I : Inv X pins σ H s)
    (hch : ∀ b ∈ ch, (b ∈ X.ex ∨ X.s₀.heap.objs.size ≤ b) ∧ b ≠ X.env.locals ∧ (∀ x c, X.env.cells.lookup x = some c → c ≠ b) ∧ ∀ p ∈ X.pn ++ pins, p.1 ≠ b)
    (keep : ∀ b o, b ≠ X.env.locals → b ∉ X.fs → b ∉ ch → s.heap.get? b = some o → H b = none → h'.get? b = some o)
    (slot : ∀ b o, b ≠ X.env.locals → b ∈ X.fs → b ∉ ch → s.heap.get? b = some o → H b = none → ∃ sl, h'.get? b = some { o with slots := sl }) (free : ∀ b o, b ∉ ch → s.heap.get? b = some o → H b = none → H' b = none)
    (there : ∀ b o, b ∉ ch → s.heap.get? b = some o → ∃ o', h'.get? b = some o')
    (tups : ∀ b xs, H b = some (.tup xs) → H' b = some (.tup xs)) (frzs : ∀ b o u, H b = some (.frz o u) → H' b = some (.frz o u)) (tbls : ∀ b ps, H b = some (.tbl ps) → ∃ more, H' b = some (.tbl (ps ++ more)))
    (ns : ∀ m, s.heap.Ns X.env.locals m → h'.Ns X.env.locals m) (hok : HOk X.prog X.w H' h') (hg : AllBare g') :
    Inv X pins σ H' { s with heap := h', gens := g', drawn := d', toks := t' } := by
  have neL : ∀ b o, X.s₀.heap.get? b = some o → b ≠ X.env.locals := fun b o e => Nat.ne_of_lt (Nat.lt_of_lt_of_le (Heap.lt_size e) I.ok.above)
  have neC : ∀ b o, X.s₀.heap.get? b = some o → b ∉ X.ex → b ∉ ch := fun b o e hx hb => by
    rcases (hch b hb).1 with z | z
    · exact hx z
    · exact absurd (Nat.lt_of_lt_of_le (Heap.lt_size e) z) (Nat.lt_irrefl _)
  have cellK : ∀ x c, X.env.cells.lookup x = some c → ∀ v, s.heap.IsCell c v → h'.IsCell c v := fun x c e v ⟨o, ho, hd⟩ => by
    have nch : c ∉ ch := fun z => (hch c z).2.2.1 x c e rfl
    by_cases hc : c ∈ X.fs
    · obtain ⟨sl, q⟩ := slot c o (I.cne x c e) hc nch ho (I.freeC x c e)
      exact ⟨_, q, hd⟩
    · exact ⟨o, keep c o (I.cne x c e) hc nch ho (I.freeC x c e), hd⟩
  refine ⟨I.ok, I.os, hg, ⟨fun b o e n hb hx => ?_, fun b o e n hb hx => ?_, fun b o e n hx => ?_, fun b o e hx => ?_, fun b xs e => tups b xs (I.base.tups b xs e), fun b o xs e => frzs b o xs (I.base.frzs b o xs e), fun b ps e => ?_⟩, ?_, fun x c e => ?_, ?_, fun x c e => ?_, fun p hp => ?_, hok, I.len⟩
  · exact keep b o (neL b o e) hb (neC b o e hx) (I.base.keep b o e n hb hx) (I.base.free b o e n hx)
  · obtain ⟨sl, e1⟩ := I.base.slot b o e n hb hx
    obtain ⟨sl', e2⟩ := slot b _ (neL b o e) hb (neC b o e hx) e1 (I.base.free b o e n hx)
    exact ⟨sl', e2⟩
  · obtain ⟨o', e1⟩ := I.base.there b o e hx
    exact free b o' (neC b o e hx) e1 (I.base.free b o e n hx)
  · obtain ⟨o', e1⟩ := I.base.there b o e hx
    exact there b o' (neC b o e hx) e1
  · obtain ⟨m1, e1⟩ := I.base.tbls b ps e
    obtain ⟨m2, e2⟩ := tbls b _ e1
    exact ⟨m1 ++ m2, by rw [e2, Array.append_assoc]⟩
  · obtain ⟨m, hn, hl⟩ := I.loc
    refine ⟨m, ns m hn, fun i x v e1 e2 e3 => ?_⟩
    obtain ⟨u, r, l⟩ := hl i x v e1 e2 e3
    refine ⟨u, r, ?_⟩
    rcases l with l | ⟨k, c, e, z⟩
    · exact .inl l
    · exact .inr ⟨k, c, e, cellK x c e _ z⟩
  · obtain ⟨v, z⟩ := I.cell x c e
    exact ⟨v, cellK x c e v z⟩
  · obtain ⟨m, ⟨o, _, _, ho, _⟩, _⟩ := I.loc
    exact free _ o (fun z => (hch _ z).2.1 rfl) ho I.free
  · obtain ⟨v, o, ho, hd⟩ := I.cell x c e
    exact free c o (fun z => (hch c z).2.2.1 x c e rfl) ho (I.freeC x c e)
  · obtain ⟨e, n, ne, nf, d⟩ := I.pin p hp
    have nch : p.1 ∉ ch := fun z => (hch p.1 z).2.2.2 p hp rfl
    exact ⟨keep p.1 p.2 ne nf nch e n, free p.1 p.2 nch e n, ne, nf, d⟩
/-- .. where the frame's own object is kept too -/
theorem Inv.un {t' : Nat} (I : Inv X pins σ H s) (u : Un X.fs [] H H' s.heap h') (hok : HOk X.prog X.w H' h') : Inv X pins σ H' { s with heap := h', toks := t' } := by
  obtain ⟨m, ⟨o, es, ep, ho, r⟩, _⟩ := id I.loc
  obtain ⟨sl, hL⟩ := u.any ho I.free (by simp)
  exact I.step (g' := s.gens) (d' := s.drawn) (ch := []) (fun _ z => nomatch z) (fun b o _ hb _ e n => u.keep b o e n hb (by simp)) (fun b o _ hb _ e n => u.slot b o e n hb (by simp)) (fun b o _ e n => u.free b o e n (by simp)) (fun b o _ e => u.there b o e (by simp)) u.tups u.frzs u.tbls (fun m' hm => by
    obtain ⟨o', es', ep', ho', r'⟩ := hm
    rw [ho] at ho'; cases ho'
    exact ⟨_, es', ep', hL, r'⟩) hok I.bare
/-- behind a call (or a comprehension's block): the slots of this frame may have changed too, the records at ch may have turned -/
theorem Inv.call {g' : Array GenState} {t' : Nat} {d' : Drawn} {ch : List Addr} (I : Inv X pins σ H s) (u : Un (frs X.stack) ch H H' s.heap h') (hok : HOk X.prog X.w H' h') (hg : AllBare g')
    (hch : ∀ b ∈ ch, (b ∈ X.ex ∨ X.s₀.heap.objs.size ≤ b) ∧ b ≠ X.env.locals ∧ (∀ x c, X.env.cells.lookup x = some c → c ≠ b) ∧ ∀ p ∈ X.pn ++ pins, p.1 ≠ b) :
    Inv X pins σ H' { s with heap := h', gens := g', drawn := d', toks := t' } := by
  obtain ⟨m, ⟨o, es, ep, ho, r⟩, _⟩ := id I.loc
  obtain ⟨sl, hL⟩ := u.any ho I.free fun z => (hch _ z).2.1 rfl
  exact I.step (ch := ch) hch (fun b o hL hb hc e n => u.keep b o e n (fun z => (List.mem_cons.mp (I.stkSub b z)).elim hL hb) hc) (fun b o _ _ hc e n => u.any e n hc) (fun b o hc e n => u.free b o e n hc) (fun b o hc e => u.there b o e hc) u.tups u.frzs u.tbls (fun m' hm => by
    obtain ⟨o', es', ep', ho', r'⟩ := hm
    rw [ho] at ho'; cases ho'
    exact ⟨_, es', ep', hL, r'⟩) hok hg
/-- an untracked record of ours (an iterator) has turned -/
theorem Inv.turned {t' : Nat} {it : Addr} (I : Inv X pins σ H s) (k : ∀ b o, b ≠ it → s.heap.get? b = some o → h'.get? b = some o) (hn : H it = none) (hL : it ≠ X.env.locals)
    (h1 : it ∈ X.ex ∨ X.s₀.heap.objs.size ≤ it) (h2 : ∀ x c, X.env.cells.lookup x = some c → c ≠ it) (h3 : ∀ p ∈ X.pn ++ pins, p.1 ≠ it) : Inv X pins σ H { s with heap := h', toks := t' } := by
  have nit : ∀ b u, H b = some u → b ≠ it := fun b u e z => by rw [z, hn] at e; cases e
  refine I.step (g' := s.gens) (d' := s.drawn) (ch := [it]) (fun b hb => ?_) (fun b o _ _ hc e _ => k b o (fun z => hc (by simp [z])) e) (fun b o _ _ hc e _ => ⟨o.slots, k b o (fun z => hc (by simp [z])) e⟩) (fun _ _ _ _ n => n)
    (fun b o hc e => ⟨o, k b o (fun z => hc (by simp [z])) e⟩) (fun _ _ e => e) (fun _ _ _ e => e) (fun b ps e => ⟨#[], by rw [e]; simp⟩) (fun m hm => ?_) (fun b u e => ?_) I.bare
  · have e : b = it := by simpa using hb
    subst e
    exact ⟨h1, hL, h2, h3⟩
  · obtain ⟨o, es, ep, ho, r⟩ := hm
    exact ⟨o, es, ep, k _ o (Ne.symm hL) ho, r⟩
  · refine (I.hok b u e).stay (fun c v hc q => k c v ?_ q) (fun _ q => q) fun _ _ q => q
    rcases hc with z | z
    · rw [z]; exact nit b u e
    · exact nit c _ z
theorem Inv.tok (I : Inv X pins σ H s) (t : Nat) : Inv X pins σ H { s with toks := t } := I.un (h' := s.heap) (t' := t) Un.refl I.hok
/-- all objects kept -/
theorem Inv.kept {t' : Nat} (I : Inv X pins σ H s) (k : ∀ b u, s.heap.get? b = some u → h'.get? b = some u) : Inv X pins σ H { s with heap := h', toks := t' } := I.un (Un.kept k) (I.hok.kept k)
/-- a new object laid and tracked -/
theorem Inv.laid {a : Addr} {o : HO} {t' : Nat} (I : Inv X pins σ H s) (k : ∀ b u, s.heap.get? b = some u → h'.get? b = some u) (hp : s.heap.objs.size ≤ a) (new : ObjOk X.prog X.w (upd H a o) h' a o) :
    Inv X pins σ (upd H a o) { s with heap := h', toks := t' } := I.un (Un.laid k hp (I.hok.fresh hp)) (I.hok.laid k hp new)
/-- an object written -/
theorem Inv.write {x e : Addr} {o : HO} {t' : Nat} (I : Inv X pins σ H s) (mu : Mut (H x)) (he : e = x ∨ H e = some (.own x)) (k : ∀ b u, b ≠ e → s.heap.get? b = some u → h'.get? b = some u) (heo : ∃ u, h'.get? e = some u)
    (new : ObjOk X.prog X.w (upd H x o) h' x o) : Inv X pins σ (upd H x o) { s with heap := h', toks := t' } := I.un (Un.write mu he k heo) (I.hok.write mu he k heo new)
theorem Inv.pins_of {pins' : List (Addr × Obj)} (I : Inv X pins σ H s) (h : ∀ p ∈ pins', s.heap.get? p.1 = some p.2 ∧ H p.1 = none ∧ p.1 ≠ X.env.locals ∧ p.1 ∉ X.fs ∧ ∀ v, p.2.data ≠ .cell v) : Inv X pins' σ H s :=
  ⟨I.ok, I.os, I.bare, I.base, I.loc, I.cell, I.free, I.freeC, fun p hp => (List.mem_append.mp hp).elim (fun z => I.pin p (List.mem_append_left _ z)) (h p), I.hok, I.len⟩

theorem nodup_ix {N : List Str} (hN : N.Nodup) {i j : Nat} {x : Str} (a : N[i]? = some x) (b : N[j]? = some x) : i = j := by
  obtain ⟨h1, e1⟩ := List.getElem?_eq_some_iff.mp a
  obtain ⟨h2, e2⟩ := List.getElem?_eq_some_iff.mp b
  exact (List.getElem_inj hN).mp (e1.trans e2.symm)

/-- a name is stored; what changed -/
theorem store_ok2 {M : Model} {A : Around} {E : Value → Shared → Prop} {i : Nat} {x : Str} {v : V} {u : Value} {Q : Unit → Shared → Prop} (I : Inv X pins σ H s) (hN : X.N.Nodup) (hi : X.N[i]? = some x) (hx : Loc X.env.scope x) (r : RelV v u)
    (h : ∀ s', Inv X pins (σ.set i (some v)) H s' → (∃ a, Heap.SameBut a s.heap s'.heap ∧ (a = X.env.locals ∨ X.env.cells.lookup x = some a)) → Q () s') (hf : X.fn x = true ∨ X.env.scope.names.lookup x = some .local := by first | exact .inl rfl | exact .inr rfl | assumption) : wpAny M A (storeName X.env x u) Q E s := by
  obtain ⟨m, hn, hl⟩ := id I.loc
  have hcls : (X.env.scope.kind == .class || (X.env.scope.kind == .module && X.env.locals != X.env.globals)) = false := by rw [I.ok.kind]; rfl
  have hiσ : i < σ.length := by rw [I.len]; exact (List.getElem?_eq_some_iff.mp hi).1
  have cne := I.cne
  have tracked : ∀ {a : Addr} {h' : Heap}, (∃ o, s.heap.get? a = some o ∧ H a = none) → Heap.SameBut a s.heap h' → HOk X.prog X.w H h' := fun {a h'} ha hs b ob e => by
    obtain ⟨_, _, hfree⟩ := ha
    refine (I.hok b ob e).stay (fun c w' hc q => (hs.2 c ?_).trans q) (fun _ q => q) fun _ _ q => q
    rintro rfl
    rcases hc with rfl | hc
    · rw [hfree] at e; cases e
    · rw [hfree] at hc; cases hc
  rcases hx with hk | hk
  · refine wpAny_storeName_local hk hn (fun h' hn' hs => ?_) hcls
    obtain ⟨oL, _, _, hoL, _⟩ := id hn
    refine h _ ⟨I.ok, I.os, I.bare, ⟨fun b o e n hb hx => ?_, fun b o e n hb hx => ?_, I.base.free, fun b o e hx => ?_, I.base.tups, I.base.frzs, I.base.tbls⟩, ⟨_, hn', fun j y v' e1 e2 e3 => ?_⟩, fun y c e => ?_, I.free, I.freeC, fun p hp => ?_, tracked ⟨oL, hoL, I.free⟩ hs, by simpa using I.len⟩ ⟨_, hs, .inl rfl⟩
    · exact (hs.2 b (Nat.ne_of_lt (Nat.lt_of_lt_of_le (Heap.lt_size e) I.ok.above))).trans (I.base.keep b o e n hb hx)
    · obtain ⟨sl, e1⟩ := I.base.slot b o e n hb hx
      exact ⟨sl, (hs.2 b (Nat.ne_of_lt (Nat.lt_of_lt_of_le (Heap.lt_size e) I.ok.above))).trans e1⟩
    · obtain ⟨o', e1⟩ := I.base.there b o e hx
      exact ⟨o', (hs.2 b (Nat.ne_of_lt (Nat.lt_of_lt_of_le (Heap.lt_size e) I.ok.above))).trans e1⟩
    · by_cases hj : j = i
      · subst hj
        rw [hi] at e1; cases e1
        rw [List.getElem?_set_self hiσ] at e2
        cases e2
        exact ⟨u, r, .inl ⟨hk, by simp⟩⟩
      · rw [List.getElem?_set_ne (Ne.symm hj)] at e2
        obtain ⟨u', r', q⟩ := hl j y v' e1 e2 e3
        refine ⟨u', r', ?_⟩
        rcases q with ⟨k, e⟩ | ⟨k, c, e, z⟩
        · refine .inl ⟨k, ?_⟩
          have : y ≠ x := fun e => hj (nodup_ix hN e1 (e ▸ hi))
          simp [this, e]
        · exact .inr ⟨k, c, e, z.sameBut hs (cne y c e)⟩
    · obtain ⟨w', z⟩ := I.cell y c e
      exact ⟨w', z.sameBut hs (cne y c e)⟩
    · obtain ⟨e, n, ne, nf, d⟩ := I.pin p hp
      exact ⟨(hs.2 p.1 ne).trans e, n, ne, nf, d⟩
  · have hfn : X.fn x = true := by
      rcases hf with z | z
      · exact z
      · rw [z] at hk; cases hk
    obtain ⟨c, hc⟩ := I.ok.has x (.inl hk)
    obtain ⟨w', z⟩ := I.cell x c hc
    refine wpAny_storeName_cell I.ok.kind hk hc z (fun h' hc' hs => ?_)
    obtain ⟨oc, hoc, hocd⟩ := id z
    refine h { s with heap := h' } ⟨I.ok, I.os, I.bare, ⟨fun b o e n hb hx => ?_, fun b o e n hb hx => ?_, I.base.free, fun b o e hx => ?_, I.base.tups, I.base.frzs, I.base.tbls⟩, ⟨m, hn.sameBut hs (Ne.symm (cne x c hc)), fun j y v' e1 e2 e3 => ?_⟩, fun y c' e => ?_, I.free, I.freeC, fun p hp => ?_, tracked ⟨oc, hoc, I.freeC x c hc⟩ hs, by simpa using I.len⟩ ⟨c, hs, .inr hc⟩
    · exact (hs.2 b (Nat.ne_of_lt (Nat.lt_of_lt_of_le (Heap.lt_size e) (I.ok.cab x c hfn hc)))).trans (I.base.keep b o e n hb hx)
    · obtain ⟨sl, e1⟩ := I.base.slot b o e n hb hx
      exact ⟨sl, (hs.2 b (Nat.ne_of_lt (Nat.lt_of_lt_of_le (Heap.lt_size e) (I.ok.cab x c hfn hc)))).trans e1⟩
    · obtain ⟨o', e1⟩ := I.base.there b o e hx
      exact ⟨o', (hs.2 b (Nat.ne_of_lt (Nat.lt_of_lt_of_le (Heap.lt_size e) (I.ok.cab x c hfn hc)))).trans e1⟩
    · by_cases hj : j = i
      · subst hj
        rw [hi] at e1; cases e1
        rw [List.getElem?_set_self hiσ] at e2
        cases e2
        exact ⟨u, r, .inr ⟨.inl hk, c, hc, hc'⟩⟩
      · rw [List.getElem?_set_ne (Ne.symm hj)] at e2
        obtain ⟨u', r', q⟩ := hl j y v' e1 e2 e3
        refine ⟨u', r', ?_⟩
        rcases q with q | ⟨k, c', e, z'⟩
        · exact .inl q
        · refine .inr ⟨k, c', e, z'.sameBut hs ?_⟩
          rintro rfl
          exact hj (nodup_ix hN e1 (I.ok.inj _ _ _ e hc ▸ hi))
    · by_cases hcc : c' = c
      · subst hcc; exact ⟨_, hc'⟩
      · obtain ⟨w2, z2⟩ := I.cell y c' e
        exact ⟨w2, z2.sameBut hs hcc⟩
    · obtain ⟨e, n, ne, nf, d⟩ := I.pin p hp
      refine ⟨(hs.2 p.1 ?_).trans e, n, ne, nf, d⟩
      intro q
      rw [q, hoc] at e
      have q' : oc = p.2 := Option.some.inj e
      exact d w' (by rw [← q']; exact hocd)
theorem store_ok {M : Model} {A : Around} {E : Value → Shared → Prop} {i : Nat} {x : Str} {v : V} {u : Value} {Q : Unit → Shared → Prop} (I : Inv X pins σ H s) (hN : X.N.Nodup) (hi : X.N[i]? = some x) (hx : Loc X.env.scope x) (r : RelV v u)
    (h : ∀ s', Inv X pins (σ.set i (some v)) H s' → Q () s') (hf : X.fn x = true ∨ X.env.scope.names.lookup x = some .local := by first | exact .inl rfl | exact .inr rfl | assumption) : wpAny M A (storeName X.env x u) Q E s :=
  store_ok2 I hN hi hx r (fun s' I' _ => h s' I') hf
/-- behind a call or a block, the state as it is -/
theorem Inv.call' {s' : Shared} {ch : List Addr} (I : Inv X pins σ H s) (ho : s'.os = s.os) (u : Un (frs X.stack) ch H H' s.heap s'.heap) (hok : HOk X.prog X.w H' s'.heap) (hg : AllBare s'.gens)
    (hch : ∀ b ∈ ch, (b ∈ X.ex ∨ X.s₀.heap.objs.size ≤ b) ∧ b ≠ X.env.locals ∧ (∀ x c, X.env.cells.lookup x = some c → c ≠ b) ∧ ∀ p ∈ X.pn ++ pins, p.1 ≠ b) : Inv X pins σ H' s' := by
  obtain ⟨h', g', d', t', o'⟩ := s'
  have e : o' = s.os := ho
  subst e
  exact I.call (g' := g') (t' := t') (d' := d') u hok hg hch
end

/-! ### the judgements -/
/-- an exception: its class, its own dict's address (where it has one), the abstract heap behind it -/
abbrev XK := Value → Option Addr → Hp → Prop
abbrev St := List (Option V)
abbrev VK := V → Hp → Prop
/-- an expression's reading; a test's; an argument list's -/
abbrev TE := St → Hp → VK → Prop
abbrev TT := St → Hp → (Bool → Hp → Prop) → Prop
abbrev TA := St → Hp → (List V → Hp → Prop) → Prop
/-- what is wanted behind a statement -/
structure Ends where
  nx : St → Hp → Prop
  rt : VK
  bk : St → Hp → Prop := fun _ _ => False
  ct : St → Hp → Prop := fun _ _ => False
abbrev TS := Ends → St → Hp → Prop

def EP (X : Cx) (pins : List (Addr × Obj)) (σ : St) (Q : VK) (u : Value) (s' : Shared) : Prop := ∃ v H', Inv X pins σ H' s' ∧ RelV v u ∧ Q v H'
def TP (X : Cx) (pins : List (Addr × Obj)) (σ : St) (Q : Bool → Hp → Prop) (b : Bool) (s' : Shared) : Prop := ∃ H', Inv X pins σ H' s' ∧ Q b H'
def AP (X : Cx) (pins : List (Addr × Obj)) (σ : St) (Q : List V → Hp → Prop) (us : List Value) (s' : Shared) : Prop := ∃ vs H', Inv X pins σ H' s' ∧ Vals vs us ∧ Q vs H'
def SP (X : Cx) (pins : List (Addr × Obj)) (D : Ends) (f : Flow) (s' : Shared) : Prop :=
  match f with
  | .next => ∃ σ' H', Inv X pins σ' H' s' ∧ D.nx σ' H'
  | .brk => ∃ σ' H', Inv X pins σ' H' s' ∧ D.bk σ' H'
  | .cont => ∃ σ' H', Inv X pins σ' H' s' ∧ D.ct σ' H'
  | .ret u => ∃ v σ' H', Inv X pins σ' H' s' ∧ RelV v u ∧ D.rt v H'

def PE (X : Cx) (e : Expr) (t : TE) : Prop :=
  ∀ (pins : List (Addr × Obj)) (s : Shared) (σ : St) (H : Hp) (Q : VK), Inv X pins σ H s → t σ H Q → wpAny (model X.prog X.w) X.A (eval e X.env) (EP X pins σ Q) X.xe s
def PT (X : Cx) (e : Expr) (t : TT) : Prop :=
  ∀ (pins : List (Addr × Obj)) (s : Shared) (σ : St) (H : Hp) (Q : Bool → Hp → Prop), Inv X pins σ H s → t σ H Q → wpAny (model X.prog X.w) X.A (isTrue e X.env (eval e X.env)) (TP X pins σ Q) X.xe s
/-- a test whatever its 'whole' is (and, or) -/
def PW (X : Cx) (e : Expr) (t : TT) : Prop :=
  ∀ (whole : Sem Value) (pins : List (Addr × Obj)) (s : Shared) (σ : St) (H : Hp) (Q : Bool → Hp → Prop), Inv X pins σ H s → t σ H Q → wpAny (model X.prog X.w) X.A (isTrue e X.env whole) (TP X pins σ Q) X.xe s
theorem PW.pt {X : Cx} {e : Expr} {t : TT} (h : PW X e t) : PT X e t := h _
/-- an argument list (no star), from the left -/
def PA (X : Cx) (es : List Expr) (t : TA) : Prop :=
  ∀ (pos : Pos) (pins : List (Addr × Obj)) (s : Shared) (σ : St) (H : Hp) (Q : List V → Hp → Prop), Inv X pins σ H s → t σ H Q → wpAny (model X.prog X.w) X.A (spliced (backTo pos (starEach es X.env))) (AP X pins σ Q) X.xe s
def PS (X : Cx) (st : Stmt) (t : TS) : Prop :=
  ∀ (pins : List (Addr × Obj)) (s : Shared) (σ : St) (H : Hp) (D : Ends), Inv X pins σ H s → t D σ H → wpAny (model X.prog X.w) X.A (exec st X.env) (SP X pins D) X.xe s
def PSs (X : Cx) (st : List Stmt) (t : TS) : Prop :=
  ∀ (pins : List (Addr × Obj)) (s : Shared) (σ : St) (H : Hp) (D : Ends), Inv X pins σ H s → t D σ H → wpAny (model X.prog X.w) X.A (execs st X.env) (SP X pins D) X.xe s
/-- weaken the end -/
theorem thn {α : Type} {t : Sem α} {Q Q' : α → Shared → Prop} {M : Model} {A : Around} {E : Value → Shared → Prop} {s : Shared} (h : wpAny M A t Q E s) (hQ : ∀ a s, Q a s → Q' a s) : wpAny M A t Q' E s := wpAny_mono h hQ fun _ _ x => x
end L2

namespace L2
open PySem PySem.Spec PyProof.Rows
section
variable {X : Cx}


/-! ### names and constants -/
def tVar (i : Nat) : TE := fun σ H Q => ∃ v, σ[i]? = some (some v) ∧ Q v H
def tC (v : V) : TE := fun _ H Q => Q v H
theorem pe_var {i : Nat} {x : Str} {pos : Pos} (hN : X.N[i]? = some x) (hv : Vis X.env.scope x) (hd : (x == ("__debug__" : Str)) = false := by decide) (hcd : (x == ("__classdict__" : Str)) = false := by decide) : PE X (.Name x pos) (tVar i) := by
  intro pins s σ H Q I h
  obtain ⟨v, e, h⟩ := h
  obtain ⟨m, hn, hl⟩ := I.loc
  obtain ⟨u, r, l⟩ := hl i x v hN e hv
  have fin : EP X pins σ Q u s := ⟨v, H, I, r, h⟩
  rcases l with ⟨hk, hm⟩ | ⟨hk, c, hc, hcell⟩
  · exact wpAny_Name (wpAny_loadName_local I.ok.kind hk hn hm fin) hd
  · rcases hk with hk | hk
    · exact wpAny_Name (wpAny_loadName_cell I.ok.kind hk hc hcell fin) hd
    · exact wpAny_Name (wpAny_loadName_free I.ok.kind hk hc hcell fin hcd) hd
theorem pe_int {i j pos} : PE X (.Constant (.int i) j pos) (tC (.int i)) := fun _ _ _ H _ I h => wpAny_Constant_int ⟨.int i, H, I.tok _, ⟨_, rfl⟩, h⟩
theorem pe_bl {b j pos} : PE X (.Constant (.bool b) j pos) (tC (.bl b)) := fun _ _ _ H _ I h => Constant_bool ⟨.bl b, H, I, rfl, h⟩
theorem pe_non {j pos} : PE X (.Constant .none j pos) (tC .non) := fun _ _ _ H _ I h => Constant_none ⟨.non, H, I, rfl, h⟩

/-- a global name of the def -/
def Gl (X : Cx) (x : Str) : Prop := X.env.kindOf x = some .globalImplicit
theorem ld_glob {E : Value → Shared → Prop} {pins : List (Addr × Obj)} {s : Shared} {σ : St} {H : Hp} {x : Str} {u : Value} {pos : Pos} {Q : Value → Shared → Prop} (I : Inv X pins σ H s) (hg : Gl X x) (hm : X.mg x = some u) (h : Q u s)
    (hd : (x == ("__debug__" : Str)) = false := by decide) : wpAny (model X.prog X.w) X.A (eval (.Name x pos) X.env) Q E s :=
  Calls.Name_function_global I.ok.kind hg (Calls.loadGlobal_global (by rw [I.ok.glob]; exact I.mod.glob.keeps I.bk) hm h) hd
theorem ld_blt {E : Value → Shared → Prop} {pins : List (Addr × Obj)} {s : Shared} {σ : St} {H : Hp} {x : Str} {u : Value} {pos : Pos} {Q : Value → Shared → Prop} (I : Inv X pins σ H s) (hg : Gl X x) (hm : X.mg x = none) (hv : bootBuiltins x = some u) (h : Q u s)
    (hn : x ≠ "__name__" := by decide) (hd : (x == ("__debug__" : Str)) = false := by decide) : wpAny (model X.prog X.w) X.A (eval (.Name x pos) X.env) Q E s := by
  obtain ⟨mb, h1, h2⟩ := I.mod.blt
  exact Calls.Name_function_global I.ok.kind hg (Calls.loadGlobal_builtin (by rw [I.ok.glob]; exact I.mod.glob.keeps I.bk) hm (by rw [I.ok.blt]; exact h1.keeps I.bk) ((h2 x hn).trans hv) h) hd
/-- a module's constant, a class, a function, as a value -/
theorem pe_glob {x : Str} {v : V} {u : Value} {pos : Pos} (hg : Gl X x) (hm : X.mg x = some u) (r : RelV v u) (hd : (x == ("__debug__" : Str)) = false := by decide) : PE X (.Name x pos) (tC v) :=
  fun _ _ _ H _ I h => ld_glob I hg hm ⟨v, H, I, r, h⟩ hd
theorem pe_bltn {x : Str} {v : V} {u : Value} {pos : Pos} (hg : Gl X x) (hm : X.mg x = none) (hv : bootBuiltins x = some u) (r : RelV v u) (hn : x ≠ "__name__" := by decide) (hd : (x == ("__debug__" : Str)) = false := by decide) : PE X (.Name x pos) (tC v) :=
  fun _ _ _ H _ I h => ld_blt I hg hm hv ⟨v, H, I, r, h⟩ hn hd

/-! ### arithmetic -/
/-- two ints -/
def t2I (ta tb : TE) (k : Int → Int → Hp → Prop) : St → Hp → Prop := fun σ H => ta σ H fun x H1 => tb σ H1 fun y H2 => ∃ i j, x = .int i ∧ y = .int j ∧ k i j H2
def tAdd (ta tb : TE) : TE := fun σ H Q => t2I ta tb (fun i j H2 => Q (.int (i + j)) H2) σ H
def tSub (ta tb : TE) : TE := fun σ H Q => t2I ta tb (fun i j H2 => Q (.int (i - j)) H2) σ H
/-- the left factor below 2^64 -/
def tMul (ta tb : TE) : TE := fun σ H Q => t2I ta tb (fun i j H2 => (-(2 ^ 64) < i ∧ i < 2 ^ 64) ∧ Q (.int (i * j)) H2) σ H
variable {a b : Expr} {ta tb : TE} {pos : Pos}

/-! ### comparisons -/
def PC (X : Cx) (op : CmpOp) (a b : Expr) (t : TE) : Prop :=
  ∀ (pins : List (Addr × Obj)) (s : Shared) (σ : St) (H : Hp) (Q : VK), Inv X pins σ H s → t σ H Q →
    wpAny (model X.prog X.w) X.A (eval a X.env) (fun v s₁ => wpAny (model X.prog X.w) X.A (eval b X.env) (fun u s₂ => wpAny (model X.prog X.w) X.A (compareOp op v u) (EP X pins σ Q) X.xe s₂) X.xe s₁) X.xe s
def tCmp (p : Int → Int → Bool) (ta tb : TE) : TE := fun σ H Q => t2I ta tb (fun i j H2 => Q (.bl (p i j)) H2) σ H
abbrev tLt : TE → TE → TE := tCmp fun i j => decide (i < j)
abbrev tLe : TE → TE → TE := tCmp fun i j => decide (i ≤ j)
abbrev tGt : TE → TE → TE := tCmp fun i j => decide (j < i)
abbrev tGe : TE → TE → TE := tCmp fun i j => decide (j ≤ i)
abbrev tEqI : TE → TE → TE := tCmp fun i j => decide (i = j)
abbrev tNeI : TE → TE → TE := tCmp fun i j => !decide (i = j)
/-- is None -/
def tIsN (ta : TE) : TE := fun σ H Q => ta σ H fun x H1 => Q (.bl (decide (x = .non))) H1
def tNotN (ta : TE) : TE := fun σ H Q => ta σ H fun x H1 => Q (.bl (!decide (x = .non))) H1
/-- a comparison as a value, as a test -/
def tB (t : TE) : TT := fun σ H Q => t σ H fun x H1 => ∃ c, x = .bl c ∧ Q c H1

/-! ### and, or, not -/
variable {tA tB' : TT} {rest : List Expr}
def tAnd (t u : TT) : TT := fun σ H Q => t σ H fun c H1 => if c = true then u σ H1 Q else Q false H1
def tOr (t u : TT) : TT := fun σ H Q => t σ H fun c H1 => if c = true then Q true H1 else u σ H1 Q
def tNot (t : TT) : TT := fun σ H Q => t σ H fun c H1 => Q (!c) H1
theorem pw_and1 (ha : PT X a tA) : PW X (.BoolOp .And [a] pos) tA := by
  intro wh pins s σ H Q I h
  refine isTrue_and (thn (ha pins s σ H Q I h) fun c s1 e => ?_)
  cases c with
  | true => exact isTrue_and_nil e
  | false => exact e
theorem pw_or1 (ha : PT X a tA) : PW X (.BoolOp .Or [a] pos) tA := by
  intro wh pins s σ H Q I h
  refine isTrue_or (thn (ha pins s σ H Q I h) fun c s1 e => ?_)
  cases c with
  | false => exact isTrue_or_nil e
  | true => exact e
theorem pw_and (ha : PT X a tA) (hb : PW X (.BoolOp .And (b :: rest) pos) tB') : PW X (.BoolOp .And (a :: b :: rest) pos) (tAnd tA tB') := by
  intro wh pins s σ H Q I h
  refine isTrue_and (thn (ha pins s σ H _ I h) fun c s1 ⟨H1, I1, q1⟩ => ?_)
  cases c with
  | true => exact hb wh pins s1 σ H1 Q I1 q1
  | false => exact ⟨H1, I1, q1⟩
theorem pw_or (ha : PT X a tA) (hb : PW X (.BoolOp .Or (b :: rest) pos) tB') : PW X (.BoolOp .Or (a :: b :: rest) pos) (tOr tA tB') := by
  intro wh pins s σ H Q I h
  refine isTrue_or (thn (ha pins s σ H _ I h) fun c s1 ⟨H1, I1, q1⟩ => ?_)
  cases c with
  | true => exact ⟨H1, I1, q1⟩
  | false => exact hb wh pins s1 σ H1 Q I1 q1
theorem pt_not (ha : PT X a tA) : PT X (.UnaryOp .Not a pos) (tNot tA) := by
  intro pins s σ H Q I h
  exact isTrue_not (ha pins s σ H (fun c H1 => Q (!c) H1) I h)
/-- .. as values (bools) -/
def tAndV (ta tb : TE) : TE := fun σ H Q => ta σ H fun x H1 => ∃ c, x = .bl c ∧ if c = true then tb σ H1 Q else Q (.bl false) H1
def tOrV (ta tb : TE) : TE := fun σ H Q => ta σ H fun x H1 => ∃ c, x = .bl c ∧ if c = true then Q (.bl true) H1 else tb σ H1 Q
def tNotV (ta : TE) : TE := fun σ H Q => ta σ H fun x H1 => ∃ c, x = .bl c ∧ Q (.bl (!c)) H1
theorem pe_one {op} {t : TE} (h : PE X a t) : PE X (.BoolOp op [a] pos) t := fun pins s σ H Q I hw => BoolOp_one (h pins s σ H Q I hw)
theorem pe_and (ha : PE X a ta) (hb : PE X (.BoolOp .And (b :: rest) pos) tb) : PE X (.BoolOp .And (a :: b :: rest) pos) (tAndV ta tb) := by
  intro pins s σ H Q I h
  refine BoolOp_and (thn (ha pins s σ H _ I h) fun v s1 ⟨x, H1, I1, r1, q1⟩ => ?_)
  obtain ⟨c, rfl, q1⟩ := q1
  cases r1
  refine wpAny_truthy_bool ?_
  cases c with
  | true => exact hb pins s1 σ H1 Q I1 q1
  | false => exact ⟨.bl false, H1, I1, rfl, q1⟩
theorem pe_not (ha : PE X a ta) : PE X (.UnaryOp .Not a pos) (tNotV ta) := by
  intro pins s σ H Q I h
  refine UnaryOp_ (thn (ha pins s σ H _ I h) fun v s1 ⟨x, H1, I1, r1, q1⟩ => ?_)
  obtain ⟨c, rfl, q1⟩ := q1
  cases r1
  exact not_of (wpAny_truthy_bool ⟨.bl (!c), H1, I1, rfl, q1⟩)
/-- a if t else b -/
def tIf (t : TT) (ta tb : TE) : TE := fun σ H Q => t σ H fun c H1 => if c = true then ta σ H1 Q else tb σ H1 Q
end
end L2

namespace L2
open PySem PySem.Spec PyProof.Rows

/-! ### a list, a tuple that is read: tracked, frozen, or an object of the module -/
def SqL (K : PySem.W.Frag) (H : Hp) (a : Addr) (xs : List V) : Prop :=
  Rd H a (.lst xs) ∨
    ∃ (o : Obj) (its : Array Value) (n : Nat), K.lookup a = some o ∧ o.cls = .type "list" ∧ o.dict = none ∧ o.data = .seq its n ∧ its.size ≤ sizeLine ∧ Vals xs its.toList
def SqT (K : PySem.W.Frag) (H : Hp) (a : Addr) (xs : List V) : Prop :=
  Rd H a (.tup xs) ∨
    ∃ (o : Obj) (its : Array Value) (n : Nat), K.lookup a = some o ∧ o.cls = .type "tuple" ∧ o.data = .seq its n ∧ its.size ≤ sizeLine ∧ Vals xs its.toList
def absV : Value → Option V
  | .none => some .non
  | .bool b => some (.bl b)
  | .int i _ => some (.int i)
  | .str x _ => some (.str x)
  | .bytes b _ => some (.byt b)
  | .float b _ => some (.flt b)
  | .ref a => some (.ref a)
  | .type n => some (.ty n)
  | _ => none
theorem RelV.abs {x : V} {u : Value} (r : RelV x u) : absV u = some x := by
  cases x with
  | non => cases r; rfl
  | bl _ => cases r; rfl
  | int _ => obtain ⟨t, rfl⟩ := r; rfl
  | str _ => obtain ⟨t, rfl⟩ := r; rfl
  | byt _ => obtain ⟨t, rfl⟩ := r; rfl
  | flt _ => obtain ⟨t, rfl⟩ := r; rfl
  | ref _ => cases r; rfl
  | ty _ => cases r; rfl
theorem RelV.inj {x y : V} {u : Value} (r : RelV x u) (q : RelV y u) : x = y := Option.some.inj (r.abs.symm.trans q.abs)
theorem Vals.inj : ∀ {xs ys : List V} {us : List Value}, Vals xs us → Vals ys us → xs = ys
  | _, _, _, .nil, .nil => rfl
  | _, _, _, .cons r t, .cons r' t' => by rw [r.inj r', Vals.inj t t']
section
variable {X : Cx} {pins : List (Addr × Obj)} {σ : St} {H : Hp} {s : Shared} {a : Addr} {xs ys : List V}
theorem SqL.of {K : PySem.W.Frag} (h : H a = some (.lst xs)) : SqL K H a xs := .inl (.inl h)
theorem SqT.of {K : PySem.W.Frag} (h : H a = some (.tup xs)) : SqT K H a xs := .inl (.inl h)
theorem Inv.list (I : Inv X pins σ H s) (h : SqL X.K H a xs) : ∃ its : List Value, Vals xs its ∧ PlainL s.heap a its.toArray ∧ xs.length ≤ sizeLine := by
  rcases h with h | ⟨o, its, n, hk, hc, hd, hs, hz, r⟩
  · obtain ⟨z, its, n, r, e⟩ := h.ok I.hok
    exact ⟨its, r, ⟨_, n, e, rfl, rfl, rfl⟩, z⟩
  · refine ⟨its.toList, r, ⟨o, n, I.kIn a o hk, hc, hd, by simpa using hs⟩, ?_⟩
    have e := r.length
    simp only [Array.length_toList] at e
    omega
theorem Inv.tuple (I : Inv X pins σ H s) (h : SqT X.K H a xs) : ∃ its : List Value, Vals xs its ∧ IsTup s.heap a its.toArray ∧ xs.length ≤ sizeLine := by
  rcases h with h | ⟨o, its, n, hk, hc, hs, hz, r⟩
  · obtain ⟨z, its, r, p⟩ := h.ok I.hok
    exact ⟨its, r, p, z⟩
  · refine ⟨its.toList, r, ⟨o, I.kIn a o hk, hc, n, by simpa using hs⟩, ?_⟩
    have e := r.length
    simp only [Array.length_toList] at e
    omega
theorem Inv.list_inj (I : Inv X pins σ H s) (h : SqL X.K H a xs) (h' : SqL X.K H a ys) : xs = ys := by
  obtain ⟨its, r, ⟨o, n, e, _, _, d⟩, _⟩ := I.list h
  obtain ⟨its', r', ⟨o', n', e', _, _, d'⟩, _⟩ := I.list h'
  rw [e] at e'; cases e'
  rw [d] at d'
  injection d' with d1 _
  have : its = its' := by simpa using congrArg Array.toList d1
  subst this
  exact r.inj r'
theorem Inv.tuple_inj (I : Inv X pins σ H s) (h : SqT X.K H a xs) (h' : SqT X.K H a ys) : xs = ys := by
  obtain ⟨its, r, ⟨o, e, _, n, d⟩, _⟩ := I.tuple h
  obtain ⟨its', r', ⟨o', e', _, n', d'⟩, _⟩ := I.tuple h'
  rw [e] at e'; cases e'
  rw [d] at d'
  injection d' with d1 _
  have : its = its' := by simpa using congrArg Array.toList d1
  subst this
  exact r.inj r'
end

/-! ### another wish about exceptions -/
abbrev Cx.wish (X : Cx) (E : Value → Shared → Prop) : Cx := { X with xe := E }
/-- no exception leaves -/
abbrev Cx.nox (X : Cx) : Cx := X.wish fun _ _ => False
theorem Cx.Ok.wish {X : Cx} (ok : X.Ok) (E : Value → Shared → Prop) : (X.wish E).Ok :=
  ⟨ok.mod, ok.kind, ok.glob, ok.blt, ok.above, ok.inj, ok.has, ok.cab, ok.hd, ok.frames, ok.stk, ok.exf, ok.bs, ok.bsz, ok.noex, ok.exfs, ok.funs, ok.frf⟩
theorem Cx.Ok.unwish {X : Cx} {E : Value → Shared → Prop} (ok : (X.wish E).Ok) : X.Ok :=
  ⟨ok.mod, ok.kind, ok.glob, ok.blt, ok.above, ok.inj, ok.has, ok.cab, ok.hd, ok.frames, ok.stk, ok.exf, ok.bs, ok.bsz, ok.noex, ok.exfs, ok.funs, ok.frf⟩
section
variable {X : Cx} {pins : List (Addr × Obj)} {σ : St} {H : Hp} {s : Shared} {E : Value → Shared → Prop}
theorem Inv.wish (I : Inv X pins σ H s) (E : Value → Shared → Prop) : Inv (X.wish E) pins σ H s := ⟨I.ok.wish E, I.os, I.bare, I.base, I.loc, I.cell, I.free, I.freeC, I.pin, I.hok, I.len⟩
theorem Inv.unwish (I : Inv (X.wish E) pins σ H s) : Inv X pins σ H s := ⟨I.ok.unwish, I.os, I.bare, I.base, I.loc, I.cell, I.free, I.freeC, I.pin, I.hok, I.len⟩
theorem SP.unwish {D : Ends} {f : Flow} {s' : Shared} (h : SP (X.wish E) pins D f s') : SP X pins D f s' := by
  cases f with
  | next => obtain ⟨σ', H', I, q⟩ := h; exact ⟨σ', H', I.unwish, q⟩
  | brk => obtain ⟨σ', H', I, q⟩ := h; exact ⟨σ', H', I.unwish, q⟩
  | cont => obtain ⟨σ', H', I, q⟩ := h; exact ⟨σ', H', I.unwish, q⟩
  | ret u => obtain ⟨v, σ', H', I, r, q⟩ := h; exact ⟨v, σ', H', I.unwish, r, q⟩
theorem PSs.nox {st : List Stmt} {t : TS} (h : PSs X.nox st t) : PSs X st t := fun pins s σ H D I hw =>
  wpAny_mono (h pins s σ H D (I.wish _) hw) (fun _ _ q => q.unwish) fun _ _ z => False.elim z
end

/-! ### blocks and small statements -/
section
variable {X : Cx} {st : Stmt} {rest : List Stmt} {t u : TS} {e : Expr} {te : TE} {pos : Pos}
def tNext : TS := fun D σ H => D.nx σ H
def tSeq (t u : TS) : TS := fun D σ H => t { D with nx := u D } σ H
theorem pss_nil : PSs X [] tNext := fun _ _ σ H _ I h => wpAny_execs_nil ⟨σ, H, I, h⟩
theorem pss_cons (h1 : PS X st t) (h2 : PSs X rest u) : PSs X (st :: rest) (tSeq t u) := by
  intro pins s σ H D I h
  refine wpAny_execs_cons (thn (h1 pins s σ H { D with nx := u D } I h) fun f s1 q => ?_)
  cases f with
  | next =>
    obtain ⟨σ', H', I', q⟩ := q
    exact h2 pins s1 σ' H' D I' q
  | ret v => exact q
  | brk => exact q
  | cont => exact q
theorem pss_one (h1 : PS X st t) : PSs X [st] t := by
  intro pins s σ H D I h
  refine wpAny_execs_cons (thn (h1 pins s σ H D I h) fun f s1 q => ?_)
  cases f with
  | next => exact wpAny_execs_nil q
  | ret v => exact q
  | brk => exact q
  | cont => exact q
def tBreak : TS := fun D σ H => D.bk σ H
def tCont : TS := fun D σ H => D.ct σ H
/-- an expression whose value is dropped -/
def tDrop (te : TE) : TS := fun D σ H => te σ H fun _ H1 => D.nx σ H1
def tRet (te : TE) : TS := fun D σ H => te σ H D.rt
theorem ps_ret (he : PE X e te) : PS X (.Return (some e) pos) (tRet te) := by
  intro pins s σ H D I h
  exact wpAny_Return_some (thn (he pins s σ H _ I h) fun v s1 ⟨x, H1, I1, r1, q1⟩ => ⟨x, σ, H1, I1, r1, q1⟩)
def tRetN : TS := fun D _ H => D.rt .non H
def tIfS (c : TT) (t u : TS) : TS := fun D σ H => c σ H fun b H1 => if b = true then t D σ H1 else u D σ H1
theorem ps_if {c : Expr} {a b : List Stmt} {tc : TT} (hc : PT X c tc) (ha : PSs X a t) (hb : PSs X b u) : PS X (.If c a b pos) (tIfS tc t u) := by
  intro pins s σ H D I h
  refine wpAny_If (thn (hc pins s σ H _ I h) fun d s1 ⟨H1, I1, q1⟩ => ?_)
  cases d with
  | true => exact ha pins s1 σ H1 D I1 q1
  | false => exact hb pins s1 σ H1 D I1 q1
/-- code that the proof never comes to -/
def tNever : TS := fun _ _ _ => False
theorem ps_never : PS X st tNever := fun _ _ _ _ _ _ h => h.elim
end

/-! ### targets -/
abbrev TG := V → St → Hp → (St → Hp → Prop) → Prop
abbrev TGs := List V → St → Hp → (St → Hp → Prop) → Prop
def PG (X : Cx) (target : Expr) (t : TG) : Prop :=
  ∀ (pins : List (Addr × Obj)) (s : Shared) (σ : St) (H : Hp) (v : V) (u : Value) (Q : St → Hp → Prop), Inv X pins σ H s → RelV v u → t v σ H Q →
    wpAny (model X.prog X.w) X.A (assign target X.env u) (fun _ s' => ∃ σ' H', Inv X pins σ' H' s' ∧ Q σ' H') X.xe s
/-- several targets, one after another -/
def PGs (X : Cx) (ts : List Expr) (t : TGs) : Prop :=
  ∀ (pins : List (Addr × Obj)) (s : Shared) (σ : St) (H : Hp) (vs : List V) (us : List Value) (Q : St → Hp → Prop), Inv X pins σ H s → Vals vs us → t vs σ H Q →
    wpAny (model X.prog X.w) X.A (assignInOrder ((assignEach ts X.env).map (·.2)) us) (fun _ s' => ∃ σ' H', Inv X pins σ' H' s' ∧ Q σ' H') X.xe s
/-- o[i] = v, by values -/
abbrev TSet := V → V → V → Hp → (Hp → Prop) → Prop
def PSet (X : Cx) (t : TSet) : Prop :=
  ∀ (pins : List (Addr × Obj)) (s : Shared) (σ : St) (H : Hp) (o i v : V) (ov iv u : Value) (Q : Hp → Prop), Inv X pins σ H s → RelV o ov → RelV i iv → RelV v u → t o i v H Q →
    wpAny (model X.prog X.w) X.A (setItem ov iv u) (fun _ s' => ∃ H', Inv X pins σ H' s' ∧ Q H') X.xe s
/-- a op= b, by values -/
abbrev TIp := V → V → Hp → VK → Prop
def PIp (X : Cx) (op : Operator) (t : TIp) : Prop :=
  ∀ (pins : List (Addr × Obj)) (s : Shared) (σ : St) (H : Hp) (x y : V) (v u : Value) (Q : VK), Inv X pins σ H s → RelV x v → RelV y u → t x y H Q →
    wpAny (model X.prog X.w) X.A (inplaceOp op v u) (EP X pins σ Q) X.xe s
section
variable {X : Cx} {pos : Pos}
def gName (i : Nat) : TG := fun v σ H Q => Q (σ.set i (some v)) H
theorem pg_name {i : Nat} {x : Str} (hN : X.N.Nodup) (hi : X.N[i]? = some x) (hx : Loc X.env.scope x) (hf : X.fn x = true ∨ X.env.scope.names.lookup x = some .local := by first | exact .inl rfl | exact .inr rfl | assumption) : PG X (.Name x pos) (gName i) := by
  intro pins s σ H v u Q I r h
  exact wpAny_assign_Name (store_ok I hN hi hx r (fun s' I' => ⟨_, H, I', h⟩) hf)
def gNil : TGs := fun vs σ H Q => vs = [] ∧ Q σ H
def gCons (t : TG) (u : TGs) : TGs := fun vs σ H Q => ∃ v r, vs = v :: r ∧ t v σ H fun σ' H' => u r σ' H' Q
theorem pgs_nil : PGs X [] gNil := by
  intro pins s σ H vs us Q I r h
  obtain ⟨e, h⟩ := h
  subst e
  cases r
  exact assignInOrder_nil ⟨σ, H, I, h⟩
theorem pgs_cons {e : Expr} {es : List Expr} {t : TG} {u : TGs} (h1 : PG X e t) (h2 : PGs X es u)
    (hs : (assignEach (e :: es) X.env).map (·.2) = assign e X.env :: (assignEach es X.env).map (·.2) := by rfl) : PGs X (e :: es) (gCons t u) := by
  intro pins s σ H vs us Q I r h
  obtain ⟨v, vr, e1, h⟩ := h
  subst e1
  cases r with
  | cons r rr =>
    rw [hs]
    refine assignInOrder_cons (thn (h1 pins s σ H _ _ _ I r h) fun _ s1 ⟨σ1, H1, I1, q1⟩ => ?_)
    exact h2 pins s1 σ1 H1 _ _ Q I1 rr q1
/-- (a, b, ..) = a tuple of that length -/
def gTup (K : PySem.W.Frag) (n : Nat) (t : TGs) : TG := fun v σ H Q => ∃ a xs, v = .ref a ∧ SqT K H a xs ∧ xs.length = n ∧ t xs σ H Q
theorem pg_tup {es : List Expr} {k : Nat} {t : TGs} {n : Nat} (hc : X.calm = true) (h : PGs X es t)
    (hn : (assignEach es X.env).length = n := by rfl) (hst : (assignEach es X.env).findIdx? (·.1) = none := by rfl) : PG X (.Tuple es k pos) (gTup X.K n t) := by
  intro pins s σ H v u Q I r hw
  obtain ⟨a, xs, e1, hq, hl, hw⟩ := hw
  subst e1
  cases r
  obtain ⟨its, rv, ht, hz⟩ := I.tuple hq
  refine assign_Tuple_tuple (I.ok.hd hc) ht (by simp [hn, ← hl, rv.length]) hst fun h' hx => ?_
  have I1 : Inv X pins σ H { s with heap := h' } := I.kept (t' := s.toks) fun b o e => hx b o (Nat.ne_of_lt (Heap.lt_size e)) e
  exact h pins _ σ H xs _ Q I1 (by simpa using rv) hw
/-- o[i] = .. -/
def gSub (to ti : TE) (t : TSet) : TG := fun v σ H Q => to σ H fun o H1 => ti σ H1 fun i H2 => t o i v H2 fun H3 => Q σ H3
theorem pg_sub {o i : Expr} {to ti : TE} {t : TSet} (ho : PE X o to) (hi : PE X i ti) (hs : PSet X t)
    (ha : ∀ v, assign (.Subscript o i pos) X.env v = (do
      let ov ← holding [v] (eval o X.env)
      let iv ← holding [v, ov] (eval i X.env)
      standAt pos
      holding [v, ov, iv] (setItem ov iv v)
      release [v, ov, iv] []) := by intro _; rfl) : PG X (.Subscript o i pos) (gSub to ti t) := by
  intro pins s σ H v u Q I r h
  rw [ha]
  refine wpAny_bind (wpAny_holding (thn (ho pins s σ H _ I h) fun ov s1 ⟨x, H1, I1, r1, q1⟩ => ?_))
  refine wpAny_bind (wpAny_holding (thn (hi pins s1 σ H1 _ I1 q1) fun iv s2 ⟨y, H2, I2, r2, q2⟩ => ?_))
  refine wpAny_bind (wpAny_standAt (wpAny_bind (wpAny_holding (thn (hs pins s2 σ H2 x y v ov iv u _ I2 r1 r2 r q2) fun _ s3 ⟨H3, I3, q3⟩ => ?_))))
  exact wpAny_release ⟨σ, H3, I3, q3⟩
/-- target = value -/
def tAsg (te : TE) (g : TG) : TS := fun D σ H => te σ H fun x H1 => g x σ H1 D.nx
theorem ps_asg {tg e : Expr} {te : TE} {g : TG} (he : PE X e te) (hg : PG X tg g) (hs : swapsWithSole [tg] e pos.line X.env = pure false := by rfl) (hw : swappedStores [tg] e X.env = pure none := by rfl)
    (h1 : (assignEach [tg] X.env).map (·.2) = [assign tg X.env] := by rfl) : PS X (.Assign [tg] e pos) (tAsg te g) := by
  intro pins s σ H D I h
  refine wpAny_Assign_stores (thn (he pins s σ H _ I h) fun v s1 ⟨x, H1, I1, r1, q1⟩ => ?_) hs hw
  rw [h1]
  exact thn (hg pins s1 σ H1 x v _ I1 r1 q1) fun _ s2 q => q
/-- name = value -/
theorem ps_set {i : Nat} {x : Str} {e : Expr} {te : TE} {pos' : Pos} (hN : X.N.Nodup) (hi : X.N[i]? = some x) (hx : Loc X.env.scope x) (he : PE X e te) (hs : swapsWith e (some (.Name x pos')) pos.line X.env = pure false := by rfl) (hf : X.fn x = true ∨ X.env.scope.names.lookup x = some .local := by first | exact .inl rfl | exact .inr rfl | assumption) :
    PS X (.Assign [.Name x pos'] e pos) (tAsg te (gName i)) := by
  intro pins s σ H D I h
  refine wpAny_Assign_Name (thn (he pins s σ H _ I h) fun v s1 ⟨y, H1, I1, r1, q1⟩ => ?_) hs
  exact store_ok I1 hN hi hx r1 (fun s2 I2 => ⟨_, H1, I2, q1⟩) hf
/-- a, b = x, y with plain local names: stored from the right; the pair itself is not tracked (the opening rows as in PyProof/Rows/TupAssign.lean:23) -/
def tPar (i j : Nat) (ta : TA) : TS := fun D σ H => ta σ H fun vs H1 => ∃ v w, vs = [v, w] ∧ D.nx ((σ.set i (some v)).set j (some w)) H1
/-- name op= e -/
def tAug (i : Nat) (te : TE) (ti : TIp) : TS := fun D σ H => ∃ x, σ[i]? = some (some x) ∧ te σ H fun y H1 => ti x y H1 fun z H2 => D.nx (σ.set i (some z)) H2
theorem ps_aug {i : Nat} {x : Str} {e : Expr} {te : TE} {op : Operator} {ti : TIp} {pos' : Pos} (hN : X.N.Nodup) (hi : X.N[i]? = some x) (hx : Loc X.env.scope x) (he : PE X e te) (ho : PIp X op ti) (hf : X.fn x = true ∨ X.env.scope.names.lookup x = some .local := by first | exact .inl rfl | exact .inr rfl | assumption) :
    PS X (.AugAssign (.Name x pos') op e pos) (tAug i te ti) := by
  intro pins s σ H D I h
  obtain ⟨v, e1, h⟩ := h
  obtain ⟨m, hn, hl⟩ := I.loc
  have vis : Vis X.env.scope x := by rcases hx with k | k; exact .inl k; exact .inr (.inl k)
  obtain ⟨u, r, l⟩ := hl i x v hi e1 vis
  refine wpAny_AugAssign_Name ?_
  have go : wpAny (model X.prog X.w) X.A (eval e X.env) (fun w s₂ => wpAny (model X.prog X.w) X.A (inplaceOp op u w) (fun r s₃ => wpAny (model X.prog X.w) X.A (storeName X.env x r) (fun _ => SP X pins D .next) X.xe s₃) X.xe s₂) X.xe s := by
    refine thn (he pins s σ H _ I h) fun w s1 ⟨y, H1, I1, r1, q1⟩ => ?_
    refine thn (ho pins s1 σ H1 v y u w _ I1 r r1 q1) fun z s2 ⟨zv, H2, I2, r2, q2⟩ => ?_
    exact store_ok I2 hN hi hx r2 (fun s3 I3 => ⟨_, H2, I3, q2⟩) hf
  rcases l with ⟨hk, hm⟩ | ⟨hk, c, hc, hcell⟩
  · exact wpAny_loadName_local I.ok.kind hk hn hm go
  · rcases hk with hk | hk
    · exact wpAny_loadName_cell I.ok.kind hk hc hcell go
    · rcases hx with k | k
      · have : X.env.scope.names.lookup x = some .free := hk
        rw [k] at this; cases this
      · have : X.env.scope.names.lookup x = some .free := hk
        rw [k] at this; cases this
/-- o[i] op= e -/
def tAugS (to ti te : TE) (tget : V → V → Hp → VK → Prop) (tip : TIp) (tset : TSet) : TS := fun D σ H => to σ H fun o H1 => ti σ H1 fun i H2 => tget o i H2 fun x H3 => te σ H3 fun y H4 => tip x y H4 fun z H5 => tset o i z H5 fun H6 => D.nx σ H6
/-- o[i], by values -/
def PGet (X : Cx) (t : V → V → Hp → VK → Prop) : Prop :=
  ∀ (pins : List (Addr × Obj)) (s : Shared) (σ : St) (H : Hp) (o i : V) (ov iv : Value) (Q : VK), Inv X pins σ H s → RelV o ov → RelV i iv → t o i H Q →
    wpAny (model X.prog X.w) X.A (getItem ov iv) (EP X pins σ Q) X.xe s
/-- ints -/
def ipI (f : Int → Int → Int) : TIp := fun x y H Q => ∃ i j, x = .int i ∧ y = .int j ∧ Q (.int (f i j)) H
theorem ip_add : PIp X .Add (ipI fun i j => i + j) := by
  intro pins s σ H x y v u Q I r1 r2 h
  obtain ⟨i, j, e1, e2, q⟩ := h
  subst e1; subst e2
  obtain ⟨t, rfl⟩ := r1
  obtain ⟨t', rfl⟩ := r2
  exact iadd_int ⟨.int _, H, I.tok _, ⟨_, rfl⟩, q⟩
end

/-! ### while -/
section
variable {X : Cx} {pos : Pos}
/-- the invariant W with its measure -/
def tWhile (c : TT) (tb : TS) : TS := fun D σ H => ∃ W : Nat → St → Hp → Prop, (∃ m, W m σ H) ∧ ∀ m σ H, W m σ H →
  c σ H fun b H1 => if b = true then ∃ N : St → Hp → Prop, (∀ σ' H', N σ' H' → ∃ m', m' < m ∧ W m' σ' H') ∧ tb { D with nx := N, ct := N, bk := D.nx } σ H1 else D.nx σ H1
theorem ps_while {c : Expr} {body : List Stmt} {tc : TT} {tb : TS} (hp : PassesOwn (model X.prog X.w) X.A X.env X.xe) (hc : PT X c tc) (hb : PSs X body tb) : PS X (.While c body [] pos) (tWhile tc tb) := by
  intro pins s σ H D I h
  obtain ⟨W, ⟨m0, w0⟩, turn⟩ := h
  refine wpAny_While (codeAny_whileLoop (fun n s' => ∃ σ' H', Inv X pins σ' H' s' ∧ W n σ' H') ?_ m0 ⟨σ, H, I, w0⟩)
  rintro n s1 ⟨σ1, H1, I1, w1⟩
  refine wpAny_passesOwn hp (thn (hc pins s1 σ1 H1 _ I1 (turn n σ1 H1 w1)) fun b s2 ⟨H2, I2, q2⟩ => ?_)
  cases b with
  | true =>
    obtain ⟨N, hN, q2⟩ := q2
    rw [if_pos rfl]
    refine wpAny_passesOwn hp (thn (hb pins s2 σ1 H2 _ I2 q2) fun f s3 q3 => ?_)
    cases f with
    | next =>
      obtain ⟨σ3, H3, I3, n3⟩ := q3
      obtain ⟨m', hm, w3⟩ := hN σ3 H3 n3
      exact ⟨m', hm, σ3, H3, I3, w3⟩
    | cont =>
      obtain ⟨σ3, H3, I3, n3⟩ := q3
      obtain ⟨m', hm, w3⟩ := hN σ3 H3 n3
      exact ⟨m', hm, σ3, H3, I3, w3⟩
    | brk => exact q3
    | ret v => exact q3
  | false =>
    rw [if_neg Bool.false_ne_true]
    exact wpAny_execs_nil ⟨σ1, H2, I2, q2⟩
end

/-! ### what a loop or a comprehension walks -/
/-- at turn i: it yields x (the heap may grow), or it stops -/
structure It where
  go : Nat → Hp → Prop
  yld : Nat → Hp → V → Hp → Prop
  stop : Nat → Hp → Prop
/-- the iterator's own objects may turn: they are not the frame's, not pinned, younger than the entry (or a comprehension's own) -/
def FpOk (X : Cx) (pins : List (Addr × Obj)) (H : Hp) (b : Addr) : Prop :=
  H b = none ∧ b ≠ X.env.locals ∧ b ∉ X.fs ∧ (b ∈ X.ex ∨ X.s₀.heap.objs.size ≤ b) ∧ (∀ x c, X.env.cells.lookup x = some c → c ≠ b) ∧ ∀ p ∈ X.pn ++ pins, p.1 ≠ b
theorem Inv.fpOk {X : Cx} {pins : List (Addr × Obj)} {σ : St} {H H' : Hp} {s : Shared} {b : Addr} (I : Inv X pins σ H s) (hb : s.heap.objs.size ≤ b) (hn : H' b = none) : FpOk X pins H' b := by
  refine ⟨hn, Nat.ne_of_gt (Nat.lt_of_lt_of_le I.lt hb), I.nofs hb, .inr (Nat.le_trans I.sz hb), fun x c e z => ?_, fun p hp z => ?_⟩
  · obtain ⟨v, q⟩ := I.cell x c e
    exact absurd (Nat.lt_of_lt_of_le q.lt (by rw [z]; exact hb)) (Nat.lt_irrefl _)
  · exact absurd (Nat.lt_of_lt_of_le (Heap.lt_size (I.pin p hp).1) (by rw [z]; exact hb)) (Nat.lt_irrefl _)
structure Turn (P : Program) (w : World) (K : PySem.W.Frag) (tg : Expr) (J : It) (fp : List Addr) (it : Addr) (tn : Nat → Heap → Prop) : Prop where
  mem : it ∈ fp
  obj : ∀ i h, tn i h → ∀ b ∈ fp, ∃ o, h.get? b = some o ∧ ∀ v, o.data ≠ .cell v
  keep : ∀ i h h', tn i h → (∀ b ∈ fp, ∀ o, h.get? b = some o → h'.get? b = some o) → tn i h'
  item : ∀ (X : Cx), X.prog = P → X.w = w → X.K = K → X.calm = true → ∀ (i : Nat) (pins : List (Addr × Obj)) (s : Shared) (σ : St) (H : Hp) (E : Value → Shared → Prop), Inv X pins σ H s → (∀ b ∈ fp, FpOk X pins H b) → tn i s.heap → J.go i H →
    wpAny (model P w) X.A (pyNext (.ref it)) (fun r s1 => ∃ u, r = some u ∧
      wpAny (model P w) X.A (letOwnedTupleGo tg (.ref it) u) (fun _ s2 => ∃ x H', Inv X pins σ H' s2 ∧ RelV x u ∧ J.yld i H x H' ∧ tn (i + 1) s2.heap ∧ ∀ b ∈ fp, H' b = none) E s1) E s
  done : ∀ (X : Cx), X.prog = P → X.w = w → X.K = K → X.calm = true → ∀ (i : Nat) (pins : List (Addr × Obj)) (s : Shared) (σ : St) (H : Hp) (E : Value → Shared → Prop), Inv X pins σ H s → (∀ b ∈ fp, FpOk X pins H b) → tn i s.heap → J.stop i H →
    wpAny (model P w) X.A (pyNext (.ref it)) (fun r s1 => r = none ∧ Inv X pins σ H s1) E s
  self : ∀ (A : Around) (i : Nat) (s : Shared) (Q : Value → Shared → Prop) (E : Value → Shared → Prop), tn i s.heap → Q (.ref it) s → wpAny (model P w) A (pyIter (.ref it)) Q E s
abbrev TI := St → Hp → (It → Hp → Prop) → Prop
/-- an iterator has come -/
def PIE (X : Cx) (pins : List (Addr × Obj)) (σ : St) (tg : Expr) (R : It → Hp → Prop) (itv : Value) (s2 : Shared) : Prop :=
  ∃ (it : Addr) (fp : List Addr) (tn : Nat → Heap → Prop) (J : It) (H' : Hp), itv = .ref it ∧ Inv X pins σ H' s2 ∧ Turn X.prog X.w X.K tg J fp it tn ∧ tn 0 s2.heap ∧ (∀ b ∈ fp, FpOk X pins H' b) ∧ R J H'
def PI (X : Cx) (tg iter : Expr) (wi : TI) : Prop :=
  ∀ (pins : List (Addr × Obj)) (s : Shared) (σ : St) (H : Hp) (R : It → Hp → Prop), Inv X pins σ H s → wi σ H R →
    wpAny (model X.prog X.w) X.A (eval iter X.env) (fun v s1 => wpAny (model X.prog X.w) X.A (pyIter v) (PIE X pins σ tg R) X.xe s1) X.xe s

/-- the step ahead of the store is nothing for an iterator that keeps no tuple -/
theorem go_of {M : Model} {A : Around} {E : Value → Shared → Prop} {s : Shared} {tg : Expr} {it : Addr} {u : Value} {o : Obj} {n : String} {vs : Array Value} {Q : Unit → Shared → Prop} (ho : s.heap.get? it = some o) (hc : o.cls = .type n) (hd : o.data = .fields vs)
    (hn : ["enumerate", "zip", "dict_itemiterator", "dict_reverseitemiterator", "odict_iterator", "itertools.zip_longest", "itertools.pairwise"].contains n = false) (hQ : Q () s) : wpAny M A (letOwnedTupleGo tg (.ref it) u) Q E s := by
  unfold letOwnedTupleGo
  cases tg <;> first
    | exact wpAny_pure hQ
    | (cases u <;> first
        | exact wpAny_pure hQ
        | (refine wpAny_bind (wpAny_load ho ?_)
           rw [hc, hd]
           show wpAny M A (if (["enumerate", "zip", "dict_itemiterator", "dict_reverseitemiterator", "odict_iterator", "itertools.zip_longest", "itertools.pairwise"].contains n && vs[0]? == some (rawInt _)) = true then _ else _) Q E s
           rw [if_neg (by intro h; rw [hn, Bool.false_and] at h; cases h)]
           exact wpAny_pure hQ))

/-- the list at a, as it stands at each turn (a loop may append to it) -/
def Itl (K : PySem.W.Frag) (a : Addr) : It :=
  ⟨fun i H => ∃ xs x, SqL K H a xs ∧ xs[i]? = some x, fun i H x H' => H' = H ∧ ∀ xs, SqL K H a xs → xs[i]? = some x, fun i H => ∃ xs, SqL K H a xs ∧ xs.length ≤ i⟩
def Itt (K : PySem.W.Frag) (a : Addr) : It :=
  ⟨fun i H => ∃ xs x, SqT K H a xs ∧ xs[i]? = some x, fun i H x H' => H' = H ∧ ∀ xs, SqT K H a xs → xs[i]? = some x, fun i H => ∃ xs, SqT K H a xs ∧ xs.length ≤ i⟩
/-- lo, lo + 1, .. (n of them) -/
def Itr (lo : Int) (n : Nat) : It := ⟨fun i _ => i < n, fun i H x H' => H' = H ∧ x = .int (lo + i), fun i _ => n ≤ i⟩
theorem turn_list {P : Program} {w : World} {K : PySem.W.Frag} {tg : Expr} (a it : Addr) : Turn P w K tg (Itl K a) [it] it (fun i h => h.IsListIter it a i) where
  mem := by simp
  obj := fun i h st b hb => by
    have e : b = it := by simpa using hb
    subst e
    obtain ⟨o, e, c, d⟩ := st
    exact ⟨o, e, fun v z => by rw [d] at z; cases z⟩
  keep := fun i h h' st k => st.at fun o e => k it (by simp) o e
  item := by
    intro X hP hw hK hc i pins s σ H E I hf st hg
    subst hP hw hK
    obtain ⟨xs, x, hq, hx⟩ := hg
    obtain ⟨its, rv, p, hz⟩ := I.list hq
    obtain ⟨u, hu, ru⟩ := rv.get hx
    obtain ⟨f0, f1, f2, f3, f4, f5⟩ := hf it (by simp)
    refine wpAny_pyNext_list_item st p.isList (x := u) (by simpa using hu) fun h' st' sb => ?_
    have I1 : Inv X pins σ H { s with heap := h' } := I.turned (t' := s.toks) (fun b o hb e => (sb.2 b hb).trans e) f0 f1 f3 f4 f5
    obtain ⟨o, e, c, d⟩ := id st'
    exact ⟨u, rfl, go_of (s := { s with heap := h' }) e c d (by decide) ⟨x, H, I1, ru, ⟨rfl, fun ys hy => by rw [I.list_inj hy hq]; exact hx⟩, st', fun b hb => (hf b hb).1⟩⟩
  done := by
    intro X hP hw hK hc i pins s σ H E I hf st hg
    subst hP hw hK
    obtain ⟨xs, hq, hx⟩ := hg
    obtain ⟨its, rv, p, hz⟩ := I.list hq
    obtain ⟨f0, f1, f2, f3, f4, f5⟩ := hf it (by simp)
    have hl := rv.length
    exact wpAny_pyNext_list_end (I.ok.hd hc) st p.isList (by simp; omega) fun h' eb => ⟨rfl, I.turned (t' := s.toks) (fun b o hb e => eb b o hb e) f0 f1 f3 f4 f5⟩
  self := fun _ _ _ _ _ st h => wpAny_pyIter_listiter st h
theorem turn_tuple {P : Program} {w : World} {K : PySem.W.Frag} {tg : Expr} (a it : Addr) : Turn P w K tg (Itt K a) [it] it (fun i h => h.IsTupleIter it a i) where
  mem := by simp
  obj := fun i h st b hb => by
    have e : b = it := by simpa using hb
    subst e
    obtain ⟨o, e, c, d⟩ := st
    exact ⟨o, e, fun v z => by rw [d] at z; cases z⟩
  keep := fun i h h' st k => st.at fun o e => k it (by simp) o e
  item := by
    intro X hP hw hK hc i pins s σ H E I hf st hg
    subst hP hw hK
    obtain ⟨xs, x, hq, hx⟩ := hg
    obtain ⟨its, rv, p, hz⟩ := I.tuple hq
    obtain ⟨u, hu, ru⟩ := rv.get hx
    obtain ⟨f0, f1, f2, f3, f4, f5⟩ := hf it (by simp)
    refine wpAny_pyNext_tuple_item st (show s.heap.IsTuple a its.toArray from p) (x := u) (by simpa using hu) fun h' st' sb => ?_
    have I1 : Inv X pins σ H { s with heap := h' } := I.turned (t' := s.toks) (fun b o hb e => (sb.2 b hb).trans e) f0 f1 f3 f4 f5
    obtain ⟨o, e, c, d⟩ := id st'
    exact ⟨u, rfl, go_of (s := { s with heap := h' }) e c d (by decide) ⟨x, H, I1, ru, ⟨rfl, fun ys hy => by rw [I.tuple_inj hy hq]; exact hx⟩, st', fun b hb => (hf b hb).1⟩⟩
  done := by
    intro X hP hw hK hc i pins s σ H E I hf st hg
    subst hP hw hK
    obtain ⟨xs, hq, hx⟩ := hg
    obtain ⟨its, rv, p, hz⟩ := I.tuple hq
    obtain ⟨f0, f1, f2, f3, f4, f5⟩ := hf it (by simp)
    have hl := rv.length
    exact wpAny_pyNext_tuple_end (I.ok.hd hc) st (show s.heap.IsTuple a its.toArray from p) (by simp; omega) fun h' eb => ⟨rfl, I.turned (t' := s.toks) (fun b o hb e => eb b o hb e) f0 f1 f3 f4 f5⟩
  self := fun _ _ _ _ _ st h => wpAny_pyIter_tupleiter st h
theorem turn_range {P : Program} {w : World} {K : PySem.W.Frag} {tg : Expr} (it : Addr) (lo : Int) (n : Nat) : Turn P w K tg (Itr lo n) [it] it (fun i h => IsRangeIter h it (lo + (i : Nat) * 1) ((n : Int) - (i : Nat)) 1) where
  mem := by simp
  obj := fun i h st b hb => by
    have e : b = it := by simpa using hb
    subst e
    exact ⟨_, st, fun v z => by
      have z' : Data.fields _ = Data.cell v := z
      cases z'⟩
  keep := fun i h h' st k => k it (by simp) _ st
  item := by
    intro X hP hw hK hc i pins s σ H E I hf st hg
    subst hP hw hK
    obtain ⟨f0, f1, f2, f3, f4, f5⟩ := hf it (by simp)
    have W := Walks.range (prog := X.prog) (w := X.w) (I.ok.hd hc) it lo 1 n
    refine W.item i s _ _ hg st fun v h' tk hv st' kk => ?_
    obtain ⟨t, rfl⟩ := hv
    have I1 : Inv X pins σ H { s with heap := h', toks := tk } := I.turned (fun b o hb e => kk b o (by simpa using hb) e) f0 f1 f3 f4 f5
    refine ⟨_, rfl, go_of (s := { s with heap := h', toks := tk }) (n := "range_iterator") st' rfl rfl (by decide) ⟨.int (lo + i), H, I1, ⟨t, ?_⟩, ⟨rfl, rfl⟩, st', fun b hb => (hf b hb).1⟩⟩
    rw [Int.mul_one]
  done := by
    intro X hP hw hK hc i pins s σ H E I hf st hg
    subst hP hw hK
    obtain ⟨f0, f1, f2, f3, f4, f5⟩ := hf it (by simp)
    exact wpAny_pyNext_range_end (I.ok.hd hc) st (by have : n ≤ i := hg; omega) fun h' eb => ⟨rfl, I.turned (t' := s.toks) (fun b o hb e => eb b o hb e) f0 f1 f3 f4 f5⟩
  self := fun _ _ _ _ _ st h => wpAny_pyIter_rangeiter st h
end L2

namespace L2
open PySem PySem.Spec PyProof.Rows
section
variable {X : Cx} {tg : Expr}
def iList (K : PySem.W.Frag) (tl : TE) : TI := fun σ H R => tl σ H fun x H1 => ∃ a, x = .ref a ∧ (∃ xs, SqL K H1 a xs) ∧ R (Itl K a) H1
def iTup (K : PySem.W.Frag) (tl : TE) : TI := fun σ H R => tl σ H fun x H1 => ∃ a, x = .ref a ∧ (∃ xs, SqT K H1 a xs) ∧ R (Itt K a) H1
/-- a range object just made, walked -/
theorem range_it {pins : List (Addr × Obj)} {σ : St} {H : Hp} {s : Shared} {R : It → Hp → Prop} {E : Value → Shared → Prop} {lo hi : Int} {t u v : Tok} {tk : Nat} (I : Inv X pins σ H s) (h1 : -(2 ^ 62) ≤ lo) (h2 : lo < 2 ^ 62) (h3 : -(2 ^ 62) ≤ hi) (h4 : hi < 2 ^ 62)
    (q : R (Itr lo (hi - lo).toNat) H) : wpAny (model X.prog X.w) X.A (pyIter (.ref s.heap.objs.size)) (PIE X pins σ tg R) E { s with heap := s.heap.push { cls := .type "range", data := .fields #[.int lo t, .int hi u, .int 1 v] }, toks := tk } := by
  refine wpAny_pyIter_range (IsRange.new ..) (small_one h1 h2 h3 h4) ?_
  have I1 : Inv X pins σ H { s with heap := s.heap.push { cls := .type "range", data := .fields #[.int lo t, .int hi u, .int 1 v] }, toks := tk } := I.kept fun b o e => Heap.get?_push_of_some _ e
  refine ⟨(s.heap.push { cls := .type "range", data := .fields #[.int lo t, .int hi u, .int 1 v] }).objs.size, [(s.heap.push { cls := .type "range", data := .fields #[.int lo t, .int hi u, .int 1 v] }).objs.size], _, _, H, rfl,
    I1.kept (t' := tk) fun b o e => Heap.get?_push_of_some _ e, turn_range _ lo (hi - lo).toNat, ?_, fun b hb => ?_, q⟩
  · have e1 : lo + ((0 : Nat) : Int) * 1 = lo := by simp
    have e2 : (((hi - lo).toNat : Nat) : Int) - ((0 : Nat) : Int) = Builtin.Range.rangeSize lo hi 1 := by rw [rangeSize_one]; split <;> omega
    show IsRangeIter _ _ (lo + ((0 : Nat) : Int) * 1) ((((hi - lo).toNat : Nat) : Int) - ((0 : Nat) : Int)) 1
    rw [e1, e2]
    exact Heap.get?_push_size _ rfl
  · have e : b = (s.heap.push { cls := .type "range", data := .fields #[.int lo t, .int hi u, .int 1 v] }).objs.size := by simpa using hb
    subst e
    exact I1.fpOk (Nat.le_refl _) (I1.hok.fresh (Nat.le_refl _))
def iRng1 (ta : TA) : TI := fun σ H R => ta σ H fun vs H1 => ∃ j : Int, vs = [.int j] ∧ -(2 ^ 62) ≤ j ∧ j < 2 ^ 62 ∧ R (Itr 0 j.toNat) H1
def iRng2 (ta : TA) : TI := fun σ H R => ta σ H fun vs H1 => ∃ i j : Int, vs = [.int i, .int j] ∧ (-(2 ^ 62) ≤ i ∧ i < 2 ^ 62 ∧ -(2 ^ 62) ≤ j ∧ j < 2 ^ 62) ∧ R (Itr i (j - i).toNat) H1
theorem pi_range1 {a : Expr} {ta : TA} {p pos : Pos} (hg : Gl X "range") (hm : X.mg "range" = none) (ha : PA X [a] ta) (hs : starEach [a] X.env = [(false, eval a X.env)] := by rfl) : PI X tg (.Call (.Name "range" p) [a] [] pos) (iRng1 ta) := by
  intro pins s σ H R I h
  refine Call_ (ld_blt I hg hm boot_range (PyProof.Rows.callWith_type1 (thn (ha pos pins s σ H _ I h) fun us s1 ⟨vs, H1, I1, r1, q1⟩ => ?_) hs rfl))
  obtain ⟨j, e, q1, q2, q⟩ := q1
  subst e
  cases r1 with
  | cons r rr =>
    cases rr
    obtain ⟨t, rfl⟩ := r
    exact call_range_1 (range_it I1 (by omega) (by omega) q1 q2 (by simpa using q))
theorem pi_range2 {a b : Expr} {ta : TA} {p pos : Pos} (hg : Gl X "range") (hm : X.mg "range" = none) (ha : PA X [a, b] ta) (hs : starEach [a, b] X.env = [(false, eval a X.env), (false, eval b X.env)] := by rfl) (hs2 : starEach [b] X.env = [(false, eval b X.env)] := by rfl) :
    PI X tg (.Call (.Name "range" p) [a, b] [] pos) (iRng2 ta) := by
  intro pins s σ H R I h
  refine Call_ (ld_blt I hg hm boot_range (PyProof.Rows.callWith_type1 (thn (ha pos pins s σ H _ I h) fun us s1 ⟨vs, H1, I1, r1, q1⟩ => ?_) (by rw [hs, hs2]) (by rw [hs2]; rfl)))
  obtain ⟨i, j, e, ⟨q1, q2, q3, q4⟩, q⟩ := q1
  subst e
  cases r1 with
  | cons r rr =>
    cases rr with
    | cons r' rr =>
      cases rr
      obtain ⟨t, rfl⟩ := r
      obtain ⟨t', rfl⟩ := r'
      exact call_range_2 (range_it I1 q1 q2 q3 q4 q)

/-! ### for -/
/-- W: the invariant by the turn and a measure; N: what the body is to reach -/
def tFor (wi : TI) (g : TG) (tb : TS) : TS := fun D σ H => wi σ H fun J H1 => ∃ W : Nat → Nat → St → Hp → Prop, (∃ m, W 0 m σ H1) ∧ ∀ i m σ H, W i m σ H →
  (J.stop i H ∧ D.nx σ H) ∨ (J.go i H ∧ ∃ N : St → Hp → Prop, (∀ σ' H', N σ' H' → ∃ m', m' < m ∧ W (i + 1) m' σ' H') ∧ ∀ x H', J.yld i H x H' → g x σ H' fun σ2 H2 => tb { D with nx := N, ct := N, bk := D.nx } σ2 H2)
/-- the records at fp as they stand -/
def pinsAt (fp : List Addr) (h : Heap) : List (Addr × Obj) := fp.filterMap fun b => (h.get? b).map fun o => (b, o)
theorem mem_pinsAt {fp : List Addr} {h : Heap} {b : Addr} {o : Obj} (hb : b ∈ fp) (e : h.get? b = some o) : (b, o) ∈ pinsAt fp h := List.mem_filterMap.mpr ⟨b, hb, by rw [e]; rfl⟩
theorem of_pinsAt {fp : List Addr} {h : Heap} {p : Addr × Obj} (hp : p ∈ pinsAt fp h) : p.1 ∈ fp ∧ h.get? p.1 = some p.2 := by
  obtain ⟨b, hb, e⟩ := List.mem_filterMap.mp hp
  cases q : h.get? b with
  | none => rw [q] at e; cases e
  | some o =>
    rw [q] at e
    have e' : (b, o) = p := Option.some.inj e
    subst e'
    exact ⟨hb, q⟩
theorem Inv.pinned {pins : List (Addr × Obj)} {σ : St} {H : Hp} {s : Shared} {fp : List Addr} (I : Inv X pins σ H s) (hf : ∀ b ∈ fp, FpOk X pins H b) (ho : ∀ b ∈ fp, ∃ o, s.heap.get? b = some o ∧ ∀ v, o.data ≠ .cell v) : Inv X (pins ++ pinsAt fp s.heap) σ H s :=
  I.pins_of fun p hp => (List.mem_append.mp hp).elim (fun z => I.pin p (List.mem_append_right _ z)) fun z => by
    obtain ⟨hb, e⟩ := of_pinsAt z
    obtain ⟨f0, f1, f2, _⟩ := hf p.1 hb
    obtain ⟨o, e', d⟩ := ho p.1 hb
    rw [e] at e'; cases e'
    exact ⟨e, f0, f1, f2, d⟩
theorem Inv.unpinned {pins pl : List (Addr × Obj)} {σ : St} {H : Hp} {s : Shared} (I : Inv X (pins ++ pl) σ H s) : Inv X pins σ H s := I.pins_of fun p hp => I.pin p (List.mem_append_right _ (List.mem_append_left _ hp))
theorem ps_for {iter : Expr} {body : List Stmt} {wi : TI} {g : TG} {tb : TS} {pos : Pos} (hp : PassesOwn (model X.prog X.w) X.A X.env X.xe) (hc : X.calm = true) (hi : PI X tg iter wi) (hg : PG X tg g) (hb : PSs X body tb)
    (hs : ∀ x, foldedSetIterable iter X.env x = pure x := by intro _; rfl) : PS X (.For tg iter body [] pos) (tFor wi g tb) := by
  intro pins s σ H D I h
  refine wpAny_For (thn (hi pins s σ H _ I h) fun v s1 h1 => thn h1 fun itv s2 h2 => ?_) hs
  obtain ⟨it, fp, tn, J, H2, e, I2, T, st2, f2, W, ⟨m0, w0⟩, turn⟩ := h2
  subst e
  -- what stays true of the iterator's objects through the loop
  have stat : ∀ {H' : Hp}, (∀ b ∈ fp, H' b = none) → ∀ b ∈ fp, FpOk X pins H' b := fun hn b hb => ⟨hn b hb, (f2 b hb).2⟩
  refine codeAny_forLoop_any (fun n s' => ∃ i σ' H', Inv X pins σ' H' s' ∧ tn i s'.heap ∧ (∀ b ∈ fp, H' b = none) ∧ W i n σ' H') ?_ m0 ⟨0, σ, H2, I2, st2, fun b hb => (f2 b hb).1, w0⟩
  rintro n s3 ⟨i, σ3, H3, I3, st3, fr3, w3⟩
  rcases turn i n σ3 H3 w3 with ⟨stop, qn⟩ | ⟨go, N, hN, step⟩
  · refine wpAny_passesOwn hp (thn (T.done X rfl rfl rfl hc i pins s3 σ3 H3 X.xe I3 (stat fr3) st3 stop) fun r s4 ⟨hr, I4⟩ => ?_)
    subst hr
    exact wpAny_execs_nil ⟨σ3, H3, I4, qn⟩
  · refine wpAny_passesOwn hp (thn (T.item X rfl rfl rfl hc i pins s3 σ3 H3 X.xe I3 (stat fr3) st3 go) fun r s4 ⟨u, hr, h4⟩ => ?_)
    subst hr
    refine wpAny_passesOwn hp (thn h4 fun _ s5 ⟨x, H5, I5, r5, y5, st5, fr5⟩ => ?_)
    have I5' := I5.pinned (stat fr5) (T.obj _ _ st5)
    refine wpAny_passesOwn hp (thn (hg _ s5 σ3 H5 x u _ I5' r5 (step x H5 y5)) fun _ s6 ⟨σ6, H6, I6, q6⟩ => ?_)
    refine wpAny_passesOwn hp (thn (hb _ s6 σ6 H6 _ I6 q6) fun f s7 q7 => ?_)
    have again : ∀ {σ7 : St} {H7 : Hp}, Inv X (pins ++ pinsAt fp s5.heap) σ7 H7 s7 → N σ7 H7 → ∃ m, m < n ∧ ∃ i σ' H', Inv X pins σ' H' s7 ∧ tn i s7.heap ∧ (∀ b ∈ fp, H' b = none) ∧ W i m σ' H' := fun {σ7 H7} I7 n7 => by
      obtain ⟨m', hm, w7⟩ := hN σ7 H7 n7
      refine ⟨m', hm, i + 1, σ7, H7, I7.unpinned, T.keep _ _ _ st5 fun b hb o e => (I7.pin (b, o) (List.mem_append_right _ (List.mem_append_right _ (mem_pinsAt hb e)))).1, fun b hb => ?_, w7⟩
      obtain ⟨o, e, d⟩ := T.obj _ _ st5 b hb
      exact (I7.pin (b, o) (List.mem_append_right _ (List.mem_append_right _ (mem_pinsAt hb e)))).2.1
    cases f with
    | next => obtain ⟨σ7, H7, I7, n7⟩ := q7; exact again I7 n7
    | cont => obtain ⟨σ7, H7, I7, n7⟩ := q7; exact again I7 n7
    | brk => obtain ⟨σ7, H7, I7, q7⟩ := q7; exact ⟨σ7, H7, I7.unpinned, q7⟩
    | ret v => obtain ⟨x7, σ7, H7, I7, r7, q7⟩ := q7; exact ⟨x7, σ7, H7, I7.unpinned, r7, q7⟩
end

/-! ### the forms one uses -/
end L2

namespace L2
open PySem PySem.Spec PyProof.Rows

abbrev R2 := V → V → Hp → VK → Prop
/-- a two-place operation on values: f is binaryOp op, inplaceOp op or compareOp op -/
def OpR (X : Cx) (f : Value → Value → Sem Value) (r : R2) : Prop :=
  ∀ (pins : List (Addr × Obj)) (s : Shared) (σ : St) (H : Hp) (x y : V) (v u : Value) (Q : VK), Inv X pins σ H s → RelV x v → RelV y u → r x y H Q →
    wpAny (model X.prog X.w) X.A (f v u) (EP X pins σ Q) X.xe s
/-- a one-place operation -/
def UnR (X : Cx) (f : Value → Sem Value) (r : V → Hp → VK → Prop) : Prop :=
  ∀ (pins : List (Addr × Obj)) (s : Shared) (σ : St) (H : Hp) (x : V) (v : Value) (Q : VK), Inv X pins σ H s → RelV x v → r x H Q →
    wpAny (model X.prog X.w) X.A (f v) (EP X pins σ Q) X.xe s
/-- a call of a value that is known (a builtin, a type) with values -/
def CallR (X : Cx) (f : Value) (r : List V → Hp → VK → Prop) : Prop :=
  ∀ (pins : List (Addr × Obj)) (s : Shared) (σ : St) (H : Hp) (xs : List V) (us : List Value) (Q : VK), Inv X pins σ H s → Vals xs us → r xs H Q →
    wpAny (model X.prog X.w) X.A (call f us) (EP X pins σ Q) X.xe s
/-- a value's truth -/
def TruR (X : Cx) (r : V → Hp → (Bool → Hp → Prop) → Prop) : Prop :=
  ∀ (pins : List (Addr × Obj)) (s : Shared) (σ : St) (H : Hp) (x : V) (v : Value) (Q : Bool → Hp → Prop), Inv X pins σ H s → RelV x v → r x H Q →
    wpAny (model X.prog X.w) X.A (truthy v) (TP X pins σ Q) X.xe s

def tOp (r : R2) (ta tb : TE) : TE := fun σ H Q => ta σ H fun x H1 => tb σ H1 fun y H2 => r x y H2 Q
def tUn (r : V → Hp → VK → Prop) (ta : TE) : TE := fun σ H Q => ta σ H fun x H1 => r x H1 Q
/-- ints in, under C, and a value out -/
def rI (C : Int → Int → Prop) (g : Int → Int → V) : R2 := fun x y H Q => ∃ i j, x = .int i ∧ y = .int j ∧ C i j ∧ Q (g i j) H
def rI0 (g : Int → Int → V) : R2 := fun x y H Q => ∃ i j, x = .int i ∧ y = .int j ∧ Q (g i j) H
def rU (g : Int → V) : V → Hp → VK → Prop := fun x H Q => ∃ i, x = .int i ∧ Q (g i) H

section
variable {X : Cx} {a b c : Expr} {ta tb tc : TE} {pos : Pos}

theorem binT (ha : PE X a ta) (hb : PE X b tb) {pins : List (Addr × Obj)} {s : Shared} {σ : St} {H : Hp} {R : V → V → Hp → Prop} (I : Inv X pins σ H s)
    (h : ta σ H fun x H1 => tb σ H1 fun y H2 => R x y H2) {Q : Value → Shared → Prop} {f : Value → Value → Sem Value}
    (hf : ∀ v u s2 x y H2, Inv X pins σ H2 s2 → RelV x v → RelV y u → R x y H2 → wpAny (model X.prog X.w) X.A (f v u) Q X.xe s2) :
    wpAny (model X.prog X.w) X.A (eval a X.env) (fun v s₁ => wpAny (model X.prog X.w) X.A (eval b X.env) (fun u s₂ => wpAny (model X.prog X.w) X.A (f v u) Q X.xe s₂) X.xe s₁) X.xe s := by
  refine thn (ha pins s σ H _ I h) fun v s1 ⟨x, H1, I1, r1, q1⟩ => ?_
  refine thn (hb pins s1 σ H1 _ I1 q1) fun u s2 ⟨y, H2, I2, r2, q2⟩ => ?_
  exact hf v u s2 x y H2 I2 r1 r2 q2

theorem pe_op {op : Operator} {r : R2} (ho : OpR X (binaryOp op) r) (ha : PE X a ta) (hb : PE X b tb) : PE X (.BinOp a op b pos) (tOp r ta tb) := by
  intro pins s σ H Q I h
  exact wpAny_BinOp (binT ha hb I h fun v u s2 x y H2 I2 rx ry q => ho pins s2 σ H2 x y v u Q I2 rx ry q)

/-! ### ints -/
theorem opI {f : Value → Value → Sem Value} {C : Int → Int → Prop} {g : Int → Int → Int}
    (rule : ∀ (i j : Int) (t u : Tok) (s : Shared) (Q : Value → Shared → Prop) (E : Value → Shared → Prop), C i j → Q (.int (g i j) s.toks) { s with toks := s.toks + 1 } → wpAny (model X.prog X.w) X.A (f (.int i t) (.int j u)) Q E s) :
    OpR X f (rI C fun i j => .int (g i j)) := by
  intro pins s σ H x y v u Q I rx ry h
  obtain ⟨i, j, rfl, rfl, hc, q⟩ := h
  obtain ⟨t, rfl⟩ := rx
  obtain ⟨t', rfl⟩ := ry
  exact rule i j t t' s _ _ hc ⟨.int (g i j), H, I.tok _, ⟨_, rfl⟩, q⟩
theorem opI0 {f : Value → Value → Sem Value} {g : Int → Int → Int}
    (rule : ∀ (i j : Int) (t u : Tok) (s : Shared) (Q : Value → Shared → Prop) (E : Value → Shared → Prop), Q (.int (g i j) s.toks) { s with toks := s.toks + 1 } → wpAny (model X.prog X.w) X.A (f (.int i t) (.int j u)) Q E s) :
    OpR X f (rI0 fun i j => .int (g i j)) := by
  intro pins s σ H x y v u Q I rx ry h
  obtain ⟨i, j, rfl, rfl, q⟩ := h
  obtain ⟨t, rfl⟩ := rx
  obtain ⟨t', rfl⟩ := ry
  exact rule i j t t' s _ _ ⟨.int (g i j), H, I.tok _, ⟨_, rfl⟩, q⟩

def CDiv (i j : Int) : Prop := 0 < j ∧ j < 1073741824
def CDivN (i j : Int) : Prop := j ≠ 0 ∧ j.natAbs < 1073741824
def CPow (i j : Int) : Prop := 0 ≤ j ∧ j ≤ 1000000 ∧ i.natAbs < 2 ^ 64
def CMul (i j : Int) : Prop := (-(2 ^ 64) < i ∧ i < 2 ^ 64) ∨ (-(2 ^ 64) < j ∧ j < 2 ^ 64)
theorem CMul.ok {i j : Int} (h : CMul i j) : IntMulOk i j := by
  rcases h with ⟨h1, h2⟩ | ⟨h1, h2⟩
  · exact .of_left (intBits_le_64 h1 h2)
  · exact .of_right (intBits_le_64 h1 h2)

theorem op_add : OpR X (binaryOp .Add) (rI0 fun i j => .int (i + j)) := opI0 fun _ _ _ _ _ _ _ q => add_int q
theorem op_sub : OpR X (binaryOp .Sub) (rI0 fun i j => .int (i - j)) := opI0 fun _ _ _ _ _ _ _ q => sub_int q
theorem op_mul : OpR X (binaryOp .Mult) (rI CMul fun i j => .int (i * j)) := opI fun _ _ _ _ _ _ _ hc q => mul_int q hc.ok
/-- // by a positive divisor -/
theorem op_fdiv : OpR X (binaryOp .FloorDiv) (rI CDiv fun i j => .int (i / j)) := opI fun i j _ _ _ _ _ hc q => by
  have h1 : (0 : Int) < j := hc.1
  have h2 : j < 1073741824 := hc.2
  exact floordiv_int (by omega) (by rw [Int.fdiv_eq_ediv_of_nonneg i (by omega)]; exact q) (.inl (PyProof.noPylong_small (by omega)))
/-- % by a positive divisor of any size -/
theorem op_mod : OpR X (binaryOp .Mod) (rI (fun _ j => 0 < j) fun i j => .int (i % j)) := opI fun i j _ _ _ _ _ hc q => by
  have h1 : (0 : Int) < j := hc
  exact mod_int' (by omega) (by rw [Int.fmod_eq_emod_of_nonneg i (by omega)]; exact q)
theorem op_pow : OpR X (binaryOp .Pow) (rI CPow fun i j => .int (i ^ j.toNat)) := opI fun _ _ _ _ _ _ _ hc q => pow_int_small hc.1 hc.2.1 hc.2.2 q



/-! ### bools among ints: n += (a < b) -/
end

/-! ### comparisons -/
/-- the scalars that == tells apart as data does -/
def scal : V → V → Bool
  | .non, .non => true | .non, .int _ => true | .int _, .non => true | .non, .bl _ => true | .bl _, .non => true | .non, .str _ => true | .str _, .non => true
  | .int _, .int _ => true | .bl _, .bl _ => true | .str _, .str _ => true | .byt _, .byt _ => true
  | .int _, .str _ => true | .str _, .int _ => true | .bl _, .str _ => true | .str _, .bl _ => true
  | _, _ => false
def rEq : R2 := fun x y H Q => scal x y = true ∧ Q (.bl (decide (x = y))) H
def rNe : R2 := fun x y H Q => scal x y = true ∧ Q (.bl (!decide (x = y))) H

theorem dec_int {i j : Int} : decide (V.int i = V.int j) = (i == j) := by
  rw [Bool.eq_iff_iff]
  simp
theorem dec_bl {i j : Bool} : decide (V.bl i = V.bl j) = (i == j) := by
  rw [Bool.eq_iff_iff]
  simp
theorem dec_str {i j : Str} : decide (V.str i = V.str j) = (i == j) := by
  rw [Bool.eq_iff_iff]
  simp
theorem dec_byt {i j : Array UInt8} : decide (V.byt i = V.byt j) = (i.toList == j.toList) := by
  rw [Bool.eq_iff_iff]
  cases i
  cases j
  simp

section
variable {X : Cx} {a b c : Expr} {ta tb tc : TE} {pos : Pos}
theorem fin_bl {pins : List (Addr × Obj)} {σ : St} {H : Hp} {s : Shared} {Q : VK} {k k' : Bool} (I : Inv X pins σ H s) (q : Q (.bl k) H) (e : k = k') : EP X pins σ Q (.bool k') s := by
  subst e
  exact ⟨.bl k, H, I, rfl, q⟩
theorem op_eq : OpR X (compareOp .Eq) rEq := by
  intro pins s σ H x y v u Q I rx ry h
  obtain ⟨hs, q⟩ := h
  cases x with
  | non =>
    cases rx
    cases y with
    | non => cases ry; exact PySem.EqNone.eq_none_none (fin_bl I q (by simp))
    | bl j => cases ry; exact PySem.EqNone.eq_none_bool (fin_bl I q (by simp))
    | int j => obtain ⟨t', rfl⟩ := ry; exact PySem.EqNone.eq_none_int (fin_bl I q (by simp))
    | str j => obtain ⟨t', rfl⟩ := ry; exact PySem.EqNone.eq_none_str (fin_bl I q (by simp))
    | _ => exact absurd (show false = true from hs) Bool.false_ne_true
  | bl i =>
    cases rx
    cases y with
    | non => cases ry; exact PySem.EqNone.eq_bool_none (fin_bl I q (by simp))
    | bl j => cases ry; exact eq_bool (fin_bl I q dec_bl)
    | str j => obtain ⟨t', rfl⟩ := ry; exact PySem.EqMixed.eq_bool_str (fin_bl I q (by simp))
    | _ => exact absurd (show false = true from hs) Bool.false_ne_true
  | int i =>
    obtain ⟨t, rfl⟩ := rx
    cases y with
    | non => cases ry; exact PySem.EqNone.eq_int_none (fin_bl I q (by simp))
    | int j => obtain ⟨t', rfl⟩ := ry; exact eq_int (fin_bl I q dec_int)
    | str j => obtain ⟨t', rfl⟩ := ry; exact PySem.EqMixed.eq_int_str (fin_bl I q (by simp))
    | _ => exact absurd (show false = true from hs) Bool.false_ne_true
  | str i =>
    obtain ⟨t, rfl⟩ := rx
    cases y with
    | non => cases ry; exact PySem.EqNone.eq_str_none (fin_bl I q (by simp))
    | bl j => cases ry; exact PySem.EqMixed.eq_str_bool (fin_bl I q (by simp))
    | int j => obtain ⟨t', rfl⟩ := ry; exact PySem.EqMixed.eq_str_int (fin_bl I q (by simp))
    | str j => obtain ⟨t', rfl⟩ := ry; exact eq_str (fin_bl I q dec_str)
    | _ => exact absurd (show false = true from hs) Bool.false_ne_true
  | byt i =>
    obtain ⟨t, rfl⟩ := rx
    cases y with
    | byt j => obtain ⟨t', rfl⟩ := ry; exact PySem.W.eq_bytes (fin_bl I q dec_byt)
    | _ => exact absurd (show false = true from hs) Bool.false_ne_true
  | _ => cases y <;> exact absurd (show false = true from hs) Bool.false_ne_true
theorem op_ne : OpR X (compareOp .NotEq) rNe := by
  intro pins s σ H x y v u Q I rx ry h
  obtain ⟨hs, q⟩ := h
  cases x with
  | non =>
    cases rx
    cases y with
    | non => cases ry; exact PySem.EqNone.ne_none_none (fin_bl I q (by simp))
    | bl j => cases ry; exact PySem.EqNone.ne_none_bool (fin_bl I q (by simp))
    | int j => obtain ⟨t', rfl⟩ := ry; exact PySem.EqNone.ne_none_int (fin_bl I q (by simp))
    | str j => obtain ⟨t', rfl⟩ := ry; exact PySem.EqNone.ne_none_str (fin_bl I q (by simp))
    | _ => exact absurd (show false = true from hs) Bool.false_ne_true
  | bl i =>
    cases rx
    cases y with
    | non => cases ry; exact PySem.EqNone.ne_bool_none (fin_bl I q (by simp))
    | bl j => cases ry; exact ne_bool (fin_bl I q (congrArg not dec_bl))
    | str j => obtain ⟨t', rfl⟩ := ry; exact PySem.EqMixed.ne_bool_str (fin_bl I q (by simp))
    | _ => exact absurd (show false = true from hs) Bool.false_ne_true
  | int i =>
    obtain ⟨t, rfl⟩ := rx
    cases y with
    | non => cases ry; exact PySem.EqNone.ne_int_none (fin_bl I q (by simp))
    | int j => obtain ⟨t', rfl⟩ := ry; exact ne_int (fin_bl I q (congrArg not dec_int))
    | str j => obtain ⟨t', rfl⟩ := ry; exact PySem.EqMixed.ne_int_str (fin_bl I q (by simp))
    | _ => exact absurd (show false = true from hs) Bool.false_ne_true
  | str i =>
    obtain ⟨t, rfl⟩ := rx
    cases y with
    | non => cases ry; exact PySem.EqNone.ne_str_none (fin_bl I q (by simp))
    | bl j => cases ry; exact PySem.EqMixed.ne_str_bool (fin_bl I q (by simp))
    | int j => obtain ⟨t', rfl⟩ := ry; exact PySem.EqMixed.ne_str_int (fin_bl I q (by simp))
    | str j => obtain ⟨t', rfl⟩ := ry; exact ne_str (fin_bl I q (congrArg not dec_str))
    | _ => exact absurd (show false = true from hs) Bool.false_ne_true
  | byt i =>
    obtain ⟨t, rfl⟩ := rx
    cases y with
    | byt j => obtain ⟨t', rfl⟩ := ry; exact PySem.W.ne_bytes (fin_bl I q (congrArg not dec_byt))
    | _ => exact absurd (show false = true from hs) Bool.false_ne_true
  | _ => cases y <;> exact absurd (show false = true from hs) Bool.false_ne_true


/-- is None, is not None: the right side a value none -/
theorem op_isN : OpR X (compareOp .Is) (fun x y H Q => y = .non ∧ Q (.bl (decide (x = .non))) H) := by
  intro pins s σ H x y v u Q I rx ry h
  obtain ⟨rfl, q⟩ := h
  cases ry
  refine is_none_gen (fin_bl I q ?_)
  cases x <;> first
    | (cases rx; rfl)
    | (obtain ⟨t, rfl⟩ := rx; rfl)
theorem op_notN : OpR X (compareOp .IsNot) (fun x y H Q => y = .non ∧ Q (.bl (!decide (x = .non))) H) := by
  intro pins s σ H x y v u Q I rx ry h
  obtain ⟨rfl, q⟩ := h
  cases ry
  refine isnot_none_gen (fin_bl I q ?_)
  cases x <;> first
    | (cases rx; rfl)
    | (obtain ⟨t, rfl⟩ := rx; rfl)

/-- is, is not of two objects that are tracked lists or instances -/
def isObj : HO → Bool
  | .lst _ => true
  | .ins _ _ _ => true
  | _ => false

/-- two rules for one operation: by cases -/
theorem OpR.or {f : Value → Value → Sem Value} {r r' : R2} (h : OpR X f r) (h' : OpR X f r') : OpR X f (fun x y H Q => r x y H Q ∨ r' x y H Q) := by
  intro pins s σ H x y v u Q I rx ry q
  rcases q with q | q
  · exact h pins s σ H x y v u Q I rx ry q
  · exact h' pins s σ H x y v u Q I rx ry q

/-- a comparison as a value; hm: nomark b, or (for in, not in) by with_unfolding_all rfl -/
theorem pe_cmpR {op : CmpOp} {r : R2} (ho : OpR X (compareOp op) r) (ha : PE X a ta) (hb : PE X b tb) (hm : behindInMarks op b = false) : PE X (.Compare a [op] [b] pos) (tOp r ta tb) := by
  intro pins s σ H Q I h
  exact wpAny_Compare1 (binT ha hb I h fun v u s2 x y H2 I2 rx ry q => ho pins s2 σ H2 x y v u Q I2 rx ry q) hm
/-- a reading of a value as a test -/
def tTest (t : TE) : TT := fun σ H Q => t σ H fun x H' => ∃ k, x = .bl k ∧ Q k H'
theorem pt_cmpR {op : CmpOp} {r : R2} (ho : OpR X (compareOp op) r) (ha : PE X a ta) (hb : PE X b tb) (hm : behindInMarks op b = false) : PT X (.Compare a [op] [b] pos) (tTest (tOp r ta tb)) := by
  intro pins s σ H Q I h
  refine wpAny_isTrue_Compare1 (thn (ha pins s σ H _ I h) fun v s1 ⟨x, H1, I1, r1, q1⟩ => thn (hb pins s1 σ H1 _ I1 q1) fun u s2 ⟨y, H2, I2, r2, q2⟩ =>
    thn (ho pins s2 σ H2 x y v u _ I2 r1 r2 q2) fun c s3 ⟨z, H3, I3, r3, k, e, q3⟩ => ?_) hm
  subst e
  cases r3
  exact wpAny_truthy_bool ⟨H3, I3, q3⟩
/-- a op1 b op2 c -/
def tChain (r r' : R2) (ta tb tc : TE) : TE := fun σ H Q => ta σ H fun x H1 => tb σ H1 fun y H2 => r x y H2 fun z H3 => ∃ k, z = .bl k ∧
  (if k = true then tc σ H3 fun w' H4 => r' y w' H4 Q else Q (.bl false) H3)
theorem pe_chain {op op' : CmpOp} {r r' : R2} (ho : OpR X (compareOp op) r) (ho' : OpR X (compareOp op') r') (ha : PE X a ta) (hb : PE X b tb) (hc : PE X c tc)
    (hm : lastMarks [op, op'] [b, c] = false := by with_unfolding_all rfl) : PE X (.Compare a [op, op'] [b, c] pos) (tChain r r' ta tb tc) := by
  intro pins s σ H Q I h
  refine Compare_chain (thn (ha pins s σ H _ I h) fun v s1 ⟨x, H1, I1, r1, q1⟩ => chain_link (thn (hb pins s1 σ H1 _ I1 q1) fun u s2 ⟨y, H2, I2, r2, q2⟩ =>
    thn (ho pins s2 σ H2 x y v u _ I2 r1 r2 q2) fun d s3 ⟨z, H3, I3, r3, k, e, q3⟩ => ?_)) hm
  subst e
  cases r3
  refine wpAny_truthy_bool ?_
  cases k with
  | false => exact ite_ff ⟨.bl false, H3, I3, rfl, q3⟩
  | true => exact ite_tt (chain_last (thn (hc pins s3 σ H3 _ I3 q3) fun w' s4 ⟨z', H4, I4, r4, q4⟩ => ho' pins s4 σ H4 y z' u w' Q I4 r2 r4 q4))

/-! ### truth -/
/-- a value's truth by the abstract heap -/
def TruV (K : PySem.W.Frag) (x : V) (H : Hp) (k : Bool) : Prop :=
  match x with
  | .non => k = false
  | .bl b => k = b
  | .int i => k = (i != 0)
  | .str y => y.length ≤ sizeLine ∧ k = ((y.length : Int) != 0)
  | .byt y => y.size ≤ sizeLine ∧ k = ((y.size : Int) != 0)
  | .ref p => (∃ xs, SqL K H p xs ∧ k = !xs.isEmpty) ∨ (∃ xs, SqT K H p xs ∧ k = !xs.isEmpty) ∨ ∃ kvs, H p = some (.dK kvs) ∧ k = !kvs.isEmpty
  | _ => False
theorem isEmpty_kv {κ : Type} {kvs : List (κ × V)} {vs : List (κ × Value)} (r : KV kvs vs) : (!vs.isEmpty) = !kvs.isEmpty := by
  cases r <;> rfl
theorem isEmpty_of {xs : List V} {its : List Value} (r : Vals xs its) : (!its.toArray.isEmpty) = !xs.isEmpty := by
  cases r <;> simp
theorem line63 : (sizeLine : Nat) < 2 ^ 63 := by rw [sizeLine_eq]; decide
theorem tru_ok : TruR X (fun x H Q => ∃ k, TruV X.K x H k ∧ Q k H) := by
  intro pins s σ H x v Q I rx h
  obtain ⟨k, e, q⟩ := h
  have hl := line63
  have hs : sizeLine = 16777216 := sizeLine_eq
  cases x with
  | non =>
    cases rx
    have e' : k = false := e
    subst e'
    exact truthy_none ⟨H, I, q⟩
  | bl b =>
    cases rx
    have e' : k = b := e
    subst e'
    exact wpAny_truthy_bool ⟨H, I, q⟩
  | int i =>
    obtain ⟨t, rfl⟩ := rx
    have e' : k = (i != 0) := e
    subst e'
    exact PySem.P.truthy_int ⟨H, I, q⟩
  | str y =>
    obtain ⟨t, rfl⟩ := rx
    obtain ⟨hy, e'⟩ : y.length ≤ sizeLine ∧ k = ((y.length : Int) != 0) := e
    subst e'
    exact PySem.P.truthy_str (by omega) ⟨H, I.tok _, q⟩
  | byt y =>
    obtain ⟨t, rfl⟩ := rx
    obtain ⟨hy, e'⟩ : y.size ≤ sizeLine ∧ k = ((y.size : Int) != 0) := e
    subst e'
    exact PySem.W.truthy_bytes (by omega) ⟨H, I.tok _, q⟩
  | ref p =>
    cases rx
    have e' : (∃ xs, SqL X.K H p xs ∧ k = !xs.isEmpty) ∨ (∃ xs, SqT X.K H p xs ∧ k = !xs.isEmpty) ∨ ∃ kvs, H p = some (.dK kvs) ∧ k = !kvs.isEmpty := e
    rcases e' with ⟨xs, hx, e'⟩ | ⟨xs, hx, e'⟩ | ⟨kvs, hx, e'⟩
    · subst e'
      obtain ⟨its, r, pl, hz⟩ := I.list hx
      have hlen := r.length
      exact wpAny_truthy_list pl.isList (by simp only [List.size_toArray]; omega) ⟨H, I.tok _, by rw [isEmpty_of r]; exact q⟩
    · subst e'
      obtain ⟨its, r, pl, hz⟩ := I.tuple hx
      have hlen := r.length
      exact truthy_tuple pl (by simp only [List.size_toArray]; omega) ⟨H, I.tok _, by rw [isEmpty_of r]; exact q⟩
    · subst e'
      obtain ⟨hz, hS, vs, r, m⟩ : kvs.length ≤ sizeLine ∧ (p == sysModules) = false ∧ ∃ vs, KV kvs vs ∧ s.heap.DictOf (mixKind X.prog X.w) p vs := I.hok p _ hx
      have hlen : kvs.length = vs.length := Paired.length r
      exact wpAny_truthy_dict hS m (by omega) ⟨H, I.tok _, by rw [isEmpty_kv r]; exact q⟩
  | _ => exact (show False from e).elim
/-- any expression whose test is its value's truth (a name, a call, a subscript, a field ..: he by fun _ => rfl) -/
theorem pt_truth (ha : PE X a ta) (he : ∀ whole, isTrue a X.env whole = (do let v ← whole; standAt a.pos; holding [v] (truthy v))) :
    PT X a (fun σ H Q => ta σ H fun x H' => ∃ k, TruV X.K x H' k ∧ Q k H') := by
  intro pins s σ H Q I h
  exact isTrue_plain (thn (ha pins s σ H _ I h) fun v s1 ⟨x, H1, I1, r1, q1⟩ => tru_ok pins s1 σ H1 x v Q I1 r1 q1) (he _)

/-! ### strs and bytes -/
theorem op_add_str : OpR X (binaryOp .Add) (fun x y H Q => ∃ i j, x = .str i ∧ y = .str j ∧ i.length + j.length ≤ sizeLine ∧ Q (.str (i ++ j)) H) := by
  intro pins s σ H x y v u Q I rx ry h
  obtain ⟨i, j, rfl, rfl, hz, q⟩ := h
  obtain ⟨t, rfl⟩ := rx
  obtain ⟨t', rfl⟩ := ry
  exact add_str (fun t' tk => ⟨.str (i ++ j), H, I.tok _, ⟨_, rfl⟩, q⟩) hz

def PlainIxT (b : Expr) : Prop := ∀ o i, subscripted b false o i = operate [o, i] (getItem o i)

/-! ### scalar builtins, by CallR -/
theorem vals1 {x : V} {us : List Value} (r : Vals [x] us) : ∃ u, us = [u] ∧ RelV x u := by
  cases r with
  | cons r1 r2 => cases r2; exact ⟨_, rfl, r1⟩
theorem vals2 {x y : V} {us : List Value} (r : Vals [x, y] us) : ∃ u w', us = [u, w'] ∧ RelV x u ∧ RelV y w' := by
  cases r with
  | cons r1 r2 =>
    cases r2 with
    | cons r3 r4 => cases r4; exact ⟨_, _, rfl, r1, r3⟩
theorem call_max2 (hc : X.calm = true) : CallR X (.builtin "max") (fun xs H Q => ∃ i j, xs = [.int i, .int j] ∧ Q (.int (if j > i then j else i)) H) := by
  intro pins s σ H xs us Q I r h
  obtain ⟨i, j, rfl, q⟩ := h
  obtain ⟨u, w', rfl, ⟨t, rfl⟩, ⟨t', rfl⟩⟩ := vals2 r
  refine max_two_ints (I.ok.hd hc) fun h' tk k => ⟨_, H, I.kept k, ?_, q⟩
  by_cases hj : j > i
  · rw [if_pos hj, if_pos hj]; exact ⟨_, rfl⟩
  · rw [if_neg hj, if_neg hj]; exact ⟨_, rfl⟩
theorem call_min2 (hc : X.calm = true) : CallR X (.builtin "min") (fun xs H Q => ∃ i j, xs = [.int i, .int j] ∧ Q (.int (if j < i then j else i)) H) := by
  intro pins s σ H xs us Q I r h
  obtain ⟨i, j, rfl, q⟩ := h
  obtain ⟨u, w', rfl, ⟨t, rfl⟩, ⟨t', rfl⟩⟩ := vals2 r
  refine min_two_ints (I.ok.hd hc) fun h' tk k => ⟨_, H, I.kept k, ?_, q⟩
  by_cases hj : j < i
  · rw [if_pos hj, if_pos hj]; exact ⟨_, rfl⟩
  · rw [if_neg hj, if_neg hj]; exact ⟨_, rfl⟩
theorem call_int1 : CallR X (.type "int") (fun xs H Q => (∃ i, xs = [.int i] ∧ Q (.int i) H) ∨ ∃ k, xs = [.bl k] ∧ Q (.int (if k then 1 else 0)) H) := by
  intro pins s σ H xs us Q I r h
  rcases h with ⟨i, rfl, q⟩ | ⟨k, rfl, q⟩
  · obtain ⟨u, rfl, t, rfl⟩ := vals1 r
    exact call_int_int ⟨.int i, H, I, ⟨_, rfl⟩, q⟩
  · obtain ⟨u, rfl, r1⟩ := vals1 r
    cases r1
    exact call_int_bool ⟨.int (if k then 1 else 0), H, I.tok _, ⟨_, rfl⟩, q⟩
/-- len of a str, a bytes, a list, a tuple -/
def LenV (K : PySem.W.Frag) (x : V) (H : Hp) (n : Nat) : Prop :=
  match x with
  | .str y => y.length ≤ sizeLine ∧ n = y.length
  | .byt y => y.size ≤ sizeLine ∧ n = y.size
  | .ref p => (∃ xs, SqL K H p xs ∧ n = xs.length) ∨ ∃ xs, SqT K H p xs ∧ n = xs.length
  | _ => False
theorem call_len : CallR X (.builtin "len") (fun xs H Q => ∃ x n, xs = [x] ∧ LenV X.K x H n ∧ Q (.int n) H) := by
  intro pins s σ H xs us Q I r h
  obtain ⟨x, n, rfl, e, q⟩ := h
  obtain ⟨u, rfl, rx⟩ := vals1 r
  have hl := line63
  have hs : sizeLine = 16777216 := sizeLine_eq
  cases x with
  | str y =>
    obtain ⟨t, rfl⟩ := rx
    obtain ⟨hy, e'⟩ : y.length ≤ sizeLine ∧ n = y.length := e
    subst e'
    exact len_str (by omega) ⟨.int _, H, I.tok _, ⟨_, rfl⟩, q⟩
  | byt y =>
    obtain ⟨t, rfl⟩ := rx
    obtain ⟨hy, e'⟩ : y.size ≤ sizeLine ∧ n = y.size := e
    subst e'
    exact PySem.W.len_bytes (by omega) ⟨.int _, H, I.tok _, ⟨_, rfl⟩, q⟩
  | ref p =>
    cases rx
    have e' : (∃ xs, SqL X.K H p xs ∧ n = xs.length) ∨ ∃ xs, SqT X.K H p xs ∧ n = xs.length := e
    rcases e' with ⟨xs, hx, e'⟩ | ⟨xs, hx, e'⟩
    · subst e'
      obtain ⟨its, r', pl, hz⟩ := I.list hx
      have hlen := r'.length
      exact Calls.call_len_list pl.isList (by simp only [List.size_toArray]; omega) ⟨.int xs.length, H, I.tok _, ⟨_, by simp only [List.size_toArray]; rw [hlen]⟩, q⟩
    · subst e'
      obtain ⟨its, r', pl, hz⟩ := I.tuple hx
      have hlen := r'.length
      exact len_tuple pl (by simp only [List.size_toArray]; omega) ⟨.int xs.length, H, I.tok _, ⟨_, by simp only [List.size_toArray]; rw [hlen]⟩, q⟩
  | _ => exact (show False from e).elim
end
end L2

namespace L2
open PySem PySem.Spec PyProof.Rows

/-! ### an instance, its attributes a map -/
structure ObjM (h : Heap) (x dx C : Addr) (mA : Str → Option Value) : Prop where
  obj : h.get? x = some (PySem.W.instObj C dx)
  ns : h.Ns1 dx mA
  ne : dx ≠ x



section
variable {prog : Program} {w : World} {A : Around} {E : Value → Shared → Prop} {s : Shared} {K : PySem.W.Frag} {x dx C f : Addr} {mA : Str → Option Value} {name : Str} {v : Value}





end

/-! ### the attributes as a list of pairs -/
def putF (f : Str) (v : V) : List (Str × V) → List (Str × V)
  | [] => [(f, v)]
  | (g, x) :: r => if g = f then (g, v) :: r else (g, x) :: putF f v r


section
variable {P : Program} {w : World} {H H' : Hp} {h h' : Heap} {a C dx : Addr} {fs fs' : List (Str × V)}
end

/-! ### what of the text a class must have -/
structure Cls (K : PySem.W.Frag) (C : Addr) : Prop where
  pg : PySem.W.plainGet K C Str.empty = true
  hd : PySem.W.hasDictIn K C = true
  po : PySem.W.plainOver K C = true
  sa : PySem.W.findIn K (.ref C) "__setattr__" = some (some (.builtin "object.__setattr__"))
/-- no class of it has the name -/
def NoAttr (K : PySem.W.Frag) (C : Addr) (f : Str) : Prop := PySem.W.findIn K (.ref C) f = some none
/-- a constant of the class -/
structure Con (K : PySem.W.Frag) (C : Addr) (f : Str) (v : V) (u : Value) : Prop where
  at_ : PySem.W.findIn K (.ref C) f = some (some u)
  rel : RelV v u
  get : PySem.W.specialIn K u "__get__" = some none
  cp : PySem.W.copiedNames.contains f = false
/-- a method: a plain def of the class or of one above it -/
structure Meth (K : PySem.W.Frag) (C : Addr) (m : Str) (f : Addr) : Prop where
  at_ : PySem.W.findIn K (.ref C) m = some (some (.ref f))
  fn : PySem.W.isFn K (.ref f) = true
  kp : PySem.W.keepIn K (.ref f) = true

section
variable {X : Cx} {pins : List (Addr × Obj)} {σ : St} {H : Hp} {s : Shared} {a C dx : Addr} {fs : List (Str × V)} {f : Str} {v : V} {A : Around} {E : Value → Shared → Prop}






end

/-! ### readings and rules -/
/-- e.f, an attribute of the instance -/
def tFld (K : PySem.W.Frag) (ta : TE) (f : Str) : TE := fun σ H Q => ta σ H fun x H1 => ∃ a C dx fs v, x = .ref a ∧ H1 a = some (.ins C dx fs) ∧ Cls K C ∧ NoAttr K C f ∧ fs.lookup f = some v ∧ Q v H1
/-- e.f, a constant of the class -/
def tCon (K : PySem.W.Frag) (ta : TE) (f : Str) : TE := fun σ H Q => ta σ H fun x H1 => ∃ a C dx fs v u, x = .ref a ∧ H1 a = some (.ins C dx fs) ∧ Cls K C ∧ Con K C f v u ∧ fs.lookup f = none ∧ Q v H1
/-- e.f = value -/
def sFld (K : PySem.W.Frag) (ta tv : TE) (f : Str) : TS := fun D σ H => tv σ H fun y H1 => ta σ H1 fun x H2 => ∃ a C dx fs, x = .ref a ∧ H2 a = some (.ins C dx fs) ∧ Cls K C ∧ NoAttr K C f ∧ fs.length < 1000 ∧
  D.nx σ (upd H2 a (.ins C dx (putF f y fs)))
/-- an augmented operator on two values -/
def InOp (X : Cx) (op : Operator) (rd : V → V → Hp → VK → Prop) : Prop :=
  ∀ (pins : List (Addr × Obj)) (s : Shared) (σ : St) (H : Hp) (x y : V) (u v : Value) (Q : VK), Inv X pins σ H s → RelV x u → RelV y v → rd x y H Q → wpAny (model X.prog X.w) X.A (inplaceOp op u v) (EP X pins σ Q) X.xe s
/-- e.f op= value -/
def sFldAug (K : PySem.W.Frag) (ta tv : TE) (rd : V → V → Hp → VK → Prop) (f : Str) : TS := fun D σ H => ta σ H fun x H1 => ∃ a C dx fs v, x = .ref a ∧ H1 a = some (.ins C dx fs) ∧ Cls K C ∧ NoAttr K C f ∧ fs.lookup f = some v ∧
  tv σ H1 fun y H2 => rd v y H2 fun z H3 => ∃ dx' fs', H3 a = some (.ins C dx' fs') ∧ fs'.length < 1000 ∧ D.nx σ (upd H3 a (.ins C dx' (putF f z fs')))

section
variable {X : Cx} {o e value : Expr} {f : Str} {pos pos' tpos : Pos} {ta tv : TE}
def rAdd : V → V → Hp → VK → Prop := fun x y H Q => ∃ i j, x = .int i ∧ y = .int j ∧ Q (.int (i + j)) H
def rSub : V → V → Hp → VK → Prop := fun x y H Q => ∃ i j, x = .int i ∧ y = .int j ∧ Q (.int (i - j)) H

end

/-! ### isinstance -/
section
variable {X : Cx} {pins : List (Addr × Obj)} {σ : St} {H : Hp} {s : Shared} {A : Around} {E : Value → Shared → Prop} {Q : Value → Shared → Prop} {c : Value} {b : Bool}
/-- the type of a value, as the fragment's deciders take it; for an instance its class -/
inductive TyOf (K : PySem.W.Frag) (H : Hp) : V → Value → Prop where
  | non : TyOf K H .non (.type "NoneType")
  | bl (x : Bool) : TyOf K H (.bl x) (.type "bool")
  | int (i : Int) : TyOf K H (.int i) (.type "int")
  | str (x : Str) : TyOf K H (.str x) (.type "str")
  | flt (x : UInt64) : TyOf K H (.flt x) (.type "float")
  | lst {a : Addr} {xs : List V} (e : H a = some (.lst xs)) : TyOf K H (.ref a) (.type "list")
  | frz {a : Addr} {o : Obj} {xs : List V} (e : H a = some (.frz o (.lst xs))) : TyOf K H (.ref a) (.type "list")
  | tup {a : Addr} {xs : List V} (e : H a = some (.tup xs)) : TyOf K H (.ref a) (.type "tuple")
  | dK {a : Addr} {kvs : List (Key × V)} (e : H a = some (.dK kvs)) : TyOf K H (.ref a) (.type "dict")
  | dT {a : Addr} {kvs : List (List Key × V)} (e : H a = some (.dT kvs)) : TyOf K H (.ref a) (.type "dict")
  | ins {a C dx : Addr} {fs : List (Str × V)} (e : H a = some (.ins C dx fs)) (cl : Cls K C) (ha : PySem.W.findIn K (.ref C) "__class__" = some (some (.builtin "object.__class__")))
      (hn : PySem.W.specialIn K (.builtin "object.__class__") "__get__" = some (some (.builtin "getset_descriptor.__get__"))) (htk : PySem.W.takesIn K (.builtin "object.__class__") = some true)
      (hm : PySem.W.mroIn K C (.type "object") = some true) : TyOf K H (.ref a) (.ref C)
end
end L2

namespace L2
open PySem PySem.Spec PyProof.Rows

/-! ### room -/
structure Room (k : Nat) (A : Around) : Prop where
  hd : A.handled = none
  dp : A.depth + 3 * k + 5 < recursionLimit
  un : A.units + 16 * k + 200 < cLine
  gd : A.guards = some []
theorem Room.mono {j k : Nat} {A : Around} (r : Room k A) (h : j ≤ k) : Room j A := ⟨r.hd, by have := r.dp; omega, by have := r.un; omega, r.gd⟩
theorem Room.deeper {k : Nat} {A : Around} (r : Room (k + 1) A) (env : Env) : Room k (A.deeper env) :=
  ⟨r.hd, by have := r.dp; show A.depth + 1 + 3 * k + 5 < _; omega, by have := r.un; show A.units + 3 + 16 * k + 200 < _; omega, r.gd⟩
theorem Room.depth {k : Nat} {A : Around} (r : Room k A) : A.depth < recursionLimit := by have := r.dp; omega
theorem Room.units {k : Nat} {A : Around} (r : Room k A) : A.units + 64 < cLine := by have := r.un; omega

/-! ### argument lists and displays -/
def tNil : TA := fun _ H Q => Q [] H
def tCons (ta : TE) (tr : TA) : TA := fun σ H Q => ta σ H fun x H1 => tr σ H1 fun xs H2 => Q (x :: xs) H2
section
variable {X : Cx} {e : Expr} {es : List Expr} {te : TE} {t : TA} {pos : Pos}
theorem pa_nil : PA X [] tNil := fun _ _ _ _ H Q I h => Calls.spliced_nil ⟨[], H, I, .nil, h⟩
theorem pa_cons (ha : PE X e te) (hr : PA X es t) (hs : starEach (e :: es) X.env = (false, eval e X.env) :: starEach es X.env := by rfl) : PA X (e :: es) (tCons te t) := by
  intro pos pins s σ H Q I h
  rw [hs]
  show wpAny _ _ (spliced ((false, eval e X.env) :: backTo pos (starEach es X.env))) _ _ s
  refine Calls.spliced_cons (thn (ha pins s σ H _ I h) fun u s1 ⟨x, H1, I1, r1, q1⟩ => ?_)
  exact thn (hr pos pins s1 σ H1 _ I1 q1) fun us s2 ⟨xs, H2, I2, r2, q2⟩ => ⟨x :: xs, H2, I2, .cons r1 r2, q2⟩

/-- a tuple, a list of written items -/
def tTup (t : TA) : TE := fun σ H Q => t σ H fun xs H1 => xs.length ≤ sizeLine ∧ ∀ p, H1 p = none → Q (.ref p) (upd H1 p (.tup xs))
def tLst (t : TA) : TE := fun σ H Q => t σ H fun xs H1 => xs.length ≤ sizeLine ∧ ∀ p, H1 p = none → Q (.ref p) (upd H1 p (.lst xs))
theorem pe_tup {x1} (h : PA X es t) : PE X (.Tuple es x1 pos) (tTup t) := by
  intro pins s σ H Q I hq
  refine wpAny_Tuple_spliced (thn (h pos pins s σ H _ I hq) fun us s1 ⟨xs, H1, I1, r, z, q⟩ => ⟨by rw [← r.length]; exact z, ?_⟩)
  have hf : H1 s1.heap.objs.size = none := I1.hok.fresh (Nat.le_refl _)
  refine ⟨.ref s1.heap.objs.size, upd H1 s1.heap.objs.size (.tup xs), I1.laid (t' := s1.toks) (fun b u e => Heap.get?_push_of_some _ e) (Nat.le_refl _) ?_, rfl, q _ hf⟩
  exact ⟨z, us, r, ⟨_, Heap.get?_push_size _ rfl, rfl, _, rfl⟩⟩
theorem pe_lst (h : PA X es t) : PE X (.List es pos) (tLst t) := by
  intro pins s σ H Q I hq
  refine wpAny_List_spliced (thn (h pos pins s σ H _ I hq) fun us s1 ⟨xs, H1, I1, r, z, q⟩ => ⟨by rw [← r.length]; exact z, ?_⟩)
  have hf : H1 s1.heap.objs.size = none := I1.hok.fresh (Nat.le_refl _)
  refine ⟨.ref s1.heap.objs.size, upd H1 s1.heap.objs.size (.lst xs), I1.laid (t' := s1.toks) (fun b u e => Heap.get?_push_of_some _ e) (Nat.le_refl _) ?_, rfl, q _ hf⟩
  exact ⟨z, us, 0, r, Heap.get?_push_size _ rfl⟩
end

/-! ### what a def promises -/
/-- a def's promise: the bound arguments in the parameters' order, the heap, the wanted end, the wanted exception -/
abbrev Sp := List V → Hp → VK → XK → Prop
/-- how an exception lies behind a call (file 08 gives it): the callers' frames, abstract heap and state ahead of the call, the wish, the exception, the state -/
abbrev CXT := List Env → Hp → Shared → XK → Value → Shared → Prop

/-- the state at a call -/
structure Env0 (P : Program) (w : World) (K : PySem.W.Frag) (mg : Str → Option Value) (base : Heap) (A : Around) (outer : List Env) (s : Shared) (H : Hp) : Prop where
  frames : A.frames = some outer
  mod : Mod K mg base
  bs : ∀ b o, base.get? b = some o → s.heap.get? b = some o ∧ H b = none
  bsz : base.objs.size ≤ s.heap.objs.size
  funs : s.heap.FunFrames base outer
  frf : ∀ b ∈ frs outer, H b = none
  hok : HOk P w H s.heap
  bare : AllBare s.gens
/-- a call's end -/
def CE (outer : List Env) (P : Program) (w : World) (H : Hp) (s : Shared) (Q : VK) (u : Value) (s' : Shared) : Prop :=
  ∃ v H', s'.os = s.os ∧ AllBare s'.gens ∧ Un (frs outer) [] H H' s.heap s'.heap ∧ HOk P w H' s'.heap ∧ RelV v u ∧ Q v H'
def CR (CX : CXT) (outer : List Env) (P : Program) (w : World) (H : Hp) (s : Shared) (Q : VK) (E : XK) (r : Result) (s' : Shared) : Prop :=
  match r with
  | .ok (.ret u) => CE outer P w H s Q u s'
  | .ok _ => False
  | .error e => CX outer H s E e s'
structure FnOk (P : Program) (w : World) (K : PySem.W.Frag) (mg : Str → Option Value) (base : Heap) (CX : CXT) (k : Nat) (f : Addr) (fd : FuncData) (ps : List Str) (sp : Sp) : Prop where
  len : ∀ vs H Q E, sp vs H Q E → vs.length = ps.length
  run : ∀ (A : Around) (outer : List Env) (s : Shared) (H : Hp) (args : Args) (us : List Value) (vs : List V) (Q : VK) (E : XK), Room k A → Env0 P w K mg base A outer s H → BindsTo s fd args (ps.zip us) → Vals vs us → sp vs H Q E →
    codeAny (model P w) A (.call (.ref f) args) (CR CX outer P w H s Q E) s


section
variable {X : Cx} {pins : List (Addr × Obj)} {σ : St} {H : Hp} {s s' : Shared}
/-- from a body: what a callee wants -/
theorem Inv.env0 (I : Inv X pins σ H s) : Env0 X.prog X.w X.K X.mg X.base X.A X.stack s H :=
  ⟨I.ok.frames, I.ok.mod, I.bs, Nat.le_trans I.ok.bsz I.sz, I.stack, I.stkFree, I.hok, I.bare⟩
/-- behind a call -/
theorem Inv.after {Q : VK} {u : Value} (I : Inv X pins σ H s) (h : CE X.stack X.prog X.w H s Q u s') : EP X pins σ Q u s' := by
  obtain ⟨v, H', os, bare, un, hok, r, q⟩ := h
  obtain ⟨hh, g, d, t, os'⟩ := s'
  obtain rfl : os' = s.os := os
  exact ⟨v, H', I.call (h' := hh) (g' := g) (d' := d) (t' := t) (ch := []) un hok bare (fun b z => absurd z (by simp)), r, q⟩
end

/-! ### calls -/
/-- f(..): the written arguments, then the defaults dvs; E: what is wanted of an exception -/
def tCall (sp : Sp) (dvs : List V) (E : XK) (t : TA) : TE := fun σ H Q => t σ H fun vs H1 => sp (vs ++ dvs) H1 Q E
/-- o.m(..) of an instance of the class at C -/
def tMeth (C : Addr) (m : Str) (sp : Sp) (dvs : List V) (E : XK) (ta : TE) (t : TA) : TE := fun σ H Q => ta σ H fun x H1 => ∃ a dx fs, x = .ref a ∧ H1 a = some (.ins C dx fs) ∧ fs.lookup m = none ∧
  t σ H1 fun vs H2 => sp (x :: (vs ++ dvs)) H2 Q E
/-- C(..): a new instance and its dict, then __init__ -/
def tMake (C : Addr) (sp : Sp) (dvs : List V) (E : XK) (t : TA) : TE := fun σ H Q => t σ H fun vs H1 => ∀ x dx, H1 x = none → H1 dx = none → dx ≠ x →
  sp (.ref x :: (vs ++ dvs)) (upd (upd H1 dx (.own x)) x (.ins C dx [])) (fun v H2 => v = .non ∧ Q (.ref x) H2) E

/-- how the parameters are bound: us the positional arguments, kw the keywords' values by name, ds the defaults that fill up -/
def Binds (K : PySem.W.Frag) (fd : FuncData) (ps : List Str) (ds : List Value) : Prop :=
  ∀ (s : Shared) (us : List Value), K.In s.heap → (us ++ ds).length = ps.length → BindsTo s fd ⟨us, []⟩ (ps.zip (us ++ ds))
/-- every parameter is given -/
theorem Binds.all {K : PySem.W.Frag} {fd : FuncData} {ps : List Str} (h : ∀ us : List Value, us.length = ps.length → bindArgs fd ⟨us, []⟩ = pure (ps.zip us)) : Binds K fd ps [] := fun s us _ hl => by
  rw [List.append_nil] at hl ⊢
  exact .of_eq (h us hl)

/-- an exception of a callee reaches what this body wants of exceptions -/
def Passes (CX : CXT) (X : Cx) (E : XK) : Prop := ∀ (pins : List (Addr × Obj)) (σ : St) (H : Hp) (s : Shared) (e : Value) (s' : Shared), Inv X pins σ H s → CX X.stack H s E e s' → X.xe e s'

section
variable {X : Cx} {CX : CXT} {k : Nat} {f C : Addr} {fd : FuncData} {ps : List Str} {sp : Sp} {dvs : List V} {ds : List Value} {E : XK} {x m : Str} {p pos apos : Pos} {e o : Expr} {es : List Expr} {ta : TE} {t : TA}

/-- the callee runs -/
theorem run_fn {pins : List (Addr × Obj)} {σ : St} {H : Hp} {s : Shared} {Q : VK} {us : List Value} {vs : List V} (F : FnOk X.prog X.w X.K X.mg X.base CX k f fd ps sp) (hr : Room k X.A) (hb : Binds X.K fd ps ds) (hd : Vals dvs ds) (hx : Passes CX X E)
    (I : Inv X pins σ H s) (r : Vals vs us) (h : sp (vs ++ dvs) H Q E) : wpAny (model X.prog X.w) X.A (call (.ref f) us) (EP X pins σ Q) X.xe s := by
  have r2 : Vals (vs ++ dvs) (us ++ ds) := r.append hd
  have hl : (us ++ ds).length = ps.length := by rw [← r2.length]; exact F.len _ _ _ _ h
  refine wpAny_call (codeAny_mono (F.run X.A X.stack s H ⟨us, []⟩ (us ++ ds) (vs ++ dvs) Q E hr I.env0 (hb s us I.kIn hl) r2 h) fun r s' hq => ?_)
  cases r with
  | error e => exact hx pins σ H s e s' I hq
  | ok fl =>
    cases fl with
    | ret u => exact I.after hq
    | next => exact False.elim hq
    | brk => exact False.elim hq
    | cont => exact False.elim hq

theorem pe_call (F : FnOk X.prog X.w X.K X.mg X.base CX k f fd ps sp) (hr : Room k X.A) (hg : Gl X x) (hm : X.mg x = some (.ref f)) (hk : PySem.W.keepIn X.K (.ref f) = true) (hb : Binds X.K fd ps ds) (hd : Vals dvs ds) (hx : Passes CX X E)
    (ha : PA X (e :: es) t) (hdb : (x == ("__debug__" : Str)) = false := by decide) (he : starEach (e :: es) X.env = (false, eval e X.env) :: starEach es X.env := by rfl) (hpl : (backTo pos (starEach es X.env)).any (·.1) = false := by rfl) :
    PE X (.Call (.Name x p) (e :: es) [] pos) (tCall sp dvs E t) := by
  intro pins s σ H Q I h
  refine wpAny_Call_Name_kw (ld_glob I hg hm ?_ hdb)
  refine PySem.W.callWith_K (h₀ := X.base) I.ok.mod.kin hk (thn (ha pos pins s σ H _ I h) fun us s1 ⟨vs, H1, I1, r, q⟩ => ⟨I1.kIn, ?_⟩) he hpl
  exact run_fn F hr hb hd hx I1 r q


/-- what a class must have to be made -/
structure Mk (K : PySem.W.Frag) (C f : Addr) : Prop where
  makes : PySem.W.makesIn K C = true
  init : PySem.W.findIn K (.ref C) "__init__" = some (some (.ref f))
  fn : PySem.W.isFn K (.ref f) = true
  kp : PySem.W.keepIn K (.ref C) = true

end

/-! ### keywords -/
/-- the values of the keywords, from the left -/
def PK (X : Cx) (kws : List Keyword) (t : TA) : Prop :=
  ∀ (pos : Pos) (pins : List (Addr × Obj)) (s : Shared) (σ : St) (H : Hp) (Q : List V → Hp → Prop), Inv X pins σ H s → t σ H Q → wpAny (model X.prog X.w) X.A (evalAll ((backToKw pos (keywordEach kws X.env)).map (·.2))) (AP X pins σ Q) X.xe s
section
variable {X : Cx} {CX : CXT} {k : Nat} {f C : Addr} {fd : FuncData} {ps ks : List Str} {sp : Sp} {E : XK} {x m : Str} {p pos apos kpos : Pos} {e o : Expr} {es : List Expr} {kws : List Keyword} {te ta : TE} {t tk : TA} {nm : Option Str}

/-- how a call with keywords binds: g puts the positional values us and the keywords' values ws (names ks) in the parameters' order, defaults among them -/
structure KBinds (K : PySem.W.Frag) (fd : FuncData) (ps ks : List Str) (g : List Value → List Value → List Value) (gV : List V → List V → List V) : Prop where
  to : ∀ (s : Shared) (us ws : List Value), K.In s.heap → (g us ws).length = ps.length → BindsTo s fd ⟨us, ks.zip ws⟩ (ps.zip (g us ws))
  rel : ∀ {vs : List V} {us : List Value} {zs : List V} {ws : List Value}, Vals vs us → Vals zs ws → Vals (gV vs zs) (g us ws)
def tCallK (sp : Sp) (gV : List V → List V → List V) (E : XK) (t tk : TA) : TE := fun σ H Q => t σ H fun vs H1 => tk σ H1 fun zs H2 => sp (gV vs zs) H2 Q E
variable {g : List Value → List Value → List Value} {gV : List V → List V → List V}
end

/-! ### a def's body keeps its promise -/
/-- names: the parameters first -/
structure FnScope (N P : List Str) (sc : Scope) : Prop where
  kind : sc.kind = .function
  co : sc.isCoroutine = false
  gen : sc.isGenerator = false
  nd : N.Nodup
  pre : N.take P.length = P
  par : ∀ x ∈ P, sc.names.lookup x = some .local ∨ sc.names.lookup x = some .cell
  nofree : ∀ y ∈ sc.names, y.2 ≠ .free

theorem bindL_out {kindOf : Str → Option NameKind} {x : Str} : ∀ {binds : List (Str × Value)} {m : Str → Option Value}, (∀ v, (x, v) ∉ binds) → bindL kindOf binds m x = m x
  | [], _, _ => rfl
  | (n, v) :: r, m, h => by
    unfold bindL
    rw [bindL_out fun w hw => h w (List.mem_cons_of_mem _ hw)]
    split
    · have : x ≠ n := by rintro rfl; exact h v List.mem_cons_self
      simp [this]
    · rfl
theorem bindC_out {kindOf : Str → Option NameKind} {x : Str} : ∀ {binds : List (Str × Value)} {m : Str → Option Value}, (∀ v, (x, v) ∉ binds) → bindC kindOf binds m x = m x
  | [], _, _ => rfl
  | (n, v) :: r, m, h => by
    unfold bindC
    rw [bindC_out fun w hw => h w (List.mem_cons_of_mem _ hw)]
    split
    · rfl
    · have : x ≠ n := by rintro rfl; exact h v List.mem_cons_self
      simp [this]
theorem bindL_get {kindOf : Str → Option NameKind} {x : Str} {v : Value} : ∀ {P : List Str} {vs : List Value} {i : Nat} {m : Str → Option Value}, P.Nodup → P[i]? = some x → vs[i]? = some v → kindOf x = some .local →
    bindL kindOf (P.zip vs) m x = some v
  | [], _, _, _, _, h, _, _ => by simp at h
  | _ :: _, [], _, _, _, _, h, _ => by simp at h
  | p :: P, w :: vs, 0, m, nd, h1, h2, hk => by
    simp at h1 h2; subst h1; subst h2
    show bindL kindOf ((p, w) :: P.zip vs) m p = _
    unfold bindL
    rw [bindL_out fun v hv => (List.nodup_cons.mp nd).1 (List.of_mem_zip hv).1, if_pos hk]
    simp
  | p :: P, w :: vs, i + 1, m, nd, h1, h2, hk => by
    show bindL kindOf ((p, w) :: P.zip vs) m x = _
    unfold bindL
    exact bindL_get (i := i) (List.nodup_cons.mp nd).2 (by simpa using h1) (by simpa using h2) hk
theorem bindC_get {kindOf : Str → Option NameKind} {x : Str} {v : Value} : ∀ {P : List Str} {vs : List Value} {i : Nat} {m : Str → Option Value}, P.Nodup → P[i]? = some x → vs[i]? = some v → kindOf x ≠ some .local →
    bindC kindOf (P.zip vs) m x = some v
  | [], _, _, _, _, h, _, _ => by simp at h
  | _ :: _, [], _, _, _, _, h, _ => by simp at h
  | p :: P, w :: vs, 0, m, nd, h1, h2, hk => by
    simp at h1 h2; subst h1; subst h2
    show bindC kindOf ((p, w) :: P.zip vs) m p = _
    unfold bindC
    rw [bindC_out fun v hv => (List.nodup_cons.mp nd).1 (List.of_mem_zip hv).1, if_neg hk]
    simp
  | p :: P, w :: vs, i + 1, m, nd, h1, h2, hk => by
    show bindC kindOf ((p, w) :: P.zip vs) m x = _
    unfold bindC
    exact bindC_get (i := i) (List.nodup_cons.mp nd).2 (by simpa using h1) (by simpa using h2) hk

/-- the names' values at the entry -/
def start (N : List Str) (vs : List V) : St := vs.map some ++ List.replicate (N.length - vs.length) none

/-- the context of a def's body, at its entry; an exception leaves the frame, then lies as CX says -/
def cxOf (CX : CXT) (P : Program) (w : World) (K : PySem.W.Frag) (mg : Str → Option Value) (base : Heap) (N : List Str) (qual : Str) (scope : Scope) (f : Addr) (cd : Value) (A : Around) (outer : List Env) (s : Shared) (H : Hp) (E : XK) : Cx where
  prog := P
  w := w
  K := K
  mg := mg
  base := base
  A := A.deeper (envOfC qual scope s.heap.objs.size f cd)
  N := N
  s₀ := s
  H₀ := H
  env := envOfC qual scope s.heap.objs.size f cd
  outer := outer
  stack := envOfC qual scope s.heap.objs.size f cd :: outer
  ex := []
  calm := true
  fn := fun _ => true
  pn := []
  xe := fun e s' => wpAny (model P w) (A.deeper (envOfC qual scope s.heap.objs.size f cd)) (leaving (envOfC qual scope s.heap.objs.size f cd) e) (fun _ s'' => CX outer H s E e s'') (fun e' s'' => CX outer H s E e' s'') s'

theorem cell_has {sc : Scope} {n : Nat} {x : Str} (h : sc.names.lookup x = some .cell) : ∃ c, (cellsFrom n sc.names []).lookup x = some c := by
  have q := PySem.W.cellsFrom_some sc.names n [] (.inl h)
  exact Option.isSome_iff_exists.mp q

theorem inv_start {CX : CXT} {P : Program} {w : World} {K : PySem.W.Frag} {mg : Str → Option Value} {base : Heap} {N ps : List Str} {qual : Str} {scope : Scope} {f : Addr} {cd : Value} {A : Around} {outer : List Env} {s s1 : Shared} {H : Hp} {E : XK} {us : List Value} {vs : List V}
    (S : FnScope N ps scope) (hd : A.handled = none) (e0 : Env0 P w K mg base A outer s H) (hl : vs.length = ps.length) (r : Vals vs us)
    (x : InCallC s s.heap.objs.size (bindL (envOfC qual scope s.heap.objs.size f cd).kindOf (ps.zip us) fun _ => none) (cellsFrom (s.heap.objs.size + 1) scope.names []) (bindC (envOfC qual scope s.heap.objs.size f cd).kindOf (ps.zip us) fun _ => none) s1) :
    Inv (cxOf CX P w K mg base N qual scope f cd A outer s H E) [] (start N vs) H s1 := by
  have hpl : ps.length ≤ N.length := by have := congrArg List.length S.pre; rw [List.length_take] at this; omega
  obtain ⟨h1, tk, rfl, hk⟩ := x.done
  have noA : ∀ b : Addr, b ∉ (cxOf CX P w K mg base N qual scope f cd A outer s H E).ex := fun b z => absurd (show b ∈ ([] : List Addr) from z) (by simp)
  refine ⟨⟨e0.mod, S.kind, rfl, rfl, Nat.le_refl _, fun y z c h1 h2 => ?_, fun y hy => ?_, fun y c _ h => ?_, fun _ => hd, Around.frames_deeper e0.frames, .inr ⟨rfl, rfl⟩, fun b z => absurd z (noA b), e0.bs, e0.bsz, fun b _ _ => noA b, fun b z => absurd z (noA b), e0.funs, e0.frf⟩,
    rfl, e0.bare, Un.kept hk, ⟨_, x.toInCall.ns, fun i y v h1 h2 h3 => ?_⟩, fun y c h => ⟨_, x.cell y c h⟩, e0.hok.fresh (Nat.le_refl _), fun y c h => ?_, fun p hp => absurd (show p ∈ ([] : List (Addr × Obj)) from hp) (by simp), e0.hok.kept hk, ?_⟩
  · exact name_of_addr x.apart (PySem.mem_of_lookup h1) (PySem.mem_of_lookup h2)
  · have hy : scope.names.lookup y = some .cell ∨ scope.names.lookup y = some .free := hy
    rcases hy with hy | hy
    · exact cell_has hy
    · exact absurd rfl (S.nofree _ (PySem.mem_of_lookup hy))
  · exact Nat.le_of_lt (x.above y c (PySem.mem_of_lookup h))
  · have hi : i < vs.length := by
      unfold start at h2
      by_cases hi : i < vs.length
      · exact hi
      · rw [List.getElem?_append_right (by simpa using hi)] at h2
        rw [List.getElem?_replicate] at h2
        split at h2 <;> cases h2
    have ha : vs[i]? = some v := by
      unfold start at h2
      rw [List.getElem?_append_left (by simpa using hi), List.getElem?_map] at h2
      cases e : vs[i]? with
      | none => rw [e] at h2; cases h2
      | some a => rw [e] at h2; cases h2; rfl
    obtain ⟨u, hu, rv⟩ := r.get ha
    have hp : ps[i]? = some y := by
      rw [← S.pre, List.getElem?_take_of_lt (by omega)]; exact h1
    have ndP : ps.Nodup := by rw [← S.pre]; exact S.nd.sublist (List.take_sublist _ _)
    refine ⟨u, rv, ?_⟩
    rcases S.par y (List.mem_of_getElem? hp) with k | k
    · exact .inl ⟨k, bindL_get ndP hp hu k⟩
    · obtain ⟨c, e⟩ := cell_has (n := s.heap.objs.size + 1) k
      refine .inr ⟨.inl k, c, e, ?_⟩
      have q := x.cell y c e
      rw [bindC_get ndP hp hu (by show scope.names.lookup y ≠ _; rw [k]; decide)] at q
      exact q
  · exact e0.hok.fresh (Nat.le_of_lt (x.above y c (PySem.mem_of_lookup h)))
  · unfold start
    show _ = N.length
    rw [List.length_append, List.length_map, List.length_replicate]
    omega

/-- THE RULE: a def (or a method) of the text, by its body. The body's reading t is chosen for each entry; it is run at the parameters' values -/
theorem fn_of {CX : CXT} {P : Program} {w : World} {K : PySem.W.Frag} {mg : Str → Option Value} {base : Heap} {k : Nat} {f : Addr} {name qual : Str} {params : Arguments} {body : List Stmt} {scope : Scope} {dV kV doc pm cdv ct oc : Value} {an od : Option Addr}
    {osl : Array (Option Value)} {N ps : List Str} {sp : Sp} (lk : K.lookup f = some ⟨oc, od, .func (PySem.W.fnOf name qual params body scope dV kV doc pm an cdv ct), osl⟩) (hcd : PySem.W.codeIn K cdv qual = true) (S : FnScope N ps scope)
    (len : ∀ vs H Q E, sp vs H Q E → vs.length = ps.length)
    (hbody : ∀ (A : Around) (outer : List Env) (s : Shared) (H : Hp) (vs : List V) (Q : VK) (E : XK), Room k (A.deeper (envOfC qual scope s.heap.objs.size f cdv)) → sp vs H Q E →
      ∃ t, PSs (cxOf CX P w K mg base N qual scope f cdv A outer s H E) body t ∧ t { nx := fun _ H' => Q .non H', rt := Q } (start N vs) H) :
    FnOk P w K mg base CX (k + 1) f (PySem.W.fnOf name qual params body scope dV kV doc pm an cdv ct) ps sp := by
  refine ⟨len, fun A outer s H args us vs Q E hr e0 hb r hsp => ?_⟩
  have hl := len _ _ _ _ hsp
  have KX : K.In s.heap := e0.mod.kin.keeps fun b o e => (e0.bs b o e).1
  have lim : s.heap.NoLimit := e0.mod.nolimit.keeps fun b o e => (e0.bs b o e).1
  have hkind : ∀ y ∈ ps.zip us, scope.names.lookup y.1 = some .local ∨ (scope.names.lookup y.1 = some .cell ∧ ((cellsFrom (s.heap.objs.size + 1) scope.names []).lookup y.1).isSome = true) := fun ⟨n, v⟩ hy => by
    rcases S.par n (List.of_mem_zip hy).1 with q | q
    · exact .inl q
    · exact .inr ⟨q, PySem.W.cellsFrom_some _ _ _ (.inl q)⟩
  refine codeAny_call_function hr.depth (KX _ _ lk) rfl S.co S.gen rfl (PySem.W.codeRec_of KX hcd) (hb _ _ _ _ ?_)
  refine wpAny_newFunctionEnv_cells S.kind hkind fun env he s1 x => ?_
  subst he
  refine ⟨lim.keeps x.toInCall.keep, codeAny_func ?_⟩
  obtain ⟨t, ht, hq⟩ := hbody A outer s H vs Q E (hr.deeper _) hsp
  have I : Inv (cxOf CX P w K mg base N qual scope f cdv A outer s H E) [] (start N vs) H s1 := inv_start S hr.hd e0 hl r x
  refine wpAny_mono (ht [] s1 (start N vs) H _ I hq) (fun fl s' hs => ?_) fun e s' hs => hs
  have fin : ∀ {σ' : St} {H' : Hp} {v : V} {u : Value}, Inv (cxOf CX P w K mg base N qual scope f cdv A outer s H E) [] σ' H' s' → RelV v u → Q v H' → CE outer P w H s Q u s' :=
    fun {σ' H' v u} J rv q => ⟨v, H', J.os, J.bare, J.base, J.hok, rv, q⟩
  cases fl with
  | ret u =>
    obtain ⟨v, σ', H', J, rv, q⟩ := hs
    exact fin J rv q
  | next =>
    obtain ⟨σ', H', J, q⟩ := hs
    exact fin (v := V.non) (u := Value.none) J rfl q
  | brk =>
    obtain ⟨_, _, _, q⟩ := hs
    exact False.elim q
  | cont =>
    obtain ⟨_, _, _, q⟩ := hs
    exact False.elim q
end L2

namespace L2
open PySem PySem.Spec PyProof.Rows
section
variable {X : Cx} {x : Str} {p pos : Pos} {e : Expr} {es : List Expr} {t : TA} {id T : String} {r : List V → Hp → VK → Prop}

def tCB (r : List V → Hp → VK → Prop) (t : TA) : TE := fun σ H Q => t σ H fun vs H1 => r vs H1 Q
/-- f(e, ..), f a built-in function -/
theorem pe_callB (hc : CallR X (.builtin id) r) (hg : Gl X x) (hm : X.mg x = none) (hv : bootBuiltins x = some (.builtin id)) (ha : PA X (e :: es) t) (hn : x ≠ "__name__" := by decide) (hdb : (x == ("__debug__" : Str)) = false := by decide)
    (he : starEach (e :: es) X.env = (false, eval e X.env) :: starEach es X.env := by rfl) (hpl : (backTo pos (starEach es X.env)).any (·.1) = false := by rfl) : PE X (.Call (.Name x p) (e :: es) [] pos) (tCB r t) := by
  intro pins s σ H Q I h
  refine wpAny_Call_Name_kw (ld_blt I hg hm hv ?_ hn hdb)
  exact PyProof.Rows.callWith_builtin1 (thn (ha pos pins s σ H _ I h) fun us s1 ⟨vs, H1, I1, r1, q1⟩ => hc pins s1 σ H1 vs us Q I1 r1 q1) he hpl
/-- T(e, ..), T a built-in type -/
theorem pe_callTy (hc : CallR X (.type T) r) (hg : Gl X x) (hm : X.mg x = none) (hv : bootBuiltins x = some (.type T)) (ha : PA X (e :: es) t) (hn : x ≠ "__name__" := by decide) (hdb : (x == ("__debug__" : Str)) = false := by decide)
    (he : starEach (e :: es) X.env = (false, eval e X.env) :: starEach es X.env := by rfl) (hpl : (backTo pos (starEach es X.env)).any (·.1) = false := by rfl) : PE X (.Call (.Name x p) (e :: es) [] pos) (tCB r t) := by
  intro pins s σ H Q I h
  refine wpAny_Call_Name_kw (ld_blt I hg hm hv ?_ hn hdb)
  exact PyProof.Rows.callWith_type1 (thn (ha pos pins s σ H _ I h) fun us s1 ⟨vs, H1, I1, r1, q1⟩ => hc pins s1 σ H1 vs us Q I1 r1 q1) he hpl
end
end L2

namespace HT
open PySem PyProof.Rows

/-- t < u of tuples of ints -/
def lexLt : List Int → List Int → Bool
  | [], [] => false
  | [], _ :: _ => true
  | _ :: _, [] => false
  | x :: xs, y :: ys => if x = y then lexLt xs ys else decide (x < y)


section
open PySem.SeqAt
open PySem.AutoSeq1 (wpAny_loadPart')
open PySem.MeetsSeq PySem.MeetsSeq2 PySem.MeetsSeq3

end

section
variable {prog : Program} {w : World} {A : Around} {E : Value → Shared → Prop} {s : Shared}


/-- t + u, t not empty -/
theorem cat_tup {t b : Addr} {vs ws : List Value} {Q : Value → Shared → Prop} (ht : IsTup s.heap t vs.toArray) (hb : IsTup s.heap b ws.toArray) (hv : vs ≠ [])
    (h1 : ws = [] → Q (.ref t) s) (h2 : ws ≠ [] → Q (.ref s.heap.objs.size) { s with heap := s.heap.push { cls := .type "tuple", data := .seq (vs ++ ws).toArray } })
    (hsz : vs.length + ws.length ≤ sizeLine) : wpAny (model prog w) A (binaryOp .Add (.ref t) (.ref b)) Q E s := by
  obtain ⟨⟨cls, dd, data, sl⟩, ho, hc, n, hd⟩ := id ht
  obtain ⟨⟨cls2, dd2, data2, sl2⟩, ho2, hc2, n2, hd2⟩ := id hb
  simp only at hc hd hc2 hd2
  subst hc hd hc2 hd2
  have e : vs.toArray ++ ws.toArray = (vs ++ ws).toArray := by simp
  by_cases hw : ws = []
  · exact concat_meets ⟨_, ho, rfl⟩ ⟨_, ho2, rfl⟩ noFill_tuple_add seq_tuple_add PySem.F.slot_tuple_add PySem.F.entry_tuple_add (PySem.F.args_tuple_add_2 _ _)
      (tuple_addW1 t b vs.toArray ws.toArray n n2 dd dd2 sl sl2 (by simpa using hv) (by simp [hw])) ⟨ho, ho2, h1 hw⟩
  · refine concat_meets ⟨_, ho, rfl⟩ ⟨_, ho2, rfl⟩ noFill_tuple_add seq_tuple_add PySem.F.slot_tuple_add PySem.F.entry_tuple_add (PySem.F.args_tuple_add_2 _ _)
      (tuple_addW2 t b vs.toArray ws.toArray n n2 dd dd2 sl sl2 (by simpa using hv) (by simpa using hw) (by rw [List.size_toArray, List.size_toArray]; exact hsz)) ⟨ho, ho2, ?_⟩
    rw [e]
    exact h2 hw

/-! ### t[a:b], not the whole -/
/-- a slice's bound as a place among n (d where it is left out) -/
def sIx (n d : Nat) : Option Int → Nat
  | none => d
  | some v => if v < 0 then (v + (n : Int)).toNat else min v.toNat n
theorem sIx_none (n d : Nat) : sIx n d none = d := rfl
theorem sIx_nat (n d k : Nat) : sIx n d (some (k : Int)) = min k n := by
  show (if (k : Int) < 0 then ((k : Int) + (n : Int)).toNat else min (k : Int).toNat n) = min k n
  rw [if_neg (by omega), Int.toNat_natCast]
theorem sIx_le (n d : Nat) (hd : d ≤ n) (o : Option Int) : sIx n d o ≤ n := by
  cases o with
  | none => exact hd
  | some v =>
    show (if v < 0 then (v + (n : Int)).toNat else min v.toNat n) ≤ n
    by_cases hv : v < 0
    · rw [if_pos hv]; omega
    · rw [if_neg hv]; exact Nat.min_le_right _ _
theorem clip_eq (v : Int) (n d : Nat) : (if v < 0 then max (v + (n : Int)) 0 else min v (n : Int)) = ((sIx n d (some v) : Nat) : Int) := by
  show (if v < 0 then max (v + (n : Int)) 0 else min v (n : Int)) = (((if v < 0 then (v + (n : Int)).toNat else min v.toNat n) : Nat) : Int)
  by_cases hv : v < 0
  · simp only [if_pos hv]; omega
  · simp only [if_neg hv]; omega
theorem adjust_gen (lo hi : Option Int) (n : Nat) : Builtin.Slice.sliceAdjust lo hi 1 (n : Int) = (((sIx n 0 lo : Nat) : Int), ((sIx n n hi : Nat) : Int)) := by
  have h1 : ¬ ((1 : Int) < 0) := by omega
  unfold Builtin.Slice.sliceAdjust
  simp only [h1, if_false]
  refine Prod.ext ?_ ?_
  · cases lo with
    | none => rfl
    | some v => exact clip_eq v n 0
  · cases hi with
    | none => rfl
    | some v => exact clip_eq v n n
theorem places_gen (i j : Nat) : Builtin.Slice.slicePlaces (i : Int) (j : Int) 1 = j - i := by
  unfold Builtin.Slice.slicePlaces
  have h1 : (1 : Int) > 0 := by omega
  simp only [h1, if_true, Int.ediv_one]
  split <;> omega
theorem slicePart_ {v : Value} {o : Option Int} {Q : Option Int → Shared → Prop} (p : IsPart v o) (h : Q o s) : wpAny (model prog w) A (Builtin.Slice.slicePartIndex v) Q E s := by
  cases p with
  | none => exact slicePart_none h
  | int i t => exact slicePart_int h
theorem sliceApplied_gen {sl : Addr} {vl vu : Value} {lo hi : Option Int} {n : Nat} {Q : Int × Int × Nat → Shared → Prop} (hs : s.heap.IsSliceOf sl vl vu .none) (pl : IsPart vl lo) (pu : IsPart vu hi)
    (h : Q (((sIx n 0 lo : Nat) : Int), 1, sIx n n hi - sIx n 0 lo) s) : wpAny (model prog w) A (Builtin.Slice.sliceApplied (.ref sl) (pure (n : Int))) Q E s := by
  obtain ⟨os, hos, hcs, hds⟩ := id hs
  unfold Builtin.Slice.sliceApplied Builtin.Slice.sliceFields
  refine wpAny_bind (wpAny_bind (wpAny_field hos hds (x := vl) rfl (wpAny_bind (wpAny_field hos hds (x := vu) rfl (wpAny_bind (wpAny_field hos hds (x := .none) rfl (wpAny_pure ?_)))))))
  refine wpAny_bind (slicePart_none ?_)
  show wpAny _ _ (if ((1 : Int) == 0) = true then _ else _) _ _ s
  rw [if_neg (by decide)]
  refine wpAny_bind (slicePart_ pl (wpAny_bind (slicePart_ pu (wpAny_bind (wpAny_pure ?_)))))
  show wpAny _ _ (match Builtin.Slice.sliceAdjust lo hi 1 (n : Int) with | (lo, hi) => pure (lo, (1 : Int), Builtin.Slice.slicePlaces lo hi 1)) _ _ s
  rw [adjust_gen lo hi n]
  show wpAny _ _ (pure (((sIx n 0 lo : Nat) : Int), (1 : Int), Builtin.Slice.slicePlaces ((sIx n 0 lo : Nat) : Int) ((sIx n n hi : Nat) : Int) 1)) _ _ s
  rw [places_gen]
  exact wpAny_pure h
theorem pick_gen (xs : Array Value) (i k : Nat) : ((List.range k).filterMap fun (m : Nat) => xs[((i : Int) + (m : Int) * 1).toNat]?).toArray = ((xs.toList.drop i).take k).toArray := by
  have e : (fun (m : Nat) => xs[((i : Int) + (m : Int) * 1).toNat]?) = fun m => xs[i + m]? := by
    funext m
    have : ((i : Int) + (m : Int) * 1).toNat = i + m := by omega
    rw [this]
  rw [e]
  have := pick_run xs i k
  rw [List.filterMap_map] at this
  have e2 : ((fun x => xs[x]?) ∘ fun x => i + x) = fun m => xs[i + m]? := rfl
  rw [e2] at this
  rw [this]

theorem getItem_tuple_cut {t sl : Addr} {items : Array Value} {vl vu : Value} {lo hi : Option Int} {Q : Value → Shared → Prop} (ht : IsTup s.heap t items) (hs : s.heap.IsSliceOf sl vl vu .none) (pl : IsPart vl lo) (pu : IsPart vu hi)
    (hw : ¬ (sIx items.size 0 lo = 0 ∧ sIx items.size items.size hi = items.size))
    (h : Q (.ref s.heap.objs.size) { s with heap := s.heap.push { cls := .type "tuple", data := .seq ((items.toList.drop (sIx items.size 0 lo)).take (sIx items.size items.size hi - sIx items.size 0 lo)).toArray } })
    (hsz : items.size ≤ sizeLine) : wpAny (model prog w) A (getItem (.ref t) (.ref sl)) Q E s := by
  have htake : sizeOk (.seq ((items.toList.drop (sIx items.size 0 lo)).take (sIx items.size items.size hi - sIx items.size 0 lo)).toArray) := by
    show ((items.toList.drop (sIx items.size 0 lo)).take (sIx items.size items.size hi - sIx items.size 0 lo)).toArray.size ≤ sizeLine
    rw [List.size_toArray, List.length_take, List.length_drop, Array.length_toList]
    omega
  have hj : sIx items.size items.size hi ≤ items.size := sIx_le _ _ (Nat.le_refl _) hi
  obtain ⟨os, hos, hcs, hds⟩ := id hs
  have hTs : s.TypeIs (.ref sl) "slice" := ⟨os, hos, hcs⟩
  unfold getItem
  try with_reducible refine wpAny_holding ?_
  first | refine wpAny_bind (wpAny_pure ?_) | skip
  refine wpAny_bind (wpAny_sequenceKey ht.typeIs (by decide) ?_)
  refine wpAny_bind (wpAny_callSpecial?_slot (name := Str.ofString "__getitem__") ht.typeIs PyProof.Rows.slot_tuple_getitem
    (wpAny_call_entry PyProof.Rows.slot_tuple_getitem ht.typeIs entry_tuple_getitem ?_ (args_tuple_getitem _ _)))
  show wpAny _ _ (Builtin.Tuple.tupleItemsOf (.ref t) >>= _) _ _ s
  refine wpAny_bind (tupleItemsOf_ ht ?_)
  refine wpAny_bind (wpAny_typeOf hTs ?_)
  rw [if_pos (by decide)]
  refine wpAny_bind (sliceApplied_gen hs pl pu ?_)
  have hno : ¬ ((((sIx items.size 0 lo : Nat) : Int) == 0 && (1 : Int) == 1 && (sIx items.size items.size hi - sIx items.size 0 lo) == items.size) = true) := by
    intro q
    rw [Bool.and_eq_true, Bool.and_eq_true] at q
    have q1 : ((sIx items.size 0 lo : Nat) : Int) = 0 := eq_of_beq q.1.1
    have q2 : sIx items.size items.size hi - sIx items.size 0 lo = items.size := eq_of_beq q.2
    exact hw ⟨by omega, by omega⟩
  show wpAny _ _ (if (((sIx items.size 0 lo : Nat) : Int) == 0 && (1 : Int) == 1 && (sIx items.size items.size hi - sIx items.size 0 lo) == items.size) = true then _ else _) _ _ s
  rw [if_neg hno, pick_gen]
  first
    | exact wpAny_bind (m := Builtin.Tuple.tupleExact _) (wpAny_newObj_type (wpAny_pure ⟨_, rfl, wpAny_pure h⟩) htake)
    | exact wpAny_bind (m := Builtin.Tuple.tupleExact _) (wpAny_newObj_type (wpAny_bind (wpAny_pure (wpAny_pure ⟨_, rfl, wpAny_pure h⟩))) htake)
    | exact wpAny_bind (wpAny_bind (m := Builtin.Tuple.tupleExact _) (wpAny_newObj_type (wpAny_pure (wpAny_pure ⟨_, rfl, wpAny_pure h⟩)) htake))
    | exact wpAny_bind (wpAny_bind (m := Builtin.Tuple.tupleExact _) (wpAny_newObj_type (wpAny_pure ⟨_, rfl, wpAny_pure h⟩) htake))
end
end HT

namespace L2
open PySem PySem.Spec PyProof.Rows

/-! ### the parts of a slice -/
abbrev TO := St → Hp → (Option Int → Hp → Prop) → Prop
/-- a slice's part (left out, or an int) -/
def PO (X : Cx) (e : Option Expr) (t : TO) : Prop :=
  ∀ (pins : List (Addr × Obj)) (s : Shared) (σ : St) (H : Hp) (Q : Option Int → Hp → Prop), Inv X pins σ H s → t σ H Q →
    wpAny (model X.prog X.w) X.A (evalPart e X.env) (fun u s' => ∃ o H', Inv X pins σ H' s' ∧ IsPart u o ∧ Q o H') X.xe s
def tNoPart : TO := fun _ H Q => Q none H
def tPart (t : TE) : TO := fun σ H Q => t σ H fun x H1 => ∃ i, x = .int i ∧ Q (some i) H1

theorem intsAre_of {ns : List Int} : ∀ {us : List Value}, Vals (ns.map V.int) us → IntsAre us ns := by
  induction ns with
  | nil => intro us r; rw [List.map_nil] at r; cases r; exact .nil
  | cons n ns ih =>
    intro us r
    rw [List.map_cons] at r
    cases r with
    | cons r1 r2 =>
      obtain ⟨t, e⟩ := r1
      subst e
      exact .cons n t (ih r2)

section
variable {X : Cx} {e : Expr} {te : TE} {lo hi : Option Expr} {tl th : TO} {pos p2 : Pos}

theorem po_none : PO X none tNoPart := by
  intro pins s σ H Q I h
  rw [evalPart_none]
  exact wpAny_pure ⟨none, H, I, .none, h⟩
theorem po_some (h : PE X e te) : PO X (some e) (tPart te) := by
  intro pins s σ H Q I hw
  rw [evalPart_some]
  refine thn (h pins s σ H _ I hw) fun u s1 ⟨x, H1, I1, r1, q1⟩ => ?_
  obtain ⟨i, rfl, q⟩ := q1
  obtain ⟨t, rfl⟩ := r1
  exact ⟨some i, H1, I1, .int i t, q⟩

/-- what a slice of a value is, by values: the slice object stands at sl -/
def SlR (X : Cx) (r : V → Option Int → Option Int → Hp → VK → Prop) : Prop :=
  ∀ (pins : List (Addr × Obj)) (s : Shared) (σ : St) (H : Hp) (x : V) (v vl vu : Value) (lo hi : Option Int) (sl : Addr) (Q : VK), Inv X pins σ H s → RelV x v → s.heap.IsSliceOf sl vl vu .none → IsPart vl lo → IsPart vu hi → r x lo hi H Q →
    ∃ T id, typeLookup (.type T) "__getitem__" = pure (some (.builtin id)) ∧ s.TypeIs v T ∧ wpAny (model X.prog X.w) X.A (getItem v (.ref sl)) (EP X pins σ Q) X.xe s
theorem SlR.or {r r' : V → Option Int → Option Int → Hp → VK → Prop} (h : SlR X r) (h' : SlR X r') : SlR X (fun x lo hi H Q => r x lo hi H Q ∨ r' x lo hi H Q) := by
  intro pins s σ H x v vl vu lo hi sl Q I rx hs pl pu q
  rcases q with q | q
  · exact h pins s σ H x v vl vu lo hi sl Q I rx hs pl pu q
  · exact h' pins s σ H x v vl vu lo hi sl Q I rx hs pl pu q
def tSl (r : V → Option Int → Option Int → Hp → VK → Prop) (te : TE) (tl th : TO) : TE := fun σ H Q => te σ H fun x H1 => tl σ H1 fun l H2 => th σ H2 fun u H3 => r x l u H3 Q
/-- a[lo:hi], any a -/
theorem pe_slice {r : V → Option Int → Option Int → Hp → VK → Prop} (hr : SlR X r) (he : PE X e te) (hl : PO X lo tl) (hu : PO X hi th) : PE X (.Subscript e (.Slice lo hi none p2) pos) (tSl r te tl th) := by
  intro pins s σ H Q I h
  refine Subscript_ (thn (he pins s σ H _ I h) fun v s1 ⟨x, H1, I1, r1, q1⟩ => ?_)
  refine wpAny_Slice (thn (hl pins s1 σ H1 _ I1 q1) fun vl s2 ⟨l, H2, I2, pl, q2⟩ => thn (hu pins s2 σ H2 _ I2 q2) fun vu s3 ⟨u, H3, I3, pu, q3⟩ => ?_)
  rw [evalPart_none]
  refine wpAny_pure ?_
  have I4 : Inv X pins σ H3 { s3 with heap := s3.heap.push { cls := .type "slice", data := .fields #[vl, vu, .none] } } := I3.kept (t' := s3.toks) fun b ob q => Heap.get?_push_of_some _ q
  obtain ⟨T, id, hT, ht, hg⟩ := hr pins { s3 with heap := s3.heap.push { cls := .type "slice", data := .fields #[vl, vu, .none] } } σ H3 x v vl vu l u s3.heap.objs.size Q I4 r1 (Heap.IsSliceOf.new ..) pl pu q3
  show wpAny (model X.prog X.w) X.A (subscriptTail e (.Slice lo hi none p2) v (.ref s3.heap.objs.size)) (EP X pins σ Q) X.xe { s3 with heap := s3.heap.push { cls := .type "slice", data := .fields #[vl, vu, .none] } }
  exact tail_any (ops := [.ref s3.heap.objs.size, v]) ht hT hg (by with_unfolding_all rfl)

/-- the items of xs[lo:hi] -/
def cutV (xs : List V) (lo hi : Option Int) : List V := (xs.drop (HT.sIx xs.length 0 lo)).take (HT.sIx xs.length xs.length hi - HT.sIx xs.length 0 lo)
theorem cutV_length (xs : List V) (lo hi : Option Int) : (cutV xs lo hi).length ≤ xs.length := by
  unfold cutV
  rw [List.length_take, List.length_drop]
  omega
/-- t[lo:hi], not the whole of it (the whole would be t itself) -/
def rSlT (K : PySem.W.Frag) : V → Option Int → Option Int → Hp → VK → Prop := fun x lo hi H Q => ∃ a xs, x = .ref a ∧ SqT K H a xs ∧
  ¬ (HT.sIx xs.length 0 lo = 0 ∧ HT.sIx xs.length xs.length hi = xs.length) ∧ ∀ p, H p = none → Q (.ref p) (upd H p (.tup (cutV xs lo hi)))
theorem sl_tup : SlR X (rSlT X.K) := by
  intro pins s σ H x v vl vu lo hi sl Q I rx hs pl pu h
  obtain ⟨a, xs, rfl, hx, hw, q⟩ := h
  cases rx
  obtain ⟨its, r, ht, hz⟩ := I.tuple hx
  have hlen : its.toArray.size = xs.length := by rw [List.size_toArray]; exact r.length.symm
  refine ⟨"tuple", _, PyProof.Rows.slot_tuple_getitem.lookup, ht.typeIs, ?_⟩
  refine HT.getItem_tuple_cut ht hs pl pu (by rw [hlen]; exact hw) ?_ (by rw [hlen]; exact hz)
  rw [hlen]
  refine ⟨.ref s.heap.objs.size, _, I.laid (t' := s.toks) (o := .tup (cutV xs lo hi)) (fun b ob q => Heap.get?_push_of_some _ q) (Nat.le_refl _) ?_, rfl, q _ (I.hok.fresh (Nat.le_refl _))⟩
  exact ⟨Nat.le_trans (cutV_length xs lo hi) hz, _, (r.drop (HT.sIx xs.length 0 lo)).take (HT.sIx xs.length xs.length hi - HT.sIx xs.length 0 lo), IsTup.new _ _⟩

/-! ### t < u, t + u -/
def rLtT (K : PySem.W.Frag) : R2 := fun x y H Q => ∃ a b ns ms, x = .ref a ∧ y = .ref b ∧ SqT K H a (ns.map V.int) ∧ SqT K H b (ms.map V.int) ∧ Q (.bl (HT.lexLt ns ms)) H
/-- t + u, t not empty: u empty gives t itself -/
def rCatT (K : PySem.W.Frag) : R2 := fun x y H Q => ∃ a b xs ys, x = .ref a ∧ y = .ref b ∧ SqT K H a xs ∧ SqT K H b ys ∧ xs ≠ [] ∧ xs.length + ys.length ≤ sizeLine ∧
  (ys = [] → Q (.ref a) H) ∧ (ys ≠ [] → ∀ p, H p = none → Q (.ref p) (upd H p (.tup (xs ++ ys))))
theorem Vals.nil_iff {xs : List V} {us : List Value} (r : Vals xs us) : us = [] ↔ xs = [] := by
  cases r with
  | nil => simp
  | cons _ _ => simp
theorem op_catT : OpR X (binaryOp .Add) (rCatT X.K) := by
  intro pins s σ H x y v u Q I rx ry h
  obtain ⟨a, b, xs, ys, rfl, rfl, ha, hb, hx, hz, q1, q2⟩ := h
  cases rx
  cases ry
  obtain ⟨its, r1, p1, _⟩ := I.tuple ha
  obtain ⟨its2, r2, p2, _⟩ := I.tuple hb
  refine HT.cat_tup p1 p2 (fun z => hx (r1.nil_iff.mp z)) (fun z => ⟨.ref a, H, I, rfl, q1 (r2.nil_iff.mp z)⟩) (fun z => ?_) (by rw [← r1.length, ← r2.length]; exact hz)
  refine ⟨.ref s.heap.objs.size, _, I.laid (t' := s.toks) (o := .tup (xs ++ ys)) (fun b ob q => Heap.get?_push_of_some _ q) (Nat.le_refl _) ?_, rfl, q2 (fun w => z (r2.nil_iff.mpr w)) _ (I.hok.fresh (Nat.le_refl _))⟩
  exact ⟨by rw [List.length_append]; exact hz, _, r1.append r2, IsTup.new _ _⟩
end
end L2

namespace L2
open PySem PySem.Spec PyProof.Rows

/-! ### places -/
/-- the place that an index of any sign means -/
def ixN (n : Nat) (i : Int) : Option Nat := if 0 ≤ i then (if i < n then some i.toNat else none) else if -(n : Int) ≤ i then some (i + n).toNat else none
def atI {α : Type} (xs : List α) (i : Int) : Option α := (ixN xs.length i).bind fun j => xs[j]?
theorem ixN_seq {n : Nat} {i : Int} {j : Nat} (h : ixN n i = some j) : seqIndex? i n = some j ∧ j < n ∧ -(n : Int) ≤ i ∧ i < n := by
  unfold ixN at h
  by_cases h0 : 0 ≤ i
  · rw [if_pos h0] at h
    by_cases h1 : i < n
    · rw [if_pos h1] at h
      have e : i.toNat = j := Option.some.inj h
      exact ⟨by rw [seqIndex_of h0 h1, e], by omega, by omega, h1⟩
    · rw [if_neg h1] at h; cases h
  · rw [if_neg h0] at h
    by_cases h1 : -(n : Int) ≤ i
    · rw [if_pos h1] at h
      have e : (i + n).toNat = j := Option.some.inj h
      exact ⟨by rw [seqIndex_neg (by omega) h1, e], by omega, h1, by omega⟩
    · rw [if_neg h1] at h; cases h
theorem atI_get {α : Type} {xs : List α} {i : Int} {v : α} (h : atI xs i = some v) : ∃ j, seqIndex? i xs.length = some j ∧ xs[j]? = some v ∧ j < xs.length ∧ -(xs.length : Int) ≤ i ∧ i < xs.length := by
  unfold atI at h
  cases e : ixN xs.length i with
  | none => rw [e] at h; cases h
  | some j =>
    rw [e] at h
    obtain ⟨h1, h2, h3, h4⟩ := ixN_seq e
    exact ⟨j, h1, h, h2, h3, h4⟩
theorem atI_nat {α : Type} {xs : List α} {j : Nat} {v : α} (h : xs[j]? = some v) : atI xs (j : Int) = some v := by
  have hj : j < xs.length := (List.getElem?_eq_some_iff.mp h).1
  have e : ixN xs.length (j : Int) = some j := by
    unfold ixN
    rw [if_pos (by omega), if_pos (by omega)]; simp
  unfold atI; rw [e]; exact h

/-! ### what may be subscripted -/
/-- what stands as an index of a plain subscript -/
def PlainIx (b : Expr) : Prop := ∀ o i, subscripted b false o i = operate [o, i] (getItem o i)
/-- a subscript by values -/
def IxR (X : Cx) (r : R2) : Prop :=
  ∀ (value slice : Expr) (pins : List (Addr × Obj)) (s : Shared) (σ : St) (H : Hp) (x y : V) (v u : Value) (Q : VK), Inv X pins σ H s → RelV x v → RelV y u → r x y H Q →
    subscripted slice false v u = operate [v, u] (getItem v u) → wpAny (model X.prog X.w) X.A (subscriptTail value slice v u) (EP X pins σ Q) X.xe s
/-- a call of a builtin's method by values: the receiver, the arguments -/
def MtR (X : Cx) (id : String) (r : V → List V → Hp → VK → Prop) : Prop :=
  ∀ (pins : List (Addr × Obj)) (s : Shared) (σ : St) (H : Hp) (x : V) (xs : List V) (v : Value) (us : List Value) (Q : VK), Inv X pins σ H s → RelV x v → Vals xs us → r x xs H Q →
    wpAny (model X.prog X.w) X.A (call (.builtin id) (v :: us)) (EP X pins σ Q) X.xe s
section
variable {X : Cx} {a b : Expr} {ta tb : TE} {pos : Pos}
theorem IxR.or {r r' : R2} (h : IxR X r) (h' : IxR X r') : IxR X (fun x y H Q => r x y H Q ∨ r' x y H Q) := by
  intro value slice pins s σ H x y v u Q I rx ry q hs
  rcases q with q | q
  · exact h value slice pins s σ H x y v u Q I rx ry q hs
  · exact h' value slice pins s σ H x y v u Q I rx ry q hs
/-- a[b] -/
theorem pe_ix {r : R2} (hr : IxR X r) (ha : PE X a ta) (hb : PE X b tb) (hs : PlainIx b) : PE X (.Subscript a b pos) (tOp r ta tb) := by
  intro pins s σ H Q I h
  exact Subscript_ (binT ha hb I h fun v u s2 x y H2 I2 rx ry q => hr a b pins s2 σ H2 x y v u Q I2 rx ry q (hs _ _))

def rIxL (K : PySem.W.Frag) : R2 := fun x y H Q => ∃ p xs i v, x = .ref p ∧ y = .int i ∧ SqL K H p xs ∧ atI xs i = some v ∧ Q v H
def rIxT (K : PySem.W.Frag) : R2 := fun x y H Q => ∃ p xs i v, x = .ref p ∧ y = .int i ∧ SqT K H p xs ∧ atI xs i = some v ∧ Q v H
def rIxS : R2 := fun x y H Q => ∃ z i c, x = .str z ∧ y = .int i ∧ z.length ≤ sizeLine ∧ atI z.cps.toList i = some c ∧ Q (.str ⟨#[c]⟩) H
theorem ix_list : IxR X (rIxL X.K) := by
  intro value slice pins s σ H x y v u Q I rx ry h hs
  obtain ⟨p, xs, i, z, rfl, rfl, hq, he, q⟩ := h
  cases rx
  obtain ⟨t, rfl⟩ := ry
  obtain ⟨its, r, pl, hz⟩ := I.list hq
  obtain ⟨j, h1, h2, h3, h4, h5⟩ := atI_get he
  obtain ⟨w, ew, rw'⟩ := r.get h2
  have hl := r.length
  have hn := line63
  have fin : EP X pins σ Q w s := ⟨z, H, I, rw', q⟩
  by_cases h0 : 0 ≤ i
  · have hj : i.toNat = j := by
      rw [seqIndex_of h0 h5] at h1
      exact Option.some.inj h1
    exact item_listR pl.isList h0 (by omega) (by rw [hj]; simpa using ew) fin hs
  · have hj : (i + (its.toArray.size : Int)).toNat = j := by
      rw [seqIndex_neg (by omega) h4] at h1
      rw [List.size_toArray, ← hl]
      exact Option.some.inj h1
    exact subscriptTail_builtinR (x := w) pl.isList.typeIs slot_list_getitem.lookup
      (wpAny_getItem_list_neg (Q := fun r s' => r = w ∧ EP X pins σ Q r s') pl.isList (by omega) (by rw [List.size_toArray] <;> omega) (by omega) (by rw [hj]; simpa using ew) ⟨rfl, fin⟩) hs
theorem ix_tup : IxR X (rIxT X.K) := by
  intro value slice pins s σ H x y v u Q I rx ry h hs
  obtain ⟨p, xs, i, z, rfl, rfl, hq, he, q⟩ := h
  cases rx
  obtain ⟨t, rfl⟩ := ry
  obtain ⟨its, r, pl, hz⟩ := I.tuple hq
  obtain ⟨j, h1, h2, h3, h4, h5⟩ := atI_get he
  obtain ⟨w, ew, rw'⟩ := r.get h2
  have hl := r.length
  have hn := line63
  have fin : EP X pins σ Q w s := ⟨z, H, I, rw', q⟩
  exact subscriptTail_builtinR (x := w) pl.typeIs slot_tuple_getitem.lookup
    (getItem_tuple (j := j) (Q := fun r s' => r = w ∧ EP X pins σ Q r s') pl (by omega) (by omega) (by rw [List.size_toArray, ← hl]; exact h1) (by simpa using ew) ⟨rfl, fin⟩) hs
theorem ix_str : IxR X rIxS := by
  intro value slice pins s σ H x y v u Q I rx ry h hs
  obtain ⟨z, i, c, rfl, rfl, hz, he, q⟩ := h
  obtain ⟨t, rfl⟩ := rx
  obtain ⟨t', rfl⟩ := ry
  obtain ⟨j, h1, h2, h3, h4, h5⟩ := atI_get he
  have hl : z.cps.toList.length = z.length := by simp [Str.length]
  rw [hl] at h1 h4 h5
  have hn := line63
  exact tail_any (typeIs_str s z t) slot_str_getitem.lookup (getItem_str (c := c) (by
    have e1 : decide (i < -(2 ^ 63 : Int)) = false := decide_eq_false (by omega)
    have e2 : decide (i ≥ 2 ^ 63) = false := decide_eq_false (by omega)
    rw [e1, e2, Bool.or_false]) (by rw [h1]; simpa using h2) ⟨.str ⟨#[c]⟩, H, I.tok _, ⟨_, rfl⟩, q⟩) hs
/-- list, tuple or str -/
def rIx (K : PySem.W.Frag) : R2 := fun x y H Q => rIxL K x y H Q ∨ rIxT K x y H Q ∨ rIxS x y H Q
theorem ix_seq : IxR X (rIx X.K) := ix_list.or (ix_tup.or ix_str)

/-! ### xs[i] = v, any sign -/
/-- the list's object behind a store -/
theorem mapSeq_set (its : List Value) (n j : Nat) (u : Value) : Obj.mapSeq (·.setIfInBounds j u) { cls := .type "list", data := .seq its.toArray n } = { cls := .type "list", data := .seq (its.set j u).toArray n } := by
  simp [Obj.mapSeq]
theorem Inv.lst {pins : List (Addr × Obj)} {σ : St} {H : Hp} {s : Shared} {p : Addr} {xs : List V} (I : Inv X pins σ H s) (h : H p = some (.lst xs)) :
    ∃ (its : List Value) (n : Nat), Vals xs its ∧ s.heap.get? p = some { cls := .type "list", data := .seq its.toArray n } ∧ xs.length ≤ sizeLine := by
  obtain ⟨z, its, n, r, e⟩ := I.hok p _ h
  exact ⟨its, n, r, e, z⟩
/-- the list at p is written by an update of its object -/
theorem Inv.lstUpd {pins : List (Addr × Obj)} {σ : St} {H : Hp} {s : Shared} {p : Addr} {xs ys : List V} {its its' : List Value} {n n' : Nat} {f : Obj → Obj} (I : Inv X pins σ H s) (h : H p = some (.lst xs))
    (ho : s.heap.get? p = some { cls := .type "list", data := .seq its.toArray n }) (hf : f { cls := .type "list", data := .seq its.toArray n } = { cls := .type "list", data := .seq its'.toArray n' }) (r : Vals ys its') (hz : ys.length ≤ sizeLine) (t : Nat) :
    Inv X pins σ (upd H p (.lst ys)) { s with heap := s.heap.update p f, toks := t } := by
  have e : (s.heap.update p f).get? p = some { cls := .type "list", data := .seq its'.toArray n' } := by
    rw [Heap.get?_update_self f ho (by rw [hf] <;> rfl), hf]
  refine I.write (x := p) (e := p) (by rw [h]; trivial) (.inl rfl) (fun b u hb q => (Heap.get?_update_other _ _ (Ne.symm hb)).trans q) ⟨_, e⟩ ?_
  exact ⟨hz, its', n', r, e⟩
def rSetL : V → V → V → Hp → (Hp → Prop) → Prop := fun o i v H Q => ∃ p xs k j, o = .ref p ∧ i = .int k ∧ H p = some (.lst xs) ∧ ixN xs.length k = some j ∧ Q (upd H p (.lst (xs.set j v)))
theorem set_list : PSet X rSetL := by
  intro pins s σ H o i v ov iv u Q I ro ri rv h
  obtain ⟨p, xs, k, j, rfl, rfl, hp, hj, q⟩ := h
  cases ro
  obtain ⟨t, rfl⟩ := ri
  obtain ⟨its, n, r, ho, hz⟩ := I.lst hp
  obtain ⟨h1, h2, h3, h4⟩ := ixN_seq hj
  have hl := r.length
  have hn := line63
  have I' : Inv X pins σ (upd H p (.lst (xs.set j v))) { s with heap := s.heap.update p (Obj.mapSeq (·.setIfInBounds j u)) } :=
    I.lstUpd hp ho (mapSeq_set its n j u) (r.set rv j) (by rw [List.length_set]; exact hz) s.toks
  by_cases h0 : 0 ≤ k
  · have hk : k.toNat = j := by
      rw [seqIndex_of h0 h4] at h1
      exact Option.some.inj h1
    exact PySem.W.ki_setAt ho h0 (by omega) (by rw [List.size_toArray, ← hl]; exact h4) (by rw [hk]; exact ⟨_, I', q⟩)
  · have hk : (k + (its.toArray.size : Int)).toNat = j := by
      rw [seqIndex_neg (by omega) h3] at h1
      rw [List.size_toArray, ← hl]
      exact Option.some.inj h1
    exact PySem.W.ki_setBack ho (by omega) (by rw [List.size_toArray, ← hl]; exact h3) (by omega) (by rw [hk]; exact ⟨_, I', q⟩)

/-! ### slices -/
theorem slice_bounds (lo hi : Option Int) (n : Nat) : (sliceBounds lo hi none n).1 = ((HT.sIx n 0 lo : Nat) : Int) ∧ (sliceBounds lo hi none n).2.1 = ((HT.sIx n n hi : Nat) : Int) ∧ (sliceBounds lo hi none n).2.2 = 1 := by
  refine ⟨?_, ?_, rfl⟩
  · cases lo with
    | none => simp [sliceBounds, HT.sIx]
    | some i =>
      simp only [sliceBounds, HT.sIx, Option.getD_none, show (1 : Int) > 0 by decide, if_true]
      by_cases h : i < 0
      · simp only [h, if_true] <;> omega
      · simp only [h, if_false] <;> omega
  · cases hi with
    | none => simp [sliceBounds, HT.sIx]
    | some i =>
      simp only [sliceBounds, HT.sIx, Option.getD_none, show (1 : Int) > 0 by decide, if_true]
      by_cases h : i < 0
      · simp only [h, if_true] <;> omega
      · simp only [h, if_false] <;> omega
theorem slicePick_cut (its : List Value) (lo hi : Option Int) : slicePick its.toArray lo hi none = ((its.drop (HT.sIx its.length 0 lo)).take (HT.sIx its.length its.length hi - HT.sIx its.length 0 lo)).toArray := by
  obtain ⟨h1, h2, h3⟩ := slice_bounds lo hi its.toArray.size
  unfold slicePick
  rw [h1, h2, h3]
  simp only [sliceRange_one, pick_run, List.size_toArray] <;> rfl
/-- xs[lo:hi] of a list: a new list -/
def rSlL (K : PySem.W.Frag) : V → Option Int → Option Int → Hp → VK → Prop := fun x lo hi H Q => ∃ a xs, x = .ref a ∧ SqL K H a xs ∧ ∀ p, H p = none → Q (.ref p) (upd H p (.lst (cutV xs lo hi)))
theorem sl_list : SlR X (rSlL X.K) := by
  intro pins s σ H x v vl vu lo hi sl Q I rx hs pl pu h
  obtain ⟨a, xs, rfl, hx, q⟩ := h
  cases rx
  obtain ⟨its, r, ht, hz⟩ := I.list hx
  have hlen := r.length
  refine ⟨"list", _, slot_list_getitem.lookup, ht.isList.typeIs, ?_⟩
  refine wpAny_getItem_list_slice ht.isList hs pl pu .none (by simp) ?_ (by rw [List.size_toArray] <;> omega)
  rw [slicePick_cut, ← hlen]
  refine ⟨.ref s.heap.objs.size, _, I.laid (t' := s.toks) (o := .lst (cutV xs lo hi)) (fun b ob q => Heap.get?_push_of_some _ q) (Nat.le_refl _) ?_, rfl, q _ (I.hok.fresh (Nat.le_refl _))⟩
  exact ⟨Nat.le_trans (cutV_length xs lo hi) hz, _, 0, (r.drop (HT.sIx xs.length 0 lo)).take (HT.sIx xs.length xs.length hi - HT.sIx xs.length 0 lo), Heap.get?_push_size _ rfl⟩

/-! ### in, not in: flat items -/
def flatV : V → Bool
  | .non => true
  | .bl _ => true
  | .int _ => true
  | .str _ => true
  | _ => false
/-- == of flat values -/
def eqV : V → V → Bool
  | .non, .non => true
  | .bl a, .bl b => a == b
  | .bl a, .int b => (if a then 1 else 0) == b
  | .int a, .bl b => a == (if b then 1 else 0)
  | .int a, .int b => a == b
  | .str a, .str b => a == b
  | _, _ => false
/-- the items' answers, read off the values (a value's own answer does not lean on its token) -/
def eqU (x : V) (u : Value) : Bool := match u with
  | .none => eqV .non x
  | .bool b => eqV (.bl b) x
  | .int i _ => eqV (.int i) x
  | .str z _ => eqV (.str z) x
  | _ => false
def inV (x : V) (xs : List V) : Bool := xs.any fun y => eqV y x
/-- x in a list or tuple of flat items -/
def rIn (K : PySem.W.Frag) (neg : Bool) : R2 := fun x y H Q => ∃ p xs, y = .ref p ∧ (SqL K H p xs ∨ SqT K H p xs) ∧ flatV x = true ∧ xs.all flatV = true ∧ Q (.bl (if neg then !inV x xs else inV x xs)) H

/-! ### len, list(x), tuple(x) of any list or tuple that is read -/
theorem CallR.or {f : Value} {r r' : List V → Hp → VK → Prop} (h : CallR X f r) (h' : CallR X f r') : CallR X f (fun xs H Q => r xs H Q ∨ r' xs H Q) := by
  intro pins s σ H xs us Q I rs q
  rcases q with q | q
  · exact h pins s σ H xs us Q I rs q
  · exact h' pins s σ H xs us Q I rs q
theorem call_tuple_of : CallR X (.type "tuple") (fun xs H Q => ∃ p ys, xs = [.ref p] ∧ ((SqL X.K H p ys ∧ ∀ l, H l = none → Q (.ref l) (upd H l (.tup ys))) ∨ (SqT X.K H p ys ∧ Q (.ref p) H))) := by
  intro pins s σ H xs us Q I r h
  obtain ⟨p, ys, rfl, h⟩ := h
  obtain ⟨u, rfl, rx⟩ := vals1 r
  cases rx
  rcases h with ⟨hq, q⟩ | ⟨hq, q⟩
  · obtain ⟨its, r', pl, hz⟩ := I.list hq
    have hlen := r'.length
    refine call_tuple_list pl.isList (fun h' kp => ?_) (by simp only [List.size_toArray] <;> omega)
    have I1 : Inv X pins σ H { s with heap := h' } := I.kept (t' := s.toks) kp
    have I2 : Inv X pins σ (upd H h'.objs.size (.tup ys)) { s with heap := h'.push { cls := .type "tuple", data := .seq its.toArray } } :=
      I1.laid (t' := s.toks) (fun b o e => Heap.get?_push_of_some _ e) (Nat.le_refl _) (show ObjOk X.prog X.w _ _ _ (.tup ys) from ⟨hz, its, r', IsTup.new _ _⟩)
    exact ⟨.ref h'.objs.size, _, I2, rfl, q _ (I1.hok.fresh (Nat.le_refl _))⟩
  · obtain ⟨its, r', pl, hz⟩ := I.tuple hq
    exact call_tuple_same pl ⟨.ref p, H, I, rfl, q⟩

/-! ### the call of a builtin's method: o.m(..) -/
/-- the value is of that builtin type -/
def tyV (K : PySem.W.Frag) (T : String) (x : V) (H : Hp) : Prop := match x with
  | .str _ => T = "str"
  | .int _ => T = "int"
  | .ref p => (T = "list" ∧ ∃ xs, SqL K H p xs) ∨ (T = "tuple" ∧ ∃ o, K.lookup p = some o ∧ o.cls = .type "tuple" ∧ o.dict = none) ∨
      (T = "dict" ∧ ((∃ kvs, H p = some (.dK kvs)) ∨ ∃ kvs, H p = some (.dT kvs))) ∨ (T = "set" ∧ ∃ S n, H p = some (.set S n))
  | _ => False
theorem tyV_is {pins : List (Addr × Obj)} {σ : St} {H : Hp} {s : Shared} {T : String} {x : V} {v : Value} (I : Inv X pins σ H s) (r : RelV x v) (ty : tyV X.K T x H) :
    s.TypeIs v T ∧ ∀ a, v = .ref a → ∃ ob, s.heap.get? a = some ob ∧ ob.dict = none := by
  cases x with
  | str z =>
    obtain ⟨t, rfl⟩ := r
    cases (show T = "str" from ty)
    exact ⟨typeIs_str s z t, fun _ e => nomatch e⟩
  | int i =>
    obtain ⟨t, rfl⟩ := r
    cases (show T = "int" from ty)
    exact ⟨typeIs_int s i t, fun _ e => nomatch e⟩
  | ref p =>
    cases r
    rcases ty with ⟨rfl, xs, hq⟩ | ⟨rfl, o, hk, hc, hd⟩ | ⟨rfl, hk⟩ | ⟨rfl, S, n, hk⟩
    · obtain ⟨its, _, pl, _⟩ := I.list hq
      refine ⟨pl.isList.typeIs, fun a e => ?_⟩
      cases e
      obtain ⟨o, n, e, c, hd, _⟩ := pl
      exact ⟨o, e, hd⟩
    · refine ⟨⟨o, I.kIn p o hk, hc⟩, fun a e => ?_⟩
      cases e
      exact ⟨o, I.kIn _ o hk, hd⟩
    · have z : ∃ o, s.heap.get? p = some o ∧ o.ExactDict := by
        rcases hk with ⟨kvs, hk⟩ | ⟨kvs, hk⟩
        · obtain ⟨_, _, _, _, o, _, _, e, ex, _⟩ := I.hok p _ hk
          exact ⟨o, e, ex⟩
        · obtain ⟨_, _, _, _, o, _, _, e, ex, _⟩ := I.hok p _ hk
          exact ⟨o, e, ex⟩
      obtain ⟨o, e, ex⟩ := z
      refine ⟨⟨o, e, ex.1⟩, fun a e2 => ?_⟩
      cases e2
      exact ⟨o, e, ex.2.1⟩
    · obtain ⟨o, _, _, _, e, ex, _⟩ := I.hok p _ hk
      refine ⟨⟨o, e, ex.1⟩, fun a e2 => ?_⟩
      cases e2
      exact ⟨o, e, ex.2.1⟩
  | _ => exact False.elim ty
def tBM0 (K : PySem.W.Frag) (T : String) (r : V → List V → Hp → VK → Prop) (to : TE) : TE := fun σ H Q => to σ H fun x H1 => tyV K T x H1 ∧ r x [] H1 Q
def tBM (K : PySem.W.Frag) (T : String) (r : V → List V → Hp → VK → Prop) (to : TE) (t : TA) : TE := fun σ H Q => to σ H fun x H1 => tyV K T x H1 ∧ t σ H1 fun xs H2 => r x xs H2 Q
variable {o e : Expr} {es : List Expr} {to : TE} {t : TA} {name : Str} {apos cpos : Pos} {T id : String} {r : V → List V → Hp → VK → Prop}
theorem pe_bm (pa : PlainAttrs T) (slot : Slot T name id) (hty : typeOf (.builtin id) = pure (.type "method_descriptor")) (hm : MtR X id r) (ho : PE X o to) (ha : PA X (e :: es) t)
    (hbase : attributeBase o name X.env (eval o X.env) = eval o X.env := by rfl)
    (hfew : ((backTo cpos (starEach (e :: es) X.env)).all (fun x => !x.1) && (backToKw cpos (keywordEach [] X.env)).all (fun x => x.1.isSome)
      && decide ((e :: es).length + ([] : List Keyword).length + (if ([] : List Keyword).isEmpty then 0 else 1) < 30)) = true := by rfl)
    (hline : (apos.endLine == cpos.line) = true := by rfl) (hs : starEach (e :: es) X.env = (false, eval e X.env) :: starEach es X.env := by rfl) (hplain : (backTo cpos (starEach es X.env)).any (·.1) = false := by rfl) :
    PE X (.Call (.Attribute o name apos) (e :: es) [] cpos) (tBM X.K T r to t) := by
  intro pins s σ H Q I h
  refine wpAny_Call_method_late hbase hfew hline rfl (thn (ho pins s σ H _ I h) fun v s1 ⟨x, H1, I1, r1, ty, q1⟩ => ?_)
  obtain ⟨h1, h2⟩ := tyV_is I1 r1 ty
  refine ⟨T, id, pa, slot, hty, h1, h2, ?_⟩
  have hA := ha cpos pins s1 σ H1 _ I1 q1
  rw [hs] at hA ⊢
  refine Calls.callWith_builtin (by show (false || (backTo cpos (starEach es X.env)).any (·.1)) = false; rw [hplain] <;> rfl) (Calls.evalArgs_plain ?_)
  exact thn hA fun us s2 ⟨vs, H2, I2, r2, q2⟩ => hm pins s2 σ H2 x vs v us Q I2 r1 r2 q2
/- xs.append(e), list.index on a module's tuple .. are MtR facts of 06m -/
end
end L2

namespace L2
open PySem PySem.Spec PyProof.Rows

def MtM (X : Cx) (id : String) (r : V → List V → Hp → VK → Prop) : Prop :=
  ∀ (pins : List (Addr × Obj)) (s : Shared) (σ : St) (H : Hp) (x : V) (xs : List V) (v : Value) (us : List Value) (Q : VK), Inv X pins σ H s → RelV x v → Vals xs us → r x xs H Q →
    wpAny (model X.prog X.w) X.A (call (.builtin id) (v :: us)) (EP X pins σ Q) X.xe s

/-! ### lists of values -/
theorem Vals.one : ∀ {x : V} {us : List Value}, Vals [x] us → ∃ u, us = [u] ∧ RelV x u
  | _, _, .cons r .nil => ⟨_, rfl, r⟩
theorem Vals.eraseIdx : ∀ {xs : List V} {us : List Value} (i : Nat), Vals xs us → Vals (xs.eraseIdx i) (us.eraseIdx i)
  | _, _, _, .nil => .nil
  | _, _, 0, .cons _ t => t
  | _, _, i + 1, .cons r t => .cons r (Vals.eraseIdx i t)
theorem Vals.rep {xs : List V} {us : List Value} (h : Vals xs us) : ∀ k : Nat, Vals (List.replicate k xs).flatten (List.replicate k us).flatten
  | 0 => .nil
  | k + 1 => by
    rw [List.replicate_succ, List.replicate_succ, List.flatten_cons, List.flatten_cons]
    exact Vals.append h (Vals.rep h k)
theorem len_erase {α : Type} : ∀ (l : List α) (i : Nat), (l.eraseIdx i).length ≤ l.length
  | [], _ => Nat.le_refl _
  | _ :: _, 0 => Nat.le_succ _
  | _ :: r, i + 1 => Nat.succ_le_succ (len_erase r i)
theorem foldl_rep (its : List Value) : ∀ (k : Nat) (acc : List Value),
    List.foldl (fun x1 x2 => x1 ++ x2) acc.toArray (List.replicate k its.toArray) = (acc ++ (List.replicate k its).flatten).toArray
  | 0, acc => by simp
  | k + 1, acc => by
    have e : acc.toArray ++ its.toArray = (acc ++ its).toArray := by simp
    have e2 : (acc ++ its) ++ (List.replicate k its).flatten = acc ++ (List.replicate (k + 1) its).flatten := by
      rw [List.replicate_succ, List.flatten_cons, List.append_assoc]
    rw [← e2, ← foldl_rep its k (acc ++ its), ← e, List.replicate_succ, List.foldl_cons]

section
variable {X : Cx} {pins : List (Addr × Obj)} {σ : St} {H : Hp} {s : Shared} {l b : Addr} {xs ys zs : List V}

/-! ### the two steps: a tracked list is rewritten, a new list is laid -/
theorem Inv.lset {its its' : List Value} {n : Nat} {f : Array Value → Array Value} {t' : Nat} (I : Inv X pins σ H s) (hH : H l = some (.lst xs))
    (e : s.heap.get? l = some { cls := .type "list", data := .seq its.toArray n }) (hf : f its.toArray = its'.toArray) (hv : Vals ys its') (hz : ys.length ≤ sizeLine) :
    Inv X pins σ (upd H l (.lst ys)) { s with heap := s.heap.update l (Obj.mapSeq f), toks := t' } := by
  have q := PySem.IsL.update e f
  rw [hf] at q
  refine I.write (x := l) (e := l) (by rw [hH]; exact trivial) (.inl rfl) (fun b' u hb hu => (Heap.get?_update_other s.heap (Obj.mapSeq f) (Ne.symm hb)).trans hu) ⟨_, q⟩ ?_
  exact ⟨hz, its', _, hv, q⟩
theorem Inv.lnew {its : List Value} {t' : Nat} (I : Inv X pins σ H s) (hv : Vals ys its) (hz : ys.length ≤ sizeLine) :
    Inv X pins σ (upd H s.heap.objs.size (.lst ys)) { s with heap := s.heap.push { cls := .type "list", data := .seq its.toArray }, toks := t' } :=
  I.laid (fun _ _ q => Heap.get?_push_of_some _ q) (Nat.le_refl _) ⟨hz, its, 0, hv, Heap.get?_push_size _ rfl⟩
theorem Inv.fresh (I : Inv X pins σ H s) : H s.heap.objs.size = none := I.hok.fresh (Nat.le_refl _)
theorem Inv.lstM (I : Inv X pins σ H s) (hH : H l = some (.lst xs)) : xs.length ≤ sizeLine ∧ ∃ (its : List Value) (n : Nat), Vals xs its ∧ xs.length = its.length ∧ s.heap.get? l = some { cls := .type "list", data := .seq its.toArray n } := by
  obtain ⟨z, its, n, r, e⟩ := I.hok l _ hH
  exact ⟨z, its, n, r, r.length, e⟩

theorem notLongL {n : Nat} (h : n ≤ sizeLine) : Builtin.List.listTooLong n = false := by
  unfold Builtin.List.listTooLong
  exact decide_eq_false (by omega)
end

section
variable {X : Cx}

/-! ### methods -/
def rAppend : V → List V → Hp → VK → Prop := fun x vs H Q => ∃ l xs y, x = .ref l ∧ vs = [y] ∧ H l = some (.lst xs) ∧ xs.length < sizeLine ∧ Q .non (upd H l (.lst (xs ++ [y])))
theorem mt_append : MtM X "list.append" rAppend := by
  intro pins s σ H x vs v us Q I rx rv h
  obtain ⟨l, xs, y, rfl, rfl, hH, hz, q⟩ := h
  cases rx
  obtain ⟨u, rfl, ru⟩ := rv.one
  obtain ⟨z, its, n, r, hl, e⟩ := I.lstM hH
  refine call_meets F.slot_list_append ⟨_, e, rfl⟩ F.entry_list_append (F.args_list_append_2 _ _) (PySem.list_append l its.toArray n u (by rw [List.size_toArray]; omega)) ⟨e, ?_⟩
  refine ⟨.non, _, I.lset (its' := its ++ [u]) hH e (by simp) (r.append (.cons ru .nil)) ?_, rfl, q⟩
  rw [List.length_append, List.length_singleton]
  omega

def rExtend : V → List V → Hp → VK → Prop := fun x vs H Q => ∃ l b xs zs, x = .ref l ∧ vs = [.ref b] ∧ H l = some (.lst xs) ∧ H b = some (.lst zs) ∧ xs.length + zs.length ≤ sizeLine ∧ Q .non (upd H l (.lst (xs ++ zs)))

def rPop : V → List V → Hp → VK → Prop := fun x vs H Q => ∃ l xs y, x = .ref l ∧ vs = [] ∧ H l = some (.lst xs) ∧ xs[xs.length - 1]? = some y ∧ Q y (upd H l (.lst xs.dropLast))

def rPopAt : V → List V → Hp → VK → Prop := fun x vs H Q => ∃ l xs i k y, x = .ref l ∧ vs = [.int i] ∧ H l = some (.lst xs) ∧ -(2 ^ 63) ≤ i ∧ i < 2 ^ 63 ∧ seqIndex? i xs.length = some k ∧ xs[k]? = some y ∧ Q y (upd H l (.lst (xs.eraseIdx k)))
theorem mt_popAt : MtM X "list.pop" rPopAt := by
  intro pins s σ H x vs v us Q I rx rv h
  obtain ⟨l, xs, i, k, y, rfl, rfl, hH, h1, h2, hk, hy, q⟩ := h
  cases rx
  obtain ⟨u, rfl, ru⟩ := rv.one
  obtain ⟨t, rfl⟩ := ru
  obtain ⟨z, its, n, r, hl, e⟩ := I.lstM hH
  obtain ⟨w, hw, rw'⟩ := r.get hy
  refine call_meets F.slot_list_pop ⟨_, e, rfl⟩ F.entry_list_pop (F.args_list_pop_2 _ _)
    (MeetsSeq.list_pop_at l its.toArray n i t k w (fitsIndex_both h1 h2) (by rw [List.size_toArray, ← hl]; exact hk) (by rw [← Array.getElem?_toList]; exact hw) (by rw [List.size_toArray]; omega)) ⟨e, ?_⟩
  refine ⟨y, _, I.lset (its' := its.eraseIdx k) hH e ?_ (r.eraseIdx k) ?_, rw', q⟩
  · show its.toArray.eraseIdxIfInBounds k = (its.eraseIdx k).toArray
    rw [List.eraseIdxIfInBounds_toArray]
  · have := len_erase xs k
    omega

def rReverse : V → List V → Hp → VK → Prop := fun x vs H Q => ∃ l xs, x = .ref l ∧ vs = [] ∧ H l = some (.lst xs) ∧ Q .non (upd H l (.lst xs.reverse))

def rClear : V → List V → Hp → VK → Prop := fun x vs H Q => ∃ l xs, x = .ref l ∧ vs = [] ∧ H l = some (.lst xs) ∧ Q .non (upd H l (.lst []))

/-! ### list + list, list += list, list * int -/
def rCat : R2 := fun x y H Q => ∃ l b xs zs, x = .ref l ∧ y = .ref b ∧ H l = some (.lst xs) ∧ H b = some (.lst zs) ∧ xs.length + zs.length ≤ sizeLine ∧ ∀ p, H p = none → Q (.ref p) (upd H p (.lst (xs ++ zs)))
theorem op_cat : OpR X (binaryOp .Add) rCat := by
  intro pins s σ H x y v u Q I rx ry h
  obtain ⟨l, b, xs, zs, rfl, rfl, hH, hB, hz, q⟩ := h
  cases rx
  cases ry
  obtain ⟨z, its, n, r, hl, e⟩ := I.lstM hH
  obtain ⟨z2, its2, n2, r2, hl2, e2⟩ := I.lstM hB
  refine PySem.P.add_list e e2 ?_ (by rw [List.size_toArray, List.size_toArray]; omega)
  have ea : its.toArray ++ its2.toArray = (its ++ its2).toArray := by simp
  rw [ea]
  exact ⟨.ref _, _, I.lnew (t' := s.toks) (r.append r2) (by rw [List.length_append]; omega), rfl, q _ I.fresh⟩
/-- a list times an int (a negative one is nothing) -/
def rRep : R2 := fun x y H Q => ∃ l k xs, x = .ref l ∧ y = .int k ∧ H l = some (.lst xs) ∧ -(2 ^ 63) ≤ k ∧ k < 2 ^ 63 ∧ xs.length * k.toNat ≤ sizeLine ∧
  ∀ p, H p = none → Q (.ref p) (upd H p (.lst (List.replicate k.toNat xs).flatten))
theorem len_rep {α : Type} (xs : List α) (k : Nat) : (List.replicate k xs).flatten.length = k * xs.length := by
  induction k with
  | zero => simp
  | succ k ih => rw [List.replicate_succ, List.flatten_cons, List.length_append, ih, Nat.succ_mul, Nat.add_comm]
theorem op_rep : OpR X (binaryOp .Mult) rRep := by
  intro pins s σ H x y v u Q I rx ry h
  obtain ⟨l, k, xs, rfl, rfl, hH, h1, h2, hz, q⟩ := h
  cases rx
  obtain ⟨t, rfl⟩ := ry
  obtain ⟨z, its, n, r, hl, e⟩ := I.lstM hH
  have hlen : its.toArray.size * k.toNat ≤ sizeLine := by rw [List.size_toArray, ← hl]; exact hz
  have hcap : ¬ its.toArray.size * k.toNat > (2 ^ 63 - 1) / 8 := by
    have : (sizeLine : Nat) ≤ (2 ^ 63 - 1) / 8 := by decide
    omega
  have hfit : ¬ (!Builtin.List.listFitsIndex k) = true := by
    rw [fitsIndex_both h1 h2]
    exact Bool.false_ne_true
  have hlong : ¬ Builtin.List.listTooLong (its.toArray.size * k.toNat) = true := by
    rw [notLongL hlen]
    exact Bool.false_ne_true
  have hnew : List.foldl (fun x1 x2 => x1 ++ x2) #[] (List.replicate (if its.toArray.isEmpty = true then 0 else k.toNat) its.toArray) = (List.replicate k.toNat its).flatten.toArray := by
    have f0 : ∀ m : Nat, List.foldl (fun x1 x2 => x1 ++ x2) #[] (List.replicate m its.toArray) = (List.replicate m its).flatten.toArray := fun m => by
      have := foldl_rep its m []
      rw [List.nil_append] at this
      exact this
    rw [f0]
    cases its with
    | nil => simp
    | cons a r' => rw [if_neg (by simp)]
  refine wpAny_binaryOp_repeat_ref (T := "list") (U := "int") (by decide) ⟨_, e, rfl⟩ (fun s' => typeIs_int s' k t) noFill_list_mul F.fills_int_mul F.slot_int_rmul repeat_list F.slot_int_index.lookup
    (call_meets F.slot_int_rmul (typeIs_int s k t) F.entry_int_rmul (F.args_int_rmul_2 _ _) (int___rmul___int_list k t l its.toArray n)
      ⟨e, rfl, ⟨_, e, rfl⟩, call_meets F.slot_list_mul ⟨_, e, rfl⟩ F.entry_list_mul (F.args_list_mul_2 _ _) (AutoListH.list___mul___list_int_3 l its.toArray n k t hfit hcap hlong) ⟨e, ?_⟩⟩)
  rw [hnew]
  exact ⟨.ref _, _, I.lnew (t' := s.toks) (r.rep k.toNat) (by rw [len_rep, Nat.mul_comm]; exact hz), rfl, q _ I.fresh⟩

/-! ### del xs[i] -/
end

/-! ### xs[a:b] = ys -/
section
variable {prog : Program} {w : World} {A : Around} {E : Value → Shared → Prop} {s : Shared}
end

section
variable {X : Cx}
end
end L2

namespace Att
open PySem PySem.W PySem.Calls PyProof.Rows

/-! ### the script -/
theorem ints_of_wellAll {P : Params} {h : Heap} : ∀ (ns : List Int) (vs : List Value), WellAll P h vs (ns.map WData.int) → IntsAre vs ns := by
  intro ns
  induction ns with
  | nil =>
    intro vs w
    rw [List.map_nil] at w
    cases w
    exact .nil
  | cons n ns ih =>
    intro vs w
    rw [List.map_cons] at w
    cases w with
    | cons a b =>
      cases a
      exact .cons _ _ (ih _ b)

theorem script_of {l : OpenLaw} {n : Nat} (hn : l.most = some n) {P : Params} {h : Heap} {args : List WData} {vals : List Value}
    (hpre : l.row.toRowW.claim.pre args = true) (hwl : WellAll P h vals args) :
    ∃ a vs ns, vals = [Value.ref a] ∧ args = [WData.list (ns.map WData.int)] ∧ h.get? a = some { cls := .type "list", data := .seq vs.toArray } ∧ IntsAre vs ns ∧ ns.length ≤ n := by
  have hsh : WShape.hasAll [] args [.list .int] = true := (pre_splitW hpre).1
  have hc : l.pre.holds [] { args := args } = true := (pre_splitW hpre).2
  obtain ⟨d, r, rfl, h1, h2⟩ := hasAllW_cons hsh
  obtain rfl := hasAllW_nil h2
  obtain ⟨xs, rfl, h3⟩ := hasW_list h1
  obtain ⟨ns, rfl⟩ := items_int h3
  have hlen : ns.length ≤ n := by
    unfold OpenLaw.pre at hc
    have h4 : (WTm.not (.lt (.lit (.int (n : Int))) (.len (.arg 0)))).holds [] { args := [.list (ns.map .int)] } = true := by
      have h4 := (holds_andW hc).1
      rw [hn] at h4
      exact h4
    have h5 := condW_of h4 (w_not (w_lt w_lit (w_len_list (w_arg rfl))))
    rw [List.length_map] at h5
    refine Nat.le_of_not_lt fun q => ?_
    have q' : (n : Int) < ((ns.length : Nat) : Int) := by omega
    first
      | (rw [decide_eq_true q'] at h5; exact absurd h5 (by decide))
      | (simp at h5; omega)
  cases hwl with
  | cons w1 w2 =>
    cases w2
    cases w1 with
    | list ho hall => exact ⟨_, _, ns, rfl, rfl, ho, ints_of_wellAll ns _ hall, hlen⟩

theorem post_true (l : OpenLaw) (args : List WData) : l.row.toRowW.claim.post args (.bool true) args = true :=
  postW_of (r := l.row.toRowW) (X := (true == true))
    (show WShape.has [] (.bool true) .bool = true by first | rfl | decide | simp [WShape.has, WShape.arms, WShape.armsAll])
    (show (WTm.eq .res (.lit (.bool true))).value [] { args := args, res := some (.bool true), after := args } = some (.bool (true == true)) from w_eq_bool (w_res rfl) w_lit) rfl

/-! ### the attachment: holds_open's last premise (the goal 'hc' behind k_head) from a wpAny of the law's body -/

/-- the same from a codeAny of the CALL (for a layer whose function contracts speak of calls) -/
theorem attach_call {l : OpenLaw} {n : Nat} {q : Program} {loose : List Str} {XP : (Str → Option Value) → Heap → Prop} {YP : World → Heap → Prop} {d : DefRec}
    (hn : l.most = some n) (hdf : d.params.defaults = [])
    (call : ∀ (w : World) (s₀ s₁ : Shared) (mg mb : Str → Option Value) (fa : Addr) (o : Obj) (pm cd doc : Value) (a : Addr) (vs : List Value) (ns : List Int),
      Ground q loose [] XP w s₀ mg mb s₁.heap → YP w s₁.heap →
      s₁.heap.get? fa = some o → o.data = .func (docDef d.name d.params d.body d.scope pm cd doc) → s₁.heap.CodeRec cd d.name → mg d.name = some (.ref fa) →
      s₁.heap.get? a = some { cls := .type "list", data := .seq vs.toArray } → IntsAre vs ns → ns.length ≤ n → s₁.gens = #[] →
      codeAny (model l.prog w) callerA (.call (.ref fa) ⟨[.ref a], []⟩) (fun r s' => r = .ok (.ret (.bool true)) ∧ OldK s₁.heap s'.heap ∧ s'.os = s₁.os ∧ AllBare s'.gens) s₁) :
    WalkO q loose XP YP l.row.toRowW d [] (fun f vs => PySem.call f vs) := by
  intro w s₀ s₁ mg mb G Y fa o pm cd doc dV kV ho hd hcd hD hmg hg args vals as hpre hlay hrd hwl hlo
  obtain rfl : dV = .none := Dflts.none hD hdf
  obtain rfl : kV = .none := Dflts.noKw hD
  obtain ⟨a, vs, ns, rfl, rfl, hobj, hints, hlen⟩ := script_of hn hpre hwl
  refine enter_call (codeAny_mono (call w s₀ s₁ mg mb fa o pm cd doc a vs ns G Y ho (fd_plain hd) hcd hmg hobj hints hlen hg) fun r s' hq => ?_)
  obtain ⟨rfl, h2, h3, h4⟩ := hq
  exact ⟨.inl ⟨.bool true, .bool true, [], rfl, fun _ => rfl, .bool true, post_true l _, fun _ => ⟨List.Pairwise.nil, fun _ hm => (nomatch hm)⟩⟩, h2, h3, h4⟩


/-! ### rules over ANY heap (no ledger) from facts about the written part K: the library's own take a ledger (News) for what they write -/
section
variable {prog : Program} {w : World} {A : Around} {E : Value → Shared → Prop} {s : Shared} {K : Frag}





/-! the whole heap as the ledger: makes every rule that writes through a ledger a rule over any heap -/
def noObjs (h : Heap) : Heap := { h with objs := #[] }
def ledger (h : Heap) (L d : Addr) : List (Addr × Obj) := (List.range h.objs.size).filterMap fun a => if a = L ∨ a = d then none else (h.get? a).map fun o => (a, o)

end
end Att

namespace L2
open PySem PySem.Spec PyProof.Rows

theorem vals_ints : ∀ {vs : List Value} {ns : List Int}, IntsAre vs ns → Vals (ns.map V.int) vs
  | _, _, .nil => .nil
  | _, _, .cons n t h => .cons ⟨t, rfl⟩ (vals_ints h)

/-- nothing is tracked but the script, known to the object (or it is an object of the module) -/
def Only (H : Hp) : Prop := ∀ b, H b = none ∨ ∃ o xs, H b = some (.frz o (.lst xs))

/-- THE HEAD: the law's promise, at the heap behind the top. F, the promise of the law's def, may use that base is part of the heap (so K.In base, base.Ns mainGlobals mg stand in Mod) -/
theorem law_call {P : Program} {w : World} {K : PySem.W.Frag} {mg mb : Str → Option Value} {CX : CXT} {k : Nat} {fa a : Addr} {fd : FuncData} {x : Str} {sp : Sp} {s₁ : Shared} {vs : List Value} {ns : List Int}
    (KX : K.In s₁.heap) (hns : s₁.heap.Ns mainGlobals mg) (hb : s₁.heap.Ns builtinsNs mb) (hbb : ∀ x : Str, x ≠ "__name__" → mb x = bootBuiltins x) (hlim : s₁.heap.NoLimit) (hg : s₁.gens = #[])
    (ha : s₁.heap.get? a = some { cls := .type "list", data := .seq vs.toArray }) (hi : IntsAre vs ns) (hl : ns.length ≤ sizeLine) (hr : Room k callerA)
    (F : ∀ base : Heap, K.In base → base.Ns mainGlobals mg → FnOk P w K mg base CX k fa fd [x] sp) (hbind : ∀ (s : Shared) (u : Value), BindsTo s fd ⟨[u], []⟩ [(x, u)])
    (hsp : ∀ H : Hp, Only H → SqL K H a (ns.map V.int) → sp [.ref a] H (fun v _ => v = .bl true) fun _ _ _ => False)
    (hCX : ∀ H e s', CX [] H s₁ (fun _ _ _ => False) e s' → False) :
    codeAny (model P w) callerA (.call (.ref fa) ⟨[.ref a], []⟩) (fun r s' => r = .ok (.ret (.bool true)) ∧ OldK s₁.heap s'.heap ∧ s'.os = s₁.os ∧ AllBare s'.gens) s₁ := by
  have rv := vals_ints hi
  have lenV := hi.length
  -- from an abstract heap in which nothing but the script may be tracked
  have core : ∀ H : Hp, Only H → SqL K H a (ns.map V.int) → HOk P w H s₁.heap → (∀ b, H b ≠ none → b = a) → (H a ≠ none → K.lookup a = none) →
      codeAny (model P w) callerA (.call (.ref fa) ⟨[.ref a], []⟩) (fun r s' => r = .ok (.ret (.bool true)) ∧ OldK s₁.heap s'.heap ∧ s'.os = s₁.os ∧ AllBare s'.gens) s₁ := by
    intro H hO hS hok hA hK
    have base_of : ∀ {b : Addr} {o : Obj}, s₁.heap.get? b = some o → H b = none → (hidT s₁.heap H).get? b = some o := fun e n => hidT_get e n
    have noA : ∀ {b : Addr} {o : Obj} {es : Array DictEntry} {ep : Nat}, s₁.heap.get? b = some o → o.data = .dict es ep → H b = none := fun {b o es ep} e d => by
      cases q : H b with
      | none => rfl
      | some u =>
        have e' : b = a := hA b (by rw [q]; simp)
        subst e'
        rw [ha] at e; cases e
        have d' : Data.seq vs.toArray _ = Data.dict es ep := d
        cases d'
    have nsK : ∀ {b : Addr} {m : Str → Option Value}, s₁.heap.Ns b m → (hidT s₁.heap H).Ns b m := fun {b m} ⟨o, es, ep, e, d, r⟩ => ⟨o, es, ep, base_of e (noA e d), d, r⟩
    have hKb : K.In (hidT s₁.heap H) := fun b o e => base_of (KX b o e) (by
      cases q : H b with
      | none => rfl
      | some u =>
        have e' : b = a := hA b (by rw [q]; simp)
        subst e'
        rw [hK (by rw [q]; simp)] at e; cases e)
    have hM : Mod K mg (hidT s₁.heap H) := ⟨hKb, nsK hns, ⟨mb, nsK hb, hbb⟩, let ⟨mc, h1, h2⟩ := hlim; ⟨mc, nsK h1, h2⟩⟩
    have e0 : Env0 P w K mg (hidT s₁.heap H) callerA [] s₁ H := ⟨rfl, hM, fun b o e => of_hidT e, Nat.le_of_eq (hidT_size _ _), trivial, fun b hb => absurd (show b ∈ ([] : List Addr) from hb) (by simp), hok, .of_eq hg⟩
    refine codeAny_mono ((F _ hKb (nsK hns)).run callerA [] s₁ H ⟨[.ref a], []⟩ [.ref a] [.ref a] _ _ hr e0 (hbind s₁ (.ref a)) (.cons rfl .nil) (hsp H hO hS)) fun r s' h => ?_
    cases r with
    | error e => exact (hCX H e s' h).elim
    | ok fl =>
      cases fl with
      | next => exact False.elim h
      | brk => exact False.elim h
      | cont => exact False.elim h
      | ret u =>
        obtain ⟨v, H', os, bare, un, hok', r', q⟩ := h
        have q' : v = .bl true := q
        subst q'
        obtain rfl : u = Value.bool true := r'
        refine ⟨rfl, OldK.of_keep fun b o e => ?_, os, bare⟩
        cases q : H b with
        | none => exact un.keep b o e q (by intro z; exact absurd (show b ∈ ([] : List Addr) from z) (by simp)) (by simp)
        | some u =>
          rcases hO b with z | ⟨ob, xs, z⟩
          · rw [q] at z; cases z
          · have z2 := un.frzs b ob _ z
            obtain ⟨e1, _⟩ := hok b _ z
            obtain ⟨e2, _⟩ := hok' b _ z2
            rw [e] at e1; cases e1
            exact e2
  cases hk : K.lookup a with
  | some o =>
    -- the script is one of the module's own objects
    have e := KX a o hk
    rw [ha] at e
    cases e
    refine core (fun _ => none) (fun _ => .inl rfl) (.inr ⟨_, vs.toArray, _, hk, rfl, rfl, rfl, by rw [List.size_toArray, lenV]; exact hl, by simpa using rv⟩) (fun b u z => by have z' : (none : Option HO) = some u := z; cases z') (fun b z => absurd rfl z) fun z => absurd rfl z
  | none =>
    refine core (fun b => if b = a then some (.frz { cls := .type "list", data := .seq vs.toArray } (.lst (ns.map V.int))) else none) (fun b => ?_) (.inl (.inr ⟨{ cls := .type "list", data := .seq vs.toArray }, if_pos rfl⟩)) (fun b u z => ?_) (fun b z => ?_) fun _ => hk
    · by_cases hb : b = a
      · exact .inr ⟨_, _, if_pos hb⟩
      · exact .inl (if_neg hb)
    · by_cases hb : b = a
      · have z' := (if_pos hb).symm.trans z
        cases z'
        subst hb
        exact ⟨ha, by rw [List.length_map]; exact hl, vs, _, rv, ha⟩
      · have z' := (if_neg hb).symm.trans z
        cases z'
    · by_cases hb : b = a
      · exact hb
      · exact absurd (if_neg hb) z
end L2

namespace L2
open PySem PySem.Spec PyProof.Rows

abbrev KOf {K : PySem.W.Frag} {h : Heap} (_ : K.In h) : PySem.W.Frag := K

/-- the goal that k_head leaves (case hc), from the law's promise. F gives the function object fd (K's own) once, then the promise over every base -/
theorem walk_of {l : PySem.W.OpenLaw} {n k : Nat} {q : Program} {loose : List Str} {XP : (Str → Option Value) → Heap → Prop} {YP : World → Heap → Prop} {d : DefRec} {K : Params → PySem.W.Frag} {CX : World → CXT} {sp : World → Sp} {x : Str}
    (hn : l.most = some n) (hn2 : n ≤ sizeLine) (hdf : d.params.defaults = []) (hr : Room k callerA)
    (hY : ∀ (w : World) (h : Heap), YP w h → (K w.params).In h)
    (F : ∀ (w : World) (mg : Str → Option Value) (fa : Addr) (h : Heap), (K w.params).In h → h.Ns mainGlobals mg → mg d.name = some (.ref fa) →
      ∃ fd : FuncData, (∀ (s : Shared) (u : Value), BindsTo s fd ⟨[u], []⟩ [(x, u)]) ∧
        ∀ base : Heap, (K w.params).In base → base.Ns mainGlobals mg → FnOk l.prog w (K w.params) mg base (CX w) k fa fd [x] (sp w))
    (hsp : ∀ (w : World) (H : Hp) (a : Addr) (ns : List Int), ns.length ≤ n → Only H → SqL (K w.params) H a (ns.map V.int) → sp w [.ref a] H (fun v _ => v = .bl true) fun _ _ _ => False)
    (hCX : ∀ (w : World) (H : Hp) (s : Shared) (e : Value) (s' : Shared), CX w [] H s (fun _ _ _ => False) e s' → False) :
    PySem.W.WalkO q loose XP YP l.row.toRowW d [] (fun f vs => PySem.call f vs) := by
  refine Att.attach_call hn hdf fun w s₀ s₁ mg mb fa o pm cd doc a vs ns G Y ho hd hcd hmg hobj hints hlen hg => ?_
  have KX := hY w _ Y
  obtain ⟨fd, hb, hF⟩ := F w mg fa _ KX G.T.g hmg
  exact law_call KX G.T.g G.T.b G.T.builtins G.T.nolimit hg hobj hints (Nat.le_trans hlen hn2) hr hF hb (fun H hO hS => hsp w H a ns hlen hO hS) fun H e s' => hCX w H s₁ e s'
end L2

/- THE LAST THEOREM (shape; LID, My.* are yours):
   My.Adr: a structure of the addresses that your layer names (classes, functions); My.Txt K t: a structure (Prop) of the equations over K;
   My.txt_mk : {K} {implicit addresses ..} (e1 : nsIn K mainGlobals "law" = some (some (.ref f))) (e2 : K.lookup f = some ⟨oc, od, .func (fnOf "law" "law" params body scope dV kV doc pm an cdv ct), sl⟩) (e3 : codeIn K cdv "law" = true) .. : ∃ t, My.Txt K t

set_option maxRecDepth 100000 in
set_option maxHeartbeats 0 in
theorem PySem.Challenge.cw_LID_holds : PySem.Challenge.rw_LID.Holds := by
  w_on; o_law; k_head; (case hw => w_witness2)
  k_fill
  refine L2.walk_of (l := PySem.Challenge.rw_LID) (n := 63) (k := 40) (x := "script") (CX := fun w => ..) (sp := fun _ => My.sp_law) rfl (by decide) rfl ⟨rfl, by decide, by decide⟩ (fun w h Y => PySem.W.kIn_of Y) ?F ?S ?C
  case F =>
    intro w mg fa h KX G hmg
    have T : ∃ t, My.Txt (L2.KOf KX) t := by
      dsimp only [L2.KOf]                          -- K must stand as «<heap const> w.params» for k_is
      refine' My.txt_mk ?e1 ?e2 ?e3 ..
      (case e1 => PySem.W.k_is)                    -- in the order: a name -> its address -> its object -> its parts
      (case e2 => PySem.W.k_is)
      ..
    obtain ⟨t, T⟩ := T
    have e0 := hmg.symm.trans (PySem.W.mg_of KX G T.law)
    cases e0                                       -- fa is the law's own address
    exact ⟨_, fun s u => .of_eq rfl, fun base kb nb => My.law_fn T kb nb⟩     -- if «.of_eq rfl» comes too early: refine' ⟨_, ?b, fun base kb nb => My.law_fn T kb nb⟩; exact fun s u => .of_eq rfl
  case S => exact fun w H a ns hl hO hS => ..
  case C => exact ..
(the tactic k_is has no namespace: write k_is) -/

/-! SHORT WORDS over the layer: a def of the text, its body, what a loop and a test want. -/
namespace L2
open PySem PySem.Spec PyProof.Rows

/-! ### the text by places -/
/-- the j-th statement of a class's body -/
def inClass (s : Stmt) (j : Nat) : Stmt := match s with
  | .ClassDef _ _ _ body _ _ _ _ _ _ _ => body.getD j (.Pass ⟨0, 0, 0, 0⟩)
  | _ => .Pass ⟨0, 0, 0, 0⟩
def defArgs (s : Stmt) : Arguments := match s with
  | .FunctionDef _ a _ _ _ _ _ _ _ _ => a
  | _ => { posonlyargs := [], args := [], vararg := none, kwonlyargs := [], kw_defaults := [], kwarg := none, defaults := [] }
def defBody (s : Stmt) : List Stmt := match s with
  | .FunctionDef _ _ b _ _ _ _ _ _ _ => b
  | _ => []
def defScope (s : Stmt) : Scope := match s with
  | .FunctionDef _ _ _ _ _ _ sc _ _ _ => sc
  | _ => { kind := .function, names := [], isGenerator := false, isCoroutine := false }

/-! ### no exception leaves a def -/
abbrev CX0 : CXT := fun _ _ _ _ _ _ => False
abbrev E0 : XK := fun _ _ _ => False
theorem pass0 {X : Cx} : Passes CX0 X E0 := fun _ _ _ _ _ _ _ h => h.elim

/-! ### a def (or method) of the text as it stands behind the top -/
structure Fun (K : PySem.W.Frag) (x qual : Str) (st : Stmt) (f : Addr) (fd : FuncData) : Prop where
  ex : ∃ (oc : Value) (od : Option Addr) (kV doc pm : Value) (an : Option Addr) (cdv ct : Value) (osl : Array (Option Value)),
    fd = PySem.W.fnOf x qual (defArgs st) (defBody st) (defScope st) .none kV doc pm an cdv ct ∧ K.lookup f = some ⟨oc, od, .func fd, osl⟩ ∧ PySem.W.codeIn K cdv qual = true
  kp : PySem.W.keepIn K (.ref f) = true
section
variable {P : Program} {w : World} {K : PySem.W.Frag} {mg : Str → Option Value} {base : Heap}
/-- THE RULE for a def: its body as a term of rules, and the reading of that term -/
theorem Fun.ok {x qual : Str} {st : Stmt} {f : Addr} {fd : FuncData} {N ps : List Str} {k : Nat} {sp : Sp} (F : Fun K x qual st f fd) (S : FnScope N ps (defScope st)) (len : ∀ vs H Q E, sp vs H Q E → vs.length = ps.length)
    (hbody : ∀ (cdv : Value) (A : Around) (outer : List Env) (s : Shared) (H : Hp) (vs : List V) (Q : VK) (E : XK), Room k (A.deeper (envOfC qual (defScope st) s.heap.objs.size f cdv)) → sp vs H Q E →
      ∃ t, PSs (cxOf CX0 P w K mg base N qual (defScope st) f cdv A outer s H E).nox (defBody st) t ∧ t { nx := fun _ H' => Q .non H', rt := Q } (start N vs) H) : FnOk P w K mg base CX0 (k + 1) f fd ps sp := by
  obtain ⟨oc, od, kV, doc, pm, an, cdv, ct, osl, rfl, lk, hcd⟩ := F.ex
  refine fn_of lk hcd S len fun A outer s H vs Q E hr hsp => ?_
  obtain ⟨t, h, q⟩ := hbody cdv A outer s H vs Q E hr hsp
  exact ⟨t, h.nox, q⟩
/-- how its arguments bind (no defaults): h is «fun _ _ _ _ _ _ us hl => match us, hl with | [_, _], _ => rfl», one _ a parameter -/
theorem Fun.binds {x qual : Str} {st : Stmt} {f : Addr} {fd : FuncData} {ps : List Str} (F : Fun K x qual st f fd)
    (h : ∀ (kV doc pm : Value) (an : Option Addr) (cdv ct : Value) (us : List Value), us.length = ps.length → bindArgs (PySem.W.fnOf x qual (defArgs st) (defBody st) (defScope st) .none kV doc pm an cdv ct) ⟨us, []⟩ = pure (ps.zip us)) : Binds K fd ps [] := by
  obtain ⟨oc, od, kV, doc, pm, an, cdv, ct, osl, rfl, lk, hcd⟩ := F.ex
  exact .all (h kV doc pm an cdv ct)
theorem fun_mk {x qual : Str} {st : Stmt} {f : Addr} {oc : Value} {od an : Option Addr} {osl : Array (Option Value)} {kV doc pm cdv ct : Value} (l : K.lookup f = some ⟨oc, od, .func (PySem.W.fnOf x qual (defArgs st) (defBody st) (defScope st) .none kV doc pm an cdv ct), osl⟩)
    (c : PySem.W.codeIn K cdv qual = true) (k : PySem.W.keepIn K (.ref f) = true) : Fun K x qual st f (PySem.W.fnOf x qual (defArgs st) (defBody st) (defScope st) .none kV doc pm an cdv ct) := ⟨⟨oc, od, kV, doc, pm, an, cdv, ct, osl, rfl, l, c⟩, k⟩
end

/-! ### expressions in short: the name that stands in the i-th slot -/
section
variable {X : Cx}
end

/-! ### tests -/
theorem iteF {A B : Prop} (h : B) : if false = true then A else B := by
  rw [if_neg Bool.false_ne_true]
  exact h
theorem iteT {A B : Prop} (h : A) : if true = true then A else B := by
  rw [if_pos rfl]
  exact h

/-! ### heaps -/
/-- all that was tracked is as it was -/
def Same (H H' : Hp) : Prop := ∀ b o, H b = some o → H' b = some o

end L2

set_option Elab.async false
set_option linter.all false
set_option maxRecDepth 100000
set_option maxHeartbeats 4000000
/-! A list comprehension of one clause, over the layer. -/
namespace L2
open PySem PySem.Spec PyProof.Rows

theorem lookup_none_mem {x : Str} : ∀ {names : List (Str × NameKind)} {k : NameKind}, names.lookup x = some k → (x, k) ∈ names
  | [], _, h => by simp at h
  | (n, j) :: r, k, h => by
    rw [List.lookup_cons] at h
    cases hx : x == n with
    | true =>
      rw [hx] at h
      have e : x = n := eq_of_beq hx
      cases h
      rw [e]; exact List.mem_cons_self
    | false => rw [hx] at h; exact List.mem_cons_of_mem _ (lookup_none_mem h)

theorem relabel_lookup {env : Env} {x : Str} : ∀ {names : List (Str × NameKind)},
    (names.map fun (n, k) => if (k == NameKind.free && env.scope.kind == .function && env.kindOf n == some .cell) then (n, NameKind.cell) else (n, k)).lookup x =
      (names.lookup x).map fun k => if (k == NameKind.free && env.scope.kind == .function && env.kindOf x == some .cell) then NameKind.cell else k
  | [] => rfl
  | (n, k) :: r => by
    have ih := relabel_lookup (env := env) (x := x) (names := r)
    rw [List.map_cons]
    show List.lookup x ((if (k == NameKind.free && env.scope.kind == .function && env.kindOf n == some .cell) = true then (n, NameKind.cell) else (n, k)) :: _) = _
    cases hx : x == n with
    | true =>
      have e : x = n := eq_of_beq hx
      subst e
      by_cases hc : (k == NameKind.free && env.scope.kind == .function && env.kindOf x == some .cell) = true
      · rw [if_pos hc, List.lookup_cons, hx, List.lookup_cons, hx]; show some NameKind.cell = some (if _ then _ else _); rw [if_pos hc]
      · rw [if_neg hc, List.lookup_cons, hx, List.lookup_cons, hx]; show some k = some (if _ then _ else _); rw [if_neg hc]
    | false =>
      by_cases hc : (k == NameKind.free && env.scope.kind == .function && env.kindOf n == some .cell) = true
      · rw [if_pos hc, List.lookup_cons, hx, List.lookup_cons, hx]; exact ih
      · rw [if_neg hc, List.lookup_cons, hx, List.lookup_cons, hx]; exact ih

theorem clos_forIn {env : Env} {f : Str × NameKind → List (Str × Addr) → Sem (ForInStep (List (Str × Addr)))}
    (h1 : ∀ n c acc, env.cells.lookup n = some c → f (n, .free) acc = pure (.yield ((n, c) :: acc))) (h2 : ∀ n k acc, k ≠ .free → f (n, k) acc = pure (.yield acc)) :
    ∀ (names : List (Str × NameKind)) (acc : List (Str × Addr)), (∀ y ∈ names, y.2 = .free → ∃ c, env.cells.lookup y.1 = some c) → (∀ x c, acc.lookup x = some c → env.cells.lookup x = some c) →
      ∃ cl, forIn names acc f = (pure cl : Sem (List (Str × Addr))) ∧ (∀ x c, cl.lookup x = some c → env.cells.lookup x = some c) ∧ (∀ x, (acc.lookup x).isSome = true → (cl.lookup x).isSome = true) ∧ (∀ y ∈ names, y.2 = .free → (cl.lookup y.1).isSome = true)
  | [], acc, _, ha => ⟨acc, rfl, ha, fun _ h => h, fun y hy => by simp at hy⟩
  | (n, k) :: r, acc, hn, ha => by
    by_cases hk : k = .free
    · subst hk
      obtain ⟨c, hc⟩ := hn (n, .free) List.mem_cons_self rfl
      obtain ⟨cl, e1, e2, e3, e4⟩ := clos_forIn h1 h2 r ((n, c) :: acc) (fun y hy => hn y (List.mem_cons_of_mem _ hy)) (fun x d h => by
        rw [List.lookup_cons] at h
        cases hx : x == n with
        | true => rw [hx] at h; cases h; rw [eq_of_beq hx]; exact hc
        | false => rw [hx] at h; exact ha x d h)
      refine ⟨cl, ?_, e2, fun x h => e3 x ?_, fun y hy hf => ?_⟩
      · rw [List.forIn_cons, h1 n c acc hc]; exact e1
      · rw [List.lookup_cons]; cases hx : x == n <;> simp [h]
      · rcases List.mem_cons.mp hy with z | z
        · subst z; exact e3 n (by simp [List.lookup_cons])
        · exact e4 y z hf
    · obtain ⟨cl, e1, e2, e3, e4⟩ := clos_forIn h1 h2 r acc (fun y hy => hn y (List.mem_cons_of_mem _ hy)) ha
      refine ⟨cl, ?_, e2, e3, fun y hy hf => ?_⟩
      · rw [List.forIn_cons, h2 n k acc hk]; exact e1
      · rcases List.mem_cons.mp hy with z | z
        · subst z; exact absurd hf hk
        · exact e4 y z hf

theorem cellOf_pure {env : Env} {n : Str} {c : Addr} (h : env.cells.lookup n = some c) : cellOf env n = pure c := by
  unfold cellOf; rw [h]

def closF (env : Env) (x : Str × NameKind) (r : List (Str × Addr)) : Sem (ForInStep (List (Str × Addr))) :=
  match x with | (name, kind) => if kind == .free then do let c ← cellOf env name; pure (.yield ((name, c) :: r)) else pure (.yield r)
theorem closure_of {scope : Scope} {env : Env} (hn : ∀ y ∈ scope.names, y.2 = .free → ∃ c, env.cells.lookup y.1 = some c) :
    ∃ cl, closureFor scope env = pure cl ∧ (∀ x c, cl.lookup x = some c → env.cells.lookup x = some c) ∧ (∀ y ∈ scope.names, y.2 = .free → (cl.lookup y.1).isSome = true) := by
  obtain ⟨cl, e1, e2, _, e4⟩ := clos_forIn (env := env) (f := closF env)
    (fun n c acc h => by unfold closF; simp only [beq_self_eq_true, if_true]; rw [cellOf_pure h]; rfl)
    (fun n k acc h => by
      unfold closF
      have : (k == NameKind.free) = false := by simpa using h
      simp only [this, Bool.false_eq_true, if_false]) scope.names [] hn (fun x c h => by simp at h)
  refine ⟨cl, ?_, e2, e4⟩
  show (forIn scope.names [] (closF env) >>= fun s => pure s) = pure cl
  rw [e1]; rfl

/-- the context of a comprehension's block -/
def cxC (X : Cx) (Nc : List Str) (scope : Scope) (cl : List (Str × Addr)) (C : Addr) (s : Shared) (H : Hp) (fp : List Addr) : Cx where
  prog := X.prog
  w := X.w
  K := X.K
  mg := X.mg
  base := X.base
  A := X.A
  N := Nc
  s₀ := s
  H₀ := H
  env := compEnvC scope cl C X.env
  outer := X.stack
  stack := X.stack
  ex := fp
  fn := fun _ => false
  calm := X.calm
  pn := []
  xe := fun _ _ => False

/-- the block's names: those of its own (none), those of the frame around (their place there) -/
def capOf (cap : List (Option Nat)) (σ : St) : St := cap.map fun o => o.bind fun j => (σ[j]?).join
def capOk (N : List Str) (env : Env) (scope : Scope) : List Str → List (Option Nat) → Bool
  | [], [] => true
  | _ :: Nc, none :: cap => capOk N env scope Nc cap
  | x :: Nc, some j :: cap => (N[j]? == some x) && (scope.names.lookup x == some .free) && capOk N env scope Nc cap
  | _, _ => false
theorem capOk_len {N : List Str} {env : Env} {scope : Scope} : ∀ {Nc : List Str} {cap : List (Option Nat)}, capOk N env scope Nc cap = true → cap.length = Nc.length
  | [], [], _ => rfl
  | [], _ :: _, h => by simp [capOk] at h
  | _ :: _, [], h => by simp [capOk] at h
  | _ :: Nc, none :: cap, h => by rw [List.length_cons, List.length_cons, capOk_len (Nc := Nc) (cap := cap) h]
  | x :: Nc, some j :: cap, h => by
    have h' : capOk N env scope Nc cap = true := by unfold capOk at h; simp only [Bool.and_eq_true] at h; exact h.2
    rw [List.length_cons, List.length_cons, capOk_len h']
theorem capOk_at {N : List Str} {env : Env} {scope : Scope} : ∀ {Nc : List Str} {cap : List (Option Nat)} {i j : Nat} {x : Str}, capOk N env scope Nc cap = true → cap[i]? = some (some j) → Nc[i]? = some x → N[j]? = some x ∧ scope.names.lookup x = some .free
  | [], _, _, _, _, _, _, e => by simp at e
  | _ :: _, [], _, _, _, h, _, _ => by simp [capOk] at h
  | y :: Nc, none :: cap, 0, j, x, h, e, _ => by simp at e
  | y :: Nc, some k :: cap, 0, j, x, h, e, e2 => by
    simp at e e2; subst e; subst e2
    unfold capOk at h; simp only [Bool.and_eq_true] at h
    exact ⟨eq_of_beq h.1.1, eq_of_beq h.1.2⟩
  | y :: Nc, none :: cap, i + 1, j, x, h, e, e2 => capOk_at (Nc := Nc) (cap := cap) (i := i) h (by simpa using e) (by simpa using e2)
  | y :: Nc, some k :: cap, i + 1, j, x, h, e, e2 => by
    have h' : capOk N env scope Nc cap = true := by unfold capOk at h; simp only [Bool.and_eq_true] at h; exact h.2
    exact capOk_at (Nc := Nc) (cap := cap) (i := i) h' (by simpa using e) (by simpa using e2)

/-- what a comprehension's scope must be -/
structure CompScope (N : List Str) (env : Env) (scope : Scope) (Nc : List Str) (cap : List (Option Nat)) : Prop where
  kind : scope.kind = .function
  nocell : ∀ y ∈ scope.names, y.2 ≠ .cell
  nd : ∀ y ∈ scope.names, scope.names.lookup y.1 = some y.2
  free : ∀ y ∈ scope.names, y.2 = .free → env.kindOf y.1 = some .cell ∨ env.kindOf y.1 = some .free
  cap : capOk N env scope Nc cap = true

theorem inv_block {X : Cx} {pins : List (Addr × Obj)} {σ : St} {H : Hp} {s : Shared} {h' : Heap} {t' : Nat} {fp : List Addr} {Nc : List Str} {scope : Scope} {cl : List (Str × Addr)} {cap : List (Option Nat)}
    (I : Inv X pins σ H s) (hf : ∀ b ∈ fp, FpOk X pins H b) (hfs : ∀ b ∈ fp, b < s.heap.objs.size) (S : CompScope X.N X.env scope Nc cap)
    (hcl : ∀ x c, cl.lookup x = some c → X.env.cells.lookup x = some c) (hall : ∀ y ∈ scope.names, y.2 = .free → (cl.lookup y.1).isSome = true)
    (hn : h'.Ns s.heap.objs.size (fun _ => none)) (hk : ∀ b o, s.heap.get? b = some o → h'.get? b = some o) :
    Inv (cxC X Nc scope cl s.heap.objs.size s H fp) [] (capOf cap σ) H { s with heap := h', toks := t' } := by
  have hrl : ∀ x, (cxC X Nc scope cl s.heap.objs.size s H fp).env.kindOf x = (scope.names.lookup x).map fun k => if (k == NameKind.free && X.env.scope.kind == .function && X.env.kindOf x == some .cell) then NameKind.cell else k := fun x => relabel_lookup
  have hcf : ∀ x, ((cxC X Nc scope cl s.heap.objs.size s H fp).env.kindOf x = some .cell ∨ (cxC X Nc scope cl s.heap.objs.size s H fp).env.kindOf x = some .free) → scope.names.lookup x = some .free := fun x hx => by
    rw [hrl] at hx
    cases e : scope.names.lookup x with
    | none => rw [e] at hx; rcases hx with z | z <;> cases z
    | some k =>
      rw [e] at hx
      by_cases hkf : k = .free
      · rw [hkf]
      · have : (k == NameKind.free) = false := by simpa using hkf
        simp only [this, Bool.false_and, Option.map_some] at hx
        rcases hx with z | z
        · have z' : k = .cell := by simpa using z
          exact absurd z' (S.nocell (x, k) (lookup_none_mem e))
        · have z' : k = .free := by simpa using z
          exact absurd z' hkf
  have hclx : ∀ x, scope.names.lookup x = some .free → ∃ c, cl.lookup x = some c := fun x e => Option.isSome_iff_exists.mp (hall (x, .free) (lookup_none_mem e) rfl)
  refine ⟨⟨I.ok.mod, S.kind, I.ok.glob, I.ok.blt, Nat.le_refl _, fun x y c e1 e2 => I.ok.inj x y c (hcl x c e1) (hcl y c e2), fun x hx => hclx x (hcf x hx), fun x c e _ => absurd e (by simp [cxC]), I.ok.hd, I.ok.frames, .inl rfl,
    fun b hb => ⟨Nat.ne_of_lt (hfs b hb), fun x c e => (hf b hb).2.2.2.2.1 x c (hcl x c e)⟩, I.bs, Nat.le_trans I.ok.bsz I.sz, fun b o e hb => ?_, fun b hb z => ?_, I.stack, I.stkFree⟩,
    rfl, I.bare, Un.kept hk, ⟨_, hn, fun i x v e1 e2 e3 => ?_⟩, fun x c e => ?_, I.hok.fresh (Nat.le_refl _), fun x c e => I.freeC x c (hcl x c e), fun p hp => absurd (show p ∈ ([] : List (Addr × Obj)) from hp) (by simp), I.hok.kept hk, ?_⟩
  · rcases (hf b hb).2.2.2.1 with z | z
    · exact I.ok.noex b o e z
    · exact absurd (Nat.lt_of_lt_of_le (Nat.lt_of_lt_of_le (Heap.lt_size e) I.ok.bsz) z) (Nat.lt_irrefl _)
  · rcases List.mem_cons.mp (I.stkSub b z) with q | q
    · exact (hf b hb).2.1 q
    · exact (hf b hb).2.2.1 q
  · have e2' : ∃ j, cap[i]? = some (some j) ∧ σ[j]? = some (some v) := by
      unfold capOf at e2
      rw [List.getElem?_map] at e2
      cases hc : cap[i]? with
      | none => rw [hc] at e2; cases e2
      | some o =>
        rw [hc] at e2
        cases o with
        | none => cases e2
        | some j =>
          refine ⟨j, rfl, ?_⟩
          simp only [Option.map_some, Option.bind_some] at e2
          cases hj : σ[j]? with
          | none => rw [hj] at e2; cases e2
          | some q =>
            rw [hj] at e2
            simp only [Option.join_some] at e2
            rw [Option.some.inj e2]
    obtain ⟨j, hj, hv⟩ := e2'
    obtain ⟨hN, hx⟩ := capOk_at S.cap hj e1
    have hkx := S.free (x, .free) (lookup_none_mem hx) rfl
    obtain ⟨m, hm, hl⟩ := I.loc
    obtain ⟨u, r, l⟩ := hl j x v hN hv (hkx.elim (fun z => .inr (.inl z)) (fun z => .inr (.inr z)))
    refine ⟨u, r, .inr ⟨?_, ?_⟩⟩
    · rw [hrl, hx]
      show some (if _ then _ else _) = _ ∨ some (if _ then _ else _) = _
      by_cases hc : (NameKind.free == NameKind.free && X.env.scope.kind == .function && X.env.kindOf x == some .cell) = true
      · rw [if_pos hc]; exact .inl rfl
      · rw [if_neg hc]; exact .inr rfl
    · obtain ⟨c, ec⟩ := hclx x hx
      refine ⟨c, ec, ?_⟩
      rcases l with ⟨k, _⟩ | ⟨k, c', ec', z⟩
      · rcases hkx with q | q <;> (rw [k] at q; cases q)
      · have q := hcl x c ec
        rw [ec'] at q; cases q
        obtain ⟨o, ho, hd⟩ := z
        exact ⟨o, hk _ o ho, hd⟩
  · obtain ⟨v, o, ho, hd⟩ := I.cell x c (hcl x c e)
    exact ⟨v, o, hk _ o ho, hd⟩
  · show (cap.map _).length = Nc.length
    rw [List.length_map, capOk_len S.cap]
end L2

set_option Elab.async false
set_option linter.all false
set_option maxRecDepth 100000
set_option maxHeartbeats 4000000
namespace L2
open PySem PySem.Spec PyProof.Rows

abbrev NoE : Value → Shared → Prop := fun _ _ => False

/-- the tests of a clause, in their order -/
def testsOf (ifs : List Expr) (env : Env) : Sem Bool := forIn ifs true fun c r => if r = true then do let ok ← isTrue c env (eval c env); pure (ForInStep.yield ok) else pure (ForInStep.yield r)
section
variable {prog : Program} {w : World} {A : Around} {R : Result → Shared → Prop} {s : Shared}
theorem loopC {elt target iter : Expr} {ifs : List Expr} {scope : Scope} {pos : Pos} {it acc : Value} {env : Env} (I : Nat → Shared → Prop)
    (turn : ∀ n s, I n s → wpAny (model prog w) A (pyNext it) (fun r s₁ => match r with
      | none => R (.ok .next) s₁
      | some v => wpAny (model prog w) A (letOwnedTupleGo target it v) (fun _ s₁' => wpAny (model prog w) A (assign target env v) (fun _ s₂ =>
          wpAny (model prog w) A (testsOf ifs env) (fun ok s₃ =>
            if ok = true then wpAny (model prog w) A (eval elt env) (fun x s₄ =>
              wpAny (model prog w) A (call (.builtin "list.append") [acc, x]) (fun _ s₅ => ∃ m, m < n ∧ I m s₅) NoE s₄) NoE s₃
            else ∃ m, m < n ∧ I m s₃) NoE s₂) NoE s₁') NoE s₁) NoE s)
    (n : Nat) (h : I n s) : codeAny (model prog w) A (.compLoop (.ListComp elt [⟨target, iter, ifs, 0⟩] scope pos) 0 it acc env) R s := by
  refine codeAny_loop rfl I (fun n s hI => ?_) n h
  show wpAny _ A ((compTurn (.ListComp elt [⟨target, iter, ifs, 0⟩] scope pos) 0 it acc env).onRaise (fun x => do noteFrame x env; theTreesLotGoes x)) _ _ s
  refine wpAny_noted ?_
  rw [compTurn_list]
  refine wpAny_bind (wpAny_standAt (wpAny_bind (wpAny_mono (turn n s hI) (fun r s₁ h₁ => ?_) fun _ _ z => z.elim)))
  cases r with
  | none => exact wpAny_pure h₁
  | some v =>
    refine wpAny_bind (wpAny_mono h₁ (fun _ s₁' h₁' => ?_) fun _ _ z => z.elim)
    refine wpAny_bind (wpAny_mono h₁' (fun _ s₂ h₂ => wpAny_bind (wpAny_mono h₂ (fun ok s₃ h₃ => ?_) fun _ _ z => z.elim)) fun _ _ z => z.elim)
    cases ok with
    | false => exact wpAny_pure ⟨rfl, h₃⟩
    | true =>
      exact wpAny_bind (wpAny_bind (wpAny_mono h₃ (fun x s₄ h₄ => wpAny_bind (wpAny_mono h₄ (fun _ s₅ h₅ => wpAny_pure (wpAny_pure ⟨rfl, h₅⟩)) fun _ _ z => z.elim)) fun _ _ z => z.elim))
end

def PTs (X : Cx) (ifs : List Expr) (t : TT) : Prop :=
  ∀ (pins : List (Addr × Obj)) (s : Shared) (σ : St) (H : Hp) (Q : Bool → Hp → Prop), Inv X pins σ H s → t σ H Q → wpAny (model X.prog X.w) X.A (testsOf ifs X.env) (TP X pins σ Q) X.xe s
def tTrue : TT := fun _ H Q => Q true H
theorem pts_nil {X : Cx} : PTs X [] tTrue := fun _ _ _ H _ I h => wpAny_pure ⟨H, I, h⟩
theorem pts_one {X : Cx} {c : Expr} {t : TT} (h : PT X c t) : PTs X [c] t := fun pins s σ H Q I q => wpAny_tests_one (h pins s σ H Q I q)

/-- what a comprehension reads: J the iterator, acc the list that grows -/
def tCompW (cap : List (Option Nat)) (g : TG) (tt : TT) (te : TE) (σ : St) (Q : VK) (J : It) (H1 : Hp) : Prop :=
  ∀ acc, H1 acc = none → ∃ W : Nat → Nat → St → Hp → Prop, (∃ m, W 0 m (capOf cap σ) (upd H1 acc (.lst []))) ∧ ∀ i m σ1 H, W i m σ1 H →
    (J.stop i H ∧ Q (.ref acc) H) ∨ (J.go i H ∧ ∃ N : St → Hp → Prop, (∀ σ' H', N σ' H' → ∃ m', m' < m ∧ W (i + 1) m' σ' H') ∧ ∀ x H', J.yld i H x H' → g x σ1 H' fun σ2 H2 => tt σ2 H2 fun b H3 =>
      if b = true then te σ2 H3 fun y H4 => ∃ ys, H4 acc = some (.lst ys) ∧ ys.length < sizeLine ∧ N σ2 (upd H4 acc (.lst (ys ++ [y]))) else N σ2 H3)
def tComp (wi : TI) (cap : List (Option Nat)) (g : TG) (tt : TT) (te : TE) : TE := fun σ H Q => wi σ H (tCompW cap g tt te σ Q)

section
variable {X : Cx} {tg iter elt : Expr} {ifs : List Expr} {scope : Scope} {Nc : List Str} {cap : List (Option Nat)} {wi : TI} {g : TG} {tt : TT} {te : TE} {pos pos' : Pos}
theorem comp_core {use : Option (Value → Sem Unit)} {pins : List (Addr × Obj)} {s : Shared} {σ : St} {H : Hp} {Q : VK} {QQ : Value → Shared → Prop}
    (hc : X.calm = true) (S : CompScope X.N X.env scope Nc cap) (hi : PI X tg iter wi)
    (hg : ∀ cl C s H fp, PG (cxC X Nc scope cl C s H fp) tg g) (ht : ∀ cl C s H fp, PTs (cxC X Nc scope cl C s H fp) ifs tt) (he : ∀ cl C s H fp, PE (cxC X Nc scope cl C s H fp) elt te)
    (I : Inv X pins σ H s) (h : tComp wi cap g tt te σ H Q)
    (hfin : ∀ C acc s' H', Inv X pins σ H' s' → FpOk X pins H' C → (∃ m, s'.heap.Ns C m) → Q (.ref acc) H' → compPost (model X.prog X.w) X.A X.xe use QQ (.ref acc) C (.ok .next) s')
    (hs : ∀ x, foldedSetIterable iter X.env x = pure x) :
    wpAny (model X.prog X.w) X.A (comprehension (.ListComp elt [⟨tg, iter, ifs, 0⟩] scope pos) scope X.env pos' (newList []) false (eval iter X.env) use) QQ X.xe s := by
  obtain ⟨cl, hclos, hcl, hall⟩ := closure_of (scope := scope) (env := X.env) (fun y hy hf => I.ok.has y.1 (S.free y hy hf))
  refine wpAny_comprehension_free rfl hs hclos S.kind (fun x hx e => by rw [S.nd x hx, e]) ?_
  refine thn (hi pins s σ H _ I h) fun v s1 h1 => thn h1 fun itv s2 h2 => ?_
  obtain ⟨it, fp, tn, J, H2, e, I2, T, st2, f2, rd⟩ := h2
  subst e
  have hacc := I2.fresh
  obtain ⟨W, ⟨m0, w0⟩, turn⟩ := rd _ hacc
  -- the list
  refine wpAny_newObj_type ?_
  have I3 : Inv X pins σ (upd H2 s2.heap.objs.size (.lst [])) { s2 with heap := s2.heap.push { cls := .type "list", data := .seq ([] : List Value).toArray }, toks := s2.toks } := I2.lnew (ys := []) (its := []) .nil (Nat.zero_le _)
  have st3 : tn 0 (s2.heap.push { cls := .type "list", data := .seq ([] : List Value).toArray }) := T.keep _ _ _ st2 fun b _ o e => Heap.get?_push_of_some _ e
  have fpn : ∀ b ∈ fp, b ≠ s2.heap.objs.size := fun b hb => by
    obtain ⟨o, eo, _⟩ := T.obj _ _ st2 b hb
    exact Nat.ne_of_lt (Heap.lt_size eo)
  have f3 : ∀ b ∈ fp, FpOk X pins (upd H2 s2.heap.objs.size (.lst [])) b := fun b hb => ⟨by rw [upd_ne (fpn b hb)]; exact (f2 b hb).1, (f2 b hb).2⟩
  have hfs : ∀ b ∈ fp, b < (s2.heap.push { cls := .type "list", data := .seq ([] : List Value).toArray }).objs.size := fun b hb => by
    obtain ⟨o, eo, _⟩ := T.obj _ _ st3 b hb
    exact Heap.lt_size eo
  generalize hs3 : ({ s2 with heap := s2.heap.push { cls := .type "list", data := .seq ([] : List Value).toArray }, toks := s2.toks } : Shared) = s3 at I3
  have eh : s3.heap = s2.heap.push { cls := .type "list", data := .seq ([] : List Value).toArray } := by rw [← hs3]
  rw [← eh] at st3 hfs
  -- the block's names
  refine wpAny_newFunctionEnv S.nocell (by intro y hy; simp at hy) (fun h1 hns1 hsb1 => ?_) S.kind
  have hk1 : ∀ b o, s3.heap.get? b = some o → h1.get? b = some o := fun b o e => hsb1.extBut b o (Nat.ne_of_lt (Heap.lt_size e)) (Heap.get?_push_of_some _ e)
  have IB : Inv (cxC X Nc scope cl s3.heap.objs.size s3 (upd H2 s2.heap.objs.size (.lst [])) fp) [] (capOf cap σ) (upd H2 s2.heap.objs.size (.lst [])) { s3 with heap := h1, toks := s3.toks + ([] : List (Str × Value)).length } :=
    inv_block I3 f3 hfs S hcl hall hns1 hk1
  have stB : tn 0 h1 := T.keep _ _ _ st3 fun b _ o e => hk1 b o e
  generalize hX : cxC X Nc scope cl s3.heap.objs.size s3 (upd H2 s2.heap.objs.size (.lst [])) fp = Xc at IB
  have eA : Xc.A = X.A := by rw [← hX]; rfl
  have eP : Xc.prog = X.prog := by rw [← hX]; rfl
  have ew : Xc.w = X.w := by rw [← hX]; rfl
  have eK : Xc.K = X.K := by rw [← hX]; rfl
  have ec : Xc.calm = true := by rw [← hX]; exact hc
  have ex : Xc.xe = NoE := by rw [← hX]; rfl
  have eenv : Xc.env = compEnvC scope cl s3.heap.objs.size X.env := by rw [← hX]; rfl
  have ees : Xc.s₀ = s3 := by rw [← hX]; rfl
  have eex : Xc.ex = fp := by rw [← hX]; rfl
  have efs : Xc.fs = frs X.stack := by rw [← hX]; rfl
  have eH0 : Xc.H₀ = upd H2 s2.heap.objs.size (.lst []) := by rw [← hX]; rfl
  have hgc : PG Xc tg g := by rw [← hX]; exact hg _ _ _ _ _
  have htc : PTs Xc ifs tt := by rw [← hX]; exact ht _ _ _ _ _
  have hec : PE Xc elt te := by rw [← hX]; exact he _ _ _ _ _
  have epn : Xc.pn = [] := by rw [← hX]; rfl
  have statB : ∀ {H' : Hp}, (∀ b ∈ fp, H' b = none) → ∀ b ∈ fp, FpOk Xc [] H' b := fun hn b hb => by
    refine ⟨hn b hb, ?_, ?_, .inl (by rw [eex]; exact hb), fun x c e => ?_, fun p hp => ?_⟩
    · rw [eenv]; exact Nat.ne_of_lt (hfs b hb)
    · rw [efs]; intro z
      rcases List.mem_cons.mp (I3.stkSub b z) with q | q
      · exact (f3 b hb).2.1 q
      · exact (f3 b hb).2.2.1 q
    · rw [eenv] at e
      exact (f3 b hb).2.2.2.2.1 x c (hcl x c e)
    · rw [epn] at hp; simp at hp
  -- what holds between two turns: the slots of the frame around as they were
  have fin : ∀ {σ' : St} {H' : Hp} {s' : Shared}, Inv Xc [] σ' H' s' → Q (.ref s2.heap.objs.size) H' → compPost (model X.prog X.w) X.A X.xe use QQ (.ref s2.heap.objs.size) s3.heap.objs.size (.ok .next) s' := fun {σ' H' s'} J q => by
    have hb := J.base
    rw [efs, eex, eH0, ees] at hb
    have hos : s'.os = s3.os := by rw [J.os, ees]
    have hok := J.hok
    rw [eP, ew] at hok
    have I5 : Inv X pins σ H' s' := I3.call' (ch := fp) hos hb hok J.bare fun b hbf => ⟨(f3 b hbf).2.2.2.1, (f3 b hbf).2.1, (f3 b hbf).2.2.2.2.1, (f3 b hbf).2.2.2.2.2⟩
    have hfr := J.free
    rw [eenv] at hfr
    obtain ⟨mm, hnn, _⟩ := J.loc
    rw [eenv] at hnn
    exact hfin _ _ s' H' I5 (I3.fpOk (Nat.le_refl _) hfr) ⟨mm, hnn⟩ q
  have loop : ∀ s4 : Shared, s4 = { s3 with heap := h1, toks := s3.toks + ([] : List (Str × Value)).length } →
      codeAny (model X.prog X.w) X.A (.compLoop (.ListComp elt [⟨tg, iter, ifs, 0⟩] scope pos) 0 (.ref it) (.ref s2.heap.objs.size) (compEnvC scope cl s3.heap.objs.size X.env))
        (compPost (model X.prog X.w) X.A X.xe use QQ (.ref s2.heap.objs.size) s3.heap.objs.size) s4 := by
    rintro s4 rfl
    refine loopC (fun n s' => ∃ i σ' H', Inv Xc [] σ' H' s' ∧ tn i s'.heap ∧ (∀ b ∈ fp, H' b = none) ∧ W i n σ' H') ?_ m0 ⟨0, _, _, IB, stB, fun b hb => (f3 b hb).1, w0⟩
    rintro n s5 ⟨i, σ5, H5, I5, st5, fr5, w5⟩
    rcases turn i n σ5 H5 w5 with ⟨stop, qn⟩ | ⟨go, N, hN, step⟩
    · have z := T.done Xc eP ew eK ec i [] s5 σ5 H5 NoE I5 (statB fr5) st5 stop
      rw [eA] at z
      refine thn z fun r s6 ⟨hr, I6⟩ => ?_
      subst hr
      exact fin I6 qn
    · have z := T.item Xc eP ew eK ec i [] s5 σ5 H5 NoE I5 (statB fr5) st5 go
      rw [eA] at z
      refine thn z fun r s6 ⟨u, hr, h6⟩ => ?_
      subst hr
      refine thn h6 fun _ s7 ⟨x, H7, I7, r7, y7, st7, fr7⟩ => ?_
      have I7' := I7.pinned (statB fr7) (T.obj _ _ st7)
      have z1 := hgc _ s7 σ5 H7 x u _ I7' r7 (step x H7 y7)
      rw [eP, ew, eA, ex, eenv] at z1
      refine thn z1 fun _ s8 ⟨σ8, H8, I8, q8⟩ => ?_
      have z2 := htc _ s8 σ8 H8 _ I8 q8
      rw [eP, ew, eA, ex, eenv] at z2
      refine thn z2 fun b s9 ⟨H9, I9, q9⟩ => ?_
      have again : ∀ {σa : St} {Ha : Hp} {sa : Shared}, Inv Xc ([] ++ pinsAt fp s7.heap) σa Ha sa → N σa Ha → ∃ m, m < n ∧ ∃ i σ' H', Inv Xc [] σ' H' sa ∧ tn i sa.heap ∧ (∀ b ∈ fp, H' b = none) ∧ W i m σ' H' := fun {σa Ha sa} Ia na => by
        obtain ⟨m', hm, wa⟩ := hN σa Ha na
        refine ⟨m', hm, i + 1, σa, Ha, Ia.unpinned, T.keep _ _ _ st7 fun b hb o e => (Ia.pin (b, o) (List.mem_append_right _ (List.mem_append_right _ (mem_pinsAt hb e)))).1, fun b hb => ?_, wa⟩
        obtain ⟨o, e, d⟩ := T.obj _ _ st7 b hb
        exact (Ia.pin (b, o) (List.mem_append_right _ (List.mem_append_right _ (mem_pinsAt hb e)))).2.1
      cases b with
      | false =>
        rw [if_neg Bool.false_ne_true] at q9 ⊢
        exact again I9 q9
      | true =>
        rw [if_pos rfl] at q9 ⊢
        have z3 := hec _ s9 σ8 H9 _ I9 q9
        rw [eP, ew, eA, ex, eenv] at z3
        refine thn z3 fun v10 s10 ⟨y, H10, I10, r10, ys, hy, hz, nn⟩ => ?_
        have z4 := mt_append (X := Xc) _ s10 σ8 H10 (.ref s2.heap.objs.size) [y] (.ref s2.heap.objs.size) [v10] (fun _ H' => N σ8 H') I10 rfl (.cons r10 .nil) ⟨_, ys, y, rfl, rfl, hy, hz, nn⟩
        rw [eP, ew, eA, ex] at z4
        refine thn z4 fun v11 s11 ⟨y', H11, I11, r11, n11⟩ => ?_
        exact again I11 n11
  exact codeAny_compStart_list (loop _ rfl) (T.self _ 0 _ _ _ stB (loop _ rfl))

theorem pe_comp (hc : X.calm = true) (S : CompScope X.N X.env scope Nc cap) (hi : PI X tg iter wi)
    (hg : ∀ cl C s H fp, PG (cxC X Nc scope cl C s H fp) tg g) (ht : ∀ cl C s H fp, PTs (cxC X Nc scope cl C s H fp) ifs tt) (he : ∀ cl C s H fp, PE (cxC X Nc scope cl C s H fp) elt te)
    (hs : ∀ x, foldedSetIterable iter X.env x = pure x := by intro _; rfl) : PE X (.ListComp elt [⟨tg, iter, ifs, 0⟩] scope pos) (tComp wi cap g tt te) := by
  intro pins s σ H Q I h
  rw [eval_ListComp]
  refine comp_core (Q := Q) hc S hi hg ht he I h (fun C acc s' H' I' hf hn q => ?_) hs
  obtain ⟨m, hn⟩ := hn
  refine ⟨m, hn, fun h' sb => ⟨.ref acc, H', ?_, rfl, q⟩⟩
  exact I'.turned (t' := s'.toks) (it := C) (fun b o hb e => (sb.2 b hb).trans e) hf.1 hf.2.1 hf.2.2.2.1 hf.2.2.2.2.1 hf.2.2.2.2.2
/-- x = [.. for ..] (the store lies within the comprehension) -/
theorem ps_setC {i : Nat} {x : Str} {pos1 : Pos} {pos2 : Pos} (hc : X.calm = true) (hN : X.N.Nodup) (hix : X.N[i]? = some x) (hx : X.env.scope.names.lookup x = some .local) (S : CompScope X.N X.env scope Nc cap) (hi : PI X tg iter wi)
    (hg : ∀ cl C s H fp, PG (cxC X Nc scope cl C s H fp) tg g) (ht : ∀ cl C s H fp, PTs (cxC X Nc scope cl C s H fp) ifs tt) (he : ∀ cl C s H fp, PE (cxC X Nc scope cl C s H fp) elt te)
    (hsw : swapsWith (.ListComp elt [⟨tg, iter, ifs, 0⟩] scope pos) (some (.Name x pos1)) pos2.line X.env = pure true) (hs : ∀ x, foldedSetIterable iter X.env x = pure x := by intro _; rfl) :
    PS X (.Assign [.Name x pos1] (.ListComp elt [⟨tg, iter, ifs, 0⟩] scope pos) pos2) (tAsg (tComp wi cap g tt te) (gName i)) := by
  intro pins s σ H D I h
  rw [exec_Assign_Name_used _ _ _ _ hsw]
  refine wpAny_bind (wpAny_standAt (wpAny_bind ?_))
  show wpAny _ X.A (do let _ ← comprehension (.ListComp elt [⟨tg, iter, ifs, 0⟩] scope pos) scope X.env _ (newList []) false (eval iter X.env) (some (assign (.Name x pos1) X.env))) _ _ s
  refine wpAny_bind (wpAny_mono (comp_core (use := some (assign (.Name x pos1) X.env)) (Q := fun v H1 => D.nx (σ.set i (some v)) H1) (QQ := fun _ s' => SP X pins D .next s') hc S hi hg ht he I h (fun C acc s' H' I' hf hn q => ?_) hs)
    (fun _ s' hq => wpAny_pure (wpAny_pure hq)) fun _ _ e => e)
  obtain ⟨m, hn⟩ := hn
  show wpAny _ X.A (assign (.Name x pos1) X.env (.ref acc)) _ _ _
  refine wpAny_assign_Name (store_ok2 I' hN hix (.inl hx) (show RelV (.ref acc) (.ref acc) from rfl) (fun s'' I'' hsb => ?_) (.inr hx))
  obtain ⟨a, sb, ha⟩ := hsb
  have hCa : C ≠ a := by
    rcases ha with z | z
    · rw [z]; exact hf.2.1
    · exact fun e => hf.2.2.2.2.1 x a z e.symm
  refine ⟨m, hn.sameBut sb hCa, fun h' sb' => ⟨_, H', ?_, q⟩⟩
  exact I''.turned (t' := s''.toks) (it := C) (fun b o hb e => (sb'.2 b hb).trans e) hf.1 hf.2.1 hf.2.2.2.1 hf.2.2.2.2.1 hf.2.2.2.2.2
end
end L2

set_option Elab.async false
set_option linter.all false
set_option maxRecDepth 100000
set_option maxHeartbeats 4000000
/-! The table of a set: where a search goes. -/
namespace RS
open PySem

/-- the slots that a search looks at, stage by stage -/
def stg (mask : Nat) : Nat → Nat → Nat → List Nat
  | 0, _, _ => []
  | n + 1, i, pe => (List.range (SetTable.runEnd mask i + 1 - i)).map (i + ·) ++ stg mask n (SetTable.leap mask i pe).1 (SetTable.leap mask i pe).2
def seqOf (mask : Nat) (h : Int) : List Nat := stg mask (SetTable.turns mask) (SetTable.bits h % (mask + 1)) (SetTable.bits h)
def walkJ (t : SetTable) : Nat → SetTable.Probe → List Nat
  | 0, _ => []
  | n + 1, p => p.j :: walkJ t n (t.advance p)
def stageAt (mask i pe : Nat) (d : Option Nat) : SetTable.Probe := { j := i, more := SetTable.runEnd mask i - i, i, perturb := pe, dummy := d }

theorem walk_run (t : SetTable) : ∀ (m n : Nat) (p : SetTable.Probe), p.more = m →
    walkJ t (m + 1 + n) p = (List.range (m + 1)).map (p.j + ·) ++ walkJ t n (stageAt t.mask (SetTable.leap t.mask p.i p.perturb).1 (SetTable.leap t.mask p.i p.perturb).2 p.dummy)
  | 0, n, p, h => by
    have e : 0 + 1 + n = n + 1 := by omega
    rw [e]
    show p.j :: walkJ t n (t.advance p) = _
    have ea : t.advance p = stageAt t.mask (SetTable.leap t.mask p.i p.perturb).1 (SetTable.leap t.mask p.i p.perturb).2 p.dummy := by
      unfold SetTable.advance
      rw [if_neg (by omega)]
      rfl
    rw [ea]
    simp
  | m + 1, n, p, h => by
    have e : m + 1 + 1 + n = (m + 1 + n) + 1 := by omega
    rw [e]
    show p.j :: walkJ t (m + 1 + n) (t.advance p) = _
    have ea : t.advance p = { p with j := p.j + 1, more := p.more - 1 } := by
      unfold SetTable.advance
      rw [if_pos (by omega)]
    rw [ea, walk_run t m n { p with j := p.j + 1, more := p.more - 1 } (by show p.more - 1 = m; omega)]
    rw [List.range_succ_eq_map (n := m + 1), List.map_cons, List.map_map]
    show p.j :: ((List.range (m + 1)).map (p.j + 1 + ·) ++ _) = (p.j + 0) :: (List.map _ _) ++ _
    rw [Nat.add_zero]
    show p.j :: (_ ++ _) = p.j :: (_ ++ _)
    congr 2
    apply List.map_congr_left
    intro a _
    show p.j + 1 + a = p.j + (a + 1)
    omega
theorem run_le (mask i : Nat) : i ≤ SetTable.runEnd mask i ∧ SetTable.runEnd mask i ≤ i + 9 := by
  unfold SetTable.runEnd; split <;> omega
theorem walk_stg (t : SetTable) : ∀ (n i pe : Nat) (d : Option Nat), walkJ t (stg t.mask n i pe).length (stageAt t.mask i pe d) = stg t.mask n i pe
  | 0, _, _, _ => rfl
  | n + 1, i, pe, d => by
    have hr := run_le t.mask i
    show walkJ t ((List.range (SetTable.runEnd t.mask i + 1 - i)).map (i + ·) ++ _).length _ = _
    rw [List.length_append, List.length_map, List.length_range]
    have e : SetTable.runEnd t.mask i + 1 - i = (SetTable.runEnd t.mask i - i) + 1 := by omega
    rw [e, walk_run t (SetTable.runEnd t.mask i - i) _ (stageAt t.mask i pe d) rfl]
    show _ ++ walkJ t (stg t.mask n (SetTable.leap t.mask i pe).1 (SetTable.leap t.mask i pe).2).length (stageAt t.mask (SetTable.leap t.mask i pe).1 (SetTable.leap t.mask i pe).2 d) = _
    rw [walk_stg t n]
    show _ = (List.range (SetTable.runEnd t.mask i + 1 - i)).map (i + ·) ++ _
    rw [e]; rfl
theorem stg_len (mask : Nat) : ∀ (n i pe : Nat), (stg mask n i pe).length ≤ 10 * n
  | 0, _, _ => Nat.zero_le _
  | n + 1, i, pe => by
    have hr := run_le mask i
    have ih := stg_len mask n (SetTable.leap mask i pe).1 (SetTable.leap mask i pe).2
    show ((List.range (SetTable.runEnd mask i + 1 - i)).map (i + ·) ++ _).length ≤ _
    rw [List.length_append, List.length_map, List.length_range]
    omega

/-- a search that passes over occupied slots -/
theorem go_path (t : SetTable) (hashAt : Nat → Int) (h : Int) : ∀ (pre : List Nat) (j : Nat) (post : List Nat) (fuel : Nat) (p : SetTable.Probe), walkJ t (pre.length + 1 + post.length) p = pre ++ j :: post → pre.length < fuel → p.dummy = none →
    (∀ k ∈ pre, ∃ i, t.slot k = .live i ∧ hashAt i ≠ h) →
    (t.slot j = .empty → SetTable.probe.go t hashAt h fuel p = some (.empty j none)) ∧ (∀ i, t.slot j = .live i → hashAt i = h → ∃ nx, SetTable.probe.go t hashAt h fuel p = some (.candidate j i nx))
  | [], j, post, 0, p, _, hf, _, _ => by simp at hf
  | [], j, post, fuel + 1, p, hw, _, hd, _ => by
    have ew : walkJ t (([] : List Nat).length + 1 + post.length) p = p.j :: walkJ t post.length (t.advance p) := by
      rw [List.length_nil, show 0 + 1 + post.length = post.length + 1 from by omega]; rfl
    rw [ew, List.nil_append] at hw
    have ej : p.j = j := (List.cons.inj hw).1
    refine ⟨fun he => ?_, fun i hl hh => ?_⟩
    · show (match t.slot p.j with | .empty => _ | .dummy => _ | .live i => _) = _
      rw [ej, he, hd]
    · refine ⟨t.advance p, ?_⟩
      show (match t.slot p.j with | .empty => _ | .dummy => _ | .live i => _) = _
      rw [ej, hl]
      show (if (hashAt i == h) = true then _ else _) = _
      rw [if_pos (by simpa using hh)]
  | x :: pre, j, post, 0, p, _, hf, _, _ => by simp at hf
  | x :: pre, j, post, fuel + 1, p, hw, hf, hd, hp => by
    have ew : walkJ t ((x :: pre).length + 1 + post.length) p = p.j :: walkJ t (pre.length + 1 + post.length) (t.advance p) := by
      rw [List.length_cons, show pre.length + 1 + 1 + post.length = (pre.length + 1 + post.length) + 1 from by omega]; rfl
    rw [ew, List.cons_append] at hw
    have ej : p.j = x := (List.cons.inj hw).1
    have er := (List.cons.inj hw).2
    obtain ⟨i, hl, hne⟩ := hp x List.mem_cons_self
    have hda : (t.advance p).dummy = none := by
      unfold SetTable.advance
      split
      · exact hd
      · exact hd
    have ih := go_path t hashAt h pre j post fuel (t.advance p) er (by rw [List.length_cons] at hf; omega) hda (fun k hk => hp k (List.mem_cons_of_mem _ hk))
    have eg : SetTable.probe.go t hashAt h (fuel + 1) p = SetTable.probe.go t hashAt h fuel (t.advance p) := by
      show (match t.slot p.j with | .empty => _ | .dummy => _ | .live i => _) = _
      rw [ej, hl]
      show (if (hashAt i == h) = true then _ else _) = _
      rw [if_neg (by simpa using hne)]
    rw [eg]
    exact ih

/-! ### binary search -/
def Ris (xs : List Nat) : Prop := xs.Pairwise (· < ·)
theorem below_go (xs : Array Nat) (j : Nat) : ∀ (fuel lo hi : Nat), lo ≤ hi → hi ≤ xs.size → hi - lo ≤ fuel → (∀ i k, i < k → k < xs.size → xs.getD i j < xs.getD k j) → (∀ i, i < lo → xs.getD i j < j) → (∀ i, hi ≤ i → i < xs.size → j ≤ xs.getD i j) →
    let b := SetTable.below.go xs j fuel lo hi
    b ≤ xs.size ∧ (∀ i, i < b → xs.getD i j < j) ∧ (∀ i, b ≤ i → i < xs.size → j ≤ xs.getD i j)
  | 0, lo, hi, h1, h2, h3, hr, ha, hb => by
    have e : lo = hi := by omega
    subst e
    exact ⟨h2, ha, hb⟩
  | fuel + 1, lo, hi, h1, h2, h3, hr, ha, hb => by
    by_cases hlt : lo < hi
    · simp only [SetTable.below.go, hlt, if_true]
      by_cases hc : xs.getD ((lo + hi) / 2) j < j
      · rw [if_pos hc]
        refine below_go xs j fuel _ hi (by omega) h2 (by omega) hr (fun i hi' => ?_) hb
        by_cases e : i = (lo + hi) / 2
        · rw [e]; exact hc
        · have := hr i ((lo + hi) / 2) (by omega) (by omega)
          omega
      · rw [if_neg hc]
        refine below_go xs j fuel lo _ (by omega) (by omega) (by omega) hr ha (fun i hi' hs => ?_)
        by_cases e : i = (lo + hi) / 2
        · rw [e]; omega
        · have := hr ((lo + hi) / 2) i (by omega) hs
          omega
    · have e : lo = hi := by omega
      subst e
      simp only [SetTable.below.go, hlt, if_false]
      exact ⟨h2, ha, hb⟩
theorem ris_get {xs : Array Nat} (h : Ris xs.toList) (j : Nat) : ∀ i k, i < k → k < xs.size → xs.getD i j < xs.getD k j := fun i k hik hk => by
  have hi : i < xs.size := by omega
  have := List.pairwise_iff_getElem.mp h i k (by simpa using hi) (by simpa using hk) hik
  simpa [Array.getD, hi, hk] using this
theorem below_spec {xs : Array Nat} (h : Ris xs.toList) (j : Nat) : SetTable.below xs j ≤ xs.size ∧ (∀ i, i < SetTable.below xs j → xs.getD i j < j) ∧ (∀ i, SetTable.below xs j ≤ i → i < xs.size → j ≤ xs.getD i j) :=
  below_go xs j xs.size 0 xs.size (Nat.zero_le _) (Nat.le_refl _) (by omega) (ris_get h j) (fun i hi => by omega) (fun i h1 h2 => by omega)
theorem below_mem {xs : Array Nat} (h : Ris xs.toList) {i j : Nat} (e : xs[i]? = some j) : SetTable.below xs j = i := by
  obtain ⟨h1, h2, h3⟩ := below_spec h j
  have hi : i < xs.size := by
    rcases Array.getElem?_eq_some_iff.mp e with ⟨q, _⟩; exact q
  have ei : xs.getD i j = j := by
    rcases Array.getElem?_eq_some_iff.mp e with ⟨q, z⟩
    simp [Array.getD, hi, z]
  by_cases hlt : SetTable.below xs j < i
  · have a := h3 (SetTable.below xs j) (Nat.le_refl _) (by omega)
    have b := ris_get h j (SetTable.below xs j) i hlt hi
    omega
  · by_cases hgt : i < SetTable.below xs j
    · have := h2 i hgt; omega
    · omega
theorem insertAt_toList {α : Type} (xs : Array α) (p : Nat) (x : α) : (SetTable.insertAt xs p x).toList = xs.toList.take p ++ x :: xs.toList.drop p := by
  unfold SetTable.insertAt
  simp [List.take_of_length_le]
end RS

set_option Elab.async false
set_option linter.all false
set_option maxRecDepth 100000
set_option maxHeartbeats 4000000
namespace RS
open PySem

theorem first_stop {α : Type} (p : α → Prop) : ∀ (l : List α), (∃ x ∈ l, p x) → ∃ pre x post, l = pre ++ x :: post ∧ p x ∧ ∀ y ∈ pre, ¬ p y
  | [], h => by obtain ⟨x, hx, _⟩ := h; simp at hx
  | a :: l, h => by
    by_cases ha : p a
    · exact ⟨[], a, l, rfl, ha, fun y hy => by simp at hy⟩
    · obtain ⟨x, hx, px⟩ := h
      rcases List.mem_cons.mp hx with z | z
      · rw [z] at px; exact absurd px ha
      · obtain ⟨pre, y, post, e, py, hp⟩ := first_stop p l ⟨x, z, px⟩
        refine ⟨a :: pre, y, post, by rw [e]; rfl, py, fun w hw => ?_⟩
        rcases List.mem_cons.mp hw with q | q
        · rw [q]; exact ha
        · exact hp w q

/-- the table t with the entries es: Z the slots with what lies there -/
structure Tab (t : SetTable) (es : Array (Int × Value)) (Z : List (Nat × Int × Value)) : Prop where
  place : t.place.toList = Z.map (·.1)
  ents : es.toList = Z.map (·.2)
  ris : Ris (Z.map (·.1))
  top : ∀ z ∈ Z, z.1 ≤ t.mask
  dum : t.dummies = #[]
  reach : ∀ z ∈ Z, ∃ pre post, seqOf t.mask z.2.1 = pre ++ z.1 :: post ∧ ∀ k ∈ pre, k ∈ Z.map (·.1)

theorem Tab.size {t : SetTable} {es : Array (Int × Value)} {Z : List (Nat × Int × Value)} (T : Tab t es Z) : t.place.size = Z.length ∧ es.size = Z.length := by
  have a := congrArg List.length T.place
  have b := congrArg List.length T.ents
  simp at a b
  exact ⟨a, b⟩
theorem Tab.fill {t : SetTable} {es : Array (Int × Value)} {Z : List (Nat × Int × Value)} (T : Tab t es Z) : t.fill = Z.length := by
  unfold SetTable.fill; rw [T.size.1, T.dum]; rfl
theorem has_empty (j : Nat) : SetTable.has #[] j = false := by
  unfold SetTable.has; simp
theorem Tab.slot_empty {t : SetTable} {es : Array (Int × Value)} {Z : List (Nat × Int × Value)} (T : Tab t es Z) {j : Nat} (h : j ∉ Z.map (·.1)) : t.slot j = .empty := by
  unfold SetTable.slot
  have hn : ¬ (t.place[SetTable.below t.place j]? == some j) = true := by
    intro e
    have e' : t.place[SetTable.below t.place j]? = some j := by simpa using e
    apply h
    rw [← T.place]
    rw [← Array.getElem?_toList] at e'
    exact List.mem_of_getElem? e'
  simp only [hn, T.dum, has_empty]
  rfl
theorem Tab.slot_live {t : SetTable} {es : Array (Int × Value)} {Z : List (Nat × Int × Value)} (T : Tab t es Z) {i : Nat} {z : Nat × Int × Value} (h : Z[i]? = some z) : t.slot z.1 = .live i := by
  have e : t.place[i]? = some z.1 := by
    rw [← Array.getElem?_toList, T.place, List.getElem?_map, h]; rfl
  have r : Ris t.place.toList := by rw [T.place]; exact T.ris
  have eb := below_mem r e
  unfold SetTable.slot
  have hc : (t.place[SetTable.below t.place z.1]? == some z.1) = true := by rw [eb, e]; simp
  simp only [hc, if_true]
  rw [eb]
theorem Tab.hashAt {t : SetTable} {es : Array (Int × Value)} {Z : List (Nat × Int × Value)} (T : Tab t es Z) {i : Nat} {z : Nat × Int × Value} (h : Z[i]? = some z) : es[i]? = some z.2 := by
  rw [← Array.getElem?_toList, T.ents, List.getElem?_map, h]; rfl

theorem nodup_le {α : Type} : ∀ {l1 l2 : List α}, l1.Nodup → (∀ x ∈ l1, x ∈ l2) → l1.length ≤ l2.length
  | [], _, _, _ => Nat.zero_le _
  | a :: r, l2, hn, hs => by
    obtain ⟨s, t, e⟩ := List.append_of_mem (hs a List.mem_cons_self)
    have hn' := List.nodup_cons.mp hn
    have ih := nodup_le (l1 := r) (l2 := s ++ t) hn'.2 (fun x hx => by
      have hx2 := hs x (List.mem_cons_of_mem _ hx)
      rw [e] at hx2
      rcases List.mem_append.mp hx2 with q | q
      · exact List.mem_append_left _ q
      · rcases List.mem_cons.mp q with q | q
        · rw [q] at hx; exact absurd hx hn'.1
        · exact List.mem_append_right _ q)
    rw [e, List.length_append, List.length_cons, List.length_cons]
    rw [List.length_append] at ih
    omega
theorem stg_top (mask : Nat) : ∀ (n i pe : Nat), i ≤ mask → ∀ j ∈ stg mask n i pe, j ≤ mask
  | 0, _, _, _, j, h => by simp [stg] at h
  | n + 1, i, pe, hi, j, h => by
    rcases List.mem_append.mp h with q | q
    · obtain ⟨k, hk, e⟩ := List.mem_map.mp q
      have hk' := List.mem_range.mp hk
      have : SetTable.runEnd mask i ≤ mask := by unfold SetTable.runEnd; split <;> omega
      have e' : i + k = j := e
      omega
    · refine stg_top mask n _ _ ?_ j q
      show (i * 5 + 1 + pe / 32) % (mask + 1) ≤ mask
      exact Nat.le_of_lt_succ (Nat.mod_lt _ (Nat.succ_pos mask))
theorem seqOf_top {mask : Nat} {h : Int} {j : Nat} (e : j ∈ seqOf mask h) : j ≤ mask := by
  refine stg_top mask _ _ _ ?_ j e
  exact Nat.le_of_lt_succ (Nat.mod_lt _ (Nat.succ_pos mask))
theorem free_slot {m : Nat} {l : List Nat} (h : l.length ≤ m) : ∃ j, j ≤ m ∧ j ∉ l := by
  refine Classical.byContradiction fun hn => ?_
  have hall : ∀ j ∈ List.range (m + 1), j ∈ l := fun j hj => by
    refine Classical.byContradiction fun hj' => hn ⟨j, ?_, hj'⟩
    have := List.mem_range.mp hj; omega
  have := nodup_le (List.nodup_range (n := m + 1)) hall
  rw [List.length_range] at this
  omega

/-- a search: the slot where it ends -/
theorem Tab.search {t : SetTable} {es : Array (Int × Value)} {Z : List (Nat × Int × Value)} (T : Tab t es Z) {h : Int} (cov : ∀ j, j ≤ t.mask → j ∈ seqOf t.mask h) (hz : Z.length ≤ t.mask) (hA : Nat → Int) (hAe : ∀ i z, Z[i]? = some z → hA i = z.2.1) :
    (∃ i z nx, Z[i]? = some z ∧ z.2.1 = h ∧ t.probe hA h (t.probeStart h) = some (.candidate z.1 i nx)) ∨
    ((∀ z ∈ Z, z.2.1 ≠ h) ∧ ∃ j pre post, t.probe hA h (t.probeStart h) = some (.empty j none) ∧ j ≤ t.mask ∧ j ∉ Z.map (·.1) ∧ seqOf t.mask h = pre ++ j :: post ∧ ∀ k ∈ pre, k ∈ Z.map (·.1)) := by
  obtain ⟨j0, hj0, hn0⟩ := free_slot (m := t.mask) (l := Z.map (·.1)) (by rw [List.length_map]; exact hz)
  obtain ⟨pre, j, post, e, hs, hp⟩ := first_stop (fun j => j ∉ Z.map (·.1) ∨ ∃ z ∈ Z, z.1 = j ∧ z.2.1 = h) (seqOf t.mask h) ⟨j0, cov j0 hj0, .inl hn0⟩
  have hw : walkJ t (pre.length + 1 + post.length) (t.probeStart h) = pre ++ j :: post := by
    have q := walk_stg t (SetTable.turns t.mask) (SetTable.bits h % (t.mask + 1)) (SetTable.bits h) none
    have el : (stg t.mask (SetTable.turns t.mask) (SetTable.bits h % (t.mask + 1)) (SetTable.bits h)).length = pre.length + 1 + post.length := by
      show (seqOf t.mask h).length = _
      rw [e, List.length_append, List.length_cons]; omega
    rw [el] at q
    exact q.trans e
  have hlen : pre.length < 10 * SetTable.turns t.mask := by
    have q := stg_len t.mask (SetTable.turns t.mask) (SetTable.bits h % (t.mask + 1)) (SetTable.bits h)
    have el : (stg t.mask (SetTable.turns t.mask) (SetTable.bits h % (t.mask + 1)) (SetTable.bits h)).length = pre.length + 1 + post.length := by
      show (seqOf t.mask h).length = _
      rw [e, List.length_append, List.length_cons]; omega
    omega
  have occ : ∀ k ∈ pre, k ∈ Z.map (·.1) := fun k hk => by
    refine Classical.byContradiction fun q => hp k hk (.inl q)
  have hpre : ∀ k ∈ pre, ∃ i, t.slot k = .live i ∧ hA i ≠ h := fun k hk => by
    obtain ⟨z, hzm, ez⟩ := List.mem_map.mp (occ k hk)
    obtain ⟨i, hi⟩ := List.getElem?_of_mem hzm
    refine ⟨i, ez ▸ T.slot_live hi, fun q => hp k hk (.inr ⟨z, hzm, ez, ?_⟩)⟩
    rw [← hAe i z hi]; exact q
  obtain ⟨g1, g2⟩ := go_path t hA h pre j post (10 * SetTable.turns t.mask) (t.probeStart h) hw hlen rfl hpre
  by_cases hany : ∃ z ∈ Z, z.2.1 = h
  · obtain ⟨z, hzm, ez⟩ := hany
    obtain ⟨pz, qz, ezz, hoz⟩ := T.reach z hzm
    rw [ez] at ezz
    have hjo : j ∈ Z.map (·.1) := by
      have e2 : pre ++ j :: post = pz ++ z.1 :: qz := by rw [← e, ← ezz]
      rcases List.append_eq_append_iff.mp e2 with ⟨a, h1, h2⟩ | ⟨c, h1, h2⟩
      · cases a with
        | nil =>
          simp only [List.nil_append] at h2
          rw [(List.cons.inj h2).1]; exact List.mem_map_of_mem hzm
        | cons x a =>
          rw [List.cons_append] at h2
          have : j ∈ pz := by rw [h1, (List.cons.inj h2).1]; simp
          exact hoz j this
      · cases c with
        | nil =>
          simp only [List.nil_append] at h2
          rw [← (List.cons.inj h2).1]; exact List.mem_map_of_mem hzm
        | cons x c =>
          rw [List.cons_append] at h2
          have : z.1 ∈ pre := by rw [h1, (List.cons.inj h2).1]; simp
          exact absurd (.inr ⟨z, hzm, rfl, ez⟩) (hp z.1 this)
    rcases hs with q | ⟨z', hz', e1, e2⟩
    · exact absurd hjo q
    · obtain ⟨i, hi⟩ := List.getElem?_of_mem hz'
      obtain ⟨nx, en⟩ := g2 i (e1 ▸ T.slot_live hi) (by rw [hAe i z' hi]; exact e2)
      exact .inl ⟨i, z', nx, hi, e2, by rw [e1]; exact en⟩
  · have hno : ∀ z ∈ Z, z.2.1 ≠ h := fun z hz' e' => hany ⟨z, hz', e'⟩
    rcases hs with q | ⟨z', hz', e1, e2⟩
    · have hjm : j ≤ t.mask := seqOf_top (h := h) (by rw [e]; simp)
      exact .inr ⟨hno, j, pre, post, g1 (T.slot_empty q), hjm, q, e, occ⟩
    · exact absurd e2 (hno z' hz')

/-! ### a new entry -/
theorem ris_insert {l : List Nat} {j p : Nat} (h : Ris l) (h1 : ∀ x ∈ l.take p, x < j) (h2 : ∀ x ∈ l.drop p, j < x) : Ris (l.take p ++ j :: l.drop p) := by
  unfold Ris at *
  have h' : (l.take p ++ l.drop p).Pairwise (· < ·) := by rw [List.take_append_drop]; exact h
  rw [List.pairwise_append] at h' ⊢
  refine ⟨h'.1, List.pairwise_cons.mpr ⟨fun x hx => h2 x hx, h'.2.1⟩, fun a ha b hb => ?_⟩
  rcases List.mem_cons.mp hb with q | q
  · rw [q]; exact h1 a ha
  · exact h'.2.2 a ha b q
theorem Tab.put {t : SetTable} {es : Array (Int × Value)} {Z : List (Nat × Int × Value)} (T : Tab t es Z) {j : Nat} {h : Int} {x : Value} {pre post : List Nat} (hj : j ≤ t.mask) (hn : j ∉ Z.map (·.1)) (e : seqOf t.mask h = pre ++ j :: post) (hp : ∀ k ∈ pre, k ∈ Z.map (·.1)) :
    ∃ Z', Tab (t.put j).1 (SetTable.insertAt es (t.put j).2 (h, x)) Z' ∧ Z'.Perm ((j, h, x) :: Z) ∧ (t.put j).1 = { t with place := SetTable.insertAt t.place (SetTable.below t.place j) j } := by
  have e1 : (t.put j).1 = { t with place := SetTable.insertAt t.place (SetTable.below t.place j) j } := by
    unfold SetTable.put
    simp only [T.dum, has_empty]
    rw [if_neg Bool.false_ne_true]
  have e2 : (t.put j).2 = SetTable.below t.place j := rfl
  have r : Ris t.place.toList := by rw [T.place]; exact T.ris
  obtain ⟨b1, b2, b3⟩ := below_spec r j
  generalize hb : SetTable.below t.place j = p at *
  refine ⟨Z.take p ++ (j, h, x) :: Z.drop p, ⟨?_, ?_, ?_, fun z hz => ?_, by rw [e1]; exact T.dum, fun z hz => ?_⟩, ?_, e1⟩
  · rw [e1]
    show (SetTable.insertAt t.place p j).toList = _
    rw [insertAt_toList, T.place, List.map_append, List.map_cons, List.map_take, List.map_drop]
  · rw [e2, insertAt_toList, T.ents, List.map_append, List.map_cons, List.map_take, List.map_drop]
  · rw [List.map_append, List.map_cons, List.map_take, List.map_drop]
    have hlen : t.place.size = (Z.map (·.1)).length := by rw [← T.place]; simp
    refine ris_insert T.ris (fun y hy => ?_) (fun y hy => ?_)
    · obtain ⟨i, hi⟩ := List.getElem?_of_mem hy
      rw [List.getElem?_take] at hi
      split at hi
      · rename_i hlt
        have q := b2 i hlt
        rw [← T.place, Array.getElem?_toList] at hi
        simp only [Array.getD_eq_getD_getElem?, hi, Option.getD_some] at q
        exact q
      · cases hi
    · obtain ⟨i, hi⟩ := List.getElem?_of_mem hy
      rw [List.getElem?_drop] at hi
      have hmem : y ∈ Z.map (·.1) := List.mem_of_getElem? hi
      rw [← T.place, Array.getElem?_toList] at hi
      have hlt : p + i < t.place.size := (Array.getElem?_eq_some_iff.mp hi).1
      have q := b3 (p + i) (by omega) hlt
      simp only [Array.getD_eq_getD_getElem?, hi, Option.getD_some] at q
      have : y ≠ j := fun ey => hn (ey ▸ hmem)
      omega
  · rw [e1]
    show z.1 ≤ t.mask
    rcases List.mem_append.mp hz with q | q
    · exact T.top z (List.mem_of_mem_take q)
    · rcases List.mem_cons.mp q with q | q
      · rw [q]; exact hj
      · exact T.top z (List.mem_of_mem_drop q)
  · rw [e1]
    show ∃ pre post, seqOf t.mask z.2.1 = pre ++ z.1 :: post ∧ _
    have sub : ∀ k ∈ Z.map (·.1), k ∈ (Z.take p ++ (j, h, x) :: Z.drop p).map (·.1) := fun k hk => by
      rw [← List.take_append_drop p Z, List.map_append] at hk
      rw [List.map_append, List.map_cons]
      rcases List.mem_append.mp hk with q | q
      · exact List.mem_append_left _ q
      · exact List.mem_append_right _ (List.mem_cons_of_mem _ q)
    have old : ∀ z ∈ Z, ∃ pre post, seqOf t.mask z.2.1 = pre ++ z.1 :: post ∧ ∀ k ∈ pre, k ∈ (Z.take p ++ (j, h, x) :: Z.drop p).map (·.1) := fun z hz => by
      obtain ⟨a, b, c, d⟩ := T.reach z hz
      exact ⟨a, b, c, fun k hk => sub k (d k hk)⟩
    rcases List.mem_append.mp hz with q | q
    · exact old z (List.mem_of_mem_take q)
    · rcases List.mem_cons.mp q with q | q
      · rw [q]; exact ⟨pre, post, e, fun k hk => sub k (hp k hk)⟩
      · exact old z (List.mem_of_mem_drop q)
  · have q : (Z.take p ++ (j, h, x) :: Z.drop p).Perm ((j, h, x) :: (Z.take p ++ Z.drop p)) := List.perm_middle
    rw [List.take_append_drop] at q
    exact q
end RS

set_option Elab.async false
set_option linter.all false
set_option maxRecDepth 100000
set_option maxHeartbeats 4000000
namespace RS
open PySem

/-! ### a table laid anew -/
theorem free_find (mask : Nat) (owner : Array (Option Nat)) : ∀ (n i pe : Nat),
    SetTable.layClean.free mask owner n i pe = (stg mask n i pe).find? fun j => (owner.getD j (some 0)).isNone
  | 0, _, _ => rfl
  | n + 1, i, pe => by
    show (match (List.range (SetTable.runEnd mask i + 1 - i)).find? fun k => (owner.getD (i + k) (some 0)).isNone with | some k => _ | none => _) = _
    show _ = ((List.range (SetTable.runEnd mask i + 1 - i)).map (i + ·) ++ stg mask n (SetTable.leap mask i pe).1 (SetTable.leap mask i pe).2).find? _
    rw [List.find?_append, List.find?_map, ← free_find mask owner n]
    have ec : ((fun j => (owner.getD j (some 0)).isNone) ∘ fun x => i + x) = fun k => (owner.getD (i + k) (some 0)).isNone := rfl
    rw [ec]
    cases (List.range (SetTable.runEnd mask i + 1 - i)).find? fun k => (owner.getD (i + k) (some 0)).isNone with
    | some k => rfl
    | none => rfl

/-- owner, after the hashes hs -/
structure Own (mask : Nat) (hs : List Int) (owner : Array (Option Nat)) : Prop where
  size : owner.size = mask + 1
  all : ∀ (i : Nat) (h : Int), hs[i]? = some h → ∃ j : Nat, j ≤ mask ∧ owner[j]? = some (some i) ∧ ∃ pre post, seqOf mask h = pre ++ j :: post ∧ ∀ k ∈ pre, ∃ i' : Nat, owner[k]? = some (some i')
  lt : ∀ (j i : Nat), owner[j]? = some (some i) → i < hs.length
  inj : ∀ (j j' i : Nat), owner[j]? = some (some i) → owner[j']? = some (some i) → j = j'

theorem own_nil (mask : Nat) : Own mask [] (Array.replicate (mask + 1) none) := by
  have hno : ∀ (j i : Nat), (Array.replicate (mask + 1) (none : Option Nat))[j]? ≠ some (some i) := fun j i e => by
    rw [Array.getElem?_replicate] at e
    split at e <;> cases e
  exact ⟨by simp, fun i h e => by simp at e, fun j i e => absurd e (hno j i), fun j j' i e => absurd e (hno j i)⟩

theorem own_free {mask : Nat} {hs : List Int} {owner : Array (Option Nat)} (O : Own mask hs owner) (hl : hs.length ≤ mask) : ∃ j, j ≤ mask ∧ owner[j]? = some none := by
  refine Classical.byContradiction fun hn => ?_
  have hall : ∀ j, j ≤ mask → ∃ i, owner[j]? = some (some i) := fun j hj => by
    have hs' : j < owner.size := by rw [O.size]; omega
    cases e : owner[j]? with
    | none => rw [Array.getElem?_eq_none_iff] at e; omega
    | some o =>
      cases o with
      | none => exact absurd ⟨j, hj, e⟩ hn
      | some i => exact ⟨i, rfl⟩
  -- the indices at 0 .. mask are distinct and below hs.length
  have key : ∀ n, n ≤ mask + 1 → ∃ l : List Nat, l.length = n ∧ l.Nodup ∧ (∀ i ∈ l, i < hs.length) ∧ ∀ i ∈ l, ∃ j, j < n ∧ owner[j]? = some (some i) := by
    intro n
    induction n with
    | zero => exact fun _ => ⟨[], rfl, List.nodup_nil, fun _ h => by simp at h, fun _ h => by simp at h⟩
    | succ n ih =>
      intro hn'
      obtain ⟨l, h1, h2, h3, h4⟩ := ih (by omega)
      obtain ⟨i, hi⟩ := hall n (by omega)
      refine ⟨i :: l, by rw [List.length_cons, h1], List.nodup_cons.mpr ⟨fun hm => ?_, h2⟩, fun x hx => ?_, fun x hx => ?_⟩
      · obtain ⟨j, hj, ej⟩ := h4 i hm
        have := O.inj j n i ej hi
        omega
      · rcases List.mem_cons.mp hx with q | q
        · rw [q]; exact O.lt n i hi
        · exact h3 x q
      · rcases List.mem_cons.mp hx with q | q
        · rw [q]; exact ⟨n, by omega, hi⟩
        · obtain ⟨j, hj, ej⟩ := h4 x q
          exact ⟨j, by omega, ej⟩
  obtain ⟨l, h1, h2, h3, _⟩ := key (mask + 1) (Nat.le_refl _)
  have := nodup_le h2 (l2 := List.range hs.length) (fun x hx => List.mem_range.mpr (h3 x hx))
  rw [List.length_range, h1] at this
  omega

theorem own_step {mask : Nat} {hs : List Int} {owner : Array (Option Nat)} {h : Int} (O : Own mask hs owner) (hl : hs.length ≤ mask) (cov : ∀ j, j ≤ mask → j ∈ seqOf mask h) :
    ∃ j, SetTable.layClean.free mask owner (SetTable.turns mask) (SetTable.bits h % (mask + 1)) (SetTable.bits h) = some j ∧ Own mask (hs ++ [h]) (owner.setIfInBounds j (some hs.length)) := by
  obtain ⟨j0, hj0, e0⟩ := own_free O hl
  have none_iff : ∀ j, ((owner.getD j (some 0)).isNone = true) ↔ owner[j]? = some none := fun j => by
    rw [Array.getD_eq_getD_getElem?]
    cases owner[j]? with
    | none => simp
    | some o => cases o <;> simp
  obtain ⟨pre, j, post, e, hs', hp⟩ := first_stop (fun j => owner[j]? = some none) (seqOf mask h) ⟨j0, cov j0 hj0, e0⟩
  have hjm : j ≤ mask := seqOf_top (h := h) (by rw [e]; simp)
  have hjs : j < owner.size := by rw [O.size]; omega
  have hocc : ∀ k ∈ pre, ∃ i', owner[k]? = some (some i') := fun k hk => by
    have hkm : k ≤ mask := seqOf_top (h := h) (by rw [e]; simp [hk])
    cases q : owner[k]? with
    | none =>
      rw [Array.getElem?_eq_none_iff, O.size] at q
      omega
    | some o =>
      cases o with
      | none => exact absurd q (hp k hk)
      | some i => exact ⟨i, rfl⟩
  have hset : ∀ k, (owner.setIfInBounds j (some hs.length))[k]? = if j = k then some (some hs.length) else owner[k]? := fun k => by
    rw [Array.getElem?_setIfInBounds]
    by_cases q : j = k
    · rw [if_pos q, if_pos q, if_pos hjs]
    · rw [if_neg q, if_neg q]
  have keep : ∀ k i', owner[k]? = some (some i') → (owner.setIfInBounds j (some hs.length))[k]? = some (some i') := fun k i' q => by
    rw [hset, if_neg]
    · exact q
    · intro ej; rw [← ej, hs'] at q; cases q
  refine ⟨j, ?_, by simp [O.size], fun i h' ei => ?_, fun k i ei => ?_, fun k k' i e1 e2 => ?_⟩
  · rw [free_find]
    show (seqOf mask h).find? _ = some j
    rw [e, List.find?_append]
    have e1 : pre.find? (fun j => (owner.getD j (some 0)).isNone) = none := by
      rw [List.find?_eq_none]
      intro k hk q
      exact hp k hk ((none_iff k).mp q)
    simp only [e1, Option.none_or, List.find?_cons, (none_iff j).mpr hs']
  · by_cases hi : i < hs.length
    · rw [List.getElem?_append_left hi] at ei
      obtain ⟨j', a1, a2, pr, po, a3, a4⟩ := O.all i h' ei
      exact ⟨j', a1, keep j' i a2, pr, po, a3, fun k hk => (a4 k hk).elim fun i' q => ⟨i', keep k i' q⟩⟩
    · have hi' : i = hs.length := by
        have := (List.getElem?_eq_some_iff.mp ei).1
        simp at this; omega
      subst hi'
      rw [List.getElem?_append_right (Nat.le_refl _), Nat.sub_self] at ei
      have eh : h = h' := by simpa using ei
      subst eh
      exact ⟨j, hjm, by rw [hset, if_pos rfl], pre, post, e, fun k hk => (hocc k hk).elim fun i' q => ⟨i', keep k i' q⟩⟩
  · rw [hset] at ei
    rw [List.length_append, List.length_singleton]
    split at ei
    · cases ei; omega
    · have := O.lt k i ei; omega
  · rw [hset] at e1 e2
    split at e1
    · rename_i q1
      cases e1
      split at e2
      · rename_i q2; rw [← q1, q2]
      · have := O.lt k' _ e2; omega
    · split at e2
      · cases e2
        have := O.lt k _ e1; omega
      · exact O.inj k k' i e1 e2

theorem own_fold {mask : Nat} : ∀ (hs0 hs1 : List Int) (owner : Array (Option Nat)), Own mask hs0 owner → hs0.length + hs1.length ≤ mask + 1 → (∀ h ∈ hs1, ∀ j, j ≤ mask → j ∈ seqOf mask h) →
    ∃ owner', hs1.foldl (fun (acc : Option (Array (Option Nat) × Nat)) h => do
      let (owner, k) ← acc
      let j ← SetTable.layClean.free mask owner (SetTable.turns mask) (SetTable.bits h % (mask + 1)) (SetTable.bits h)
      pure (owner.setIfInBounds j (some k), k + 1)) (some (owner, hs0.length)) = some (owner', (hs0 ++ hs1).length) ∧ Own mask (hs0 ++ hs1) owner'
  | hs0, [], owner, O, _, _ => ⟨owner, by simp, by simpa using O⟩
  | hs0, h :: hs1, owner, O, hl, cov => by
    rw [List.length_cons] at hl
    obtain ⟨j, ej, O'⟩ := own_step (h := h) O (by omega) (cov h List.mem_cons_self)
    obtain ⟨ow, e1, e2⟩ := own_fold (hs0 ++ [h]) hs1 _ O' (by rw [List.length_append, List.length_singleton]; omega) (fun x hx => cov x (List.mem_cons_of_mem _ hx))
    rw [List.append_assoc, List.singleton_append] at e1 e2
    refine ⟨ow, ?_, e2⟩
    rw [List.foldl_cons]
    show List.foldl _ ((SetTable.layClean.free mask owner (SetTable.turns mask) (SetTable.bits h % (mask + 1)) (SetTable.bits h)).bind fun j => some (owner.setIfInBounds j (some hs0.length), hs0.length + 1)) hs1 = _
    rw [ej]
    show List.foldl _ (some (owner.setIfInBounds j (some hs0.length), hs0.length + 1)) hs1 = _
    rw [List.length_append, List.length_singleton] at e1
    exact e1

theorem range_fm {α : Type} : ∀ l : List α, (List.range l.length).filterMap (fun i => l[i]?) = l
  | [] => rfl
  | a :: l => by
    rw [List.length_cons, List.range_succ_eq_map, List.filterMap_cons]
    show a :: List.filterMap _ _ = _
    rw [List.filterMap_map]
    show a :: List.filterMap (fun i => l[i]?) _ = _
    rw [range_fm l]
theorem lay_own {mask : Nat} {hs : List Int} (hl : hs.length ≤ mask + 1) (cov : ∀ h ∈ hs, ∀ j, j ≤ mask → j ∈ seqOf mask h) : ∃ owner, SetTable.layClean mask hs.toArray = some owner ∧ Own mask hs owner := by
  obtain ⟨ow, e1, e2⟩ := own_fold [] hs _ (own_nil mask) (by rw [List.length_nil, Nat.zero_add]; exact hl) cov
  refine ⟨ow, ?_, by simpa using e2⟩
  unfold SetTable.layClean
  rw [List.foldl_toArray']
  · show Option.map (·.1) (hs.foldl _ (some (Array.replicate (mask + 1) none, ([] : List Int).length))) = _
    rw [e1]; rfl
  · simp
/-- the table laid anew for the entries es -/
theorem relaid_tab {t : SetTable} {es : Array (Int × Value)} {wanted mask : Nat} (hm : SetTable.sizeAbove wanted - 1 = mask) (hl : es.size ≤ mask) (cov : ∀ e ∈ es.toList, ∀ j, j ≤ mask → j ∈ seqOf mask e.1) :
    ∃ t' order Z', t.relaid (es.map (·.1)) wanted = some (t', order) ∧ Tab t' (order.filterMap (es[·]?)) Z' ∧ (Z'.map (·.2)).Perm es.toList ∧ t'.mask = mask ∧ t'.led = t.led ∧ t'.plain = t.plain := by
  have ea : es.map (·.1) = (es.toList.map (·.1)).toArray := by rw [← Array.toList_map]
  obtain ⟨ow, e1, O⟩ := lay_own (mask := mask) (hs := es.toList.map (·.1)) (by simp; omega) (fun h hh => by
    obtain ⟨e, he, q⟩ := List.mem_map.mp hh
    rw [← q]; exact cov e he)
  let live : List (Nat × Nat) := (List.range (mask + 1)).filterMap fun j => (ow.getD j none).map (j, ·)
  have hlive : ∀ j i, (j, i) ∈ live ↔ (j ≤ mask ∧ ow[j]? = some (some i)) := fun j i => by
    simp only [live, List.mem_filterMap, List.mem_range]
    constructor
    · rintro ⟨k, hk, q⟩
      rw [Array.getD_eq_getD_getElem?] at q
      cases e : ow[k]? with
      | none => rw [e] at q; cases q
      | some o =>
        rw [e] at q
        cases o with
        | none => cases q
        | some i' =>
          simp only [Option.getD_some, Option.map_some, Option.some.injEq, Prod.mk.injEq] at q
          obtain ⟨q1, q2⟩ := q
          subst q1; subst q2
          exact ⟨by omega, e⟩
    · rintro ⟨hj, e⟩
      refine ⟨j, by omega, ?_⟩
      rw [Array.getD_eq_getD_getElem?, e]; rfl
  have hfst : (live.map (·.1)).Pairwise (· < ·) := by
    have gen : ∀ (l : List Nat), l.Pairwise (· < ·) → ((l.filterMap fun j => (ow.getD j none).map (j, ·)).map (·.1)).Pairwise (· < ·) ∧ ∀ x ∈ ((l.filterMap fun j => (ow.getD j none).map (j, ·)).map (·.1)), x ∈ l := by
      intro l
      induction l with
      | nil => intro _; exact ⟨List.Pairwise.nil, fun x hx => by simp at hx⟩
      | cons a l ih =>
        intro hp
        obtain ⟨h1, h2⟩ := List.pairwise_cons.mp hp
        obtain ⟨i1, i2⟩ := ih h2
        rw [List.filterMap_cons]
        cases q : (ow.getD a none).map (a, ·) with
        | none => exact ⟨i1, fun x hx => List.mem_cons_of_mem _ (i2 x hx)⟩
        | some p =>
          have ep : p.1 = a := by
            cases hq : ow.getD a none with
            | none => rw [hq] at q; cases q
            | some i => rw [hq] at q; cases q; rfl
          show (p.1 :: List.map _ _).Pairwise _ ∧ ∀ x ∈ p.1 :: List.map _ _, x ∈ a :: l
          rw [ep]
          exact ⟨List.pairwise_cons.mpr ⟨fun x hx => h1 x (i2 x hx), i1⟩, fun x hx => by
            rcases List.mem_cons.mp hx with z | z
            · rw [z]; exact List.mem_cons_self
            · exact List.mem_cons_of_mem _ (i2 x z)⟩
    exact (gen _ List.pairwise_lt_range).1
  have hnd : live.Nodup := by
    have := hfst.imp (fun h => Nat.ne_of_lt h)
    exact List.Pairwise.of_map (·.1) (fun a b h e => h (by rw [e])) this
  have hsz : ∀ j i, (j, i) ∈ live → i < es.size := fun j i h => by
    have := O.lt j i ((hlive j i).mp h).2
    simpa using this
  have hsnd : (live.map (·.2)).Perm (List.range es.size) := by
    refine (List.perm_ext_iff_of_nodup ?_ List.nodup_range).mpr fun i => ?_
    · refine List.Pairwise.map _ (fun a b h => ?_) (List.Pairwise.and_mem.mp hnd)
      obtain ⟨ha, hb, hne⟩ := h
      intro e
      have q1 := ((hlive a.1 a.2).mp ha).2
      have q2 := ((hlive b.1 b.2).mp hb).2
      rw [← e] at q2
      exact hne (Prod.ext (O.inj _ _ _ q1 q2) e)
    · rw [List.mem_range, List.mem_map]
      constructor
      · rintro ⟨p, hp, e⟩; rw [← e]; exact hsz p.1 p.2 hp
      · intro hi
        obtain ⟨j, hj, q, _⟩ := O.all i (es[i].1) (by rw [List.getElem?_map, Array.getElem?_toList, Array.getElem?_eq_getElem hi]; rfl)
        exact ⟨(j, i), (hlive j i).mpr ⟨hj, q⟩, rfl⟩
  let Z' : List (Nat × Int × Value) := live.filterMap fun p => (es[p.2]?).map fun e => (p.1, e)
  have hZ1 : Z'.map (·.1) = live.map (·.1) := by
    have gen : ∀ l : List (Nat × Nat), (∀ p ∈ l, p.2 < es.size) → (l.filterMap fun p => (es[p.2]?).map fun e => (p.1, e)).map (·.1) = l.map (·.1) := by
      intro l
      induction l with
      | nil => intro _; rfl
      | cons p l ih =>
        intro h
        rw [List.filterMap_cons, Array.getElem?_eq_getElem (h p List.mem_cons_self)]
        show p.1 :: List.map _ _ = p.1 :: List.map _ _
        rw [ih fun q hq => h q (List.mem_cons_of_mem _ hq)]
    exact gen live fun p hp => hsz p.1 p.2 hp
  have hZ2 : Z'.map (·.2) = (live.map (·.2)).filterMap (es[·]?) := by
    have gen : ∀ l : List (Nat × Nat), (l.filterMap fun p => (es[p.2]?).map fun e => (p.1, e)).map (·.2) = (l.map (·.2)).filterMap (es[·]?) := by
      intro l
      induction l with
      | nil => rfl
      | cons p l ih =>
        rw [List.filterMap_cons, List.map_cons, List.filterMap_cons]
        cases es[p.2]? with
        | none => exact ih
        | some e => show e :: List.map _ _ = e :: _; rw [ih]
    exact gen live
  have hes : (List.range es.size).filterMap (es[·]?) = es.toList := by
    have q := range_fm es.toList
    rw [Array.length_toList] at q
    simpa only [Array.getElem?_toList] using q
  refine ⟨{ mask, place := (live.map (·.1)).toArray, dummies := #[], finger := t.finger, led := t.led, moves := t.movedTo mask, plain := t.plain }, (live.map (·.2)).toArray, Z', ?_, ⟨?_, ?_, ?_, fun z hz => ?_, rfl, fun z hz => ?_⟩, ?_, rfl, rfl, rfl⟩
  · unfold SetTable.relaid SetTable.laid
    rw [hm, ea, e1]
    rfl
  · show (live.map (·.1)) = _; rw [hZ1]
  · rw [hZ2]; simp
  · rw [hZ1]; exact hfst
  · have : z.1 ∈ live.map (·.1) := by rw [← hZ1]; exact List.mem_map_of_mem hz
    obtain ⟨p, hp, q⟩ := List.mem_map.mp this
    rw [← q]; exact ((hlive p.1 p.2).mp hp).1
  · obtain ⟨p, hp, q⟩ := List.mem_filterMap.mp hz
    rw [Array.getElem?_eq_getElem (hsz p.1 p.2 hp)] at q
    have ez : z = (p.1, es[p.2]'(hsz p.1 p.2 hp)) := (Option.some.inj q).symm
    obtain ⟨hj, ho⟩ := (hlive p.1 p.2).mp hp
    obtain ⟨j, a1, a2, pre, post, a3, a4⟩ := O.all p.2 (es[p.2]'(hsz p.1 p.2 hp)).1 (by rw [List.getElem?_map, Array.getElem?_toList, Array.getElem?_eq_getElem (hsz p.1 p.2 hp)]; rfl)
    have ejp : j = p.1 := O.inj _ _ _ a2 ho
    refine ⟨pre, post, by rw [ez]; rw [ejp] at a3; exact a3, fun k hk => ?_⟩
    obtain ⟨i', hi'⟩ := a4 k hk
    rw [hZ1]
    have hkm : k ≤ mask := seqOf_top (h := (es[p.2]'(hsz p.1 p.2 hp)).1) (by rw [a3]; simp [hk])
    exact List.mem_map.mpr ⟨(k, i'), (hlive k i').mpr ⟨hkm, hi'⟩, rfl⟩
  · rw [hZ2, ← hes]
    exact hsnd.filterMap _
end RS

set_option Elab.async false
set_option linter.all false
set_option maxRecDepth 100000
set_option maxHeartbeats 4000000
namespace RS
open PySem
/-- the pairs of places, and their hashes -/
def prs : List (List Int) := ((List.range 36).filter fun n => n / 6 < n % 6).map fun n => [((n / 6 : Nat) : Int), ((n % 6 : Nat) : Int)]
def hsh (ks : List Int) : Int := reduceHash (Builtin.Tuple.tupleHashOf (ks.map hashInt))
theorem hsh_eq {prog : Program} {w : World} (ks : List Int) : tupleKeyHash (intKind prog w) ks = hsh ks := rfl
def covB (mask : Nat) : Bool := prs.all fun ks => (List.range (mask + 1)).all fun j => (seqOf mask (hsh ks)).contains j
theorem cov7 : covB 7 = true := by decide +kernel
theorem cov31 : covB 31 = true := by decide +kernel
theorem inj15 : (prs.map hsh).Nodup := by decide +kernel
theorem prs_len : prs.length = 15 := by decide +kernel
theorem cov_of {mask : Nat} (h : covB mask = true) {ks : List Int} (hk : ks ∈ prs) : ∀ j, j ≤ mask → j ∈ seqOf mask (hsh ks) := fun j hj => by
  have a := List.all_eq_true.mp h ks hk
  have b := List.all_eq_true.mp a j (List.mem_range.mpr (by omega))
  simpa using b
theorem inj_of {l : List (List Int)} (h : (l.map hsh).Nodup) {a b : List Int} (ha : a ∈ l) (hb : b ∈ l) (e : hsh a = hsh b) : a = b := by
  induction l with
  | nil => simp at ha
  | cons c l ih =>
    rw [List.map_cons] at h
    obtain ⟨h1, h2⟩ := List.nodup_cons.mp h
    rcases List.mem_cons.mp ha with qa | qa <;> rcases List.mem_cons.mp hb with qb | qb
    · rw [qa, qb]
    · exact absurd (by rw [← qa, e]; exact List.mem_map_of_mem qb) h1
    · exact absurd (by rw [← qb, ← e]; exact List.mem_map_of_mem qa) h1
    · exact ih h2 qa qb
theorem hsh_inj {a b : List Int} (ha : a ∈ prs) (hb : b ∈ prs) (e : hsh a = hsh b) : a = b := inj_of inj15 ha hb e
theorem prs_mem {a b : Int} (h1 : 0 ≤ a) (h2 : a < b) (h3 : b < 6) : [a, b] ∈ prs := by
  have key : ∀ x : Nat, x < 6 → ∀ y : Nat, y < 6 → x < y → [(x : Int), (y : Int)] ∈ prs := by decide +kernel
  have := key a.toNat (by omega) b.toNat (by omega) (by omega)
  rw [Int.toNat_of_nonneg h1, Int.toNat_of_nonneg (by omega)] at this
  exact this
end RS

set_option Elab.async false
set_option linter.all false
set_option maxRecDepth 100000
set_option maxHeartbeats 4000000
namespace RS
open PySem PyProof.Rows

abbrev KP := List Int × Addr
/-- at a stands a set of the pairs ps (their keys, their tuples) -/
structure SetIs (w : World) (h : Heap) (a : Addr) (ps : List KP) (o : Obj) (es : Array (Int × Value)) (ep : Nat) (t : SetTable) (Z : List (Nat × Int × Value)) : Prop where
  ho : h.get? a = some o
  ex : o.ExactSet
  hd : o.data = .set es ep t
  tab : Tab t es Z
  plain : t.plain = true
  led : t.led = !w.params.followText "set-order"
  big : (t.mask = 7 ∧ Z.length ≤ 4) ∨ (t.mask = 31 ∧ Z.length ≤ 18)
  perm : (Z.map (·.2)).Perm (ps.map fun p => (hsh p.1, Value.ref p.2))
  keys : ∀ p ∈ ps, p.1 ∈ prs
  nd : (ps.map (·.1)).Nodup
def SetAt (w : World) (h : Heap) (a : Addr) (ps : List KP) : Prop := ∃ o es ep t Z, SetIs w h a ps o es ep t Z

theorem SetIs.len {w : World} {h : Heap} {a : Addr} {ps : List KP} {o es ep t Z} (S : SetIs w h a ps o es ep t Z) : Z.length = ps.length := by
  have := S.perm.length_eq
  simpa using this
theorem keys_le {ps : List KP} (hk : ∀ p ∈ ps, p.1 ∈ prs) (hn : (ps.map (·.1)).Nodup) : ps.length ≤ 15 := by
  have := nodup_le hn (l2 := prs) (fun x hx => by obtain ⟨p, hp, e⟩ := List.mem_map.mp hx; rw [← e]; exact hk p hp)
  rw [List.length_map, prs_len] at this
  exact this
theorem SetIs.fits {w : World} {h : Heap} {a : Addr} {ps : List KP} {o es ep t Z} (S : SetIs w h a ps o es ep t Z) : t.fits es.size = true := by
  unfold SetTable.fits
  rw [S.tab.fill, S.tab.size.1, S.tab.size.2]
  rcases S.big with ⟨h1, h2⟩ | ⟨h1, h2⟩ <;> simp [h1] <;> omega
theorem SetIs.cov {w : World} {h : Heap} {a : Addr} {ps : List KP} {o es ep t Z} (S : SetIs w h a ps o es ep t Z) {k : List Int} (hk : k ∈ prs) : ∀ j, j ≤ t.mask → j ∈ seqOf t.mask (hsh k) := by
  rcases S.big with ⟨h1, h2⟩ | ⟨h1, h2⟩ <;> rw [h1]
  · exact cov_of cov7 hk
  · exact cov_of cov31 hk
theorem SetAt.keeps {w : World} {h h' : Heap} {a : Addr} {ps : List KP} (S : SetAt w h a ps) (k : ∀ o, h.get? a = some o → h'.get? a = some o) : SetAt w h' a ps := by
  obtain ⟨o, es, ep, t, Z, S⟩ := S
  exact ⟨o, es, ep, t, Z, k o S.ho, S.ex, S.hd, S.tab, S.plain, S.led, S.big, S.perm, S.keys, S.nd⟩

section
variable {prog : Program} {w : World} {A : Around} {E : Value → Shared → Prop} {s : Shared}
abbrev Tk (prog : Program) (w : World) (h : Heap) (k : List Int) (r : Addr) : Prop := IsTupleKey (intKind prog w) h k r

theorem items_int {k : List Int} {vs : List Value} (h : ItemsAre (intKind prog w) k vs) : ∀ v ∈ vs, ∃ i t, v = .int i t := by
  induction h with
  | nil => intro v hv; simp at hv
  | @cons k v' ks vs h1 _ ih =>
    intro v hv
    rcases List.mem_cons.mp hv with q | q
    · obtain ⟨t, e⟩ := Value.isInt_shape (k := k) (v := v') h1
      exact ⟨k, t, by rw [q, e]⟩
    · exact ih v q
theorem of_class {k : List Int} {r : Addr} {Q : Bool → Shared → Prop} (hk : Tk prog w s.heap k r) (h : Q false s) : wpAny (model prog w) A (ofAClassStatement 8 (.ref r)) Q E s := by
  have hT := hk.typeIs
  obtain ⟨o, items, n, ho, hc, hd, hi⟩ := hk
  unfold ofAClassStatement
  refine wpAny_bind (wpAny_typeOf hT ?_)
  dsimp only
  simp only [beq_self_eq_true, if_true]
  refine wpAny_bind (wpAny_pure ?_)
  simp only [Bool.not_true, Bool.false_eq_true, if_false]
  refine wpAny_bind (wpAny_seqItems ho hd ?_)
  dsimp only
  refine wpAny_bind ?_
  show wpAny _ _ (forIn items _ _) _ _ s
  rw [← Array.forIn_toList]
  refine wpAny_forIn_list _ (fun rest r s' => r.1 = none ∧ s' = s ∧ ∀ v ∈ rest, ∃ i t, v = .int i t) _ ?_ ?_ _ _ ⟨rfl, rfl, items_int hi⟩
  · rintro v rest r s' ⟨hr, rfl, hall⟩
    obtain ⟨i, t, e⟩ := hall v List.mem_cons_self
    subst e
    unfold ofAClassStatement
    refine wpAny_bind (wpAny_pure ?_)
    simp only [Bool.false_eq_true, if_false]
    exact wpAny_pure ⟨rfl, rfl, fun u hu' => hall u (List.mem_cons_of_mem _ hu')⟩
  · rintro ⟨r1, r2⟩ s' ⟨hr, rfl, _⟩
    simp only at hr
    subst hr
    exact wpAny_pure h

theorem hash_by_value {k : List Int} {r : Addr} {Q : Bool → Shared → Prop} (hk : Tk prog w s.heap k r) (h : Q true s) : wpAny (model prog w) A (hashByValue 8 (.ref r)) Q E s := by
  have hT := hk.typeIs
  obtain ⟨o, items, n, ho, hc, hd, hi⟩ := hk
  unfold hashByValue
  refine wpAny_bind (wpAny_specialOf hT F.slot_tuple_hash.lookup ?_)
  dsimp only
  refine wpAny_bind (wpAny_seqItems ho hd ?_)
  refine wpAny_bind ?_
  show wpAny _ _ (forIn items _ _) _ _ s
  rw [← Array.forIn_toList]
  refine wpAny_forIn_list _ (fun rest r s' => r.1 = none ∧ s' = s ∧ ∀ v ∈ rest, ∃ i t, v = .int i t) _ ?_ ?_ _ _ ⟨rfl, rfl, items_int hi⟩
  · rintro v rest r s' ⟨hr, rfl, hall⟩
    obtain ⟨i, t, e⟩ := hall v List.mem_cons_self
    subst e
    unfold hashByValue
    refine wpAny_bind (wpAny_pure ?_)
    simp only [Bool.not_true, Bool.false_eq_true, if_false]
    exact wpAny_pure ⟨rfl, rfl, fun u hu' => hall u (List.mem_cons_of_mem _ hu')⟩
  · rintro ⟨r1, r2⟩ s' ⟨hr, rfl, _⟩
    simp only at hr
    subst hr
    exact wpAny_pure h

/-- what a search among tuples of ints could show: nothing -/
theorem not_seen {k : List Int} {r : Addr} {ys : List Value} {Q : Bool → Shared → Prop} (hk : Tk prog w s.heap k r) (hy : ∀ y ∈ ys, ∃ k' r', y = .ref r' ∧ Tk prog w s.heap k' r') (h : Q false s) : wpAny (model prog w) A (searchCouldBeSeen (.ref r) ys) Q E s := by
  unfold searchCouldBeSeen
  refine wpAny_bind ?_
  refine wpAny_forIn_list _ (fun rest r' s' => r'.1 = none ∧ s' = s ∧ ∀ y ∈ rest, ∃ k' r', y = .ref r' ∧ Tk prog w s.heap k' r') _ ?_ ?_ _ _ ⟨rfl, rfl, hy⟩
  · rintro v rest q s' ⟨hr, rfl, hall⟩
    obtain ⟨k', r', e, hk'⟩ := hall v List.mem_cons_self
    subst e
    have hrest := fun u hu' => hall u (List.mem_cons_of_mem _ hu')
    dsimp only
    by_cases hv : (r == r' || carriedByValue (Value.ref r) && carriedByValue (Value.ref r')) = true
    · rw [if_pos hv]
      exact wpAny_pure ⟨rfl, rfl, hrest⟩
    · rw [if_neg hv]
      refine wpAny_bind (wpAny_eqIsQuiet_tuple hk ?_)
      simp only [Bool.not_true, Bool.false_eq_true, if_false]
      refine wpAny_bind (wpAny_eqIsQuiet_tuple hk' ?_)
      simp only [Bool.not_true, Bool.false_eq_true, if_false]
      refine wpAny_bind (of_class hk ?_)
      simp only [Bool.false_eq_true, if_false]
      refine wpAny_bind (of_class hk' ?_)
      simp only [Bool.false_eq_true, if_false]
      exact wpAny_pure ⟨rfl, rfl, hrest⟩
  · rintro ⟨r1, r2⟩ s' ⟨hr, rfl, _⟩
    simp only at hr
    subst hr
    exact wpAny_pure h
end
end RS

set_option Elab.async false
set_option linter.all false
set_option maxRecDepth 100000
set_option maxHeartbeats 4000000
namespace RS
open PySem PyProof.Rows
section
variable {prog : Program} {w : World} {A : Around} {E : Value → Shared → Prop} {s : Shared}

theorem ent_of {h : Heap} {a : Addr} {ps : List KP} {o es ep t Z} (S : SetIs w h a ps o es ep t Z) {z : Nat × Int × Value} (hz : z ∈ Z) : ∃ p ∈ ps, z.2 = (hsh p.1, Value.ref p.2) := by
  have : z.2 ∈ Z.map (·.2) := List.mem_map_of_mem hz
  obtain ⟨p, hp, e⟩ := List.mem_map.mp (S.perm.mem_iff.mp this)
  exact ⟨p, hp, e.symm⟩
theorem ent_to {h : Heap} {a : Addr} {ps : List KP} {o es ep t Z} (S : SetIs w h a ps o es ep t Z) {p : KP} (hp : p ∈ ps) : ∃ z ∈ Z, z.2 = (hsh p.1, Value.ref p.2) := by
  have : (hsh p.1, Value.ref p.2) ∈ ps.map (fun p => (hsh p.1, Value.ref p.2)) := List.mem_map_of_mem (f := fun p : KP => (hsh p.1, Value.ref p.2)) hp
  obtain ⟨z, hz, e⟩ := List.mem_map.mp (S.perm.mem_iff.mpr this)
  exact ⟨z, hz, e⟩

theorem wp_search {a r : Addr} {k : List Int} {ps : List KP} {o es ep t Z} {Q : SetFound → Shared → Prop} (S : SetIs w s.heap a ps o es ep t Z) (hk : k ∈ prs) (hr : Tk prog w s.heap k r) (hps : ∀ p ∈ ps, Tk prog w s.heap p.1 p.2) (hu : A.units < cLine)
    (h1 : k ∈ ps.map (·.1) → Q (.there none) s)
    (h2 : k ∉ ps.map (·.1) → ∀ j pre post, j ≤ t.mask → j ∉ Z.map (·.1) → seqOf t.mask (hsh k) = pre ++ j :: post → (∀ x ∈ pre, x ∈ Z.map (·.1)) → Q (.free j false) s) :
    wpAny (model prog w) A (setSearch a (.ref r) (hsh k) true) Q E s := by
  have hodd : t.gaveWay = false := by
    unfold SetTable.gaveWay
    rcases S.big with ⟨q, _⟩ | ⟨q, _⟩ <;> rw [q] <;> decide
  have hz : Z.length ≤ t.mask := by rcases S.big with ⟨q, q2⟩ | ⟨q, q2⟩ <;> omega
  unfold setSearch setSearchFrom
  refine wpAny_bind (wpAny_setState_of S.ho S.hd S.fits ?_)
  dsimp only
  rw [hodd]
  simp only [Bool.false_eq_true, if_false]
  generalize hpr : SetTable.probe t _ (hsh k) (Option.getD none (t.probeStart (hsh k))) = pr
  have key : ∀ (hA : Nat → Int) pr, (∀ i z, Z[i]? = some z → hA i = z.2.1) → t.probe hA (hsh k) (t.probeStart (hsh k)) = pr →
      (∃ i z nx, Z[i]? = some z ∧ z.2.1 = hsh k ∧ pr = some (.candidate z.1 i nx)) ∨
      ((∀ z ∈ Z, z.2.1 ≠ hsh k) ∧ ∃ j pre post, pr = some (.empty j none) ∧ j ≤ t.mask ∧ j ∉ Z.map (·.1) ∧ seqOf t.mask (hsh k) = pre ++ j :: post ∧ ∀ x ∈ pre, x ∈ Z.map (·.1)) := fun hA pr hAe e => by
    subst e
    exact S.tab.search (S.cov hk) hz hA hAe
  rcases key _ pr (fun i z hi => by show (Option.map (·.1) es[i]?).getD 0 = _; rw [S.tab.hashAt hi]; rfl) hpr with ⟨i, z, nx, hi, ez, e⟩ | ⟨hno, j, pre, post, e, hj, hn, e2, hp⟩
  · subst e
    dsimp only
    have hzm : z ∈ Z := List.mem_of_getElem? hi
    obtain ⟨p, hp, ep'⟩ := ent_of S hzm
    have ek : p.1 = k := hsh_inj (S.keys p hp) hk (by rw [← ez, ep'])
    have hin : k ∈ ps.map (·.1) := by rw [← ek]; exact List.mem_map_of_mem hp
    have rest : wpAny (model prog w) A (do
        let some (_, y) := es[i]? | unsupported "internal:set-entry"
        let equal ← holding [y] (eqBool y (.ref r))
        let (es', _, t') ← setState a
        if true && equal then return SetFound.there none
        let some same := t'.sameMemory t.moves t.mask | unsupported "set.changed-during-lookup:is-the-new-block-at-the-old-address"
        let still ← match (if same then t'.slot z.1 else .empty) with
          | .live i' => match es'[i']? with
            | some (_, y') => do pure (if ← isSame y' y then some i' else none)
            | none => pure none
          | _ => pure none
        match still with
        | none => rule "set.search.anew"; setSearchFrom a (.ref r) (hsh k) true 99999 none
        | some i' => if equal then return .there (some i') else setSearchFrom a (.ref r) (hsh k) true 99999 (some nx)) Q E s := by
      rw [S.tab.hashAt hi, ep']
      dsimp only
      refine wpAny_bind (wpAny_holding (wpAny_eqBool_tuple hu (hps p hp) hr ?_))
      refine wpAny_bind (wpAny_setState_of S.ho S.hd S.fits ?_)
      dsimp only
      rw [ek, decide_eq_true rfl]
      simp only [Bool.and_self, if_true]
      exact wpAny_pure (h1 hin)
    by_cases hl : (!t.led) = true
    · rw [if_pos hl]
      refine wpAny_bind (not_seen hr (fun y hy => ?_) ?_)
      · obtain ⟨e', he', q⟩ := List.mem_map.mp hy
        have he2 : e' ∈ es.toList := by
          have := Array.mem_filter.mp (Array.mem_toList_iff.mp he')
          exact Array.mem_toList_iff.mpr this.1
        rw [S.tab.ents] at he2
        obtain ⟨z', hz', q2⟩ := List.mem_map.mp he2
        obtain ⟨p', hp', q3⟩ := ent_of S hz'
        exact ⟨p'.1, p'.2, by rw [← q, ← q2, q3], hps p' hp'⟩
      · simp only [Bool.false_eq_true, if_false]
        exact rest
    · rw [if_neg hl]
      exact rest
  · subst e
    dsimp only
    refine wpAny_pure (h2 (fun hin => ?_) j pre post hj hn e2 hp)
    obtain ⟨p, hpm, ek⟩ := List.mem_map.mp hin
    obtain ⟨z, hzm, ez⟩ := ent_to S hpm
    exact hno z hzm (by rw [ez, ← ek])
end
end RS

set_option Elab.async false
set_option linter.all false
set_option maxRecDepth 100000
set_option maxHeartbeats 4000000
namespace RS
open PySem PyProof.Rows
def addP (ps : List KP) (k : List Int) (r : Addr) : List KP := if k ∈ ps.map (·.1) then ps else ps ++ [(k, r)]
section
variable {prog : Program} {w : World} {A : Around} {E : Value → Shared → Prop} {s : Shared}
theorem wp_add {a r : Addr} {k : List Int} {ps : List KP} {Q : Bool → Shared → Prop} (S : SetAt w s.heap a ps) (hk : k ∈ prs) (hr : Tk prog w s.heap k r) (hps : ∀ p ∈ ps, Tk prog w s.heap p.1 p.2) (hu : A.units < cLine)
    (h : ∀ b h', Heap.SameBut a s.heap h' → SetAt w h' a (addP ps k r) → Q b { s with heap := h' }) : wpAny (model prog w) A (setAddHashed a (.ref r) (hsh k)) Q E s := by
  obtain ⟨o, es, ep, t, Z, S⟩ := S
  unfold setAddHashed setAddHashedIn
  refine wpAny_holding (wpAny_bind (wpAny_setState_of S.ho S.hd S.fits ?_))
  dsimp only
  have hsc : byScan (Value.ref r) es = false := rfl
  rw [hsc]
  simp only [Bool.false_eq_true, if_false]
  refine wpAny_bind (wp_search S hk hr hps hu (fun hin => ?_) fun hin j pre post hj hn e hp => ?_)
  · dsimp only
    refine wpAny_pure ?_
    have q := h false s.heap (Heap.SameBut.refl a s.heap) (by unfold addP; rw [if_pos hin]; exact ⟨o, es, ep, t, Z, S⟩)
    cases s; exact q
  · dsimp only
    refine wpAny_bind (wpAny_setState_of S.ho S.hd S.fits ?_)
    dsimp only
    obtain ⟨Z', T', hperm, et⟩ := S.tab.put (x := Value.ref r) hj hn e hp
    have e2 : (t.put j).2 = SetTable.below t.place j := rfl
    have hpl : (t.put j).1.plain = true := by rw [et]; exact S.plain
    have hled : (t.put j).1.led = t.led := by rw [et]
    have hmask : (t.put j).1.mask = t.mask := by rw [et]
    have hperm' : (Z'.map (·.2)).Perm ((ps ++ [(k, r)]).map fun p => (hsh p.1, Value.ref p.2)) := by
      have q1 := hperm.map (·.2)
      refine q1.trans ?_
      rw [List.map_cons, List.map_append]
      refine List.Perm.trans (List.Perm.cons _ S.perm) ?_
      exact (List.perm_append_singleton _ _).symm
    have hkeys : ∀ p ∈ ps ++ [(k, r)], p.1 ∈ prs := fun p hp' => by
      rcases List.mem_append.mp hp' with q | q
      · exact S.keys p q
      · rw [List.mem_singleton] at q; rw [q]; exact hk
    have hnd : ((ps ++ [(k, r)]).map (·.1)).Nodup := by
      rw [List.map_append]
      refine List.nodup_append.mpr ⟨S.nd, by simp, fun x hx y hy => ?_⟩
      simp at hy
      rw [hy]; rintro rfl; exact hin hx
    have hlen15 := keys_le hkeys hnd
    have hZ' : Z'.length = ps.length + 1 := by rw [hperm.length_eq, List.length_cons, S.len]
    have hesz : (SetTable.insertAt es (t.put j).2 (hsh k, Value.ref r)).size = Z'.length := T'.size.2
    have hadd : addP ps k r = ps ++ [(k, r)] := by unfold addP; rw [if_neg hin]
    rw [hadd] at h
    rw [List.length_append, List.length_singleton] at hlen15
    generalize ht1 : (t.put j).1 = t1 at *
    generalize hes1 : SetTable.insertAt es (t.put j).2 (hsh k, Value.ref r) = es1 at *
    have hline : es1.size ≤ sizeLine := by rw [hesz, hZ']; exact Nat.le_trans hlen15 (by decide)
    rw [hpl]
    simp only [if_true]
    refine wpAny_bind (hash_by_value hr ?_)
    simp only [if_true]
    refine wpAny_bind (wpAny_storeSet_of S.ho S.hd ?_ hline)
    have hg : (s.heap.update a (Obj.putSet es1 t1)).get? a = some { o with data := .set es1 (ep + 1) t1 } := by
      have := Heap.get?_update_self (Obj.putSet es1 t1) S.ho (by rw [putSet_of es1 t1 S.hd]; rfl)
      rw [putSet_of es1 t1 S.hd] at this; exact this
    have hsb1 := Heap.SameBut.update s.heap a (Obj.putSet es1 t1)
    have hfill : t1.fill = ps.length + 1 := by rw [T'.fill, hZ']
    by_cases hfull : t1.tooFull = true
    · simp only [hfull, Bool.not_false, Bool.and_self, if_true]
      -- the table grows: from 8 slots to 32
      have hm7 : t.mask = 7 ∧ ps.length = 4 := by
        unfold SetTable.tooFull at hfull
        rw [hfill, hmask] at hfull
        have hf : (ps.length + 1) * 5 ≥ t.mask * 3 := by simpa using hfull
        have hl := S.len
        rcases S.big with ⟨q, q2⟩ | ⟨q, q2⟩
        · rw [q] at hf; exact ⟨q, by omega⟩
        · rw [q] at hf; omega
      have hes0 : es.size = 4 := by rw [S.tab.size.2, S.len, hm7.2]
      have hsz1 : es1.size = 5 := by rw [hesz, hZ', hm7.2]
      have hgr : SetTable.grown (es.size + 1) = 20 := by rw [hes0]; rfl
      rw [hgr]
      unfold setRelay
      have hfits1 : t1.fits es1.size = true := by
        unfold SetTable.fits
        rw [T'.fill, T'.size.1, hesz, hmask, hm7.1, hZ', hm7.2]; rfl
      refine wpAny_bind (wpAny_bind (wpAny_setState_of hg rfl hfits1 ?_))
      dsimp only
      rw [if_neg (by decide)]
      obtain ⟨t2, order, Z2, er, T2, hp2, hm2, hl2, hpl2⟩ := relaid_tab (t := t1) (es := es1) (wanted := 20) (mask := 31) (by rfl) (by rw [hsz1]; decide) (fun e' he' => by
        rw [T'.ents] at he'
        obtain ⟨p, hp', q⟩ := List.mem_map.mp (hperm'.mem_iff.mp he')
        rw [← q]
        exact cov_of cov31 (hkeys p hp'))
      rw [er]
      have hZ2 : Z2.length = 5 := by
        have := hp2.length_eq
        simp at this
        omega
      have hes2 : (order.filterMap (es1[·]?)).size = 5 := by rw [T2.size.2, hZ2]
      have hne : ((order.filterMap (es1[·]?)).size != es1.size) = false := by rw [hes2, hsz1]; rfl
      refine wpAny_bind ?_
      show wpAny _ A (if ((order.filterMap (es1[·]?)).size != es1.size) = true then _ else _) _ _ _
      rw [hne]
      simp only [Bool.false_eq_true, if_false]
      refine wpAny_pure ?_
      refine wpAny_storeSet_of hg rfl ?_ (by rw [hes2]; decide)
      have hg2 : ((s.heap.update a (Obj.putSet es1 t1)).update a (Obj.putSet (order.filterMap (es1[·]?)) t2)).get? a = some { o with data := .set (order.filterMap (es1[·]?)) (ep + 1 + 1) t2 } := by
        have := Heap.get?_update_self (Obj.putSet (order.filterMap (es1[·]?)) t2) hg (by rw [putSet_of _ t2 rfl]; rfl)
        rw [putSet_of _ t2 rfl] at this; exact this
      refine wpAny_pure ?_
      refine h true _ (hsb1.trans (Heap.SameBut.update _ a _)) ⟨_, _, _, t2, Z2, hg2, S.ex, rfl, T2, by rw [hpl2]; exact hpl, by rw [hl2, hled]; exact S.led, .inr ⟨hm2, by omega⟩, ?_, hkeys, hnd⟩
      refine hp2.trans ?_
      rw [T'.ents]; exact hperm'
    · have hf : t1.tooFull = false := by simpa using hfull
      simp only [hf, Bool.and_false, Bool.false_eq_true, if_false]
      refine wpAny_pure ?_
      refine h true _ hsb1 ⟨_, _, _, t1, Z', hg, S.ex, rfl, T', hpl, by rw [hled]; exact S.led, ?_, hperm', hkeys, hnd⟩
      unfold SetTable.tooFull at hf
      rw [hfill, hmask] at hf
      have hf' : ¬ ((ps.length + 1) * 5 ≥ t.mask * 3) := by simpa using hf
      rw [hmask, hZ']
      rcases S.big with ⟨q, q2⟩ | ⟨q, q2⟩
      · rw [q] at hf' ⊢; exact .inl ⟨rfl, by omega⟩
      · rw [q] at hf' ⊢; exact .inr ⟨rfl, by omega⟩
end
end RS

set_option Elab.async false
set_option linter.all false
set_option maxRecDepth 100000
set_option maxHeartbeats 4000000
namespace RS
open PySem PyProof.Rows

def addAll (qs : List KP) : List KP := qs.foldl (fun ps p => addP ps p.1 p.2) []
theorem addAll_snoc (qs : List KP) (p : KP) : addAll (qs ++ [p]) = addP (addAll qs) p.1 p.2 := by unfold addAll; rw [List.foldl_append]; rfl
theorem addP_mem {ps : List KP} {k : List Int} {r : Addr} {p : KP} (h : p ∈ addP ps k r) : p ∈ ps ∨ p = (k, r) := by
  unfold addP at h
  split at h
  · exact .inl h
  · rcases List.mem_append.mp h with q | q
    · exact .inl q
    · exact .inr (List.mem_singleton.mp q)
theorem addAll_mem0 : ∀ {qs ps : List KP} {p : KP}, p ∈ qs.foldl (fun ps p => addP ps p.1 p.2) ps → p ∈ ps ∨ p ∈ qs
  | [], _, _, h => .inl h
  | q :: qs, ps, p, h => by
    rw [List.foldl_cons] at h
    rcases addAll_mem0 h with z | z
    · rcases addP_mem z with z | z
      · exact .inl z
      · exact .inr (by rw [z]; exact List.mem_cons_self)
    · exact .inr (List.mem_cons_of_mem _ z)
theorem addAll_mem {qs : List KP} {p : KP} (h : p ∈ addAll qs) : p ∈ qs := (addAll_mem0 h).elim (fun z => by simp at z) id
theorem addP_keys {ps : List KP} {k k' : List Int} {r : Addr} : k' ∈ (addP ps k r).map (·.1) ↔ k' ∈ ps.map (·.1) ∨ k' = k := by
  unfold addP
  split
  · rename_i h
    constructor
    · exact .inl
    · rintro (z | z)
      · exact z
      · rw [z]; exact h
  · rw [List.map_append, List.mem_append]; simp
theorem addP_nodup {ps : List KP} {k : List Int} {r : Addr} (h : (ps.map (·.1)).Nodup) : ((addP ps k r).map (·.1)).Nodup := by
  unfold addP
  split
  · exact h
  · rename_i hn
    rw [List.map_append]
    refine List.nodup_append.mpr ⟨h, by simp, fun x hx y hy => ?_⟩
    simp at hy
    rw [hy]; rintro rfl; exact hn hx
theorem addAll_nodup0 : ∀ {qs ps : List KP}, (ps.map (·.1)).Nodup → ((qs.foldl (fun ps p => addP ps p.1 p.2) ps).map (·.1)).Nodup
  | [], _, h => h
  | q :: qs, ps, h => by rw [List.foldl_cons]; exact addAll_nodup0 (addP_nodup h)
theorem addAll_nodup {qs : List KP} : ((addAll qs).map (·.1)).Nodup := addAll_nodup0 (ps := []) List.nodup_nil
def ledOf (w : World) : Bool := !w.params.followText "set-order"
theorem setAt_fresh {w : World} {h : Heap} {a : Addr} (e : h.get? a = some { cls := .type "set", dict := none, data := .set #[] 0 (.fresh 0 0 (ledOf w)) }) : SetAt w h a [] :=
  ⟨_, _, _, _, [], e, ⟨rfl, rfl, rfl⟩, rfl, ⟨rfl, rfl, List.Pairwise.nil, fun z hz => by simp at hz, rfl, fun z hz => by simp at hz⟩, rfl, rfl, .inl ⟨rfl, by decide⟩, List.Perm.nil, fun p hp => by simp at hp, List.nodup_nil⟩
section
variable {prog : Program} {w : World} {A : Around} {R : Result → Shared → Prop} {I : Addr} {fp wr : List Addr} {G : Array GenState → Array GenState → Prop} {P : Nat → Value → Prop} {St : Nat → Shared → Prop}

theorem loop_pairs {qs : List KP} (W : WalksS prog w A.in1 I fp wr G qs.length P St) (S : Addr) (hSf : S ∉ fp) (hP : ∀ (i : Nat) v, P i v → ∃ p, qs[i]? = some p ∧ v = .ref p.2) (hk : ∀ p ∈ qs, p.1 ∈ prs) (hnw : ∀ p ∈ qs, p.2 ∉ S :: wr) (hu : A.units + 8 < cLine) :
    ∀ (k i : Nat) (s : Shared), qs.length - i = k → i ≤ qs.length → St i s → (∀ p ∈ qs, Tk prog w s.heap p.1 p.2) → SetAt w s.heap S (addAll (qs.take i)) →
      (∀ s', Moved (S :: wr) G s s' → SetAt w s'.heap S (addAll qs) → R (.ok (.ret .none)) s') →
      codeAny (model prog w) A (.builtin "set.update.loop" ⟨[.ref S, .ref I], []⟩) R s := by
  have hSw : S ∉ wr := fun h => hSf (W.sub _ h)
  have hsub : ∀ b ∈ wr, b ∈ S :: wr := fun b hb => List.mem_cons_of_mem _ hb
  intro k
  induction k with
  | zero =>
    intro i s ek hi hst hT hS hR
    have hin : i = qs.length := by omega
    subst hin
    refine codeAny_builtin F.entry_set_update_loop ?_
    rw [Around.under_plainId F.plain_set_update_loop _]
    show wpAny _ A.in1 (pyNext (.ref I) >>= _) _ _ s
    refine wpAny_bind (W.done s _ _ hst fun s' hm => ?_)
    show wpAny _ A.in1 (ret Value.none) _ _ s'
    rw [List.take_length] at hS
    exact wpAny_pure (hR s' (hm.mono hsub) (hS.keeps fun o e => hm.heap S o hSw e))
  | succ k ih =>
    intro i s ek hi hst hT hS hR
    have hlt : i < qs.length := by omega
    refine codeAny_builtin F.entry_set_update_loop ?_
    rw [Around.under_plainId F.plain_set_update_loop _]
    show wpAny _ A.in1 (pyNext (.ref I) >>= _) _ _ s
    refine wpAny_bind (W.item i s _ _ hlt hst fun v s' hPv hst' hm => ?_)
    obtain ⟨p, hp, rfl⟩ := hP i v hPv
    have hpm : p ∈ qs := List.mem_of_getElem? hp
    have keepT : ∀ {h1 h2 : Heap} {q : KP}, q ∈ qs → (∀ b o, b ∉ S :: wr → h1.get? b = some o → h2.get? b = some o) → Tk prog w h1 q.1 q.2 → Tk prog w h2 q.1 q.2 := fun {h1 h2 q} hq kk t => by
      obtain ⟨o, items, n, ho, r⟩ := t
      exact ⟨o, items, n, kk _ o (hnw q hq) ho, r⟩
    have hT' : ∀ q ∈ qs, Tk prog w s'.heap q.1 q.2 := fun q hq => keepT hq (fun b o hb e => hm.heap b o (fun z => hb (List.mem_cons_of_mem _ z)) e) (hT q hq)
    have hS' : SetAt w s'.heap S (addAll (qs.take i)) := hS.keeps fun o e => hm.heap S o hSw e
    show wpAny _ A.in1 (holding [Value.ref p.2] (setAdd S (.ref p.2)) >>= _) _ _ s'
    refine wpAny_bind (wpAny_holding ?_)
    unfold setAdd
    refine wpAny_holding ?_
    refine wpAny_bind (wpAny_pyHash_tuple (by show A.units + 1 < cLine; omega) (hT' p hpm) ?_)
    rw [hsh_eq]
    refine wp_add (s := { s' with toks := s'.toks + (p.1.length + 1) }) hS' (hk p hpm) (hT' p hpm) (fun q hq => hT' q (List.mem_of_mem_take (addAll_mem hq))) (by show A.units + 1 < cLine; omega) fun b h' hsb hS2 => ?_
    have etk : qs.take (i + 1) = qs.take i ++ [p] := by rw [List.take_add_one, hp]; rfl
    have hS3 : SetAt w h' S (addAll (qs.take (i + 1))) := by rw [etk, addAll_snoc]; exact hS2
    have hkeep : ∀ b o, b ≠ S → s'.heap.get? b = some o → h'.get? b = some o := fun b o hb e => (hsb.2 b hb).trans e
    refine wpAny_pure ⟨plainId_quiet F.plain_set_update_loop _, ih (i + 1) _ (by omega) hlt (W.frame _ s' _ _ hst' (Nat.le_add_right _ _) fun b hb o e => hkeep b o (fun z => hSf (by rw [← z]; exact hb)) e) (fun q hq => keepT hq (fun b o hb e => hkeep b o (fun z => hb (by rw [z]; exact List.mem_cons_self)) e) (hT' q hq)) hS3 fun s'' hm'' hS'' => ?_⟩
    refine hR s'' (Moved.trans W.gtrans ((hm.mono hsub).then_heap (Nat.le_add_right _ _) fun b o hb e => ?_) hm'') hS''
    exact hkeep b o (fun z => hb (by rw [z]; exact List.mem_cons_self)) e
end
section
variable {prog : Program} {w : World} {A : Around} {E : Value → Shared → Prop} {s : Shared}
theorem code_set_led (a : Value) {Q1 : Value → Shared → Prop}
    (h : Q1 (.ref s.heap.objs.size) { s with heap := s.heap.push { cls := .type "set", dict := none, data := .set #[] 0 (.fresh 0 0 (ledOf w)) } }) :
    codeAny (model prog w) A (.call (.builtin "set.__new__") ⟨[.type "set", a], []⟩) (wants Q1 E) s := by
  refine codeAny_of_tree ?_
  show wpAny _ A.in1 (do checkBuiltinCall "set.__new__" ⟨[.type "set", a], []⟩; again (.builtin "set.__new__" ⟨[.type "set", a], []⟩)) _ _ s
  refine wpAny_bind (wpAny_of_eq (F.newCall_set_1 a) (wpAny_pure ⟨plainId_quiet F.plain_set_new _, codeAny_builtin F.entry_set_new ?_⟩))
  rw [Around.under_plainId F.plain_set_new _]
  unfold Builtin.«set.__new__» Builtin.Frozenset.newClass
  have hsub := sub_set_self
  obtain ⟨hp, g, d, tk, os⟩ := s
  dsimp only
  wp_walk
  refine wpAny_askSetting (wpAny_pure ?_)
  dsimp only
  simp only [newObj]
  refine wpAny_bind (wpAny_alloc (wpAny_pure ?_))
  exact wpAny_pure h

namespace F
theorem sub_list_set : isSubtype (.type "list") (.type "set") = pure false := by rw [isSubtype_type]; kernel_rfl
theorem sub_list_frozenset : isSubtype (.type "list") (.type "frozenset") = pure false := by rw [isSubtype_type]; kernel_rfl
end F
theorem set_of_list {l : Addr} {items : Array Value} {qs : List KP} {Q : Value → Shared → Prop}
    (hh : A.handled = none) (hl : s.heap.IsList l items) (hi : items.toList = qs.map fun p => Value.ref p.2) (hk : ∀ p ∈ qs, p.1 ∈ prs) (hT : ∀ p ∈ qs, Tk prog w s.heap p.1 p.2) (hu : A.units + 20 < cLine)
    (h : ∀ (h' : Heap) (tk : Nat), SetAt w h' s.heap.objs.size (addAll qs) → (∀ b o, b < s.heap.objs.size → s.heap.get? b = some o → h'.get? b = some o) → Q (.ref s.heap.objs.size) { s with heap := h', toks := tk }) :
    wpAny (model prog w) A (call (.type "set") [.ref l]) Q E s := by
  obtain ⟨c, tl, hmro⟩ := PySem.F.called_set.mro
  have hmade := PySem.F.called_set.made
  have hsub := PySem.F.called_set.sub
  refine wpAny_call (codeAny_of_tree ?_)
  show wpAny _ _ (callAny (.type "set") _) _ _ _
  refine wpAny_pure ⟨Code.quiet_builtin _ (by decide +kernel), codeAny_builtin PySem.F.entry_type_call ?_⟩
  rw [Around.under_plain (weight_type_call_type "set" [.ref l] []) rfl]
  have h1 := PySem.F.called_set.notType
  have h2 := PySem.F.called_set.canCreate
  have hct := PySem.F.typeCall_set_1 (.ref l)
  repeat (any_goals (first | assumption | wp_step))
  refine codeAny_mono (code_set_led (.ref l) (E := E) (Q1 := fun obj s1 => obj = .ref s.heap.objs.size ∧ s1 = { s with heap := s.heap.push { cls := .type "set", dict := none, data := .set #[] 0 (.fresh 0 0 (ledOf w)) } }) ⟨rfl, rfl⟩) fun r s1 hr => ?_
  cases r with
  | error e => exact hr
  | ok fl =>
    cases fl with
    | ret obj =>
      obtain ⟨rfl, rfl⟩ := hr
      generalize hled : ledOf w = led
      have hS : (s.heap.push { cls := .type "set", dict := none, data := .set #[] 0 (.fresh 0 0 led) }).get? s.heap.objs.size = some { cls := .type "set", dict := none, data := .set #[] 0 (.fresh 0 0 led) } := Heap.get?_push_size _ rfl
      have hTy : Shared.TypeIs { s with heap := s.heap.push { cls := .type "set", dict := none, data := .set #[] 0 (.fresh 0 0 led) } } (.ref s.heap.objs.size) "set" := ⟨_, hS, rfl⟩
      have hli := PySem.F.called_set.init.lookup
      have hbi := PySem.F.called_set.init.bind (.ref s.heap.objs.size)
      repeat (any_goals (first | assumption | wp_step))
      refine codeAny_mono (codeAny_call_builtin (R := wants (fun r s2 => r = .none ∧ ∃ h' tk, s2 = { s with heap := h', toks := tk } ∧ SetAt w h' s.heap.objs.size (addAll qs) ∧
          (∀ b o, b < s.heap.objs.size → s.heap.get? b = some o → h'.get? b = some o)) E) PySem.F.called_set.init.plain PySem.F.entry_set_init (check_set_init_1 hTy ?_)) fun r2 s2 hr2 => ?_
      · obtain ⟨ol, hol, hcl, nl, hdl⟩ := hl
        obtain ⟨ocls, odict, odata, oslots⟩ := ol
        simp only at hcl hdl
        subst hcl; subst hdl
        have hol' : (s.heap.push { cls := .type "set", dict := none, data := .set #[] 0 (.fresh 0 0 led) }).get? l = some { cls := .type "list", dict := odict, data := .seq items nl, slots := oslots } := Heap.get?_push_of_some _ hol
        have hsls := F.sub_list_set
        have hslf := F.sub_list_frozenset
        have hne : (Value.type "list" == Value.type "dict") = false := by decide
        have hl1 : (s.heap.push { cls := .type "set", dict := none, data := .set #[] 0 (.fresh 0 0 led) }).IsList l items := ⟨_, hol', rfl, nl, rfl⟩
        unfold Builtin.«set.__init__» noKeywords Builtin.Frozenset.updateFrom
        generalize hPI : pyIter = PI
        wp_walk
        subst hPI
        refine wpAny_pyIter_list hl1 ?_
        refine wpAny_bind (wpAny_runValue ?_)
        have hlS : l < s.heap.objs.size := Heap.lt_size hol
        have hh3 : A.in1.in1.in1.handled = none := by simp [hh]
        have hneI : l ≠ (s.heap.push { cls := .type "set", dict := none, data := .set #[] 0 (.fresh 0 0 led) }).objs.size := by
          rw [Heap.size_push]; exact Nat.ne_of_lt (Nat.lt_succ_of_lt hlS)
        have hSf : s.heap.objs.size ∉ [(s.heap.push { cls := .type "set", dict := none, data := .set #[] 0 (.fresh 0 0 led) }).objs.size, l] := by
          rw [Heap.size_push]; simp only [List.mem_cons, List.mem_singleton, List.not_mem_nil, or_false, not_or]
          exact ⟨Nat.ne_of_lt (Nat.lt_succ_self _), Nat.ne_of_gt hlS⟩
        have hlen : items.size = qs.length := by rw [← Array.length_toList, hi, List.length_map]
        have hval : ∀ (i : Nat) (v : Value), items[i]? = some v → ∃ p, qs[i]? = some p ∧ v = .ref p.2 := fun i v hv => by
          rw [← Array.getElem?_toList, hi, List.getElem?_map] at hv
          cases e : qs[i]? with
          | none => rw [e] at hv; cases hv
          | some p => rw [e] at hv; exact ⟨p, rfl, (Option.some.inj hv).symm⟩
        have hlow : ∀ p ∈ qs, p.2 < s.heap.objs.size := fun p hp => by
          obtain ⟨o, _, _, ho, _⟩ := hT p hp
          exact Heap.lt_size ho
        have W := (Walks.list (prog := prog) (w := w) hh3 (s.heap.push { cls := .type "set", dict := none, data := .set #[] 0 (.fresh 0 0 led) }).objs.size l hneI items).toS
        rw [hlen] at W
        refine loop_pairs W s.heap.objs.size hSf hval hk (fun p hp z => ?_) (by simp only [Around.in1]; omega) (qs.length - 0) 0 _ (by omega) (Nat.zero_le _)
          ⟨⟨_, Heap.get?_push_size _ rfl, rfl, rfl⟩, ?hL⟩ (fun p hp => ?hT0) ?hS0 ?hR
        case hL =>
          obtain ⟨o, ho, rest⟩ := hl1
          exact ⟨o, Heap.get?_push_of_some _ ho, rest⟩
        case hT0 =>
          obtain ⟨o, its, n, ho, rest⟩ := hT p hp
          exact ⟨o, its, n, Heap.get?_push_of_some _ (Heap.get?_push_of_some _ ho), rest⟩
        case hS0 =>
          refine setAt_fresh ?_
          rw [hled]
          exact Heap.get?_push_of_some _ hS
        case hR =>
          intro s' hm hS'
          obtain ⟨h', g', d', tk', os'⟩ := s'
          have eg : g' = s.gens := hm.gens
          have ed : d' = s.drawn := hm.drawn
          have eo : os' = s.os := hm.os
          subst eg; subst ed; subst eo
          show wpAny _ _ _ _ _ _
          refine wpAny_pure ?_
          show wpAny _ _ (ret Value.none) _ _ _
          refine wpAny_pure ⟨rfl, h', tk', rfl, hS', fun b o hb e => ?_⟩
          have hb1 : b ≠ s.heap.objs.size := Nat.ne_of_lt hb
          have hb2 : b ≠ (s.heap.push { cls := .type "set", dict := none, data := .set #[] 0 (.fresh 0 0 led) }).objs.size := by
            rw [Heap.size_push]; exact Nat.ne_of_lt (Nat.lt_succ_of_lt hb)
          exact hm.heap b o (by simp only [List.mem_cons, List.mem_singleton, List.not_mem_nil, or_false, not_or]; exact ⟨hb1, hb2⟩) (Heap.get?_push_of_some _ (Heap.get?_push_of_some _ e))
        · have := hlow p hp
          rw [Heap.size_push] at z
          simp only [List.mem_cons, List.mem_singleton, List.not_mem_nil, or_false] at z
          rcases z with z | z
          · rw [z] at this; exact Nat.lt_irrefl _ this
          · rw [z] at this; exact absurd (Nat.lt_of_succ_lt this) (Nat.lt_irrefl _)
      · cases r2 with
        | error e => exact hr2
        | ok fl2 =>
          cases fl2 with
          | ret r =>
            obtain ⟨rfl, h', tk, rfl, hS', hk'⟩ := hr2
            repeat (any_goals (first | assumption | wp_step))
            exact h _ _ hS' hk'
          | _ => exact hr2.elim
    | _ => exact hr.elim

namespace F
theorem sub_tuple_set : isSubtype (.type "tuple") (.type "set") = pure false := by rw [isSubtype_type]; kernel_rfl
theorem sub_tuple_frozenset : isSubtype (.type "tuple") (.type "frozenset") = pure false := by rw [isSubtype_type]; kernel_rfl
end F
theorem set_of_tuple {l : Addr} {items : Array Value} {qs : List KP} {Q : Value → Shared → Prop}
    (hh : A.handled = none) (hl : s.heap.IsTuple l items) (hi : items.toList = qs.map fun p => Value.ref p.2) (hk : ∀ p ∈ qs, p.1 ∈ prs) (hT : ∀ p ∈ qs, Tk prog w s.heap p.1 p.2) (hu : A.units + 20 < cLine)
    (h : ∀ (h' : Heap) (tk : Nat), SetAt w h' s.heap.objs.size (addAll qs) → (∀ b o, b < s.heap.objs.size → s.heap.get? b = some o → h'.get? b = some o) → Q (.ref s.heap.objs.size) { s with heap := h', toks := tk }) :
    wpAny (model prog w) A (call (.type "set") [.ref l]) Q E s := by
  obtain ⟨c, tl, hmro⟩ := PySem.F.called_set.mro
  have hmade := PySem.F.called_set.made
  have hsub := PySem.F.called_set.sub
  refine wpAny_call (codeAny_of_tree ?_)
  show wpAny _ _ (callAny (.type "set") _) _ _ _
  refine wpAny_pure ⟨Code.quiet_builtin _ (by decide +kernel), codeAny_builtin PySem.F.entry_type_call ?_⟩
  rw [Around.under_plain (weight_type_call_type "set" [.ref l] []) rfl]
  have h1 := PySem.F.called_set.notType
  have h2 := PySem.F.called_set.canCreate
  have hct := PySem.F.typeCall_set_1 (.ref l)
  repeat (any_goals (first | assumption | wp_step))
  refine codeAny_mono (code_set_led (.ref l) (E := E) (Q1 := fun obj s1 => obj = .ref s.heap.objs.size ∧ s1 = { s with heap := s.heap.push { cls := .type "set", dict := none, data := .set #[] 0 (.fresh 0 0 (ledOf w)) } }) ⟨rfl, rfl⟩) fun r s1 hr => ?_
  cases r with
  | error e => exact hr
  | ok fl =>
    cases fl with
    | ret obj =>
      obtain ⟨rfl, rfl⟩ := hr
      generalize hled : ledOf w = led
      have hS : (s.heap.push { cls := .type "set", dict := none, data := .set #[] 0 (.fresh 0 0 led) }).get? s.heap.objs.size = some { cls := .type "set", dict := none, data := .set #[] 0 (.fresh 0 0 led) } := Heap.get?_push_size _ rfl
      have hTy : Shared.TypeIs { s with heap := s.heap.push { cls := .type "set", dict := none, data := .set #[] 0 (.fresh 0 0 led) } } (.ref s.heap.objs.size) "set" := ⟨_, hS, rfl⟩
      have hli := PySem.F.called_set.init.lookup
      have hbi := PySem.F.called_set.init.bind (.ref s.heap.objs.size)
      repeat (any_goals (first | assumption | wp_step))
      refine codeAny_mono (codeAny_call_builtin (R := wants (fun r s2 => r = .none ∧ ∃ h' tk, s2 = { s with heap := h', toks := tk } ∧ SetAt w h' s.heap.objs.size (addAll qs) ∧
          (∀ b o, b < s.heap.objs.size → s.heap.get? b = some o → h'.get? b = some o)) E) PySem.F.called_set.init.plain PySem.F.entry_set_init (check_set_init_1 hTy ?_)) fun r2 s2 hr2 => ?_
      · obtain ⟨ol, hol, hcl, nl, hdl⟩ := hl
        obtain ⟨ocls, odict, odata, oslots⟩ := ol
        simp only at hcl hdl
        subst hcl; subst hdl
        have hol' : (s.heap.push { cls := .type "set", dict := none, data := .set #[] 0 (.fresh 0 0 led) }).get? l = some { cls := .type "tuple", dict := odict, data := .seq items nl, slots := oslots } := Heap.get?_push_of_some _ hol
        have hsls := F.sub_tuple_set
        have hslf := F.sub_tuple_frozenset
        have hne : (Value.type "tuple" == Value.type "dict") = false := by decide
        have hl1 : (s.heap.push { cls := .type "set", dict := none, data := .set #[] 0 (.fresh 0 0 led) }).IsTuple l items := ⟨_, hol', rfl, nl, rfl⟩
        unfold Builtin.«set.__init__» noKeywords Builtin.Frozenset.updateFrom
        generalize hPI : pyIter = PI
        wp_walk
        subst hPI
        refine wpAny_pyIter_tuple hl1 ?_
        refine wpAny_bind (wpAny_runValue ?_)
        have hlS : l < s.heap.objs.size := Heap.lt_size hol
        have hh3 : A.in1.in1.in1.handled = none := by simp [hh]
        have hneI : l ≠ (s.heap.push { cls := .type "set", dict := none, data := .set #[] 0 (.fresh 0 0 led) }).objs.size := by
          rw [Heap.size_push]; exact Nat.ne_of_lt (Nat.lt_succ_of_lt hlS)
        have hSf : s.heap.objs.size ∉ [(s.heap.push { cls := .type "set", dict := none, data := .set #[] 0 (.fresh 0 0 led) }).objs.size, l] := by
          rw [Heap.size_push]; simp only [List.mem_cons, List.mem_singleton, List.not_mem_nil, or_false, not_or]
          exact ⟨Nat.ne_of_lt (Nat.lt_succ_self _), Nat.ne_of_gt hlS⟩
        have hlen : items.size = qs.length := by rw [← Array.length_toList, hi, List.length_map]
        have hval : ∀ (i : Nat) (v : Value), items[i]? = some v → ∃ p, qs[i]? = some p ∧ v = .ref p.2 := fun i v hv => by
          rw [← Array.getElem?_toList, hi, List.getElem?_map] at hv
          cases e : qs[i]? with
          | none => rw [e] at hv; cases hv
          | some p => rw [e] at hv; exact ⟨p, rfl, (Option.some.inj hv).symm⟩
        have hlow : ∀ p ∈ qs, p.2 < s.heap.objs.size := fun p hp => by
          obtain ⟨o, _, _, ho, _⟩ := hT p hp
          exact Heap.lt_size ho
        have W := (Walks.tuple (prog := prog) (w := w) hh3 (s.heap.push { cls := .type "set", dict := none, data := .set #[] 0 (.fresh 0 0 led) }).objs.size l hneI items).toS
        rw [hlen] at W
        refine loop_pairs W s.heap.objs.size hSf hval hk (fun p hp z => ?_) (by simp only [Around.in1]; omega) (qs.length - 0) 0 _ (by omega) (Nat.zero_le _)
          ⟨⟨_, Heap.get?_push_size _ rfl, rfl, rfl⟩, ?hL⟩ (fun p hp => ?hT0) ?hS0 ?hR
        case hL =>
          obtain ⟨o, ho, rest⟩ := hl1
          exact ⟨o, Heap.get?_push_of_some _ ho, rest⟩
        case hT0 =>
          obtain ⟨o, its, n, ho, rest⟩ := hT p hp
          exact ⟨o, its, n, Heap.get?_push_of_some _ (Heap.get?_push_of_some _ ho), rest⟩
        case hS0 =>
          refine setAt_fresh ?_
          rw [hled]
          exact Heap.get?_push_of_some _ hS
        case hR =>
          intro s' hm hS'
          obtain ⟨h', g', d', tk', os'⟩ := s'
          have eg : g' = s.gens := hm.gens
          have ed : d' = s.drawn := hm.drawn
          have eo : os' = s.os := hm.os
          subst eg; subst ed; subst eo
          show wpAny _ _ _ _ _ _
          refine wpAny_pure ?_
          show wpAny _ _ (ret Value.none) _ _ _
          refine wpAny_pure ⟨rfl, h', tk', rfl, hS', fun b o hb e => ?_⟩
          have hb1 : b ≠ s.heap.objs.size := Nat.ne_of_lt hb
          have hb2 : b ≠ (s.heap.push { cls := .type "set", dict := none, data := .set #[] 0 (.fresh 0 0 led) }).objs.size := by
            rw [Heap.size_push]; exact Nat.ne_of_lt (Nat.lt_succ_of_lt hb)
          exact hm.heap b o (by simp only [List.mem_cons, List.mem_singleton, List.not_mem_nil, or_false, not_or]; exact ⟨hb1, hb2⟩) (Heap.get?_push_of_some _ (Heap.get?_push_of_some _ e))
        · have := hlow p hp
          rw [Heap.size_push] at z
          simp only [List.mem_cons, List.mem_singleton, List.not_mem_nil, or_false] at z
          rcases z with z | z
          · rw [z] at this; exact Nat.lt_irrefl _ this
          · rw [z] at this; exact absurd (Nat.lt_of_succ_lt this) (Nat.lt_irrefl _)
      · cases r2 with
        | error e => exact hr2
        | ok fl2 =>
          cases fl2 with
          | ret r =>
            obtain ⟨rfl, h', tk, rfl, hS', hk'⟩ := hr2
            repeat (any_goals (first | assumption | wp_step))
            exact h _ _ hS' hk'
          | _ => exact hr2.elim
    | _ => exact hr.elim
end
end RS

set_option Elab.async false
set_option linter.all false
set_option maxRecDepth 100000
set_option maxHeartbeats 4000000
/-! Sorting by unlike keys: what the library's tree of questions comes to. -/
namespace RS
open PySem PySem.W PyProof.Rows

structure PGood (n : Nat) (p : Array Nat) : Prop where
  size : p.size = n
  perm : p.toList.Perm (List.range n)
def at' (key : Nat → Int) (p : Array Nat) (k : Nat) : Int := key (p.getD k 0)
def Asc (key : Nat → Int) (p : Array Nat) (m : Nat) : Prop := ∀ i j, i < j → j < m → at' key p i < at' key p j
def Desc (key : Nat → Int) (p : Array Nat) (m : Nat) : Prop := ∀ i j, i < j → j < m → at' key p j < at' key p i

section
variable {n : Nat} {key : Nat → Int} {cmp : Nat → Nat → (Bool → Shared → Prop) → Shared → Prop} {s : Shared} {p : Array Nat}
theorem PGood.lt (g : PGood n p) {k : Nat} (hk : k < n) : p.getD k 0 < n := by
  have hs : k < p.size := by rw [g.size]; exact hk
  have : p[k] ∈ p.toList := by rw [Array.mem_toList_iff]; exact Array.getElem_mem hs
  have := g.perm.mem_iff.mp this
  rw [List.mem_range] at this
  simpa [Array.getD, hs] using this
theorem PGood.inj (g : PGood n p) {k k' : Nat} (hk : k < n) (hk' : k' < n) (e : p.getD k 0 = p.getD k' 0) : k = k' := by
  have hs : k < p.toList.length := by rw [Array.length_toList, g.size]; exact hk
  have hs' : k' < p.toList.length := by rw [Array.length_toList, g.size]; exact hk'
  have nd : p.toList.Nodup := g.perm.nodup_iff.mpr List.nodup_range
  refine (List.getElem_inj (h₀ := hs) (h₁ := hs') nd).mp ?_
  have h1 : k < p.size := by rw [g.size]; exact hk
  have h2 : k' < p.size := by rw [g.size]; exact hk'
  simpa [Array.getD, h1, h2] using e
variable (hkey : ∀ i j, i < n → j < n → key i = key j → i = j) (hc : ∀ i j, i < n → j < n → ∀ C : Bool → Shared → Prop, C (decide (key i < key j)) s → cmp i j C s)
include hkey in
theorem at_ne (g : PGood n p) {k k' : Nat} (hk : k < n) (hk' : k' < n) (h : k ≠ k') : at' key p k ≠ at' key p k' := fun e => h (g.inj hk hk' (hkey _ _ (g.lt hk) (g.lt hk') e))
include hkey hc
theorem asc_wp (g : PGood n p) : ∀ (f m : Nat) (Q : Nat → Shared → Prop), 1 ≤ m → m + f ≤ n → Asc key p m → (∀ m', m ≤ m' → m' ≤ m + f → Asc key p m' → (m' = m + f ∨ at' key p m' < at' key p (m' - 1)) → Q m' s) → (kas_asc p f m).kasWp cmp Q s
  | 0, m, Q, h1, h2, ha, hQ => hQ m (Nat.le_refl _) (Nat.le_refl _) ha (.inl rfl)
  | f + 1, m, Q, h1, h2, ha, hQ => by
    show cmp (p.getD m 0) (p.getD (m - 1) 0) _ s
    refine hc _ _ (g.lt (by omega)) (g.lt (by omega)) _ ?_
    by_cases hlt : key (p.getD m 0) < key (p.getD (m - 1) 0)
    · rw [decide_eq_true hlt]; (show (if true = true then _ else _ : KasT _).kasWp cmp _ s); rw [if_pos rfl]
      exact hQ m (Nat.le_refl _) (by omega) ha (.inr hlt)
    · rw [decide_eq_false hlt]; (show (if false = true then _ else _ : KasT _).kasWp cmp _ s); rw [if_neg Bool.false_ne_true]
      have hne := at_ne hkey g (k := m) (k' := m - 1) (by omega) (by omega) (by omega)
      have hgt : at' key p (m - 1) < at' key p m := by unfold at' at *; omega
      refine asc_wp g f (m + 1) Q (by omega) (by omega) (fun i j hij hj => ?_) (fun m' a b c d => hQ m' (by omega) (by omega) c (d.elim (fun e => .inl (by omega)) .inr))
      by_cases ej : j = m
      · subst ej
        by_cases ei : i = j - 1
        · rw [ei]; exact hgt
        · have := ha i (j - 1) (by omega) (by omega); omega
      · exact ha i j hij (by omega)
theorem desc_wp (g : PGood n p) : ∀ (f m : Nat) (Q : Array Nat × Nat × Nat → Shared → Prop), 1 ≤ m → m + f ≤ n → Desc key p m → (∀ m', m ≤ m' → m' ≤ m + f → Desc key p m' → Q (p, m', 0) s) → (kas_desc f p m 0).kasWp cmp Q s
  | 0, m, Q, h1, h2, ha, hQ => hQ m (Nat.le_refl _) (Nat.le_refl _) ha
  | f + 1, m, Q, h1, h2, ha, hQ => by
    show cmp (p.getD m 0) (p.getD (m - 1) 0) _ s
    refine hc _ _ (g.lt (by omega)) (g.lt (by omega)) _ ?_
    by_cases hlt : key (p.getD m 0) < key (p.getD (m - 1) 0)
    · rw [decide_eq_true hlt]; (show (if true = true then _ else _ : KasT _).kasWp cmp _ s); rw [if_pos rfl, if_neg (by omega)]
      refine desc_wp g f (m + 1) Q (by omega) (by omega) (fun i j hij hj => ?_) (fun m' a b c => hQ m' (by omega) (by omega) c)
      by_cases ej : j = m
      · subst ej
        by_cases ei : i = j - 1
        · rw [ei]; exact hlt
        · have := ha i (j - 1) (by omega) (by omega)
          have : at' key p j < at' key p (j - 1) := hlt
          omega
      · exact ha i j hij (by omega)
    · rw [decide_eq_false hlt]; (show (if false = true then _ else _ : KasT _).kasWp cmp _ s); rw [if_neg Bool.false_ne_true]
      show cmp (p.getD (m - 1) 0) (p.getD m 0) _ s
      refine hc _ _ (g.lt (by omega)) (g.lt (by omega)) _ ?_
      have hne := at_ne hkey g (k := m) (k' := m - 1) (by omega) (by omega) (by omega)
      have hgt : key (p.getD (m - 1) 0) < key (p.getD m 0) := by unfold at' at hne; omega
      rw [decide_eq_true hgt]; (show (if true = true then _ else _ : KasT _).kasWp cmp _ s); rw [if_pos rfl]
      exact hQ m (Nat.le_refl _) (by omega) ha
omit hkey hc in
theorem at_get {p p' : Array Nat} {k k' : Nat} (h : p[k]? = p'[k']?) : at' key p k = at' key p' k' := by
  unfold at'
  rw [Array.getD_eq_getD_getElem?, Array.getD_eq_getD_getElem?, h]
omit hkey hc in
theorem good_perm {p' : Array Nat} (g : PGood n p) (h : p'.Perm p) (hs : p'.size = p.size) : PGood n p' := ⟨hs.trans g.size, (Array.perm_iff_toList_perm.mp h).trans g.perm⟩
omit hkey hc in
theorem rev_asc (g : PGood n p) {m : Nat} (hm : m ≤ n) (hd : Desc key p m) : PGood n (kas_rev p 0 m) ∧ Asc key (kas_rev p 0 m) m := by
  have hs : m ≤ p.size := by rw [g.size]; exact hm
  refine ⟨good_perm g (mirror_perm _ _ _ _) (mirror_size _ _ _ _), fun i j hij hj => ?_⟩
  have ei : at' key (kas_rev p 0 m) i = at' key p (0 + m - 1 - i) := at_get (by unfold kas_rev; rw [getElem?_mirror_all hs, if_pos ⟨Nat.zero_le _, by omega⟩])
  have ej : at' key (kas_rev p 0 m) j = at' key p (0 + m - 1 - j) := at_get (by unfold kas_rev; rw [getElem?_mirror_all hs, if_pos ⟨Nat.zero_le _, by omega⟩])
  rw [ei, ej]
  exact hd _ _ (by omega) (by omega)
theorem tail3_wp (g : PGood n p) {m : Nat} (h1 : 1 ≤ m) (hm : m ≤ n) (hd : Desc key p m) (Q : Nat × Array Nat → Shared → Prop) (hQ : ∀ m' p', PGood n p' → 1 ≤ m' → m' ≤ n → Asc key p' m' → Q (m', p') s) : (kas_tail3 m n p).kasWp cmp Q s := by
  obtain ⟨g', ha⟩ := rev_asc (key := key) g hm hd
  unfold kas_tail3
  rw [KasT.kasWp_bind]
  exact asc_wp hkey hc g' (n - m) m _ h1 (by omega) ha fun m' a b c d => hQ m' _ g' (by omega) (by omega) c
theorem count_wp (g : PGood n p) (h2 : 2 ≤ n) (Q : Nat × Array Nat → Shared → Prop) (hQ : ∀ m' p', PGood n p' → 1 ≤ m' → m' ≤ n → Asc key p' m' → Q (m', p') s) : (kas_count n p).kasWp cmp Q s := by
  unfold kas_count
  rw [KasT.kasWp_bind]
  refine asc_wp hkey hc g (n - 1) 1 _ (Nat.le_refl _) (by omega) (fun i j hij hj => by omega) fun m a b c d => ?_
  by_cases e : m = n
  · rw [if_pos (by simpa using e)]
    exact hQ m p g a (by omega) c
  · rw [if_neg (by simpa using e)]
    by_cases h1 : m > 1
    · rw [if_pos h1]
      show cmp (p.getD 0 0) (p.getD (m - 1) 0) _ s
      refine hc _ _ (g.lt (by omega)) (g.lt (by omega)) _ ?_
      have : at' key p 0 < at' key p (m - 1) := c 0 (m - 1) (by omega) (by omega)
      rw [decide_eq_true (show key (p.getD 0 0) < key (p.getD (m - 1) 0) from this)]; (show (if true = true then _ else _ : KasT _).kasWp cmp _ s); rw [if_pos rfl]
      exact hQ m p g a (by omega) c
    · rw [if_neg h1]
      have em : m = 1 := by omega
      subst em
      unfold kas_descPart
      rw [KasT.kasWp_bind]
      have hlt : at' key p 1 < at' key p 0 := d.elim (fun e' => by omega) id
      refine desc_wp hkey hc g (n - (1 + 1)) (1 + 1) _ (by omega) (by omega) (fun i j hij hj => ?_) fun m' a' b' c' => ?_
      · have ei : i = 0 := by omega
        have ej : j = 1 := by omega
        rw [ei, ej]; exact hlt
      · show (if (0 : Nat) > 0 then _ else _ : KasT (Nat × Array Nat)).kasWp cmp Q s
        rw [if_neg (by omega)]
        exact tail3_wp hkey hc g (by omega) (by omega) c' Q hQ
theorem place_wp (g : PGood n p) {k : Nat} (hk : k < n) (ha : Asc key p k) : ∀ (f l r : Nat) (Q : Nat → Shared → Prop), l ≤ r → r ≤ k → r - l ≤ f → (∀ i, i < l → at' key p i < at' key p k) → (∀ i, r ≤ i → i < k → at' key p k < at' key p i) →
    (∀ l', l' ≤ k → (∀ i, i < l' → at' key p i < at' key p k) → (∀ i, l' ≤ i → i < k → at' key p k < at' key p i) → Q l' s) → (kas_place p k f l r).kasWp cmp Q s
  | 0, l, r, Q, h1, h2, h3, ha1, hb1, hQ => by
    have e : l = r := by omega
    subst e
    exact hQ l h2 ha1 hb1
  | f + 1, l, r, Q, h1, h2, h3, ha1, hb1, hQ => by
    unfold kas_place
    by_cases e : l ≥ r
    · rw [if_pos e]
      have e' : l = r := by omega
      subst e'
      exact hQ l h2 ha1 hb1
    · rw [if_neg e]
      show cmp (p.getD k 0) (p.getD ((l + r) / 2) 0) _ s
      refine hc _ _ (g.lt hk) (g.lt (by omega)) _ ?_
      by_cases hlt : key (p.getD k 0) < key (p.getD ((l + r) / 2) 0)
      · rw [decide_eq_true hlt]; (show (if true = true then _ else _ : KasT _).kasWp cmp _ s); rw [if_pos rfl]
        refine place_wp g hk ha f l ((l + r) / 2) Q (by omega) (by omega) (by omega) ha1 (fun i hi hik => ?_) hQ
        by_cases ei : i = (l + r) / 2
        · rw [ei]; exact hlt
        · have := ha ((l + r) / 2) i (by omega) hik
          have : at' key p k < at' key p ((l + r) / 2) := hlt
          omega
      · rw [decide_eq_false hlt]; (show (if false = true then _ else _ : KasT _).kasWp cmp _ s); rw [if_neg Bool.false_ne_true]
        have hne := at_ne hkey g (k := k) (k' := (l + r) / 2) hk (by omega) (by omega)
        have hgt : at' key p ((l + r) / 2) < at' key p k := by unfold at' at *; omega
        refine place_wp g hk ha f ((l + r) / 2 + 1) r Q (by omega) h2 (by omega) (fun i hi => ?_) hb1 hQ
        by_cases ei : i = (l + r) / 2
        · rw [ei]; exact hgt
        · have := ha i ((l + r) / 2) (by omega) (by omega)
          omega
theorem bin_wp : ∀ (f : Nat) (p : Array Nat) (k : Nat) (Q : Array Nat → Shared → Prop), PGood n p → k + f = n → Asc key p k → (∀ p', PGood n p' → Asc key p' n → Q p' s) → (kas_bin f p k).kasWp cmp Q s
  | 0, p, k, Q, g, hk, ha, hQ => by
    have e : k = n := by omega
    rw [e] at ha
    exact hQ p g ha
  | f + 1, p, k, Q, g, hk, ha, hQ => by
    unfold kas_bin
    rw [KasT.kasWp_bind]
    refine place_wp hkey hc g (by omega) ha k 0 k _ (Nat.zero_le _) (Nat.le_refl _) (by omega) (fun i hi => by omega) (fun i h1 h2 => by omega) fun l hl ha1 hb1 => ?_
    have hs : k < p.size := by rw [g.size]; omega
    refine bin_wp f _ (k + 1) Q (good_perm g (bubble_perm _ _ _) (bubble_size _ _ _)) (by omega) (fun i j hij hj => ?_) hQ
    have hb : ∀ x, at' key (bubble p k (k - l)) x = if x = l then at' key p k else if l < x ∧ x ≤ k then at' key p (x - 1) else at' key p x := fun x => by
      have e := getElem?_bubble hs (k - l) (by omega) x
      have el : k - (k - l) = l := by omega
      rw [el] at e
      by_cases e1 : x = l
      · rw [if_pos e1] at e ⊢; exact at_get e
      · rw [if_neg e1] at e ⊢
        by_cases e2 : l < x ∧ x ≤ k
        · rw [if_pos e2] at e ⊢; exact at_get e
        · rw [if_neg e2] at e ⊢; exact at_get e
    rw [hb i, hb j]
    by_cases i1 : i = l
    · rw [if_pos i1, if_neg (by omega), if_pos ⟨by omega, by omega⟩]
      exact hb1 (j - 1) (by omega) (by omega)
    · rw [if_neg i1]
      by_cases i2 : l < i ∧ i ≤ k
      · rw [if_pos i2, if_neg (by omega), if_pos ⟨by omega, by omega⟩]
        exact ha (i - 1) (j - 1) (by omega) (by omega)
      · rw [if_neg i2]
        have hi : i < l := by omega
        by_cases j1 : j = l
        · rw [if_pos j1]; exact ha1 i hi
        · rw [if_neg j1]
          by_cases j2 : l < j ∧ j ≤ k
          · rw [if_pos j2]
            by_cases ej : i = j - 1
            · omega
            · exact ha i (j - 1) (by omega) (by omega)
          · rw [if_neg j2]; exact ha i j hij (by omega)
theorem sort_wp (h2 : 2 ≤ n) (Q : Array Nat → Shared → Prop) (hQ : ∀ p', PGood n p' → Asc key p' n → Q p' s) : (kas_sort n).kasWp cmp Q s := by
  unfold kas_sort
  rw [KasT.kasWp_bind]
  have g0 : PGood n (List.toArray (List.range n)) := ⟨by simp, by simp⟩
  refine count_wp hkey hc g0 h2 _ fun m p' g h1 hm ha => ?_
  show (if m < n then _ else _ : KasT (Array Nat)).kasWp cmp Q s
  by_cases e : m < n
  · rw [if_pos e]
    have em : max m 1 = m := by omega
    rw [em]
    exact bin_wp hkey hc (n - m) p' m Q g (by omega) ha hQ
  · rw [if_neg e]
    have em : m = n := by omega
    rw [em] at ha
    exact hQ p' g ha
end
end RS

set_option Elab.async false
set_option linter.all false
set_option maxRecDepth 100000
set_option maxHeartbeats 4000000
namespace RS
open PySem PySem.W PyProof.Rows
def enc (k : List Int) : Int := k.getD 0 0 * 6 + k.getD 1 0
theorem prs_shape {k : List Int} (h : k ∈ prs) : ∃ a b : Int, k = [a, b] ∧ 0 ≤ a ∧ a < b ∧ b < 6 := by
  have key : ∀ k ∈ prs, 0 ≤ k.getD 0 0 ∧ k.getD 0 0 < k.getD 1 0 ∧ k.getD 1 0 < 6 ∧ k = [k.getD 0 0, k.getD 1 0] := by decide +kernel
  obtain ⟨h1, h2, h3, h4⟩ := key k h
  exact ⟨_, _, h4, h1, h2, h3⟩
theorem enc_inj {k k' : List Int} (h : k ∈ prs) (h' : k' ∈ prs) (e : enc k = enc k') : k = k' := by
  obtain ⟨a, b, rfl, h1, h2, h3⟩ := prs_shape h
  obtain ⟨c, d, rfl, h4, h5, h6⟩ := prs_shape h'
  have e' : a * 6 + b = c * 6 + d := e
  have : a = c := by omega
  have : b = d := by omega
  subst_vars; rfl
section
variable {prog : Program} {w : World} {A : Around} {E : Value → Shared → Prop} {s : Shared}
theorem tk_two {h : Heap} {a b : Int} {r : Addr} (t : Tk prog w h [a, b] r) : ∃ o n t1 t2, h.get? r = some o ∧ o.cls = .type "tuple" ∧ o.data = .seq #[.int a t1, .int b t2] n := by
  obtain ⟨o, items, n, ho, hc, hd, hi⟩ := t
  cases hi' : items.toList with
  | nil => rw [hi'] at hi; cases hi
  | cons v1 r1 =>
    rw [hi'] at hi
    cases hi with
    | cons h1 t1 =>
      cases t1 with
      | cons h2 t2 =>
        cases t2
        obtain ⟨x1, e1⟩ := Value.isInt_shape (k := a) h1
        obtain ⟨x2, e2⟩ := Value.isInt_shape (k := b) h2
        have e : items = #[.int a x1, .int b x2] := by
          apply Array.toList_inj.mp; rw [hi', e1, e2]
        exact ⟨o, n, x1, x2, ho, hc, by rw [hd, e]⟩
theorem pair_lt {x y : Addr} {k k' : List Int} {Q : Bool → Shared → Prop} (hx : Tk prog w s.heap k x) (hy : Tk prog w s.heap k' y) (hk : k ∈ prs) (hk' : k' ∈ prs) (h : Q (decide (enc k < enc k')) s) :
    wpAny (model prog w) A (keyLt' (tuples' true) (.ref x) (.ref y)) Q E s := by
  obtain ⟨a, b, rfl, h1, h2, h3⟩ := prs_shape hk
  obtain ⟨c, d, rfl, h4, h5, h6⟩ := prs_shape hk'
  obtain ⟨o, n, t1, t2, ho, _, hd⟩ := tk_two hx
  obtain ⟨o', n', t1', t2', ho', _, hd'⟩ := tk_two hy
  have h' : Q (decide (a * 6 + b < c * 6 + d)) s := h
  refine kat_lt ho hd ho' hd' ?_
  show KatLex prog w A true (decide (2 < 2)) Q [(.int a t1, .int c t1'), (.int b t2, .int d t2')] 0 s
  refine kat_cons (wpAny_eqBool_int ?_)
  by_cases e1 : a = c
  · rw [show (a == c) = true by simpa using e1]
    refine kat_yes (kat_cons (wpAny_eqBool_int ?_))
    by_cases e2 : b = d
    · rw [show (b == d) = true by simpa using e2]
      refine kat_yes (kat_nil ?_)
      have : decide (a * 6 + b < c * 6 + d) = decide (2 < 2) := by rw [decide_eq_decide]; omega
      rw [← this]; exact h'
    · rw [show (b == d) = false by simpa using e2]
      refine kat_no ?_
      show wpAny _ A (oneLt' false _ _) Q _ s
      refine kat_one _ _ (lt_int ?_)
      have : decide (a * 6 + b < c * 6 + d) = decide (b < d) := by rw [decide_eq_decide]; omega
      show Q _ s
      rw [← this]; exact h'
  · rw [show (a == c) = false by simpa using e1]
    refine kat_no ?_
    show wpAny _ A (keyLt' oneType' _ _) Q _ s
    refine kat_lt_int ?_
    have : decide (a * 6 + b < c * 6 + d) = decide (a < c) := by rw [decide_eq_decide]; omega
    rw [← this]; exact h'
end
end RS

set_option Elab.async false
set_option linter.all false
set_option maxRecDepth 100000
set_option maxHeartbeats 4000000
namespace RS
open PySem PySem.W PyProof.Rows
/-- the pairs by their keys, rising -/
def Rising (ps : List KP) : Prop := ps.Pairwise fun p q => enc p.1 < enc q.1
def refsOf (ps : List KP) : List Value := ps.map fun p => Value.ref p.2
section
variable {prog : Program} {w : World} {A : Around} {E : Value → Shared → Prop} {s : Shared}
theorem tups_of {h : Heap} : ∀ {ps : List KP}, (∀ p ∈ ps, p.1 ∈ prs) → (∀ p ∈ ps, Tk prog w h p.1 p.2) → ∃ fs, KatTups h (refsOf ps) fs ∧ fs.length = ps.length ∧ ∀ v ∈ fs, ∃ i t, v = Value.int i t
  | [], _, _ => ⟨[], KatTups.nil, rfl, fun v hv => by simp at hv⟩
  | p :: ps, hk, ht => by
    obtain ⟨fs, h1, h2, h3⟩ := tups_of (ps := ps) (fun q hq => hk q (List.mem_cons_of_mem _ hq)) (fun q hq => ht q (List.mem_cons_of_mem _ hq))
    obtain ⟨a, b, e, _⟩ := prs_shape (hk p List.mem_cons_self)
    have t := ht p List.mem_cons_self
    rw [e] at t
    obtain ⟨o, n, t1, t2, ho, hc, hd⟩ := tk_two t
    refine ⟨.int a t1 :: fs, KatTups.cons ho hc hd rfl h1, by rw [List.length_cons, List.length_cons, h2], fun v hv => ?_⟩
    rcases List.mem_cons.mp hv with q | q
    · exact ⟨a, t1, q⟩
    · exact h3 v q
theorem out_of {ps : List KP} (hk : ∀ p ∈ ps, p.1 ∈ prs) (hn : (ps.map (·.1)).Nodup) {p : Array Nat} (g : PGood ps.length p) (ha : Asc (fun i => enc (ps.getD i ([], 0)).1) p ps.length) :
    ∃ out : List KP, (p.toList.map fun i => (refsOf ps).getD i Value.none) = refsOf out ∧ out.Perm ps ∧ Rising out := by
  refine ⟨p.toList.map fun i => ps.getD i ([], 0), ?_, ?_, ?_⟩
  · unfold refsOf
    rw [List.map_map]
    refine List.map_congr_left fun i hi => ?_
    have hi' : i < ps.length := List.mem_range.mp (g.perm.mem_iff.mp hi)
    simp [List.getD_eq_getElem?_getD, hi']
  · refine (g.perm.map _).trans ?_
    have : (List.range ps.length).map (fun i => ps.getD i ([], 0)) = ps := by
      apply List.ext_getElem?
      intro i
      rw [List.getElem?_map]
      by_cases hi : i < ps.length
      · rw [List.getElem?_range hi]; simp [hi]
      · rw [List.getElem?_eq_none (by simpa using hi), List.getElem?_eq_none (by omega)]; rfl
    rw [this]
  · unfold Rising
    rw [List.pairwise_map]
    refine List.pairwise_iff_getElem.mpr fun i j hi hj hij => ?_
    have hi' : i < p.size := by simpa using hi
    have hj' : j < p.size := by simpa using hj
    have := ha i j hij (by rw [← g.size]; exact hj')
    unfold at' at this
    simpa [Array.getD, hi', hj'] using this
theorem sort_pairs {a : Addr} {ps : List KP} {n : Nat} {P : PySem.Fin → Shared → Prop} (ho : s.heap.get? a = some (seqObj "list" (refsOf ps).toArray n)) (hk : ∀ p ∈ ps, p.1 ∈ prs) (hn : (ps.map (·.1)).Nodup) (hT : ∀ p ∈ ps, Tk prog w s.heap p.1 p.2)
    (h : ∀ out : List KP, out.Perm ps → Rising out → P (.done (.ret .none)) { s with heap := sortedHeap s.heap a (refsOf ps) (refsOf out).toArray }) :
    wpAny (model prog w) A (Builtin.«list.sort» ⟨[.ref a], []⟩) P E s := by
  have hlen := keys_le hk hn
  have hvl : (refsOf ps).length = ps.length := by unfold refsOf; rw [List.length_map]
  rw [list_sort_plain]
  have hal : a < s.heap.objs.size := Heap.lt_size ho
  refine wpAny_bind (listItems_at ho rfl ?_)
  refine wpAny_bind (listUpdate_at ho rfl ?_ (by rw [List.size_toArray, hvl]; exact Nat.le_trans hlen (by decide)) (Nat.zero_le _))
  obtain ⟨e1, ho1⟩ : ∃ e1, (s.heap.update a (Obj.mapSeq fun _ => #[])).get? a = some (seqObj "list" #[] e1) := ⟨_, get?_update_seq ho (fun _ => #[])⟩
  refine wpAny_bind (seqEpoch_at ho1 rfl ?_)
  refine wpAny_bind (wpAny_newTuple ?_)
  refine wpAny_bind (wpAny_newList ?_)
  refine wpAny_holding ?_
  have ho6 : (((s.heap.update a (Obj.mapSeq fun _ => #[])).push (seqObj "tuple" (refsOf ps).toArray 0)).push (seqObj "list" #[] 0)).get? a = some (seqObj "list" #[] e1) := by
    rw [Heap.get?_push_ne _ _ _ (by rw [size_push', Heap.size_update]; exact Nat.ne_of_lt (Nat.lt_succ_of_lt hal)), Heap.get?_push_ne _ _ _ (by rw [Heap.size_update]; exact Nat.ne_of_lt hal)]
    exact ho1
  show wpAny (model prog w) A _ P E { s with heap := ((s.heap.update a (Obj.mapSeq fun _ => #[])).push (seqObj "tuple" (refsOf ps).toArray 0)).push (seqObj "list" #[] 0) }
  dsimp only
  have hna : ∀ p ∈ ps, p.2 ≠ a := fun p hp e => by
    obtain ⟨o, items, m, ho', hc', _⟩ := hT p hp
    rw [e, ho] at ho'
    have := Option.some.inj ho'
    subst this
    exact absurd (show Value.type "list" = Value.type "tuple" from hc') (by decide)
  generalize hS : ({ s with heap := ((s.heap.update a (Obj.mapSeq fun _ => #[])).push (seqObj "tuple" (refsOf ps).toArray 0)).push (seqObj "list" #[] 0) } : Shared) = s1
  have eh1 : s1.heap = ((s.heap.update a (Obj.mapSeq fun _ => #[])).push (seqObj "tuple" (refsOf ps).toArray 0)).push (seqObj "list" #[] 0) := by rw [← hS]
  have hT1 : ∀ p ∈ ps, Tk prog w s1.heap p.1 p.2 := fun p hp => by
    obtain ⟨o, items, m, ho', rest⟩ := hT p hp
    refine ⟨o, items, m, ?_, rest⟩
    rw [eh1]
    refine Heap.get?_push_of_some _ (Heap.get?_push_of_some _ ?_)
    rw [Heap.get?_update_ne _ _ _ _ (hna p hp)]
    exact ho'
  rw [← eh1] at ho6
  have hfin : ∀ out : List KP, out.Perm ps → Rising out → P (.done (.ret .none)) { s1 with heap := s1.heap.update a (Obj.mapSeq fun _ => (refsOf out).toArray) } := fun out h1 h2 => by
    have q := h out h1 h2
    rw [← hS]
    exact q
  have hszv : (refsOf ps).toArray.size = ps.length := by rw [List.size_toArray, hvl]
  by_cases h2 : (refsOf ps).toArray.size < 2
  · rw [if_pos h2, if_pos h2]
    refine wpAny_bind (wpAny_pure ?_)
    rw [StateT.run_pure]
    refine wpAny_bind (wpAny_pure ?_)
    dsimp only
    refine wpAny_bind (seqEpoch_at ho6 rfl ?_)
    have eo : (arrOf (SortSt.mk' general' ((refsOf ps).toArray.zip (refsOf ps).toArray) #[] 7 none)).map (·.2) = (refsOf ps).toArray := by
      show (((refsOf ps).toArray.zip (refsOf ps).toArray)).map (·.2) = _
      apply Array.toList_inj.mp
      rw [Array.toList_map, Array.toList_zip]
      exact List.map_snd_zip (Nat.le_refl _)
    rw [eo]
    refine wpAny_bind (listUpdate_at ho6 rfl ?_ (Nat.zero_le _) (by show (refsOf ps).toArray.size ≤ _; rw [hszv]; exact Nat.le_trans hlen (by decide)))
    simp only [bne_self_eq_false, Bool.false_eq_true, if_false]
    refine wpAny_pure (hfin ps (List.Perm.refl _) ?_)
    rw [hszv] at h2
    match ps, h2 with
    | [], _ => exact List.Pairwise.nil
    | [_], _ => exact List.pairwise_singleton _ _
    | _ :: _ :: _, h => rw [List.length_cons, List.length_cons] at h; omega
  · rw [if_neg h2, if_neg h2]
    rw [hszv] at h2
    obtain ⟨fs, k1, k2, k3⟩ := tups_of hk hT1
    refine wpAny_bind (kat_kind (T := Value.type "int") k1 (by omega) (fun v hv => ?_) (by rfl) ?_)
    · obtain ⟨i, t, e⟩ := k3 v hv
      rw [e]; exact .now
    · have et : (Value.type "int" != Value.type "tuple") = true := by decide
      rw [et]
      refine wpAny_bind (wpAny_mono (kat_run (ks := refsOf ps) (vs := refsOf ps) (Q := fun st' s' => s' = s1 ∧ failedOf st' = none ∧ ∃ out : List KP, out.Perm ps ∧ Rising out ∧ (arrOf st').map (·.2) = (refsOf out).toArray)
        (G := fun p s' => s' = s1 ∧ ∃ out : List KP, (p.toList.map fun i => (refsOf ps).getD i Value.none) = refsOf out ∧ out.Perm ps ∧ Rising out) rfl (by rw [hvl]; omega) (by rw [hvl]; omega) ?_ ?_) ?_ fun _ _ e => e)
      · rintro p st' s' hp har hf ⟨e, out, o1, o2, o3⟩
        exact ⟨e, hf, out, o2, o3, by rw [kat_snds rfl har, o1]⟩
      · rw [hvl]
        refine sort_wp (key := fun i => enc (ps.getD i ([], 0)).1) (fun i j hi hj e => ?_) (fun i j hi hj C hC => ?_) (by omega) _ (fun p g ha => ⟨rfl, out_of hk hn g ha⟩)
        · have hi' : ps.getD i ([], 0) = ps[i] := by simp [List.getD_eq_getElem?_getD, hi]
          have hj' : ps.getD j ([], 0) = ps[j] := by simp [List.getD_eq_getElem?_getD, hj]
          simp only [hi', hj'] at e
          have e2 := enc_inj (hk _ (List.getElem_mem hi)) (hk _ (List.getElem_mem hj)) e
          have hil : i < (ps.map (·.1)).length := by rw [List.length_map]; exact hi
          have hjl : j < (ps.map (·.1)).length := by rw [List.length_map]; exact hj
          exact (List.getElem_inj (h₀ := hil) (h₁ := hjl) hn).mp (by simpa using e2)
        · unfold kas_ask
          have gi : (refsOf ps).getD i Value.none = .ref ps[i].2 := by unfold refsOf; simp [List.getD_eq_getElem?_getD, hi]
          have gj : (refsOf ps).getD j Value.none = .ref ps[j].2 := by unfold refsOf; simp [List.getD_eq_getElem?_getD, hj]
          have hi' : ps.getD i ([], 0) = ps[i] := by simp [List.getD_eq_getElem?_getD, hi]
          have hj' : ps.getD j ([], 0) = ps[j] := by simp [List.getD_eq_getElem?_getD, hj]
          rw [gi, gj]
          simp only [hi', hj'] at hC
          exact pair_lt (hT1 _ (List.getElem_mem hi)) (hT1 _ (List.getElem_mem hj)) (hk _ (List.getElem_mem hi)) (hk _ (List.getElem_mem hj)) hC
      · rintro ⟨⟨⟩, st'⟩ s' ⟨rfl, hf, out, o1, o2, o3⟩
        dsimp only
        refine wpAny_bind (seqEpoch_at ho6 rfl ?_)
        rw [o3]
        refine wpAny_bind (listUpdate_at ho6 rfl ?_ (Nat.zero_le _) (by show (refsOf out).toArray.size ≤ _; rw [List.size_toArray]; unfold refsOf; rw [List.length_map, o1.length_eq]; exact Nat.le_trans hlen (by decide)))
        rw [hf]
        simp only [bne_self_eq_false, Bool.false_eq_true, if_false]
        exact wpAny_pure (hfin out o1 o2)
end
end RS

set_option Elab.async false
set_option linter.all false
set_option maxRecDepth 100000
set_option maxHeartbeats 4000000
namespace RS
open PySem PySem.W PyProof.Rows
namespace Fx
theorem slot_setiter_next : Slot "set_iterator" "__next__" "set_iterator.__next__" :=
  .of (owner := "set_iterator") (n := "__next__") (by rw [typeLookup_type, builtinLookup_eq_fast]; kernel_rfl) (by decide +kernel) (by decide +kernel) (by decide +kernel)
    (by first | exact .inl (by decide +kernel) | exact .inr (by decide +kernel)) (by rw [isSubtype_type]; kernel_rfl)
theorem entry_setiter_next : entryFor table "set_iterator.__next__" = some Builtin.«set_iterator.__next__» := entryFor_of_fast (by kernel_rfl)
theorem args_setiter_next (a : Value) : argsOk "set_iterator.__next__" ⟨[a], []⟩ := by unfold argsOk; kernel_rfl
theorem entry_set_iter : entryFor table "set.__iter__" = some Builtin.«frozenset.__iter__» :=
  entryFor_alias (id' := "frozenset.__iter__") (by kernel_rfl) rfl (by decide +kernel) (by kernel_rfl)
end Fx
def IsSetIter (h : Heap) (I S : Addr) (i n ep slot : Nat) : Prop := h.get? I = some { cls := .type "set_iterator", dict := none, data := .fields #[.int (slot : Int) 0, .int (i : Int) 0, .ref S, .int (n : Int) 0, .int (ep : Int) 0], slots := #[] }
def ordOf (w : World) (S : Addr) (ep : Nat) (es : Array (Int × Value)) : List (Int × Value) := if w.params.followText "set-order" then (pickOrder (w.params.setOrder S ep) es).toList else es.toList
def slotAt (w : World) (Z : List (Nat × Int × Value)) (i : Nat) : Nat := if w.params.followText "set-order" then 0 else if i = 0 then 0 else (Z.getD (i - 1) (0, 0, .none)).1 + 1

theorem pick_perm {α : Type} (next : Nat → Nat) : ∀ (fuel k : Nat) (left : List α) (out : Array α), left.length = fuel → (pickOrder.go next fuel k left out).toList.Perm (out.toList ++ left)
  | 0, k, left, out, h => by
    have : left = [] := List.length_eq_zero_iff.mp h
    subst this
    show out.toList.Perm (out.toList ++ [])
    rw [List.append_nil]
  | fuel + 1, k, left, out, h => by
    have hlt : next k % left.length < left.length := Nat.mod_lt _ (by omega)
    show (match left[next k % left.length]? with | some x => _ | none => _ : Array α).toList.Perm _
    rw [List.getElem?_eq_getElem hlt]
    show (pickOrder.go next fuel (k + 1) (left.eraseIdx (next k % left.length)) (out.push left[next k % left.length])).toList.Perm _
    refine (pick_perm next fuel (k + 1) _ _ (by rw [List.length_eraseIdx_of_lt hlt]; omega)).trans ?_
    rw [Array.toList_push, List.append_assoc]
    refine List.Perm.append_left _ ?_
    rw [List.singleton_append, List.eraseIdx_eq_take_drop_succ]
    have q : (left.take (next k % left.length) ++ left[next k % left.length] :: left.drop (next k % left.length + 1)) = left := by
      rw [List.getElem_cons_drop]; exact List.take_append_drop _ _
    have q2 := (List.perm_middle (a := left[next k % left.length]) (l₁ := left.take (next k % left.length)) (l₂ := left.drop (next k % left.length + 1))).symm
    rw [q] at q2
    exact q2
theorem ord_perm {w : World} {S : Addr} {ep : Nat} {es : Array (Int × Value)} : (ordOf w S ep es).Perm es.toList := by
  unfold ordOf
  split
  · have := pick_perm (w.params.setOrder S ep) es.size 0 es.toList #[] (by simp)
    simpa [pickOrder] using this
  · exact List.Perm.refl _
theorem below_at {t : SetTable} {es : Array (Int × Value)} {Z : List (Nat × Int × Value)} (T : Tab t es Z) {w : World} (hb : w.params.followText "set-order" = false) {i : Nat} (hi : i ≤ Z.length) : SetTable.below t.place (slotAt w Z i) = i := by
  have r : Ris t.place.toList := by rw [T.place]; exact T.ris
  obtain ⟨b1, b2, b3⟩ := below_spec r (slotAt w Z i)
  have hsz := T.size.1
  have gz : ∀ k, k < Z.length → t.place.getD k (slotAt w Z i) = (Z.getD k (0, 0, .none)).1 := fun k hk => by
    have e : t.place[k]? = some (Z[k]).1 := by rw [← Array.getElem?_toList, T.place, List.getElem?_map, List.getElem?_eq_getElem hk]; rfl
    rw [Array.getD_eq_getD_getElem?, e, List.getD_eq_getElem?_getD, List.getElem?_eq_getElem hk]; rfl
  have hris : ∀ a b, a < b → b < Z.length → (Z.getD a (0, 0, .none)).1 < (Z.getD b (0, 0, .none)).1 := fun a b hab hbz => by
    rw [← gz a (by omega), ← gz b hbz]
    exact ris_get r _ a b hab (by omega)
  have hs : slotAt w Z i = if i = 0 then 0 else (Z.getD (i - 1) (0, 0, .none)).1 + 1 := by
    unfold slotAt; rw [hb, if_neg Bool.false_ne_true]
  by_cases h0 : i = 0
  · rw [if_pos h0] at hs
    rw [hs] at b2 ⊢
    by_cases hz : SetTable.below t.place 0 = 0
    · rw [hz, h0]
    · have := b2 0 (by omega); omega
  · rw [if_neg h0] at hs
    have hlo : ¬ SetTable.below t.place (slotAt w Z i) ≤ i - 1 := fun hle => by
      have := b3 (i - 1) hle (by omega)
      rw [gz _ (by omega)] at this
      omega
    have hhi : ¬ i < SetTable.below t.place (slotAt w Z i) := fun hlt => by
      have := b2 i hlt
      have hiz : i < Z.length := by omega
      rw [gz i hiz] at this
      have := hris (i - 1) i (by omega) hiz
      omega
    omega
section
variable {prog : Program} {w : World} {A : Around} {E : Value → Shared → Prop} {s : Shared}
theorem set_next {a : Addr} {ps : List KP} {o es ep t Z} {i : Nat} {Q : Option (Value × Nat) → Shared → Prop} (S : SetIs w s.heap a ps o es ep t Z) (hi : i ≤ Z.length)
    (h : Q (((ordOf w a ep es)[i]?).map fun e => (e.2, slotAt w Z (i + 1))) s) : wpAny (model prog w) A (setNext a (slotAt w Z i) i ep) Q E s := by
  unfold setNext
  refine wpAny_bind (wpAny_setState_of S.ho S.hd S.fits ?_)
  dsimp only
  unfold setsByText
  refine wpAny_bind (wpAny_bind (wpAny_askSetting (wpAny_pure ?_)))
  cases hb : w.params.followText "set-order" with
  | true =>
    have e1 : ordOf w a ep es = (pickOrder (w.params.setOrder a ep) es).toList := by unfold ordOf; rw [hb, if_pos rfl]
    have e2 : ∀ j, slotAt w Z j = 0 := fun j => by unfold slotAt; rw [hb, if_pos rfl]
    rw [e1, e2] at h
    show wpAny _ _ (if (w.params.followText "set-order") = true then _ else _) _ _ _
    rw [hb, if_pos rfl]
    rw [if_neg (by simp)]
    refine wpAny_bind ?_
    unfold setWalk
    refine wpAny_bind (wpAny_setState_of S.ho S.hd S.fits ?_)
    dsimp only
    unfold setsByText
    refine wpAny_bind (wpAny_bind (wpAny_askSetting (wpAny_pure ?_)))
    show wpAny _ _ (if (w.params.followText "set-order") = true then _ else _) _ _ _
    rw [hb, if_pos rfl]
    refine wpAny_bind (wpAny_askSetting (wpAny_pure (wpAny_pure ?_)))
    rw [e2, ← Array.getElem?_toList]
    exact h
  | false =>
    have e1 : ordOf w a ep es = es.toList := by unfold ordOf; rw [hb, if_neg Bool.false_ne_true]
    have hled : t.led = true := by rw [S.led, hb]; rfl
    show wpAny _ _ (if (w.params.followText "set-order") = true then _ else _) _ _ _
    rw [hb, if_neg Bool.false_ne_true]
    have hdr : (!t.plain && decide (es.size > 1)) = false := by rw [S.plain]; rfl
    show wpAny _ _ (if (!t.plain && decide (es.size > 1)) = true then _ else _) _ _ _
    rw [hdr, if_neg Bool.false_ne_true]
    refine wpAny_bind ?_
    show wpAny _ _ (if (!t.led && !es.isEmpty) = true then _ else _) _ _ _
    rw [hled]
    simp only [Bool.not_true, Bool.false_and, Bool.false_eq_true, if_false]
    refine wpAny_pure (wpAny_pure ?_)
    rw [below_at S.tab hb hi]
    rw [e1, Array.getElem?_toList] at h
    by_cases hlt : i < Z.length
    · have ez : Z[i]? = some Z[i] := List.getElem?_eq_getElem hlt
      have ee := S.tab.hashAt ez
      have ep' : t.place[i]? = some (Z[i]).1 := by rw [← Array.getElem?_toList, S.tab.place, List.getElem?_map, ez]; rfl
      rw [ee, ep']
      rw [ee] at h
      have es' : slotAt w Z (i + 1) = (Z[i]).1 + 1 := by
        unfold slotAt
        rw [hb, if_neg Bool.false_ne_true, if_neg (by omega), Nat.add_sub_cancel, List.getD_eq_getElem?_getD, ez]; rfl
      rw [es'] at h
      exact h
    · have : es[i]? = none := by rw [Array.getElem?_eq_none_iff, S.tab.size.2]; omega
      rw [this]
      rw [this] at h
      exact h
end
end RS

set_option Elab.async false
set_option linter.all false
set_option maxRecDepth 100000
set_option maxHeartbeats 4000000
namespace RS
open PySem PySem.W PyProof.Rows
section
variable {prog : Program} {w : World} {A : Around} {E : Value → Shared → Prop} {s : Shared}
theorem IsSetIter.typeIs {I S : Addr} {i n ep slot : Nat} (h : IsSetIter s.heap I S i n ep slot) : s.TypeIs (.ref I) "set_iterator" := ⟨_, h, rfl⟩
theorem set_typeIs {a : Addr} {ps : List KP} {o es ep t Z} (S : SetIs w s.heap a ps o es ep t Z) : s.TypeIs (.ref a) "set" := ⟨o, S.ho, S.ex.1⟩
theorem set_iter {a : Addr} {ps : List KP} {o es ep t Z} {Q : Value → Shared → Prop} (S : SetIs w s.heap a ps o es ep t Z)
    (hQ : Q (.ref s.heap.objs.size) { s with heap := s.heap.push { cls := .type "set_iterator", data := .fields #[.int ((0 : Nat) : Int) 0, .int ((0 : Nat) : Int) 0, .ref a, .int (Z.length : Int) 0, .int (ep : Int) 0] } }) :
    wpAny (model prog w) A (pyIter (.ref a)) Q E s := by
  refine wpAny_pyIter_slot (set_typeIs S) PySem.F.slot_set_iter (wpAny_call_entry PySem.F.slot_set_iter (set_typeIs S) Fx.entry_set_iter ?_ (PySem.F.args_set_iter_1 _))
  unfold Builtin.«frozenset.__iter__» Builtin.Frozenset.sizeOf
  refine wpAny_bind (m := Builtin.Frozenset.slot0 "__iter__" _) (wpAny_of_eq (a := a) rfl ?_)
  refine wpAny_bind (wpAny_bind (wpAny_setEntries_of S.ho S.hd S.fits (wpAny_pure ?_)))
  unfold setDrawn
  refine wpAny_bind (wpAny_bind (wpAny_setState_of S.ho S.hd S.fits ?_))
  dsimp only
  unfold setsByText
  refine wpAny_bind (wpAny_bind (wpAny_askSetting (wpAny_pure (wpAny_pure ?_))))
  have hdr : (!w.params.followText "set-order" && (!t.plain && decide (es.size > 1))) = false := by rw [S.plain]; simp
  show wpAny _ _ (if (!w.params.followText "set-order" && (!t.plain && decide (es.size > 1))) = true then _ else _) _ _ _
  rw [hdr, if_neg Bool.false_ne_true]
  refine wpAny_bind (wpAny_pure ?_)
  refine wpAny_bind (wpAny_setEpoch_of S.ho S.hd S.fits ?_)
  refine wpAny_bind (wpAny_newObj_type (wpAny_pure ⟨_, rfl, "set_iterator", _, ⟨_, Heap.get?_push_size _ rfl, rfl⟩, Fx.slot_setiter_next.lookup, ?_⟩))
  rw [S.tab.size.2]
  exact hQ

theorem set_item {I a : Addr} {ps : List KP} {o es ep t Z} {i : Nat} {v : Int × Value} {Q : Option Value → Shared → Prop} (S : SetIs w s.heap a ps o es ep t Z) (hit : IsSetIter s.heap I a i Z.length ep (slotAt w Z i)) (hv : (ordOf w a ep es)[i]? = some v)
    (hQ : ∀ h', IsSetIter h' I a (i + 1) Z.length ep (slotAt w Z (i + 1)) → Heap.SameBut I s.heap h' → Q (some v.2) { s with heap := h' }) : wpAny (model prog w) A (pyNext (.ref I)) Q E s := by
  have hT := hit.typeIs
  have hoi := hit
  unfold IsSetIter at hoi
  have hil : i < Z.length := by
    have := (List.getElem?_eq_some_iff.mp hv).1
    rw [ord_perm.length_eq, Array.length_toList, S.tab.size.2] at this
    exact this
  unfold pyNext
  refine wpAny_bind (wpAny_attempt (wpAny_callSpecial?_slot (name := Str.ofString "__next__") hT Fx.slot_setiter_next (wpAny_call_entry Fx.slot_setiter_next hT Fx.entry_setiter_next ?_ (Fx.args_setiter_next _))))
  unfold Builtin.«set_iterator.__next__»
  refine wpAny_bind (m := slotArgs "__next__" 0 _) (wpAny_of_eq (a := (.ref I, [])) rfl ?_)
  dsimp only
  unfold fieldsOf
  refine wpAny_bind (wpAny_bind (wpAny_load hoi ?_))
  refine wpAny_pure ?_
  refine wpAny_bind (wpAny_setEntries_of S.ho S.hd S.fits ?_)
  rw [S.tab.size.2]
  simp only [bne_self_eq_false, Bool.false_eq_true, if_false, Int.toNat_natCast]
  refine wpAny_bind (set_next S (Nat.le_of_lt hil) ?_)
  rw [hv]
  dsimp only [Option.map_some]
  refine wpAny_bind (wpAny_setField_rec hoi (by simp) fun h1 e1 sb1 => ?_)
  refine wpAny_bind (wpAny_setField_rec (s := { s with heap := h1 }) e1 (by simp) fun h2 e2 sb2 => ?_)
  refine wpAny_pure ⟨v.2, rfl, wpAny_pure (hQ h2 ?_ (sb1.trans sb2))⟩
  unfold IsSetIter
  rw [e2]
  simp [rawInt]
theorem set_end {I a : Addr} {ps : List KP} {o es ep t Z} {Q : Option Value → Shared → Prop} (hh : A.handled = none) (S : SetIs w s.heap a ps o es ep t Z) (hit : IsSetIter s.heap I a Z.length Z.length ep (slotAt w Z Z.length))
    (hQ : ∀ h', Heap.ExtBut I s.heap h' → Q none { s with heap := h' }) : wpAny (model prog w) A (pyNext (.ref I)) Q E s := by
  have hT := hit.typeIs
  have hoi := hit
  unfold IsSetIter at hoi
  have hv : (ordOf w a ep es)[Z.length]? = none := by
    rw [List.getElem?_eq_none_iff, ord_perm.length_eq, Array.length_toList, S.tab.size.2]
    exact Nat.le_refl _
  unfold pyNext
  refine wpAny_bind (wpAny_attempt (wpAny_callSpecial?_slot (name := Str.ofString "__next__") hT Fx.slot_setiter_next (wpAny_call_entry Fx.slot_setiter_next hT Fx.entry_setiter_next ?_ (Fx.args_setiter_next _))))
  unfold Builtin.«set_iterator.__next__»
  refine wpAny_bind (m := slotArgs "__next__" 0 _) (wpAny_of_eq (a := (.ref I, [])) rfl ?_)
  dsimp only
  unfold fieldsOf
  refine wpAny_bind (wpAny_bind (wpAny_load hoi ?_))
  refine wpAny_pure ?_
  refine wpAny_bind (wpAny_setEntries_of S.ho S.hd S.fits ?_)
  rw [S.tab.size.2]
  simp only [bne_self_eq_false, Bool.false_eq_true, if_false, Int.toNat_natCast]
  refine wpAny_bind (set_next S (Nat.le_refl _) ?_)
  rw [hv]
  dsimp only [Option.map_none]
  refine wpAny_bind (wpAny_setField_rec hoi (by simp) fun h1 e1 sb1 => ?_)
  refine wpAny_bind ?_
  simp only [newExc, newTuple]
  refine wpAny_bind (wpAny_newObj_type ?_ (by size_fits))
  refine wpAny_bind (m := firstArgMember _ _) (wpAny_of_eq (a := Value.none) (by first | rfl | (simp only [firstArgMember]; rfl)) ?_)
  refine wpAny_newObj_type ?_ (by size_fits)
  simp only [raiseNew]
  refine wpAny_bind (wpAny_handled ?_)
  rw [show A.in1.handled = none from hh]
  refine wpAny_bind (wpAny_pure (wpAny_throw ?_))
  refine wpAny_bind (wpAny_isInstance (T := "StopIteration") (b := true) ⟨_, Heap.get?_push_size _ rfl, rfl⟩ isSubtype_stop ?_)
  exact wpAny_pure (hQ _ ((sb1.extBut.push _).push _))
end
end RS

set_option Elab.async false
set_option linter.all false
set_option maxRecDepth 100000
set_option maxHeartbeats 4000000
namespace RS
open PySem PySem.W PyProof.Rows
namespace Fx
theorem entry_extend_loop : entryFor table "list.extend.loop" = some Builtin.«list.extend.loop» := entryFor_of_fast (by kernel_rfl)
theorem plain_extend_loop : plainId "list.extend.loop" = true := by decide +kernel
theorem split_set_len : splitId "set.__len__" = some ("set", "__len__") := by decide +kernel
end Fx
section
variable {prog : Program} {w : World} {A : Around} {E : Value → Shared → Prop} {s : Shared}
theorem length_hint {a : Addr} {ps : List KP} {o es ep t Z} {Q : Bool → Shared → Prop} (S : SetIs w s.heap a ps o es ep t Z) (h : Q false s) : wpAny (model prog w) A (Builtin.List.listLengthHint (.ref a)) Q E s := by
  unfold Builtin.List.listLengthHint
  refine wpAny_bind (wpAny_specialOf (set_typeIs S) PySem.F.slot_set_len.lookup ?_)
  dsimp only
  rw [Fx.split_set_len]
  dsimp only
  refine wpAny_bind (wpAny_isInstance (set_typeIs S) sub_set_self ?_)
  simp only [Bool.not_true, Bool.false_eq_true, if_false]
  rw [if_pos (by rfl)]
  refine wpAny_bind (wpAny_typeOf (set_typeIs S) ?_)
  exact wpAny_pure h
theorem extend_loop {R : Result → Shared → Prop} {I a L : Addr} {ps : List KP} {o es ep t Z} (hh : A.handled = none) (hIa : I ≠ a) (hIL : I ≠ L) (hLa : L ≠ a) (hz : Z.length ≤ 100) :
    ∀ (k i n : Nat) (s : Shared), Z.length - i = k → i ≤ Z.length → SetIs w s.heap a ps o es ep t Z → IsSetIter s.heap I a i Z.length ep (slotAt w Z i) → s.heap.get? L = some (seqObj "list" (((ordOf w a ep es).take i).map (·.2)).toArray n) →
      (∀ h' m, (∀ b u, b ≠ I → b ≠ L → s.heap.get? b = some u → h'.get? b = some u) → h'.get? L = some (seqObj "list" ((ordOf w a ep es).map (·.2)).toArray m) → R (.ok (.ret (.ref L))) { s with heap := h' }) →
      codeAny (model prog w) A (.builtin "list.extend.loop" ⟨[.ref L, .ref I, .ref L], []⟩) R s := by
  intro k
  induction k with
  | zero =>
    intro i n s ek hi S hit hL hR
    have e : i = Z.length := by omega
    subst e
    refine codeAny_builtin Fx.entry_extend_loop ?_
    rw [Around.under_plainId Fx.plain_extend_loop _]
    show wpAny _ A.in1 (pyNext (.ref I) >>= _) _ _ s
    refine wpAny_bind (set_end (by simpa using hh) S hit fun h' eb => ?_)
    show wpAny _ A.in1 (ret (.ref L)) _ _ _
    refine wpAny_pure (hR h' n (fun b u hb _ q => eb b u hb q) ?_)
    rw [List.take_of_length_le (by rw [ord_perm.length_eq, Array.length_toList, S.tab.size.2]; exact Nat.le_refl _)] at hL
    exact eb L _ (Ne.symm hIL) hL
  | succ k ih =>
    intro i n s ek hi S hit hL hR
    have hil : i < (ordOf w a ep es).length := by rw [ord_perm.length_eq, Array.length_toList, S.tab.size.2]; omega
    refine codeAny_builtin Fx.entry_extend_loop ?_
    rw [Around.under_plainId Fx.plain_extend_loop _]
    show wpAny _ A.in1 (pyNext (.ref I) >>= _) _ _ s
    refine wpAny_bind (set_item S hit (List.getElem?_eq_getElem hil) fun h' hit' sb => ?_)
    have hL' : h'.get? L = some (seqObj "list" (((ordOf w a ep es).take i).map (·.2)).toArray n) := (sb.2 L (Ne.symm hIL)).trans hL
    have hsz : (((ordOf w a ep es).take i).map (·.2)).toArray.size ≤ 100 := by
      rw [List.size_toArray, List.length_map, List.length_take]; omega
    show wpAny _ A.in1 (Builtin.List.listUpdate (.ref L) _ >>= _) _ _ _
    refine wpAny_bind (listUpdate_at (s := { s with heap := h' }) hL' rfl ?_ (Nat.le_trans hsz (by decide)) (by rw [Array.size_push]; exact Nat.le_trans (Nat.succ_le_succ hsz) (by decide)))
    have hL2 := get?_update_seq hL' (·.push ((ordOf w a ep es)[i]).2)
    have eL : (((ordOf w a ep es).take i).map (·.2)).toArray.push ((ordOf w a ep es)[i]).2 = (((ordOf w a ep es).take (i + 1)).map (·.2)).toArray := by
      have q : (ordOf w a ep es).take (i + 1) = (ordOf w a ep es).take i ++ [(ordOf w a ep es)[i]] := by rw [List.take_add_one, List.getElem?_eq_getElem hil]; rfl
      rw [q, List.map_append, List.push_toArray]; rfl
    rw [eL] at hL2
    have hsb2 := Heap.SameBut.update h' L (Obj.mapSeq (·.push ((ordOf w a ep es)[i]).2))
    refine wpAny_pure ⟨plainId_quiet Fx.plain_extend_loop _, ih (i + 1) _ _ (by omega) (by omega) ?_ ?_ hL2 fun h'' m kk hm => ?_⟩
    · refine ⟨?_, S.ex, S.hd, S.tab, S.plain, S.led, S.big, S.perm, S.keys, S.nd⟩
      exact (hsb2.2 a (Ne.symm hLa)).trans ((sb.2 a (Ne.symm hIa)).trans S.ho)
    · exact (hsb2.2 I hIL).trans hit'
    · refine hR h'' m (fun b u hb1 hb2 q => kk b u hb1 hb2 ?_) hm
      exact (hsb2.2 b hb2).trans ((sb.2 b hb1).trans q)
theorem perm_map_inv {α β : Type} {f : α → β} {l m : List β} (h : l.Perm m) : ∀ ps : List α, m = ps.map f → ∃ qs : List α, qs.Perm ps ∧ l = qs.map f := by
  induction h with
  | nil =>
    intro ps e
    have : ps = [] := List.map_eq_nil_iff.mp e.symm
    exact ⟨[], by rw [this], rfl⟩
  | cons x _ ih =>
    intro ps e
    cases ps with
    | nil => cases e
    | cons p ps =>
      rw [List.map_cons] at e
      obtain ⟨qs, h1, h2⟩ := ih ps (List.cons.inj e).2
      exact ⟨p :: qs, h1.cons p, by rw [List.map_cons, ← h2, (List.cons.inj e).1]⟩
  | swap x y l =>
    intro ps e
    match ps, e with
    | p :: q :: r, e =>
      rw [List.map_cons, List.map_cons] at e
      obtain ⟨e1, e2⟩ := List.cons.inj e
      obtain ⟨e2, e3⟩ := List.cons.inj e2
      exact ⟨q :: p :: r, List.Perm.swap _ _ _, by rw [List.map_cons, List.map_cons, e1, e2, e3]⟩
  | trans _ _ ih1 ih2 =>
    intro ps e
    obtain ⟨qs, h1, h2⟩ := ih2 ps e
    obtain ⟨rs, h3, h4⟩ := ih1 qs h2
    exact ⟨rs, h3.trans h1, h4⟩
theorem collect_set {a : Addr} {ps : List KP} {Q : List Value → Shared → Prop} (hh : A.handled = none) (S : SetAt w s.heap a ps)
    (h : ∀ qs : List KP, qs.Perm ps → ∀ h', (∀ b u, s.heap.get? b = some u → h'.get? b = some u) → s.heap.objs.size ≤ h'.objs.size → Q (refsOf qs) { s with heap := h' }) : wpAny (model prog w) A (collect (.ref a)) Q E s := by
  obtain ⟨o, es, ep, t, Z, S⟩ := S
  have hal : a < s.heap.objs.size := Heap.lt_size S.ho
  have h15 := keys_le S.keys S.nd
  have hz : Z.length ≤ 100 := by rw [S.len]; omega
  unfold collect
  refine wpAny_bind (wpAny_runValue (codeAny_builtin entry_proto_collect' ?_))
  show wpAny _ _ (do again (.builtin "list.__iadd__" ⟨[← newList [], .ref a], []⟩)) _ _ s
  refine wpAny_bind (wpAny_newList (wpAny_pure ⟨Code.quiet_builtin _ (by decide +kernel), codeAny_builtin entry_list_iadd' ?_⟩))
  show wpAny _ _ (Builtin.List.listExtendWith (.ref s.heap.objs.size) (.ref a) (.ref s.heap.objs.size)) _ _ { s with heap := s.heap.push (seqObj "list" #[] 0) }
  have S1 : SetIs w (s.heap.push (seqObj "list" #[] 0)) a ps o es ep t Z := ⟨Heap.get?_push_of_some _ S.ho, S.ex, S.hd, S.tab, S.plain, S.led, S.big, S.perm, S.keys, S.nd⟩
  unfold Builtin.List.listExtendWith
  refine wpAny_bind (wpAny_typeOf (set_typeIs (s := { s with heap := s.heap.push (seqObj "list" #[] 0) }) S1) ?_)
  have hsame : Builtin.List.listSameRef (.ref s.heap.objs.size) (.ref a) = false := by
    show (s.heap.objs.size == a) = false
    simpa using Nat.ne_of_gt hal
  rw [hsame, if_neg (by decide)]
  refine wpAny_bind (set_iter (s := { s with heap := s.heap.push (seqObj "list" #[] 0) }) S1 ?_)
  dsimp only
  generalize hH : (s.heap.push (seqObj "list" #[] 0)).push { cls := .type "set_iterator", data := .fields #[.int ((0 : Nat) : Int) 0, .int ((0 : Nat) : Int) 0, .ref a, .int (Z.length : Int) 0, .int (ep : Int) 0] } = H2
  have eI : (s.heap.push (seqObj "list" #[] 0)).objs.size = s.heap.objs.size + 1 := by rw [size_push']
  have hk2 : ∀ b u, s.heap.get? b = some u → H2.get? b = some u := fun b u q => by rw [← hH]; exact Heap.get?_push_of_some _ (Heap.get?_push_of_some _ q)
  have S2 : SetIs w H2 a ps o es ep t Z := ⟨hk2 a o S.ho, S.ex, S.hd, S.tab, S.plain, S.led, S.big, S.perm, S.keys, S.nd⟩
  have hL2 : H2.get? s.heap.objs.size = some (seqObj "list" #[] 0) := by rw [← hH]; exact Heap.get?_push_of_some _ (Heap.get?_push_size _ rfl)
  have hI2 : H2.get? (s.heap.objs.size + 1) = some { cls := .type "set_iterator", data := .fields #[.int ((0 : Nat) : Int) 0, .int ((0 : Nat) : Int) 0, .ref a, .int (Z.length : Int) 0, .int (ep : Int) 0] } := by
    rw [← hH, ← eI]; exact Heap.get?_push_size _ rfl
  rw [eI]
  refine wpAny_bind (wpAny_holding (length_hint (s := { s with heap := H2 }) S2 ?_))
  rw [if_pos (by rfl)]
  refine wpAny_bind (wpAny_rule ?_)
  refine wpAny_bind ?_
  unfold Builtin.List.listTouch
  refine wpAny_bind (listUpdate_at (s := { s with heap := H2 }) hL2 rfl ?_ (Nat.zero_le _) (by decide))
  have hL3 := get?_update_seq hL2 (·.push Value.none)
  refine listUpdate_at (s := { s with heap := H2.update s.heap.objs.size (Obj.mapSeq (·.push Value.none)) }) hL3 rfl ?_ (by decide) (by decide)
  have hL4 := get?_update_seq hL3 (·.pop)
  have sb3 := Heap.SameBut.update H2 s.heap.objs.size (Obj.mapSeq (·.push Value.none))
  have sb4 := (sb3.trans (Heap.SameBut.update (H2.update s.heap.objs.size (Obj.mapSeq (·.push Value.none))) s.heap.objs.size (Obj.mapSeq (·.pop))))
  generalize hH4 : (H2.update s.heap.objs.size (Obj.mapSeq (·.push Value.none))).update s.heap.objs.size (Obj.mapSeq (·.pop)) = H4 at hL4 sb4
  have neL : a ≠ s.heap.objs.size := Nat.ne_of_lt hal
  have neI : s.heap.objs.size + 1 ≠ s.heap.objs.size := Nat.succ_ne_self _
  refine wpAny_pure ⟨Code.quiet_builtin _ (by decide +kernel), ?_⟩
  refine extend_loop (by simpa using hh) (Nat.ne_of_gt (Nat.lt_succ_of_lt hal)) neI (Ne.symm neL) hz (Z.length - 0) 0 _ { s with heap := H4 } (by omega) (Nat.zero_le _)
    ⟨(sb4.2 a neL).trans S2.ho, S.ex, S.hd, S.tab, S.plain, S.led, S.big, S.perm, S.keys, S.nd⟩ ?_ (by rw [List.take_zero]; exact hL4) fun h' m kk hm => ?_
  · unfold IsSetIter
    have e0 : slotAt w Z 0 = 0 := by unfold slotAt; split <;> simp
    rw [e0]
    exact (sb4.2 _ neI).trans hI2
  · dsimp only
    refine wpAny_bind (wpAny_load hm ?_)
    refine wpAny_pure ?_
    have hp : (ordOf w a ep es).Perm (ps.map fun p => (hsh p.1, Value.ref p.2)) := ord_perm.trans (by rw [S.tab.ents]; exact S.perm)
    obtain ⟨qs, q1, q2⟩ := perm_map_inv hp ps rfl
    have q3 : (ordOf w a ep es).map (·.2) = refsOf qs := by rw [q2, List.map_map]; rfl
    have fin := h qs q1 h' fun b u q => by
      have hb : b < s.heap.objs.size := Heap.lt_size q
      exact kk b u (Nat.ne_of_lt (Nat.lt_succ_of_lt hb)) (Nat.ne_of_lt hb) ((sb4.2 b (Nat.ne_of_lt hb)).trans (hk2 b u q))
    rw [← q3] at fin
    exact fin (Nat.le_of_lt (Heap.lt_size hm))

/-- sorted of what collect gave -/
theorem sorted_by {x : Value} {ps : List KP} {Q : Value → Shared → Prop} (hk : ∀ p ∈ ps, p.1 ∈ prs) (hn : (ps.map (·.1)).Nodup) (hT : ∀ p ∈ ps, Tk prog w s.heap p.1 p.2)
    (hcol : ∀ Q' : List Value → Shared → Prop, (∀ qs : List KP, qs.Perm ps → ∀ h', (∀ b u, s.heap.get? b = some u → h'.get? b = some u) → s.heap.objs.size ≤ h'.objs.size → Q' (refsOf qs) { s with heap := h' }) → wpAny (model prog w) A.in1 (collect x) Q' E s)
    (h : ∀ out : List KP, out.Perm ps → Rising out → ∀ h' D, s.heap.objs.size ≤ D → (∀ b u, s.heap.get? b = some u → h'.get? b = some u) → (∃ n, h'.get? D = some (seqObj "list" (refsOf out).toArray n)) → Q (.ref D) { s with heap := h' }) :
    wpAny (model prog w) A (call (.builtin "sorted") [x]) Q E s := by
  refine Calls.call_function_entry kind_sorted plain_sorted entry_sorted (args_sorted1 _) ?_
  unfold Builtin.«sorted»
  refine wpAny_bind (m := checkCount "sorted" 1 1 _) (wpAny_pure ?_)
  refine wpAny_bind (hcol _ fun qs hqs h1 k1 hsz => ?_)
  have hkq : ∀ p ∈ qs, p.1 ∈ prs := fun p hp => hk p (hqs.mem_iff.mp hp)
  have hnq : (qs.map (·.1)).Nodup := (hqs.map _).nodup_iff.mpr hn
  have hlen := keys_le hkq hnq
  have hvl : (refsOf qs).length ≤ 15 := by unfold refsOf; rw [List.length_map]; exact hlen
  refine wpAny_bind (wpAny_newList ?_ (Nat.le_trans hvl (by decide)))
  have hoL : (h1.push (seqObj "list" (refsOf qs).toArray 0)).get? h1.objs.size = some (seqObj "list" (refsOf qs).toArray 0) := Heap.get?_push_size _ rfl
  have hnn : ∀ b u, h1.get? b = some u → b ≠ h1.objs.size := fun b u q => Nat.ne_of_lt (Heap.lt_size q)
  refine wpAny_bind (wpAny_holding (wpAny_call_entry slot_list_sort (s := { s with heap := h1.push (seqObj "list" (refsOf qs).toArray 0) }) ⟨_, hoL, rfl⟩ entry_list_sort ?body (args_list_sort _)))
  case body =>
    refine sort_pairs (s := { s with heap := h1.push (seqObj "list" (refsOf qs).toArray 0) }) hoL hkq hnq (fun p hp => ?_) fun out h2 h3 => ?_
    · obtain ⟨o, its, n, ho, rest⟩ := hT p (hqs.mem_iff.mp hp)
      exact ⟨o, its, n, Heap.get?_push_of_some _ (k1 _ _ ho), rest⟩
    · refine ⟨_, rfl, wpAny_pure ⟨_, rfl, h out (h2.trans hqs) h3 _ h1.objs.size hsz (fun b u q => ?_) ?_⟩⟩
      · have hb := hnn b u (k1 b u q)
        unfold sortedHeap
        rw [Heap.get?_update_ne _ _ _ _ hb]
        refine Heap.get?_push_of_some _ (Heap.get?_push_of_some _ ?_)
        rw [Heap.get?_update_ne _ _ _ _ hb]
        exact Heap.get?_push_of_some _ (k1 b u q)
      · unfold sortedHeap
        have g1 := get?_update_seq hoL (fun _ => #[])
        have g2 := Heap.get?_push_of_some (seqObj "list" #[] 0) (Heap.get?_push_of_some (seqObj "tuple" (refsOf qs).toArray 0) g1)
        exact ⟨_, get?_update_seq g2 (fun _ => (refsOf out).toArray)⟩
theorem sorted_set {a : Addr} {ps : List KP} {Q : Value → Shared → Prop} (hh : A.handled = none) (S : SetAt w s.heap a ps) (hT : ∀ p ∈ ps, Tk prog w s.heap p.1 p.2)
    (h : ∀ out : List KP, out.Perm ps → Rising out → ∀ h' D, s.heap.objs.size ≤ D → (∀ b u, s.heap.get? b = some u → h'.get? b = some u) → (∃ n, h'.get? D = some (seqObj "list" (refsOf out).toArray n)) → Q (.ref D) { s with heap := h' }) :
    wpAny (model prog w) A (call (.builtin "sorted") [.ref a]) Q E s := by
  obtain ⟨o, es, ep, t, Z, S0⟩ := id S
  exact sorted_by S0.keys S0.nd hT (fun Q' hq => collect_set (by simpa using hh) S hq) h
end
end RS

set_option Elab.async false
set_option linter.all false
set_option maxRecDepth 100000
set_option maxHeartbeats 4000000
/-! Data and stores: what the code computes, apart from addresses. -/
namespace L2
open PySem PySem.Spec PyProof.Rows RS

/-- a datum: frz a list that is never changed, obj the n-th object of the store -/
inductive D where
  | non | bl (b : Bool) | int (i : Int) | str (x : Str) | tup (xs : List D) | frz (xs : List D) | obj (n : Nat)

/-- an object of the store: a list; a set of pairs; an empty dict -/
inductive O where
  | lst (xs : List D) | set (ks : List (List Int)) | dic
abbrev Sto := List O
abbrev Ro := List (Option D)

/-- a list that is never changed -/
def FzL (K : PySem.W.Frag) (H : Hp) (a : Addr) (xs : List V) : Prop :=
  (∃ o, H a = some (.frz o (.lst xs))) ∨
    ∃ (o : Obj) (its : Array Value) (n : Nat), K.lookup a = some o ∧ o.cls = .type "list" ∧ o.dict = none ∧ o.data = .seq its n ∧ its.size ≤ sizeLine ∧ Vals xs its.toList
theorem FzL.sq {K : PySem.W.Frag} {H : Hp} {a : Addr} {xs : List V} (h : FzL K H a xs) : SqL K H a xs := by
  rcases h with ⟨o, h⟩ | h
  · exact .inl (.inr ⟨o, h⟩)
  · exact .inr h

section
variable (K : PySem.W.Frag) (H : Hp) (α : List Addr)
mutual
def Rep : D → V → Prop
  | .non, v => v = .non
  | .bl b, v => v = .bl b
  | .int i, v => v = .int i
  | .str x, v => v = .str x
  | .tup xs, v => ∃ a vs, v = .ref a ∧ SqT K H a vs ∧ Reps xs vs
  | .frz xs, v => ∃ a vs, v = .ref a ∧ FzL K H a vs ∧ Reps xs vs
  | .obj n, v => ∃ a, v = .ref a ∧ α[n]? = some a
def Reps : List D → List V → Prop
  | [], vs => vs = []
  | x :: xs, vs => ∃ v r, vs = v :: r ∧ Rep x v ∧ Reps xs r
end
end

/-- what stays: tuples and frozen lists; the store's addresses -/
structure Ext (K : PySem.W.Frag) (H H' : Hp) (α α' : List Addr) : Prop where
  tup : ∀ a xs, SqT K H a xs → SqT K H' a xs
  frz : ∀ a xs, FzL K H a xs → FzL K H' a xs
  pre : ∀ (n : Nat) a, α[n]? = some a → α'[n]? = some a

section
variable {K : PySem.W.Frag} {H H' H1 H2 : Hp} {α α' α1 α2 : List Addr}
theorem Ext.refl : Ext K H H α α := ⟨fun _ _ h => h, fun _ _ h => h, fun _ _ h => h⟩
theorem Ext.trans (a : Ext K H H1 α α1) (b : Ext K H1 H2 α1 α2) : Ext K H H2 α α2 :=
  ⟨fun c xs h => b.tup c xs (a.tup c xs h), fun c xs h => b.frz c xs (a.frz c xs h), fun n c h => b.pre n c (a.pre n c h)⟩
mutual
theorem Rep.mono (e : Ext K H H' α α') : ∀ {d : D} {v : V}, Rep K H α d v → Rep K H' α' d v
  | .non, _, h => by simp only [Rep] at h ⊢; exact h
  | .bl _, _, h => by simp only [Rep] at h ⊢; exact h
  | .int _, _, h => by simp only [Rep] at h ⊢; exact h
  | .str _, _, h => by simp only [Rep] at h ⊢; exact h
  | .tup xs, _, h => by
    simp only [Rep] at h ⊢
    obtain ⟨a, vs, rfl, h1, h2⟩ := h
    exact ⟨a, vs, rfl, e.tup a vs h1, Reps.mono e h2⟩
  | .frz xs, _, h => by
    simp only [Rep] at h ⊢
    obtain ⟨a, vs, rfl, h1, h2⟩ := h
    exact ⟨a, vs, rfl, e.frz a vs h1, Reps.mono e h2⟩
  | .obj n, _, h => by
    simp only [Rep] at h ⊢
    obtain ⟨a, rfl, h1⟩ := h
    exact ⟨a, rfl, e.pre n a h1⟩
theorem Reps.mono (e : Ext K H H' α α') : ∀ {ds : List D} {vs : List V}, Reps K H α ds vs → Reps K H' α' ds vs
  | [], _, h => by simp only [Reps] at h ⊢; exact h
  | d :: ds, _, h => by
    simp only [Reps] at h ⊢
    obtain ⟨v, r, rfl, h1, h2⟩ := h
    exact ⟨v, r, rfl, Rep.mono e h1, Reps.mono e h2⟩
end
theorem Reps.nil : Reps K H α [] [] := by simp only [Reps]
theorem Reps.cons {d : D} {ds : List D} {v : V} {vs : List V} (h1 : Rep K H α d v) (h2 : Reps K H α ds vs) : Reps K H α (d :: ds) (v :: vs) := by
  simp only [Reps]; exact ⟨v, vs, rfl, h1, h2⟩
theorem Reps.length : ∀ {ds : List D} {vs : List V}, Reps K H α ds vs → vs.length = ds.length
  | [], vs, h => by simp only [Reps] at h; rw [h]; rfl
  | d :: ds, vs, h => by
    simp only [Reps] at h
    obtain ⟨v, r, rfl, h1, h2⟩ := h
    simp [Reps.length h2]
theorem Reps.get : ∀ {ds : List D} {vs : List V} {i : Nat} {d : D}, Reps K H α ds vs → ds[i]? = some d → ∃ v, vs[i]? = some v ∧ Rep K H α d v
  | [], _, _, _, _, e => by simp at e
  | d :: ds, vs, i, x, h, e => by
    simp only [Reps] at h
    obtain ⟨v, r, rfl, h1, h2⟩ := h
    cases i with
    | zero => simp at e; subst e; exact ⟨v, rfl, h1⟩
    | succ i => exact Reps.get (i := i) h2 (by simpa using e)
theorem Reps.append : ∀ {ds es : List D} {vs ws : List V}, Reps K H α ds vs → Reps K H α es ws → Reps K H α (ds ++ es) (vs ++ ws)
  | [], _, vs, _, h, g => by simp only [Reps] at h; subst h; exact g
  | d :: ds, _, vs, _, h, g => by
    simp only [Reps] at h
    obtain ⟨v, r, rfl, h1, h2⟩ := h
    exact Reps.cons h1 (Reps.append h2 g)
theorem Reps.take : ∀ {ds : List D} {vs : List V} (n : Nat), Reps K H α ds vs → Reps K H α (ds.take n) (vs.take n)
  | [], vs, n, h => by simp only [Reps] at h; subst h; simpa using Reps.nil
  | d :: ds, vs, n, h => by
    simp only [Reps] at h
    obtain ⟨v, r, rfl, h1, h2⟩ := h
    cases n with
    | zero => exact Reps.nil
    | succ n => exact Reps.cons h1 (Reps.take n h2)
theorem Reps.drop : ∀ {ds : List D} {vs : List V} (n : Nat), Reps K H α ds vs → Reps K H α (ds.drop n) (vs.drop n)
  | [], vs, n, h => by simp only [Reps] at h; subst h; simpa using Reps.nil
  | d :: ds, vs, n, h => by
    cases n with
    | zero => exact h
    | succ n =>
      simp only [Reps] at h
      obtain ⟨v, r, rfl, h1, h2⟩ := h
      exact Reps.drop n h2
theorem Reps.set {d : D} {v : V} (q : Rep K H α d v) : ∀ {ds : List D} {vs : List V} (n : Nat), Reps K H α ds vs → Reps K H α (ds.set n d) (vs.set n v)
  | [], vs, n, h => by simp only [Reps] at h; subst h; simpa using Reps.nil
  | e :: ds, vs, n, h => by
    simp only [Reps] at h
    obtain ⟨v', r, rfl, h1, h2⟩ := h
    cases n with
    | zero => exact Reps.cons q h2
    | succ n => exact Reps.cons h1 (Reps.set q n h2)
theorem Reps.eraseIdx : ∀ {ds : List D} {vs : List V} (n : Nat), Reps K H α ds vs → Reps K H α (ds.eraseIdx n) (vs.eraseIdx n)
  | [], vs, n, h => by simp only [Reps] at h; subst h; simpa using Reps.nil
  | e :: ds, vs, n, h => by
    simp only [Reps] at h
    obtain ⟨v', r, rfl, h1, h2⟩ := h
    cases n with
    | zero => exact h2
    | succ n => exact Reps.cons h1 (Reps.eraseIdx n h2)
theorem Reps.one {d : D} {vs : List V} (h : Reps K H α [d] vs) : ∃ v, vs = [v] ∧ Rep K H α d v := by
  simp only [Reps] at h
  obtain ⟨v, r, rfl, h1, rfl⟩ := h
  exact ⟨v, rfl, h1⟩
theorem Reps.two {d e : D} {vs : List V} (h : Reps K H α [d, e] vs) : ∃ v u, vs = [v, u] ∧ Rep K H α d v ∧ Rep K H α e u := by
  simp only [Reps] at h
  obtain ⟨v, r, rfl, h1, u, r', rfl, h2, rfl⟩ := h
  exact ⟨v, u, rfl, h1, h2⟩
theorem Reps.snoc {d : D} {ds : List D} {v : V} {vs : List V} (h : Reps K H α ds vs) (q : Rep K H α d v) : Reps K H α (ds ++ [d]) (vs ++ [v]) := h.append (Reps.cons q Reps.nil)
theorem Reps.ints : ∀ {ns : List Int} {vs : List V}, Reps K H α (ns.map D.int) vs → vs = ns.map V.int
  | [], vs, h => by simp only [List.map_nil, Reps] at h; exact h
  | n :: ns, vs, h => by
    simp only [List.map_cons, Reps] at h
    obtain ⟨v, r, rfl, h1, h2⟩ := h
    simp only [Rep] at h1
    rw [h1, Reps.ints h2]; rfl
theorem Reps.ofInts : ∀ (ns : List Int), Reps K H α (ns.map D.int) (ns.map V.int)
  | [] => Reps.nil
  | n :: ns => Reps.cons (by simp only [Rep]) (Reps.ofInts ns)
theorem Rep.tup_iff {xs : List D} {v : V} : Rep K H α (.tup xs) v ↔ ∃ a vs, v = .ref a ∧ SqT K H a vs ∧ Reps K H α xs vs := by simp only [Rep]
theorem Rep.frz_iff {xs : List D} {v : V} : Rep K H α (.frz xs) v ↔ ∃ a vs, v = .ref a ∧ FzL K H a vs ∧ Reps K H α xs vs := by simp only [Rep]
theorem Rep.obj_iff {n : Nat} {v : V} : Rep K H α (.obj n) v ↔ ∃ a, v = .ref a ∧ α[n]? = some a := by simp only [Rep]
theorem Rep.int_iff {n : Int} {v : V} : Rep K H α (.int n) v ↔ v = .int n := by simp only [Rep]
theorem Rep.bl_iff {n : Bool} {v : V} : Rep K H α (.bl n) v ↔ v = .bl n := by simp only [Rep]
theorem Rep.str_iff {n : Str} {v : V} : Rep K H α (.str n) v ↔ v = .str n := by simp only [Rep]
theorem Rep.non_iff {v : V} : Rep K H α .non v ↔ v = .non := by simp only [Rep]
end

/-- an object as it stands -/
def ORel (K : PySem.W.Frag) (w : World) (H : Hp) (α : List Addr) : O → Addr → Prop
  | .lst xs, a => ∃ vs, H a = some (.lst vs) ∧ Reps K H α xs vs
  | .set ks, a => ∃ ps : List KP, ps.map (·.1) = ks ∧ H a = some (.ext fun h => SetAt w h a ps) ∧ (∀ p ∈ ps, p.1 ∈ prs) ∧ (ps.map (·.1)).Nodup ∧ ∀ p ∈ ps, SqT K H p.2 (p.1.map V.int)
  | .dic, a => H a = some (.dK [])
structure SRel (K : PySem.W.Frag) (w : World) (H : Hp) (α : List Addr) (μ : Sto) : Prop where
  len : α.length = μ.length
  nd : α.Nodup
  ob : ∀ (n : Nat) o a, μ[n]? = some o → α[n]? = some a → ORel K w H α o a

section
variable {K : PySem.W.Frag} {w : World} {H H' : Hp} {α α' : List Addr} {μ : Sto}
theorem ORel.live {o : O} {a : Addr} (h : ORel K w H α o a) : H a ≠ none := by
  cases o with
  | lst xs => obtain ⟨vs, e, _⟩ := h; rw [e]; exact fun z => by cases z
  | set ks => obtain ⟨ps, _, e, _⟩ := h; rw [e]; exact fun z => by cases z
  | dic => have e : H a = some (.dK []) := h; rw [e]; exact fun z => by cases z
theorem ORel.mono {o : O} {a : Addr} (h : ORel K w H α o a) (e : Ext K H H' α α') (ha : H' a = H a) : ORel K w H' α' o a := by
  cases o with
  | lst xs => obtain ⟨vs, q, r⟩ := h; exact ⟨vs, ha.trans q, r.mono e⟩
  | set ks => obtain ⟨ps, h1, q, h2, h3, h4⟩ := h; exact ⟨ps, h1, ha.trans q, h2, h3, fun p hp => e.tup _ _ (h4 p hp)⟩
  | dic => exact ha.trans h
theorem SRel.at (S : SRel K w H α μ) {n : Nat} {o : O} (e : μ[n]? = some o) : ∃ a, α[n]? = some a ∧ ORel K w H α o a := by
  have hn : n < μ.length := (List.getElem?_eq_some_iff.mp e).1
  have hn' : n < α.length := by rw [S.len]; exact hn
  exact ⟨α[n], List.getElem?_eq_getElem hn', S.ob n o _ e (List.getElem?_eq_getElem hn')⟩
theorem SRel.live (S : SRel K w H α μ) {a : Addr} (h : a ∈ α) : H a ≠ none := by
  obtain ⟨n, hn, e⟩ := List.getElem_of_mem h
  have hm : n < μ.length := by rw [← S.len]; exact hn
  exact (S.ob n _ a (List.getElem?_eq_getElem hm) (by rw [← e]; exact List.getElem?_eq_getElem hn)).live
theorem SRel.fresh (S : SRel K w H α μ) {p : Addr} (h : H p = none) : p ∉ α := fun z => S.live z h
/-- nothing of the store is touched -/
theorem SRel.same (S : SRel K w H α μ) (e : Ext K H H' α α) (h : ∀ a, H a ≠ none → H' a = H a) : SRel K w H' α μ :=
  ⟨S.len, S.nd, fun n o a h1 h2 => (S.ob n o a h1 h2).mono e (h a (S.ob n o a h1 h2).live)⟩
theorem ext_new {p : Addr} {o : HO} (h : H p = none) : Ext K H (upd H p o) α α := by
  refine ⟨fun a xs q => ?_, fun a xs q => ?_, fun _ _ z => z⟩
  · rcases q with (q | ⟨x, q⟩) | q
    · exact .inl (.inl (by rw [upd_ne (ne_of_none q h)]; exact q))
    · exact .inl (.inr ⟨x, by rw [upd_ne (ne_of_none q h)]; exact q⟩)
    · exact .inr q
  · rcases q with ⟨x, q⟩ | q
    · exact .inl ⟨x, by rw [upd_ne (ne_of_none q h)]; exact q⟩
    · exact .inr q
theorem ext_upd {p : Addr} {vs : List V} {o : HO} (h : H p = some (.lst vs)) : Ext K H (upd H p o) α α := by
  refine ⟨fun a xs q => ?_, fun a xs q => ?_, fun _ _ z => z⟩
  · rcases q with (q | ⟨x, q⟩) | q
    · exact .inl (.inl (by rw [upd_ne (ne_of q h (by intro z; cases z))]; exact q))
    · exact .inl (.inr ⟨x, by rw [upd_ne (ne_of q h (by intro z; cases z))]; exact q⟩)
    · exact .inr q
  · rcases q with ⟨x, q⟩ | q
    · exact .inl ⟨x, by rw [upd_ne (ne_of q h (by intro z; cases z))]; exact q⟩
    · exact .inr q
theorem ext_more (β : List Addr) : Ext K H H α (α ++ β) := ⟨fun _ _ h => h, fun _ _ h => h, fun n a h => by rw [List.getElem?_append_left (List.getElem?_eq_some_iff.mp h).1]; exact h⟩
/-- a new tuple -/
theorem SRel.tuple (S : SRel K w H α μ) {p : Addr} {vs : List V} (h : H p = none) : SRel K w (upd H p (.tup vs)) α μ :=
  S.same (ext_new h) fun a ha => upd_ne fun z => ha (by rw [z]; exact h)
/-- a new object of the store -/
theorem SRel.more (S : SRel K w H α μ) {p : Addr} {o : O} {ho : HO} (h : H p = none) (q : ORel K w (upd H p ho) (α ++ [p]) o p) : SRel K w (upd H p ho) (α ++ [p]) (μ ++ [o]) := by
  refine ⟨by simp [S.len], ?_, fun n o' a h1 h2 => ?_⟩
  · rw [List.nodup_append]
    exact ⟨S.nd, by simp, fun x hx y hy z => by simp at hy; subst hy; subst z; exact S.fresh h hx⟩
  · by_cases hn : n < μ.length
    · rw [List.getElem?_append_left hn] at h1
      rw [List.getElem?_append_left (by rw [S.len]; exact hn)] at h2
      exact (S.ob n o' a h1 h2).mono ((ext_new h).trans (ext_more [p])) (upd_ne fun z => (S.ob n o' a h1 h2).live (by rw [z]; exact h))
    · have hn' : n = μ.length := by
        have := (List.getElem?_eq_some_iff.mp h1).1
        simp at this; omega
      subst hn'
      rw [List.getElem?_append_right (Nat.le_refl _)] at h1
      rw [List.getElem?_append_right (by rw [S.len]; exact Nat.le_refl _), S.len] at h2
      simp at h1 h2
      subst h1; subst h2
      exact q
/-- a list of the store is changed -/
theorem SRel.put (S : SRel K w H α μ) {n : Nat} {a : Addr} {xs ys : List D} {us vs : List V} (h1 : μ[n]? = some (.lst xs)) (h2 : α[n]? = some a) (h3 : H a = some (.lst us)) (q : Reps K H α ys vs) : SRel K w (upd H a (.lst vs)) α (μ.set n (.lst ys)) := by
  have e := ext_upd (K := K) (α := α) (o := .lst vs) h3
  refine ⟨by simp [S.len], S.nd, fun m o b g1 g2 => ?_⟩
  have hn : n < μ.length := (List.getElem?_eq_some_iff.mp h1).1
  by_cases hm : m = n
  · subst hm
    rw [List.getElem?_set_self hn] at g1
    cases g1
    rw [h2] at g2; cases g2
    exact ⟨vs, upd_same, q.mono e⟩
  · rw [List.getElem?_set_ne (fun z => hm z.symm)] at g1
    refine (S.ob m o b g1 g2).mono e (upd_ne fun z => hm ?_)
    subst z
    have i1 := (List.getElem?_eq_some_iff.mp g2)
    have i2 := (List.getElem?_eq_some_iff.mp h2)
    obtain ⟨l1, e1⟩ := i1
    obtain ⟨l2, e2⟩ := i2
    exact (List.getElem_inj S.nd).mp (e1.trans e2.symm)
end

/-- slots -/
structure RelS (K : PySem.W.Frag) (H : Hp) (α : List Addr) (ρ : Ro) (σ : St) : Prop where
  len : ρ.length = σ.length
  at' : ∀ (i : Nat) d, ρ[i]? = some (some d) → ∃ v, σ[i]? = some (some v) ∧ Rep K H α d v
theorem RelS.mono {K : PySem.W.Frag} {H H' : Hp} {α α' : List Addr} {ρ : Ro} {σ : St} (e : Ext K H H' α α') (R : RelS K H α ρ σ) : RelS K H' α' ρ σ :=
  ⟨R.len, fun i d h => let ⟨v, h1, h2⟩ := R.at' i d h; ⟨v, h1, h2.mono e⟩⟩
theorem RelS.set {K : PySem.W.Frag} {H : Hp} {α : List Addr} {ρ : Ro} {σ : St} {d : D} {v : V} (R : RelS K H α ρ σ) (i : Nat) (q : Rep K H α d v) : RelS K H α (ρ.set i (some d)) (σ.set i (some v)) := by
  refine ⟨by simp [R.len], fun j d' h => ?_⟩
  by_cases hj : j = i
  · subst hj
    have hl : j < ρ.length := by have := (List.getElem?_eq_some_iff.mp h).1; simpa using this
    rw [List.getElem?_set_self hl] at h
    cases h
    exact ⟨v, by rw [List.getElem?_set_self (by rw [← R.len]; exact hl)], q⟩
  · rw [List.getElem?_set_ne (fun z => hj z.symm)] at h ⊢
    exact R.at' j d' h
end L2

set_option Elab.async false
set_option linter.all false
set_option maxRecDepth 100000
set_option maxHeartbeats 4000000
namespace L2
open PySem PySem.Spec PyProof.Rows RS

/-- an exception: its class, its arguments -/
structure DX where
  cls : Str
  args : List D
inductive Out (β : Type) where
  | ok (a : β) (μ : Sto) | exc (x : DX) (μ : Sto) | bad
def Out.bind {β γ : Type} (o : Out β) (g : β → Sto → Out γ) : Out γ := match o with
  | .ok a μ => g a μ
  | .exc x μ => .exc x μ
  | .bad => .bad
@[simp] theorem Out.bind_ok {β γ : Type} {a : β} {μ : Sto} {g : β → Sto → Out γ} : (Out.ok a μ).bind g = g a μ := of_eq_true (eq_self _)
/-- a statement's end -/
inductive SO where
  | next (ρ : Ro) (μ : Sto) | ret (d : D) (μ : Sto) | brk (ρ : Ro) (μ : Sto) | cnt (ρ : Ro) (μ : Sto) | exc (x : DX) (μ : Sto) | bad
def Out.bindS {β : Type} (o : Out β) (g : β → Sto → SO) : SO := match o with
  | .ok a μ => g a μ
  | .exc x μ => .exc x μ
  | .bad => .bad
@[simp] theorem Out.bindS_ok {β : Type} {a : β} {μ : Sto} {g : β → Sto → SO} : (Out.ok a μ).bindS g = g a μ := of_eq_true (eq_self _)
def SO.bind (o : SO) (g : Ro → Sto → SO) : SO := match o with
  | .next ρ μ => g ρ μ
  | o => o

/-- the law's world, and what is wanted of an exception -/
structure Pa where
  K : PySem.W.Frag
  w : World
  xw : DX → Sto → Prop
abbrev Pa.S (p : Pa) := SRel p.K p.w
abbrev Pa.X (p : Pa) := Ext p.K
abbrev Pa.R (p : Pa) := Rep p.K
abbrev Pa.Rs (p : Pa) := Reps p.K

def PostO {β : Type} (p : Pa) (H : Hp) (α : List Addr) (o : Out β) (R : β → Sto → Hp → List Addr → Prop) : Prop := match o with
  | .ok a μ' => ∀ H' α', p.X H H' α α' → p.S H' α' μ' → R a μ' H' α'
  | .exc x μ' => p.xw x μ'
  | .bad => False
def PostS (p : Pa) (H : Hp) (α : List Addr) (o : SO) (D : Ends) : Prop := match o with
  | .next ρ' μ' => ∀ H' α' σ', p.X H H' α α' → p.S H' α' μ' → RelS p.K H' α' ρ' σ' → D.nx σ' H'
  | .brk ρ' μ' => ∀ H' α' σ', p.X H H' α α' → p.S H' α' μ' → RelS p.K H' α' ρ' σ' → D.bk σ' H'
  | .cnt ρ' μ' => ∀ H' α' σ', p.X H H' α α' → p.S H' α' μ' → RelS p.K H' α' ρ' σ' → D.ct σ' H'
  | .ret d μ' => ∀ H' α' v, p.X H H' α α' → p.S H' α' μ' → p.R H' α' d v → D.rt v H'
  | .exc x μ' => p.xw x μ'
  | .bad => False

section
variable {p : Pa} {H H1 : Hp} {α α1 : List Addr} {β γ : Type}
theorem PostO.imp {o : Out β} {R R' : β → Sto → Hp → List Addr → Prop} (h : PostO p H α o R) (k : ∀ a μ' H' α', p.X H H' α α' → p.S H' α' μ' → R a μ' H' α' → R' a μ' H' α') : PostO p H α o R' := by
  cases o with
  | ok a μ => exact fun H' α' e s => k a μ H' α' e s (h H' α' e s)
  | exc x μ => exact h
  | bad => exact h
theorem PostO.from {o : Out β} {R : β → Sto → Hp → List Addr → Prop} (e : p.X H H1 α α1) (h : PostO p H α o R) : PostO p H1 α1 o R := by
  cases o with
  | ok a μ => exact fun H' α' e' s => h H' α' (e.trans e') s
  | exc x μ => exact h
  | bad => exact h
theorem PostO.bind {o : Out β} {g : β → Sto → Out γ} {R : γ → Sto → Hp → List Addr → Prop} (h : PostO p H α (o.bind g) R) : PostO p H α o (fun a μ1 H1 α1 => PostO p H1 α1 (g a μ1) R) := by
  cases o with
  | ok a μ => exact fun H' α' e s => PostO.from e h
  | exc x μ => exact h
  | bad => exact h
theorem PostO.now {a : β} {μ : Sto} {R : β → Sto → Hp → List Addr → Prop} (h : PostO p H α (.ok a μ) R) (s : p.S H α μ) : R a μ H α := h H α Ext.refl s
theorem PostS.from {o : SO} {D : Ends} (e : p.X H H1 α α1) (h : PostS p H α o D) : PostS p H1 α1 o D := by
  cases o with
  | next ρ μ => exact fun H' α' σ' e' s r => h H' α' σ' (e.trans e') s r
  | brk ρ μ => exact fun H' α' σ' e' s r => h H' α' σ' (e.trans e') s r
  | cnt ρ μ => exact fun H' α' σ' e' s r => h H' α' σ' (e.trans e') s r
  | ret d μ => exact fun H' α' v e' s r => h H' α' v (e.trans e') s r
  | exc x μ => exact h
  | bad => exact h
theorem PostO.bindS {o : Out β} {g : β → Sto → SO} {D : Ends} (h : PostS p H α (o.bindS g) D) : PostO p H α o (fun a μ1 H1 α1 => PostS p H1 α1 (g a μ1) D) := by
  cases o with
  | ok a μ => exact fun H' α' e s => PostS.from e h
  | exc x μ => exact h
  | bad => exact h
end

abbrev ME := Ro → Sto → Out D
abbrev MT := Ro → Sto → Out Bool
abbrev MA := Ro → Sto → Out (List D)
abbrev MS := Ro → Sto → SO
abbrev MG := D → Ro → Sto → Out Ro
abbrev RV (p : Pa) (Q : VK) : D → Sto → Hp → List Addr → Prop := fun d _ H' α' => ∀ v, p.R H' α' d v → Q v H'

def tD (p : Pa) (f : ME) : TE := fun σ H Q => ∃ α ρ μ, p.S H α μ ∧ RelS p.K H α ρ σ ∧ PostO p H α (f ρ μ) (RV p Q)
def tDT (p : Pa) (f : MT) : TT := fun σ H Q => ∃ α ρ μ, p.S H α μ ∧ RelS p.K H α ρ σ ∧ PostO p H α (f ρ μ) (fun b _ H' _ => Q b H')
def tDA (p : Pa) (f : MA) : TA := fun σ H Q => ∃ α ρ μ, p.S H α μ ∧ RelS p.K H α ρ σ ∧ PostO p H α (f ρ μ) (fun ds _ H' α' => ∀ vs, p.Rs H' α' ds vs → Q vs H')
def tDS (p : Pa) (f : MS) : TS := fun D σ H => ∃ α ρ μ, p.S H α μ ∧ RelS p.K H α ρ σ ∧ PostS p H α (f ρ μ) D
def tDG (p : Pa) (g : MG) : TG := fun v σ H Q => ∃ α ρ μ d, p.S H α μ ∧ RelS p.K H α ρ σ ∧ p.R H α d v ∧ PostO p H α (g d ρ μ) (fun ρ' _ H' α' => ∀ σ', RelS p.K H' α' ρ' σ' → Q σ' H')

theorem PE.weak {X : Cx} {e : Expr} {t t' : TE} (h : PE X e t) (k : ∀ σ H Q, t' σ H Q → t σ H Q) : PE X e t' := fun pins s σ H Q I q => h pins s σ H Q I (k σ H Q q)
theorem PT.weak {X : Cx} {e : Expr} {t t' : TT} (h : PT X e t) (k : ∀ σ H Q, t' σ H Q → t σ H Q) : PT X e t' := fun pins s σ H Q I q => h pins s σ H Q I (k σ H Q q)
theorem PW.weak {X : Cx} {e : Expr} {t t' : TT} (h : PW X e t) (k : ∀ σ H Q, t' σ H Q → t σ H Q) : PW X e t' := fun wh pins s σ H Q I q => h wh pins s σ H Q I (k σ H Q q)
theorem PA.weak {X : Cx} {e : List Expr} {t t' : TA} (h : PA X e t) (k : ∀ σ H Q, t' σ H Q → t σ H Q) : PA X e t' := fun pos pins s σ H Q I q => h pos pins s σ H Q I (k σ H Q q)
theorem PS.weak {X : Cx} {e : Stmt} {t t' : TS} (h : PS X e t) (k : ∀ D σ H, t' D σ H → t D σ H) : PS X e t' := fun pins s σ H Q I q => h pins s σ H Q I (k Q σ H q)
theorem PSs.weak {X : Cx} {e : List Stmt} {t t' : TS} (h : PSs X e t) (k : ∀ D σ H, t' D σ H → t D σ H) : PSs X e t' := fun pins s σ H Q I q => h pins s σ H Q I (k Q σ H q)

/-! ### the pieces -/
def cVar (i : Nat) : ME := fun ρ μ => match ρ[i]? with
  | some (some d) => .ok d μ
  | _ => .bad
def cC (d : D) : ME := fun _ μ => .ok d μ
def cBin (op : D → D → Sto → Out D) (fa fb : ME) : ME := fun ρ μ => (fa ρ μ).bind fun a μ1 => (fb ρ μ1).bind fun b μ2 => op a b μ2
def cUn (op : D → Sto → Out D) (fa : ME) : ME := fun ρ μ => (fa ρ μ).bind fun a μ1 => op a μ1
def cNil : MA := fun _ μ => .ok [] μ
def cCons (fa : ME) (fr : MA) : MA := fun ρ μ => (fa ρ μ).bind fun a μ1 => (fr ρ μ1).bind fun r μ2 => .ok (a :: r) μ2
def cArgs (f : List D → Sto → Out D) (fa : MA) : ME := fun ρ μ => (fa ρ μ).bind f
def cTup (fa : MA) : ME := cArgs (fun ds μ => if ds.length ≤ sizeLine then .ok (.tup ds) μ else .bad) fa
def cLst (fa : MA) : ME := cArgs (fun ds μ => if ds.length ≤ sizeLine then .ok (.obj μ.length) (μ ++ [.lst ds]) else .bad) fa
def asB : D → Sto → Out Bool
  | .bl b, μ => .ok b μ
  | _, _ => .bad
def cTB (f : ME) : MT := fun ρ μ => (f ρ μ).bind asB
def cAndT (f g : MT) : MT := fun ρ μ => (f ρ μ).bind fun b μ1 => if b = true then g ρ μ1 else .ok false μ1
def cOrT (f g : MT) : MT := fun ρ μ => (f ρ μ).bind fun b μ1 => if b = true then .ok true μ1 else g ρ μ1
def cNotT (f : MT) : MT := fun ρ μ => (f ρ μ).bind fun b μ1 => .ok (!b) μ1
def cAndV (f g : ME) : ME := fun ρ μ => (f ρ μ).bind fun a μ1 => (asB a μ1).bind fun b μ2 => if b = true then g ρ μ2 else .ok (.bl false) μ2
def cOrV (f g : ME) : ME := fun ρ μ => (f ρ μ).bind fun a μ1 => (asB a μ1).bind fun b μ2 => if b = true then .ok (.bl true) μ2 else g ρ μ2
def cNotV (f : ME) : ME := fun ρ μ => (f ρ μ).bind fun a μ1 => (asB a μ1).bind fun b μ2 => .ok (.bl (!b)) μ2
def cIf (c : MT) (f g : ME) : ME := fun ρ μ => (c ρ μ).bind fun b μ1 => if b = true then f ρ μ1 else g ρ μ1

/-- an operation on two values keeps to the layer's reading -/
def Op2 (p : Pa) (op : D → D → Sto → Out D) (r : R2) : Prop := ∀ a b v y H α μ Q, p.S H α μ → p.R H α a v → p.R H α b y → PostO p H α (op a b μ) (RV p Q) → r v y H Q
def Op1 (p : Pa) (op : D → Sto → Out D) (r : V → Hp → VK → Prop) : Prop := ∀ a v H α μ Q, p.S H α μ → p.R H α a v → PostO p H α (op a μ) (RV p Q) → r v H Q
def OpN (p : Pa) (f : List D → Sto → Out D) (r : List V → Hp → VK → Prop) : Prop := ∀ ds vs H α μ Q, p.S H α μ → p.Rs H α ds vs → PostO p H α (f ds μ) (RV p Q) → r vs H Q

section
variable {p : Pa}
theorem asB_ok {d : D} {μ : Sto} {H : Hp} {α : List Addr} {R : Bool → Sto → Hp → List Addr → Prop} {v : V} (h : PostO p H α (asB d μ) R) (r : p.R H α d v) (s : p.S H α μ) : ∃ b, d = .bl b ∧ v = .bl b ∧ R b μ H α := by
  cases d with
  | bl b => exact ⟨b, rfl, Rep.bl_iff.mp r, h.now s⟩
  | non => exact h.elim
  | int i => exact h.elim
  | str x => exact h.elim
  | tup xs => exact h.elim
  | frz xs => exact h.elim
  | obj n => exact h.elim
variable {X : Cx} {a b c : Expr} {es : List Expr} {fa fb fc : ME} {pos : Pos}
theorem se_var {i : Nat} {x : Str} (h : PE X (.Name x pos) (tVar i)) : PE X (.Name x pos) (tD p (cVar i)) := h.weak fun σ H Q ⟨α, ρ, μ, S, R, P⟩ => by
  unfold cVar at P
  cases e : ρ[i]? with
  | none => rw [e] at P; exact P.elim
  | some o =>
    rw [e] at P
    cases o with
    | none => exact P.elim
    | some d =>
      obtain ⟨v, h1, h2⟩ := R.at' i d e
      exact ⟨v, h1, P.now S v h2⟩
theorem se_c {e : Expr} {v : V} {d : D} (h : PE X e (tC v)) (r : ∀ H α, p.R H α d v) : PE X e (tD p (cC d)) := h.weak fun σ H Q ⟨α, ρ, μ, S, R, P⟩ => P.now S v (r H α)
theorem se_bin {op : Operator} {o : D → D → Sto → Out D} {r : R2} (ho : OpR X (binaryOp op) r) (hd : Op2 p o r) (ha : PE X a (tD p fa)) (hb : PE X b (tD p fb)) : PE X (.BinOp a op b pos) (tD p (cBin o fa fb)) :=
  (pe_op ho ha hb).weak fun σ H Q ⟨α, ρ, μ, S, R, P⟩ => ⟨α, ρ, μ, S, R, P.bind.imp fun x μ1 H1 α1 X1 S1 P1 v rv => ⟨α1, ρ, μ1, S1, R.mono X1, P1.bind.imp fun y μ2 H2 α2 X2 S2 P2 u ru => hd x y v u H2 α2 μ2 Q S2 (rv.mono X2) ru P2⟩⟩
theorem se_cmp {op : CmpOp} {o : D → D → Sto → Out D} {r : R2} (ho : OpR X (compareOp op) r) (hd : Op2 p o r) (ha : PE X a (tD p fa)) (hb : PE X b (tD p fb)) (hm : behindInMarks op b = false) : PE X (.Compare a [op] [b] pos) (tD p (cBin o fa fb)) :=
  (pe_cmpR ho ha hb hm).weak fun σ H Q ⟨α, ρ, μ, S, R, P⟩ => ⟨α, ρ, μ, S, R, P.bind.imp fun x μ1 H1 α1 X1 S1 P1 v rv => ⟨α1, ρ, μ1, S1, R.mono X1, P1.bind.imp fun y μ2 H2 α2 X2 S2 P2 u ru => hd x y v u H2 α2 μ2 Q S2 (rv.mono X2) ru P2⟩⟩
theorem st_cmp {op : CmpOp} {o : D → D → Sto → Out D} {r : R2} (ho : OpR X (compareOp op) r) (hd : Op2 p o r) (ha : PE X a (tD p fa)) (hb : PE X b (tD p fb)) (hm : behindInMarks op b = false) : PT X (.Compare a [op] [b] pos) (tDT p (cTB (cBin o fa fb))) :=
  (pt_cmpR ho ha hb hm).weak fun σ H Q ⟨α, ρ, μ, S, R, P⟩ => ⟨α, ρ, μ, S, R, P.bind.bind.imp fun x μ1 H1 α1 X1 S1 P1 v rv => ⟨α1, ρ, μ1, S1, R.mono X1, P1.bind.imp fun y μ2 H2 α2 X2 S2 P2 u ru =>
    hd x y v u H2 α2 μ2 _ S2 (rv.mono X2) ru (P2.imp fun d μ3 H3 α3 X3 S3 P3 z rz => by
      obtain ⟨k, _, e, q⟩ := asB_ok P3 rz S3
      exact ⟨k, e, q⟩)⟩⟩
theorem sa_nil : PA X [] (tDA p cNil) := pa_nil.weak fun σ H Q ⟨α, ρ, μ, S, R, P⟩ => P.now S [] Reps.nil
theorem sa_cons {fr : MA} (ha : PE X a (tD p fa)) (hr : PA X es (tDA p fr)) (hs : starEach (a :: es) X.env = (false, eval a X.env) :: starEach es X.env) : PA X (a :: es) (tDA p (cCons fa fr)) :=
  (pa_cons ha hr hs).weak fun σ H Q ⟨α, ρ, μ, S, R, P⟩ => ⟨α, ρ, μ, S, R, P.bind.imp fun x μ1 H1 α1 X1 S1 P1 v rv => ⟨α1, ρ, μ1, S1, R.mono X1, P1.bind.imp fun y μ2 H2 α2 X2 S2 P2 us ru => P2.now S2 _ (Reps.cons (rv.mono X2) ru)⟩⟩
theorem se_tup {k : Nat} {fr : MA} (h : PA X es (tDA p fr)) : PE X (.Tuple es k pos) (tD p (cTup fr)) :=
  (pe_tup h).weak fun σ H Q ⟨α, ρ, μ, S, R, P⟩ => ⟨α, ρ, μ, S, R, P.bind.imp fun ds μ1 H1 α1 X1 S1 P1 vs rv => by
    by_cases hl : ds.length ≤ sizeLine
    · rw [if_pos hl] at P1
      refine ⟨by rw [rv.length]; exact hl, fun q hq => ?_⟩
      exact P1 _ _ (ext_new hq) (S1.tuple hq) _ (Rep.tup_iff.mpr ⟨q, vs, rfl, SqT.of upd_same, rv.mono (ext_new hq)⟩)
    · rw [if_neg hl] at P1
      exact P1.elim⟩
theorem new_list {H : Hp} {α : List Addr} {μ : Sto} {ds : List D} {vs : List V} {q : Addr} (S : p.S H α μ) (hq : H q = none) (rv : p.Rs H α ds vs) :
    p.X H (upd H q (.lst vs)) α (α ++ [q]) ∧ p.S (upd H q (.lst vs)) (α ++ [q]) (μ ++ [.lst ds]) ∧ p.R (upd H q (.lst vs)) (α ++ [q]) (.obj μ.length) (.ref q) := by
  have X1 : p.X H (upd H q (.lst vs)) α (α ++ [q]) := (ext_new hq).trans (ext_more [q])
  exact ⟨X1, S.more hq ⟨vs, upd_same, rv.mono X1⟩, Rep.obj_iff.mpr ⟨q, rfl, by rw [← S.len]; simp⟩⟩
theorem se_lst {fr : MA} (h : PA X es (tDA p fr)) : PE X (.List es pos) (tD p (cLst fr)) :=
  (pe_lst h).weak fun σ H Q ⟨α, ρ, μ, S, R, P⟩ => ⟨α, ρ, μ, S, R, P.bind.imp fun ds μ1 H1 α1 X1 S1 P1 vs rv => by
    by_cases hl : ds.length ≤ sizeLine
    · rw [if_pos hl] at P1
      refine ⟨by rw [rv.length]; exact hl, fun q hq => ?_⟩
      obtain ⟨x1, x2, x3⟩ := new_list S1 hq rv
      exact P1 _ _ x1 x2 _ x3
    · rw [if_neg hl] at P1
      exact P1.elim⟩

/-! ### tests -/
variable {ft gt : MT} {rest : List Expr}
theorem sw_and (ha : PT X a (tDT p ft)) (hb : PW X (.BoolOp .And (b :: rest) pos) (tDT p gt)) : PW X (.BoolOp .And (a :: b :: rest) pos) (tDT p (cAndT ft gt)) :=
  (pw_and ha hb).weak fun σ H Q ⟨α, ρ, μ, S, R, P⟩ => ⟨α, ρ, μ, S, R, P.bind.imp fun k μ1 H1 α1 X1 S1 P1 => by
    cases k with
    | true => rw [if_pos rfl] at P1 ⊢; exact ⟨α1, ρ, μ1, S1, R.mono X1, P1⟩
    | false => rw [if_neg Bool.false_ne_true] at P1 ⊢; exact P1.now S1⟩
theorem sw_or (ha : PT X a (tDT p ft)) (hb : PW X (.BoolOp .Or (b :: rest) pos) (tDT p gt)) : PW X (.BoolOp .Or (a :: b :: rest) pos) (tDT p (cOrT ft gt)) :=
  (pw_or ha hb).weak fun σ H Q ⟨α, ρ, μ, S, R, P⟩ => ⟨α, ρ, μ, S, R, P.bind.imp fun k μ1 H1 α1 X1 S1 P1 => by
    cases k with
    | true => rw [if_pos rfl] at P1 ⊢; exact P1.now S1
    | false => rw [if_neg Bool.false_ne_true] at P1 ⊢; exact ⟨α1, ρ, μ1, S1, R.mono X1, P1⟩⟩
theorem st_not (ha : PT X a (tDT p ft)) : PT X (.UnaryOp .Not a pos) (tDT p (cNotT ft)) :=
  (pt_not ha).weak fun σ H Q ⟨α, ρ, μ, S, R, P⟩ => ⟨α, ρ, μ, S, R, P.bind.imp fun k μ1 H1 α1 X1 S1 P1 => P1.now S1⟩
theorem se_and (ha : PE X a (tD p fa)) (hb : PE X (.BoolOp .And (b :: rest) pos) (tD p fb)) : PE X (.BoolOp .And (a :: b :: rest) pos) (tD p (cAndV fa fb)) :=
  (pe_and ha hb).weak fun σ H Q ⟨α, ρ, μ, S, R, P⟩ => ⟨α, ρ, μ, S, R, P.bind.imp fun d μ1 H1 α1 X1 S1 P1 v rv => by
    obtain ⟨k, _, e, q⟩ := asB_ok P1.bind rv S1
    refine ⟨k, e, ?_⟩
    cases k with
    | true => rw [if_pos rfl] at q ⊢; exact ⟨α1, ρ, μ1, S1, R.mono X1, q⟩
    | false => rw [if_neg Bool.false_ne_true] at q ⊢; exact q.now S1 _ (Rep.bl_iff.mpr rfl)⟩
theorem se_not (ha : PE X a (tD p fa)) : PE X (.UnaryOp .Not a pos) (tD p (cNotV fa)) :=
  (pe_not ha).weak fun σ H Q ⟨α, ρ, μ, S, R, P⟩ => ⟨α, ρ, μ, S, R, P.bind.imp fun d μ1 H1 α1 X1 S1 P1 v rv => by
    obtain ⟨k, _, e, q⟩ := asB_ok P1.bind rv S1
    exact ⟨k, e, q.now S1 _ (Rep.bl_iff.mpr rfl)⟩⟩
/-- a built-in of plain arguments -/
theorem se_callB {id : String} {x : Str} {px : Pos} {f : List D → Sto → Out D} {fr : MA} {r : List V → Hp → VK → Prop} (hc : CallR X (.builtin id) r) (hd : OpN p f r) (hg : Gl X x) (hm : X.mg x = none) (hv : bootBuiltins x = some (.builtin id)) (ha : PA X (a :: es) (tDA p fr))
    (hn : x ≠ "__name__") (hdb : (x == ("__debug__" : Str)) = false) (he : starEach (a :: es) X.env = (false, eval a X.env) :: starEach es X.env) (hpl : (backTo pos (starEach es X.env)).any (·.1) = false) : PE X (.Call (.Name x px) (a :: es) [] pos) (tD p (cArgs f fr)) :=
  (pe_callB hc hg hm hv ha hn hdb he hpl).weak fun σ H Q ⟨α, ρ, μ, S, R, P⟩ => ⟨α, ρ, μ, S, R, P.bind.imp fun ds μ1 H1 α1 X1 S1 P1 vs rv => hd ds vs H1 α1 μ1 Q S1 rv P1⟩
theorem se_callTy {T : String} {x : Str} {px : Pos} {f : List D → Sto → Out D} {fr : MA} {r : List V → Hp → VK → Prop} (hc : CallR X (.type T) r) (hd : OpN p f r) (hg : Gl X x) (hm : X.mg x = none) (hv : bootBuiltins x = some (.type T)) (ha : PA X (a :: es) (tDA p fr))
    (hn : x ≠ "__name__") (hdb : (x == ("__debug__" : Str)) = false) (he : starEach (a :: es) X.env = (false, eval a X.env) :: starEach es X.env) (hpl : (backTo pos (starEach es X.env)).any (·.1) = false) : PE X (.Call (.Name x px) (a :: es) [] pos) (tD p (cArgs f fr)) :=
  (pe_callTy hc hg hm hv ha hn hdb he hpl).weak fun σ H Q ⟨α, ρ, μ, S, R, P⟩ => ⟨α, ρ, μ, S, R, P.bind.imp fun ds μ1 H1 α1 X1 S1 P1 vs rv => hd ds vs H1 α1 μ1 Q S1 rv P1⟩
end
end L2

set_option Elab.async false
set_option linter.all false
set_option maxRecDepth 100000
set_option maxHeartbeats 4000000
namespace L2
open PySem PySem.Spec PyProof.Rows RS

/-! ### statements -/
def sRet (f : ME) : MS := fun ρ μ => (f ρ μ).bindS fun d μ' => .ret d μ'
def sRetN : MS := fun _ μ => .ret .non μ
def sNext : MS := fun ρ μ => .next ρ μ
def sBad : MS := fun _ _ => .bad
def sBrk : MS := fun ρ μ => .brk ρ μ
def sCnt : MS := fun ρ μ => .cnt ρ μ
def sSeq (f g : MS) : MS := fun ρ μ => (f ρ μ).bind g
def sIf (c : MT) (f g : MS) : MS := fun ρ μ => (c ρ μ).bindS fun b μ1 => if b = true then f ρ μ1 else g ρ μ1
def sAsg (f : ME) (g : MG) : MS := fun ρ μ => (f ρ μ).bindS fun d μ1 => (g d ρ μ1).bindS fun ρ' μ2 => .next ρ' μ2
def sExpr (f : ME) : MS := fun ρ μ => (f ρ μ).bindS fun _ μ1 => .next ρ μ1
def sAug (i : Nat) (op : D → D → Sto → Out D) (f : ME) : MS := fun ρ μ => (cVar i ρ μ).bindS fun a μ0 => (f ρ μ0).bindS fun b μ1 => (op a b μ1).bindS fun c μ2 => .next (ρ.set i (some c)) μ2
def gNameD (i : Nat) : MG := fun d ρ μ => .ok (ρ.set i (some d)) μ
abbrev MGs := List D → Ro → Sto → Out Ro
def gNilD : MGs := fun ds ρ μ => match ds with
  | [] => .ok ρ μ
  | _ :: _ => .bad
def gConsD (g : MG) (u : MGs) : MGs := fun ds ρ μ => match ds with
  | [] => .bad
  | d :: r => (g d ρ μ).bind fun ρ' μ' => u r ρ' μ'
def gTupD (n : Nat) (u : MGs) : MG := fun d ρ μ => match d with
  | .tup xs => if xs.length = n then u xs ρ μ else .bad
  | _ => .bad
/-- o[i] = v -/
def setD (o i v : D) (μ : Sto) : Out Unit := match o, i with
  | .obj n, .int k => match μ[n]? with
    | some (.lst xs) => match ixN xs.length k with
      | some j => .ok () (μ.set n (.lst (xs.set j v)))
      | none => .bad
    | _ => .bad
  | _, _ => .bad
def gSubD (fo fi : ME) : MG := fun d ρ μ => (fo ρ μ).bind fun o μ1 => (fi ρ μ1).bind fun i μ2 => (setD o i d μ2).bind fun _ μ3 => .ok ρ μ3

def tDGs (p : Pa) (g : MGs) : TGs := fun vs σ H Q => ∃ α ρ μ ds, p.S H α μ ∧ RelS p.K H α ρ σ ∧ p.Rs H α ds vs ∧ PostO p H α (g ds ρ μ) (fun ρ' _ H' α' => ∀ σ', RelS p.K H' α' ρ' σ' → Q σ' H')
theorem PG.weak {X : Cx} {e : Expr} {t t' : TG} (h : PG X e t) (k : ∀ v σ H Q, t' v σ H Q → t v σ H Q) : PG X e t' := fun pins s σ H v u Q I r q => h pins s σ H v u Q I r (k v σ H Q q)
theorem PGs.weak {X : Cx} {e : List Expr} {t t' : TGs} (h : PGs X e t) (k : ∀ v σ H Q, t' v σ H Q → t v σ H Q) : PGs X e t' := fun pins s σ H v u Q I r q => h pins s σ H v u Q I r (k v σ H Q q)
theorem PI.weak {X : Cx} {tg e : Expr} {t t' : TI} (h : PI X tg e t) (k : ∀ σ H R, t' σ H R → t σ H R) : PI X tg e t' := fun pins s σ H Q I q => h pins s σ H Q I (k σ H Q q)

section
variable {p : Pa} {X : Cx} {a b c e tg : Expr} {es : List Expr} {f : ME} {g : MG} {u : MGs} {pos : Pos} {st : Stmt} {sts : List Stmt} {fs gs : MS} {ft : MT}
theorem ss_nil : PSs X [] (tDS p sNext) := pss_nil.weak fun D σ H ⟨α, ρ, μ, S, R, P⟩ => P H α σ Ext.refl S R
theorem seq_weak {t u : TS} {D : Ends} {σ : St} {H : Hp} {α : List Addr} {o : SO} {k : MS} (h : PostS p H α (o.bind k) D)
    (hk : ∀ D σ H, tDS p k D σ H → u D σ H) : PostS p H α o { D with nx := u D } := by
  cases o with
  | next ρ μ => exact fun H' α' σ' e s r => hk _ _ _ ⟨α', ρ, μ, s, r, PostS.from e h⟩
  | brk ρ μ => exact h
  | cnt ρ μ => exact h
  | ret d μ => exact h
  | exc x μ => exact h
  | bad => exact h
theorem ss_cons (h1 : PS X st (tDS p fs)) (h2 : PSs X sts (tDS p gs)) : PSs X (st :: sts) (tDS p (sSeq fs gs)) :=
  (pss_cons h1 h2).weak fun D σ H ⟨α, ρ, μ, S, R, P⟩ => ⟨α, ρ, μ, S, R, seq_weak (t := tDS p fs) (σ := σ) P fun _ _ _ z => z⟩
theorem ss_one (h1 : PS X st (tDS p fs)) : PSs X [st] (tDS p fs) := pss_one h1
theorem ss_ret (h : PE X e (tD p f)) : PS X (.Return (some e) pos) (tDS p (sRet f)) :=
  (ps_ret h).weak fun D σ H ⟨α, ρ, μ, S, R, P⟩ => ⟨α, ρ, μ, S, R, (PostO.bindS P).imp fun d μ1 H1 α1 X1 S1 P1 v rv => P1 H1 α1 v Ext.refl S1 rv⟩
theorem ss_never : PS X st (tDS p sBad) := ps_never.weak fun D σ H ⟨α, ρ, μ, S, R, P⟩ => P
theorem ss_if {A B : List Stmt} (hc : PT X c (tDT p ft)) (ha : PSs X A (tDS p fs)) (hb : PSs X B (tDS p gs)) : PS X (.If c A B pos) (tDS p (sIf ft fs gs)) :=
  (ps_if hc ha hb).weak fun D σ H ⟨α, ρ, μ, S, R, P⟩ => ⟨α, ρ, μ, S, R, (PostO.bindS P).imp fun k μ1 H1 α1 X1 S1 P1 => by
    cases k with
    | true => rw [if_pos rfl] at P1 ⊢; exact ⟨α1, ρ, μ1, S1, R.mono X1, P1⟩
    | false => rw [if_neg Bool.false_ne_true] at P1 ⊢; exact ⟨α1, ρ, μ1, S1, R.mono X1, P1⟩⟩
theorem asg_weak {D : Ends} {σ : St} {H : Hp} (h : tDS p (sAsg f g) D σ H) : tAsg (tD p f) (tDG p g) D σ H := by
  obtain ⟨α, ρ, μ, S, R, P⟩ := h
  exact ⟨α, ρ, μ, S, R, (PostO.bindS P).imp fun d μ1 H1 α1 X1 S1 P1 v rv => ⟨α1, ρ, μ1, d, S1, R.mono X1, rv, (PostO.bindS P1).imp fun ρ' μ2 H2 α2 X2 S2 P2 σ' r' => P2 H2 α2 σ' Ext.refl S2 r'⟩⟩
theorem ss_asg (he : PE X e (tD p f)) (hg : PG X tg (tDG p g)) (hs : swapsWithSole [tg] e pos.line X.env = pure false) (hw : swappedStores [tg] e X.env = pure none)
    (h1 : (assignEach [tg] X.env).map (·.2) = [assign tg X.env]) : PS X (.Assign [tg] e pos) (tDS p (sAsg f g)) := (ps_asg he hg hs hw h1).weak fun D σ H h => asg_weak h
theorem gname_weak {i : Nat} {v : V} {σ : St} {H : Hp} {Q : St → Hp → Prop} (h : tDG p (gNameD i) v σ H Q) : gName i v σ H Q := by
  obtain ⟨α, ρ, μ, d, S, R, r, P⟩ := h
  exact P.now S _ (R.set i r)
theorem sg_name {i : Nat} {x : Str} (hN : X.N.Nodup) (hi : X.N[i]? = some x) (hx : Loc X.env.scope x) (hf : X.fn x = true ∨ X.env.scope.names.lookup x = some .local) : PG X (.Name x pos) (tDG p (gNameD i)) :=
  (pg_name hN hi hx hf).weak fun v σ H Q h => gname_weak h
theorem ss_set {i : Nat} {x : Str} {pos' : Pos} (hN : X.N.Nodup) (hi : X.N[i]? = some x) (hx : Loc X.env.scope x) (he : PE X e (tD p f)) (hs : swapsWith e (some (.Name x pos')) pos.line X.env = pure false) (hf : X.fn x = true ∨ X.env.scope.names.lookup x = some .local) :
    PS X (.Assign [.Name x pos'] e pos) (tDS p (sAsg f (gNameD i))) := (ps_set hN hi hx he hs hf).weak fun D σ H h => by
  obtain ⟨α, ρ, μ, S, R, P⟩ := asg_weak h
  exact ⟨α, ρ, μ, S, R, P.imp fun d μ1 H1 α1 X1 S1 P1 v rv => gname_weak (P1 v rv)⟩
theorem sgs_nil : PGs X [] (tDGs p gNilD) := pgs_nil.weak fun vs σ H Q ⟨α, ρ, μ, ds, S, R, r, P⟩ => by
  cases ds with
  | nil => simp only [Reps] at r; exact ⟨r, P.now S σ R⟩
  | cons d ds => exact P.elim
theorem sgs_cons (h1 : PG X e (tDG p g)) (h2 : PGs X es (tDGs p u)) (hs : (assignEach (e :: es) X.env).map (·.2) = assign e X.env :: (assignEach es X.env).map (·.2)) : PGs X (e :: es) (tDGs p (gConsD g u)) :=
  (pgs_cons h1 h2 hs).weak fun vs σ H Q ⟨α, ρ, μ, ds, S, R, r, P⟩ => by
    cases ds with
    | nil => exact P.elim
    | cons d ds =>
      simp only [Reps] at r
      obtain ⟨v, vr, rfl, r1, r2⟩ := r
      refine ⟨v, vr, rfl, α, ρ, μ, d, S, R, r1, ?_⟩
      exact (PostO.bind (o := g d ρ μ) P).imp fun ρ' μ1 H1 α1 X1 S1 P1 σ' r' => ⟨α1, ρ', μ1, ds, S1, r', r2.mono X1, P1⟩
theorem sg_tup {k n : Nat} (hK : X.K = p.K) (hc : X.calm = true) (h : PGs X es (tDGs p u)) (hn : (assignEach es X.env).length = n) (hst : (assignEach es X.env).findIdx? (·.1) = none) : PG X (.Tuple es k pos) (tDG p (gTupD n u)) :=
  (pg_tup hc h hn hst).weak fun v σ H Q ⟨α, ρ, μ, d, S, R, r, P⟩ => by
    cases d with
    | tup xs =>
      obtain ⟨a, vs, rfl, h1, h2⟩ := Rep.tup_iff.mp r
      have P' : PostO p H α (if xs.length = n then u xs ρ μ else .bad) _ := P
      by_cases hl : xs.length = n
      · rw [if_pos hl] at P'
        exact ⟨a, vs, rfl, by rw [hK]; exact h1, by rw [h2.length]; exact hl, α, ρ, μ, xs, S, R, h2, P'⟩
      · rw [if_neg hl] at P'; exact P'.elim
    | non => exact P.elim
    | bl b => exact P.elim
    | int i => exact P.elim
    | str x => exact P.elim
    | frz xs => exact P.elim
    | obj n => exact P.elim
theorem setD_ok {o i d : D} {μ : Sto} {H : Hp} {α : List Addr} {R : Unit → Sto → Hp → List Addr → Prop} {vo vi v : V} (S : p.S H α μ) (ro : p.R H α o vo) (ri : p.R H α i vi) (rv : p.R H α d v) (P : PostO p H α (setD o i d μ) R) :
    rSetL vo vi v H fun H' => ∃ μ', p.X H H' α α ∧ p.S H' α μ' ∧ R () μ' H' α := by
  unfold setD at P
  split at P
  · rename_i n k
    split at P
    · rename_i xs hx
      split at P
      · rename_i j hj
        obtain ⟨a, ea, us, hH, rr⟩ := S.at hx
        obtain ⟨a', rfl, ea'⟩ := Rep.obj_iff.mp ro
        rw [ea] at ea'; cases ea'
        rw [Rep.int_iff.mp ri]
        have q := rr.set rv j
        refine ⟨a, us, k, j, rfl, rfl, hH, by rw [rr.length]; exact hj, _, ext_upd hH, S.put hx ea hH q, ?_⟩
        exact P _ _ (ext_upd hH) (S.put hx ea hH q)
      · exact P.elim
    · exact P.elim
  · exact P.elim
theorem sg_sub {o i : Expr} {fo fi : ME} (ho : PE X o (tD p fo)) (hi : PE X i (tD p fi))
    (ha : ∀ v, assign (.Subscript o i pos) X.env v = (do
      let ov ← holding [v] (eval o X.env)
      let iv ← holding [v, ov] (eval i X.env)
      standAt pos
      holding [v, ov, iv] (setItem ov iv v)
      release [v, ov, iv] [])) : PG X (.Subscript o i pos) (tDG p (gSubD fo fi)) :=
  (pg_sub ho hi set_list ha).weak fun v σ H Q ⟨α, ρ, μ, d, S, R, r, P⟩ => ⟨α, ρ, μ, S, R, (PostO.bind P).imp fun od μ1 H1 α1 X1 S1 P1 vo ro => ⟨α1, ρ, μ1, S1, R.mono X1, (PostO.bind P1).imp fun id μ2 H2 α2 X2 S2 P2 vi ri => by
    obtain ⟨pp, xs, k, j, e1, e2, e3, e4, μ3, x3, s3, q⟩ := setD_ok S2 (ro.mono X2) ri ((r.mono X1).mono X2) (PostO.bind P2)
    exact ⟨pp, xs, k, j, e1, e2, e3, e4, q.now s3 σ (((R.mono X1).mono X2).mono x3)⟩⟩⟩
theorem ss_aug {i : Nat} {x : Str} {op : Operator} {o : D → D → Sto → Out D} {r : R2} {pos' : Pos} (hN : X.N.Nodup) (hi : X.N[i]? = some x) (hx : Loc X.env.scope x) (he : PE X e (tD p f)) (ho : PIp X op r) (hd : Op2 p o r) (hf : X.fn x = true ∨ X.env.scope.names.lookup x = some .local) :
    PS X (.AugAssign (.Name x pos') op e pos) (tDS p (sAug i o f)) := (ps_aug hN hi hx he ho hf).weak fun D σ H ⟨α, ρ, μ, S, R, P⟩ => by
  unfold sAug cVar at P
  cases er : ρ[i]? with
  | none => rw [er] at P; exact P.elim
  | some oo =>
    rw [er] at P
    cases oo with
    | none => exact P.elim
    | some d =>
      obtain ⟨v, h1, h2⟩ := R.at' i d er
      have P' : PostS p H α ((f ρ μ).bindS fun b μ1 => (o d b μ1).bindS fun c μ2 => .next (ρ.set i (some c)) μ2) D := P
      refine ⟨v, h1, α, ρ, μ, S, R, (PostO.bindS P').imp fun y μ1 H1 α1 X1 S1 P1 u ru => ?_⟩
      exact hd d y v u H1 α1 μ1 _ S1 (h2.mono X1) ru ((PostO.bindS P1).imp fun z μ2 H2 α2 X2 S2 P2 t rt => P2 H2 α2 _ Ext.refl S2 (((R.mono X1).mono X2).set i rt))
end

/-! ### loops -/
inductive Src where
  | fix (xs : List D) | own (n : Nat) (xs : List D)
def Src.items : Src → List D
  | .fix xs => xs
  | .own _ xs => xs
def okSrc : Src → Sto → Prop
  | .fix _, _ => True
  | .own n xs, μ => μ[n]? = some (.lst xs)
/-- J walks the items -/
def Iter (p : Pa) (J : It) (src : Src) (H0 : Hp) (α0 : List Addr) : Prop :=
  ∀ H2 α2 μ2, p.X H0 H2 α0 α2 → p.S H2 α2 μ2 → okSrc src μ2 →
    (∀ (i : Nat) d, src.items[i]? = some d → J.go i H2 ∧ ∀ x H3, J.yld i H2 x H3 → p.X H2 H3 α2 α2 ∧ p.S H3 α2 μ2 ∧ p.R H3 α2 d x) ∧ J.stop src.items.length H2
abbrev MI := Ro → Sto → Out Src
def tDI (p : Pa) (f : MI) : TI := fun σ H R => ∃ α ρ μ, p.S H α μ ∧ RelS p.K H α ρ σ ∧ PostO p H α (f ρ μ) (fun src μ' H' α' => ∀ J, okSrc src μ' → Iter p J src H' α' → R J H')
def SO.loop (o : SO) (k : Ro → Sto → SO) : SO := match o with
  | .next ρ μ => k ρ μ
  | .cnt ρ μ => k ρ μ
  | .brk ρ μ => .next ρ μ
  | .ret d μ => .ret d μ
  | .exc x μ => .exc x μ
  | .bad => .bad
open Classical in
noncomputable def forD (src : Src) (g : MG) (fb : MS) : List D → Ro → Sto → SO
  | [], ρ, μ => if okSrc src μ then .next ρ μ else .bad
  | d :: r, ρ, μ => if okSrc src μ then (g d ρ μ).bindS fun ρ' μ' => (fb ρ' μ').loop (forD src g fb r) else .bad
noncomputable def sFor (fi : MI) (g : MG) (fb : MS) : MS := fun ρ μ => (fi ρ μ).bindS fun src μ1 => forD src g fb src.items ρ μ1
def whileD (c : MT) (fb : MS) : Nat → Ro → Sto → SO
  | 0, _, _ => .bad
  | n + 1, ρ, μ => (c ρ μ).bindS fun b μ1 => if b = true then (fb ρ μ1).loop (whileD c fb n) else .next ρ μ1
def sWhile (n : Nat) (c : MT) (fb : MS) : MS := whileD c fb n

section
variable {p : Pa} {X : Cx} {tg iter c : Expr} {fi : MI} {g : MG} {fb : MS} {ft : MT} {body : List Stmt} {pos : Pos}
theorem loop_weak {H : Hp} {α : List Addr} {o : SO} {k : Ro → Sto → SO} {D : Ends} {N : St → Hp → Prop} (h : PostS p H α (o.loop k) D)
    (hN : ∀ ρ μ H' α' σ', p.X H H' α α' → p.S H' α' μ → RelS p.K H' α' ρ σ' → PostS p H' α' (k ρ μ) D → N σ' H') : PostS p H α o { D with nx := N, ct := N, bk := D.nx } := by
  cases o with
  | next ρ μ => exact fun H' α' σ' e s r => hN ρ μ H' α' σ' e s r (PostS.from e h)
  | cnt ρ μ => exact fun H' α' σ' e s r => hN ρ μ H' α' σ' e s r (PostS.from e h)
  | brk ρ μ => exact h
  | ret d μ => exact h
  | exc x μ => exact h
  | bad => exact h
theorem ss_for (hp : PassesOwn (model X.prog X.w) X.A X.env X.xe) (hc : X.calm = true) (hi : PI X tg iter (tDI p fi)) (hg : PG X tg (tDG p g)) (hb : PSs X body (tDS p fb)) (hs : ∀ x, foldedSetIterable iter X.env x = pure x) :
    PS X (.For tg iter body [] pos) (tDS p (sFor fi g fb)) := (ps_for hp hc hi hg hb hs).weak fun D σ H ⟨α, ρ, μ, S, R, P⟩ => by
  refine ⟨α, ρ, μ, S, R, (PostO.bindS P).imp fun src μ1 H1 α1 X1 S1 P1 J hok hJ => ?_⟩
  refine ⟨fun i m σ2 H2 => m = src.items.length - i ∧ i ≤ src.items.length ∧ ∃ α2 ρ2 μ2, p.X H1 H2 α1 α2 ∧ p.S H2 α2 μ2 ∧ RelS p.K H2 α2 ρ2 σ2 ∧ PostS p H2 α2 (forD src g fb (src.items.drop i) ρ2 μ2) D,
    ⟨_, rfl, Nat.zero_le _, α1, ρ, μ1, Ext.refl, S1, R.mono X1, by simpa using P1⟩, ?_⟩
  rintro i m σ2 H2 ⟨rfl, hi, α2, ρ2, μ2, X2, S2, R2, P2⟩
  by_cases hlt : i < src.items.length
  · rw [List.drop_eq_getElem_cons hlt] at P2
    unfold forD at P2
    by_cases ho : okSrc src μ2
    · rw [if_pos ho] at P2
      obtain ⟨hgo, hy⟩ := (hJ H2 α2 μ2 X2 S2 ho).1 i _ (List.getElem?_eq_getElem hlt)
      refine .inr ⟨hgo, fun σ' H' => i + 1 ≤ src.items.length ∧ ∃ α2 ρ2 μ2, p.X H1 H' α1 α2 ∧ p.S H' α2 μ2 ∧ RelS p.K H' α2 ρ2 σ' ∧ PostS p H' α2 (forD src g fb (src.items.drop (i + 1)) ρ2 μ2) D,
        fun σ' H' ⟨h1, h2⟩ => ⟨_, by omega, rfl, h1, h2⟩, fun x H3 yx => ?_⟩
      obtain ⟨X3, S3, R3⟩ := hy x H3 yx
      refine ⟨α2, ρ2, μ2, _, S3, R2.mono X3, R3, (PostO.from X3 (PostO.bindS P2)).imp fun ρ4 μ4 H4 α4 X4 S4 P4 σ4 R4 => ⟨α4, ρ4, μ4, S4, R4, loop_weak P4 fun ρ5 μ5 H5 α5 σ5 X5 S5 R5 P5 => ⟨hlt, α5, ρ5, μ5, ((X2.trans X3).trans X4).trans X5, S5, R5, P5⟩⟩⟩
    · rw [if_neg ho] at P2; exact P2.elim
  · have e : i = src.items.length := by omega
    subst e
    rw [List.drop_length] at P2
    unfold forD at P2
    by_cases ho : okSrc src μ2
    · rw [if_pos ho] at P2
      exact .inl ⟨(hJ H2 α2 μ2 X2 S2 ho).2, P2 H2 α2 σ2 Ext.refl S2 R2⟩
    · rw [if_neg ho] at P2; exact P2.elim
theorem ss_while {n : Nat} (hp : PassesOwn (model X.prog X.w) X.A X.env X.xe) (hc : PT X c (tDT p ft)) (hb : PSs X body (tDS p fb)) : PS X (.While c body [] pos) (tDS p (sWhile n ft fb)) :=
  (ps_while hp hc hb).weak fun D σ H ⟨α, ρ, μ, S, R, P⟩ => by
    refine ⟨fun m σ2 H2 => ∃ α2 ρ2 μ2, p.S H2 α2 μ2 ∧ RelS p.K H2 α2 ρ2 σ2 ∧ PostS p H2 α2 (whileD ft fb m ρ2 μ2) D, ⟨n, α, ρ, μ, S, R, P⟩, ?_⟩
    rintro m σ2 H2 ⟨α2, ρ2, μ2, S2, R2, P2⟩
    cases m with
    | zero => exact P2.elim
    | succ m =>
      unfold whileD at P2
      refine ⟨α2, ρ2, μ2, S2, R2, (PostO.bindS P2).imp fun k μ3 H3 α3 X3 S3 P3 => ?_⟩
      cases k with
      | true =>
        rw [if_pos rfl] at P3 ⊢
        exact ⟨fun σ' H' => ∃ α2 ρ2 μ2, p.S H' α2 μ2 ∧ RelS p.K H' α2 ρ2 σ' ∧ PostS p H' α2 (whileD ft fb m ρ2 μ2) D, fun σ' H' h => ⟨m, Nat.lt_succ_self _, h⟩,
          α3, ρ2, μ3, S3, R2.mono X3, loop_weak P3 fun ρ5 μ5 H5 α5 σ5 X5 S5 R5 P5 => ⟨α5, ρ5, μ5, S5, R5, P5⟩⟩
      | false =>
        rw [if_neg Bool.false_ne_true] at P3 ⊢
        exact P3 H3 α3 σ2 Ext.refl S3 (R2.mono X3)
end

/-! ### what a loop walks -/
section
variable {p : Pa} {X : Cx} {tg iter : Expr}
theorem iter_list {H : Hp} {α : List Addr} {μ : Sto} {n : Nat} {xs : List D} {a : Addr} (S : p.S H α μ) (hn : μ[n]? = some (.lst xs)) (ha : α[n]? = some a) : Iter p (Itl p.K a) (.own n xs) H α := by
  intro H2 α2 μ2 X2 S2 ho
  obtain ⟨a', ea, vs, hH, rr⟩ := S2.at ho
  rw [X2.pre n a ha] at ea; cases ea
  refine ⟨fun i d hd => ?_, vs, SqL.of hH, by rw [rr.length]; exact Nat.le_refl _⟩
  obtain ⟨v, hv, rv⟩ := rr.get hd
  refine ⟨⟨vs, v, SqL.of hH, hv⟩, fun x H3 ⟨e, hx⟩ => ?_⟩
  subst e
  have := hx vs (SqL.of hH)
  rw [hv] at this; cases this
  exact ⟨Ext.refl, S2, rv⟩
theorem iter_frz {H : Hp} {α : List Addr} {xs : List D} {vs : List V} {a : Addr} (h : FzL p.K H a vs) (r : p.Rs H α xs vs) : Iter p (Itl p.K a) (.fix xs) H α := by
  intro H2 α2 μ2 X2 S2 ho
  have h2 := (X2.frz a vs h).sq
  have rr := r.mono X2
  refine ⟨fun i d hd => ?_, vs, h2, by rw [rr.length]; exact Nat.le_refl _⟩
  obtain ⟨v, hv, rv⟩ := rr.get hd
  refine ⟨⟨vs, v, h2, hv⟩, fun x H3 ⟨e, hx⟩ => ?_⟩
  subst e
  have := hx vs h2
  rw [hv] at this; cases this
  exact ⟨Ext.refl, S2, rv⟩
theorem iter_tup {H : Hp} {α : List Addr} {xs : List D} {vs : List V} {a : Addr} (h : SqT p.K H a vs) (r : p.Rs H α xs vs) : Iter p (Itt p.K a) (.fix xs) H α := by
  intro H2 α2 μ2 X2 S2 ho
  have h2 := X2.tup a vs h
  have rr := r.mono X2
  refine ⟨fun i d hd => ?_, vs, h2, by rw [rr.length]; exact Nat.le_refl _⟩
  obtain ⟨v, hv, rv⟩ := rr.get hd
  refine ⟨⟨vs, v, h2, hv⟩, fun x H3 ⟨e, hx⟩ => ?_⟩
  subst e
  have := hx vs h2
  rw [hv] at this; cases this
  exact ⟨Ext.refl, S2, rv⟩
def rngD (lo : Int) (n : Nat) : List D := (List.range n).map fun (i : Nat) => D.int (lo + (i : Int))
theorem iter_rng {H : Hp} {α : List Addr} (lo : Int) (n : Nat) : Iter p (Itr lo n) (.fix (rngD lo n)) H α := by
  intro H2 α2 μ2 X2 S2 ho
  refine ⟨fun i d hd => ?_, by simp [Src.items, rngD, Itr]⟩
  have hd' : (rngD lo n)[i]? = some d := hd
  unfold rngD at hd'
  rw [List.getElem?_map] at hd'
  by_cases hi : i < n
  · rw [List.getElem?_range hi] at hd'
    cases hd'
    refine ⟨hi, fun x H3 ⟨e, hx⟩ => ?_⟩
    subst e; subst hx
    exact ⟨Ext.refl, S2, Rep.int_iff.mpr rfl⟩
  · rw [List.getElem?_eq_none (by simpa using hi)] at hd'
    cases hd'
/-- the things of a value -/
def srcD (d : D) (μ : Sto) : Out Src := match d with
  | .tup xs => .ok (.fix xs) μ
  | .frz xs => .ok (.fix xs) μ
  | .obj n => match μ[n]? with
    | some (.lst xs) => .ok (.own n xs) μ
    | _ => .bad
  | _ => .bad
def iVal (f : ME) : MI := fun ρ μ => (f ρ μ).bind srcD
/-- over a list or a tuple -/
def iSeq (K : PySem.W.Frag) (tl : TE) : TI := fun σ H R => tl σ H fun x H1 => ∃ a, x = .ref a ∧ (((∃ xs, SqL K H1 a xs) ∧ R (Itl K a) H1) ∨ ((∃ xs, SqT K H1 a xs) ∧ R (Itt K a) H1))
theorem pi_seq {l : Expr} {tl : TE} (hl : PE X l tl) : PI X tg l (iSeq X.K tl) := by
  intro pins s σ H R I h
  refine thn (hl pins s σ H _ I h) fun v s1 ⟨x, H1, I1, r1, q1⟩ => ?_
  obtain ⟨a, e, q⟩ := q1
  subst e
  cases r1
  rcases q with ⟨⟨xs, hq⟩, q⟩ | ⟨⟨xs, hq⟩, q⟩
  · obtain ⟨its, rv, p, hz⟩ := I1.list hq
    refine wpAny_pyIter_list p.isList ?_
    refine ⟨s1.heap.objs.size, [s1.heap.objs.size], _, _, H1, rfl, I1.kept (t' := s1.toks) fun b o e => Heap.get?_push_of_some _ e, turn_list a _, ⟨_, Heap.get?_push_size _ rfl, rfl, rfl⟩, fun b hb => ?_, q⟩
    have e : b = s1.heap.objs.size := by simpa using hb
    subst e
    exact I1.fpOk (Nat.le_refl _) (I1.hok.fresh (Nat.le_refl _))
  · obtain ⟨its, rv, p, hz⟩ := I1.tuple hq
    refine wpAny_pyIter_tuple (show s1.heap.IsTuple a its.toArray from p) ?_
    refine ⟨s1.heap.objs.size, [s1.heap.objs.size], _, _, H1, rfl, I1.kept (t' := s1.toks) fun b o e => Heap.get?_push_of_some _ e, turn_tuple a _, ⟨_, Heap.get?_push_size _ rfl, rfl, rfl⟩, fun b hb => ?_, q⟩
    have e : b = s1.heap.objs.size := by simpa using hb
    subst e
    exact I1.fpOk (Nat.le_refl _) (I1.hok.fresh (Nat.le_refl _))
theorem si_val {l : Expr} {f : ME} (hK : X.K = p.K) (hl : PE X l (tD p f)) : PI X tg l (tDI p (iVal f)) := (pi_seq hl).weak fun σ H R ⟨α, ρ, μ, S, Rr, P⟩ => by
  refine ⟨α, ρ, μ, S, Rr, (PostO.bind P).imp fun d μ1 H1 α1 X1 S1 P1 v rv => ?_⟩
  rw [hK]
  cases d with
  | tup xs =>
    obtain ⟨a, vs, rfl, h1, h2⟩ := Rep.tup_iff.mp rv
    exact ⟨a, rfl, .inr ⟨⟨vs, h1⟩, P1.now S1 _ trivial (iter_tup h1 h2)⟩⟩
  | frz xs =>
    obtain ⟨a, vs, rfl, h1, h2⟩ := Rep.frz_iff.mp rv
    exact ⟨a, rfl, .inl ⟨⟨vs, h1.sq⟩, P1.now S1 _ trivial (iter_frz h1 h2)⟩⟩
  | obj n =>
    obtain ⟨a, rfl, ha⟩ := Rep.obj_iff.mp rv
    unfold srcD at P1
    dsimp only at P1
    split at P1
    · rename_i xs hx
      obtain ⟨a', ea, vs, hH, rr⟩ := S1.at hx
      rw [ha] at ea; cases ea
      exact ⟨a, rfl, .inl ⟨⟨vs, SqL.of hH⟩, P1.now S1 _ hx (iter_list S1 hx ha)⟩⟩
    · exact P1.elim
  | non => exact P1.elim
  | bl b => exact P1.elim
  | int i => exact P1.elim
  | str x => exact P1.elim
/-- range -/
def rng1 (ds : List D) (μ : Sto) : Out Src := match ds with
  | [.int j] => if -(2 ^ 62) ≤ j ∧ j < 2 ^ 62 then .ok (.fix (rngD 0 j.toNat)) μ else .bad
  | _ => .bad
def rng2 (ds : List D) (μ : Sto) : Out Src := match ds with
  | [.int i, .int j] => if -(2 ^ 62) ≤ i ∧ i < 2 ^ 62 ∧ -(2 ^ 62) ≤ j ∧ j < 2 ^ 62 then .ok (.fix (rngD i (j - i).toNat)) μ else .bad
  | _ => .bad
def iRng (f : List D → Sto → Out Src) (fa : MA) : MI := fun ρ μ => (fa ρ μ).bind f
theorem si_range1 {a : Expr} {fa : MA} {px pos : Pos} (hg : Gl X "range") (hm : X.mg "range" = none) (ha : PA X [a] (tDA p fa)) (hs : starEach [a] X.env = [(false, eval a X.env)]) : PI X tg (.Call (.Name "range" px) [a] [] pos) (tDI p (iRng rng1 fa)) :=
  (pi_range1 hg hm ha hs).weak fun σ H R ⟨α, ρ, μ, S, Rr, P⟩ => ⟨α, ρ, μ, S, Rr, (PostO.bind P).imp fun ds μ1 H1 α1 X1 S1 P1 vs rv => by
    unfold rng1 at P1
    split at P1
    · rename_i j
      obtain ⟨v, rfl, r1⟩ := rv.one
      rw [Rep.int_iff.mp r1]
      split at P1
      · rename_i hj
        exact ⟨j, rfl, hj.1, hj.2, P1.now S1 _ trivial (iter_rng 0 _)⟩
      · exact P1.elim
    · exact P1.elim⟩
theorem si_range2 {a b : Expr} {fa : MA} {px pos : Pos} (hg : Gl X "range") (hm : X.mg "range" = none) (ha : PA X [a, b] (tDA p fa)) (hs : starEach [a, b] X.env = [(false, eval a X.env), (false, eval b X.env)]) (hs2 : starEach [b] X.env = [(false, eval b X.env)]) : PI X tg (.Call (.Name "range" px) [a, b] [] pos) (tDI p (iRng rng2 fa)) :=
  (pi_range2 hg hm ha hs hs2).weak fun σ H R ⟨α, ρ, μ, S, Rr, P⟩ => ⟨α, ρ, μ, S, Rr, (PostO.bind P).imp fun ds μ1 H1 α1 X1 S1 P1 vs rv => by
    unfold rng2 at P1
    split at P1
    · rename_i i j
      obtain ⟨v, u, rfl, r1, r2⟩ := rv.two
      rw [Rep.int_iff.mp r1, Rep.int_iff.mp r2]
      split at P1
      · rename_i hj
        exact ⟨i, j, rfl, hj, P1.now S1 _ trivial (iter_rng i _)⟩
      · exact P1.elim
    · exact P1.elim⟩
end
end L2

set_option Elab.async false
set_option linter.all false
set_option maxRecDepth 100000
set_option maxHeartbeats 4000000
namespace L2
open PySem PySem.Spec PyProof.Rows RS

/-! ### comprehensions -/
def Out.nox {β : Type} (o : Out β) : Out β := match o with
  | .exc _ _ => .bad
  | o => o
@[simp] theorem Out.nox_ok {β : Type} {a : β} {μ : Sto} : (Out.ok a μ).nox = .ok a μ := of_eq_true (eq_self _)
abbrev Pa.nx (p : Pa) : Pa := ⟨p.K, p.w, fun _ _ => False⟩
theorem PostO.noxb {β γ : Type} {p : Pa} {H : Hp} {α : List Addr} {o : Out β} {k : β → Sto → Out γ} {R : γ → Sto → Hp → List Addr → Prop} (h : PostO p H α (o.nox.bind k) R) : PostO p.nx H α o (fun a μ1 H1 α1 => PostO p H1 α1 (k a μ1) R) := by
  cases o with
  | ok a μ => exact fun H' α' e s => PostO.from e h
  | exc x μ => exact h
  | bad => exact h
def capD (cap : List (Option Nat)) (ρ : Ro) : Ro := cap.map fun o => o.bind fun j => (ρ[j]?).join
theorem RelS.cap {K : PySem.W.Frag} {H : Hp} {α : List Addr} {ρ : Ro} {σ : St} (R : RelS K H α ρ σ) (cap : List (Option Nat)) : RelS K H α (capD cap ρ) (capOf cap σ) := by
  refine ⟨by simp [capD, capOf], fun i d h => ?_⟩
  unfold capD at h
  unfold capOf
  rw [List.getElem?_map] at h ⊢
  cases e : cap[i]? with
  | none => rw [e] at h; cases h
  | some o =>
    rw [e] at h
    cases o with
    | none => simp at h
    | some j =>
      simp at h ⊢
      obtain ⟨v, h1, h2⟩ := R.at' j d (by
        cases e2 : ρ[j]? with
        | none => rw [e2] at h; simp at h
        | some x => rw [e2] at h; simp at h; rw [h])
      exact ⟨v, by rw [h1]; rfl, h2⟩
def pushD (n : Nat) (y : D) (μ : Sto) : Out Unit := match μ[n]? with
  | some (.lst ys) => if ys.length < sizeLine then .ok () (μ.set n (.lst (ys ++ [y]))) else .bad
  | _ => .bad
open Classical in
noncomputable def compLoop (src : Src) (n : Nat) (g : MG) (t : MT) (e : ME) : List D → Ro → Sto → Out D
  | [], _, μ => if okSrc src μ then .ok (.obj n) μ else .bad
  | d :: r, ρ, μ => if okSrc src μ then (g d ρ μ).nox.bind fun ρ1 μ1 => (t ρ1 μ1).nox.bind fun b μ2 => if b = true then (e ρ1 μ2).nox.bind fun y μ3 => (pushD n y μ3).bind fun _ μ4 => compLoop src n g t e r ρ1 μ4 else compLoop src n g t e r ρ1 μ2 else .bad
noncomputable def cComp (fi : MI) (cap : List (Option Nat)) (g : MG) (t : MT) (e : ME) : ME := fun ρ μ => (fi ρ μ).bind fun src μ1 => compLoop src μ1.length g t e src.items (capD cap ρ) (μ1 ++ [.lst []])
def cTrue : MT := fun _ μ => .ok true μ
theorem pushD_ok {p : Pa} {n : Nat} {y : D} {μ : Sto} {H : Hp} {α : List Addr} {R : Unit → Sto → Hp → List Addr → Prop} {v : V} {acc : Addr} (S : p.S H α μ) (ha : α[n]? = some acc) (rv : p.R H α y v) (P : PostO p H α (pushD n y μ) R) :
    ∃ ys, H acc = some (.lst ys) ∧ ys.length < sizeLine ∧ ∃ μ', p.X H (upd H acc (.lst (ys ++ [v]))) α α ∧ p.S (upd H acc (.lst (ys ++ [v]))) α μ' ∧ R () μ' (upd H acc (.lst (ys ++ [v]))) α := by
  unfold pushD at P
  split at P
  · rename_i xs hx
    obtain ⟨a, ea, us, hH, rr⟩ := S.at hx
    rw [ha] at ea; cases ea
    split at P
    · rename_i hl
      have q := rr.snoc rv
      exact ⟨us, hH, by rw [rr.length]; exact hl, _, ext_upd hH, S.put hx ha hH q, P _ _ (ext_upd hH) (S.put hx ha hH q)⟩
    · exact P.elim
  · exact P.elim
section
variable {p : Pa} {X : Cx} {tg iter elt : Expr} {ifs : List Expr} {scope : Scope} {Nc : List Str} {cap : List (Option Nat)} {fi : MI} {g : MG} {t : MT} {e : ME} {pos pos' : Pos}
def tDTs := tDT
theorem comp_weak {σ : St} {H : Hp} {Q : VK} (h : tD p (cComp fi cap g t e) σ H Q) : tComp (tDI p fi) cap (tDG p.nx g) (tDT p.nx t) (tD p.nx e) σ H Q := by
  obtain ⟨α, ρ, μ, S, R, P⟩ := h
  refine ⟨α, ρ, μ, S, R, (PostO.bind P).imp fun src μ1 H1 α1 X1 S1 P1 J hok hJ acc hacc => ?_⟩
  obtain ⟨x1, s1, _⟩ := new_list (ds := []) (vs := []) S1 hacc Reps.nil
  have hn : (α1 ++ [acc])[μ1.length]? = some acc := by rw [← S1.len]; simp
  refine ⟨fun i m σ2 H2 => m = src.items.length - i ∧ i ≤ src.items.length ∧ ∃ α2 ρ2 μ2, p.X H1 H2 α1 α2 ∧ p.S H2 α2 μ2 ∧ RelS p.K H2 α2 ρ2 σ2 ∧ α2[μ1.length]? = some acc ∧ PostO p H2 α2 (compLoop src μ1.length g t e (src.items.drop i) ρ2 μ2) (RV p Q),
    ⟨_, rfl, Nat.zero_le _, α1 ++ [acc], capD cap ρ, μ1 ++ [.lst []], x1, s1, ((R.mono X1).cap cap).mono x1, hn, by simpa using PostO.from x1 P1⟩, ?_⟩
  rintro i m σ2 H2 ⟨rfl, hi, α2, ρ2, μ2, X2, S2, R2, a2, P2⟩
  by_cases hlt : i < src.items.length
  · rw [List.drop_eq_getElem_cons hlt] at P2
    unfold compLoop at P2
    by_cases ho : okSrc src μ2
    · rw [if_pos ho] at P2
      obtain ⟨hgo, hy⟩ := (hJ H2 α2 μ2 X2 S2 ho).1 i _ (List.getElem?_eq_getElem hlt)
      refine .inr ⟨hgo, fun σ' H' => i + 1 ≤ src.items.length ∧ ∃ α2 ρ2 μ2, p.X H1 H' α1 α2 ∧ p.S H' α2 μ2 ∧ RelS p.K H' α2 ρ2 σ' ∧ α2[μ1.length]? = some acc ∧ PostO p H' α2 (compLoop src μ1.length g t e (src.items.drop (i + 1)) ρ2 μ2) (RV p Q),
        fun σ' H' ⟨h1, h2⟩ => ⟨_, by omega, rfl, h1, h2⟩, fun x H3 yx => ?_⟩
      obtain ⟨X3, S3, R3⟩ := hy x H3 yx
      refine ⟨α2, ρ2, μ2, _, S3, R2.mono X3, R3, (PostO.from (p := p.nx) X3 (PostO.noxb P2)).imp fun ρ4 μ4 H4 α4 X4 S4 P4 σ4 R4 => ?_⟩
      refine ⟨α4, ρ4, μ4, S4, R4, (PostO.noxb P4).imp fun b μ5 H5 α5 X5 S5 P5 => ?_⟩
      have xx : p.X H1 H5 α1 α5 := ((X2.trans X3).trans X4).trans X5
      have a5 : α5[μ1.length]? = some acc := X5.pre _ _ (X4.pre _ _ (X3.pre _ _ a2))
      cases b with
      | false =>
        rw [if_neg Bool.false_ne_true] at P5
        refine iteF ?_
        exact ⟨hlt, α5, ρ4, μ5, xx, S5, R4.mono X5, a5, P5⟩
      | true =>
        rw [if_pos rfl] at P5
        refine iteT ?_
        refine ⟨α5, ρ4, μ5, S5, R4.mono X5, (PostO.noxb P5).imp fun y μ6 H6 α6 X6 S6 P6 v rv => ?_⟩
        obtain ⟨ys, e1, e2, μ7, x7, s7, q7⟩ := pushD_ok (p := p) S6 (X6.pre _ _ a5) rv (PostO.bind P6)
        exact ⟨ys, e1, e2, hlt, α6, ρ4, μ7, (xx.trans X6).trans x7, s7, ((R4.mono X5).mono X6).mono x7, X6.pre _ _ a5, q7⟩
    · rw [if_neg ho] at P2; exact P2.elim
  · have e : i = src.items.length := by omega
    subst e
    rw [List.drop_length] at P2
    unfold compLoop at P2
    by_cases ho : okSrc src μ2
    · rw [if_pos ho] at P2
      exact .inl ⟨(hJ H2 α2 μ2 X2 S2 ho).2, P2 H2 α2 Ext.refl S2 _ (Rep.obj_iff.mpr ⟨acc, rfl, a2⟩)⟩
    · rw [if_neg ho] at P2; exact P2.elim
theorem sts_nil {X : Cx} : PTs X [] (tDT p cTrue) := fun pins s σ H Q I h => by
  obtain ⟨α, ρ, μ, S, R, P⟩ := h
  exact pts_nil pins s σ H Q I (P.now S)
theorem sts_one {X : Cx} {c : Expr} {t : MT} (h : PT X c (tDT p t)) : PTs X [c] (tDT p t) := pts_one h
theorem se_comp (hc : X.calm = true) (S : CompScope X.N X.env scope Nc cap) (hi : PI X tg iter (tDI p fi))
    (hg : ∀ cl C s H fp, PG (cxC X Nc scope cl C s H fp) tg (tDG p.nx g)) (ht : ∀ cl C s H fp, PTs (cxC X Nc scope cl C s H fp) ifs (tDT p.nx t)) (he : ∀ cl C s H fp, PE (cxC X Nc scope cl C s H fp) elt (tD p.nx e))
    (hs : ∀ x, foldedSetIterable iter X.env x = pure x) : PE X (.ListComp elt [⟨tg, iter, ifs, 0⟩] scope pos) (tD p (cComp fi cap g t e)) :=
  (pe_comp hc S hi hg ht he hs).weak fun σ H Q h => comp_weak h
theorem ss_setC {i : Nat} {x : Str} {pos1 : Pos} {pos2 : Pos} (hc : X.calm = true) (hN : X.N.Nodup) (hix : X.N[i]? = some x) (hx : X.env.scope.names.lookup x = some .local) (S : CompScope X.N X.env scope Nc cap) (hi : PI X tg iter (tDI p fi))
    (hg : ∀ cl C s H fp, PG (cxC X Nc scope cl C s H fp) tg (tDG p.nx g)) (ht : ∀ cl C s H fp, PTs (cxC X Nc scope cl C s H fp) ifs (tDT p.nx t)) (he : ∀ cl C s H fp, PE (cxC X Nc scope cl C s H fp) elt (tD p.nx e))
    (hsw : swapsWith (.ListComp elt [⟨tg, iter, ifs, 0⟩] scope pos) (some (.Name x pos1)) pos2.line X.env = pure true) (hs : ∀ x, foldedSetIterable iter X.env x = pure x) :
    PS X (.Assign [.Name x pos1] (.ListComp elt [⟨tg, iter, ifs, 0⟩] scope pos) pos2) (tDS p (sAsg (cComp fi cap g t e) (gNameD i))) :=
  (ps_setC hc hN hix hx S hi hg ht he hsw hs).weak fun D σ H h => by
    obtain ⟨α, ρ, μ, S, R, P⟩ := h
    refine comp_weak ⟨α, ρ, μ, S, R, (PostO.bindS P).imp fun d μ1 H1 α1 X1 S1 P1 v rv => ?_⟩
    exact P1 H1 α1 _ Ext.refl S1 ((R.mono X1).set i rv)
end

/-! ### what lies below a mark -/
mutual
def D.low (n : Nat) : D → Prop
  | .tup xs => D.lows n xs
  | .frz xs => D.lows n xs
  | .obj m => m < n
  | _ => True
def D.lows (n : Nat) : List D → Prop
  | [] => True
  | x :: xs => x.low n ∧ D.lows n xs
end
def O.low (n : Nat) : O → Prop
  | .lst xs => D.lows n xs
  | _ => True
section
variable {K : PySem.W.Frag} {H : Hp} {α α' : List Addr}
mutual
theorem Rep.low : ∀ {d : D} {v : V}, Rep K H α d v → d.low α.length
  | .non, _, _ => trivial
  | .bl _, _, _ => trivial
  | .int _, _, _ => trivial
  | .str _, _, _ => trivial
  | .tup xs, _, h => by
    obtain ⟨a, vs, rfl, h1, h2⟩ := Rep.tup_iff.mp h
    simp only [D.low]
    exact Reps.low h2
  | .frz xs, _, h => by
    obtain ⟨a, vs, rfl, h1, h2⟩ := Rep.frz_iff.mp h
    simp only [D.low]
    exact Reps.low h2
  | .obj n, _, h => by
    obtain ⟨a, rfl, h1⟩ := Rep.obj_iff.mp h
    simp only [D.low]
    exact (List.getElem?_eq_some_iff.mp h1).1
theorem Reps.low : ∀ {ds : List D} {vs : List V}, Reps K H α ds vs → D.lows α.length ds
  | [], _, _ => trivial
  | d :: ds, _, h => by
    simp only [Reps] at h
    obtain ⟨v, r, rfl, h1, h2⟩ := h
    simp only [D.lows]
    exact ⟨Rep.low h1, Reps.low h2⟩
end
mutual
theorem Rep.cut {n : Nat} (e : ∀ m, m < n → α'[m]? = α[m]?) : ∀ {d : D} {v : V}, Rep K H α' d v → d.low n → Rep K H α d v
  | .non, _, h, _ => by simp only [Rep] at h ⊢; exact h
  | .bl _, _, h, _ => by simp only [Rep] at h ⊢; exact h
  | .int _, _, h, _ => by simp only [Rep] at h ⊢; exact h
  | .str _, _, h, _ => by simp only [Rep] at h ⊢; exact h
  | .tup xs, _, h, b => by
    obtain ⟨a, vs, rfl, h1, h2⟩ := Rep.tup_iff.mp h
    simp only [D.low] at b
    exact Rep.tup_iff.mpr ⟨a, vs, rfl, h1, Reps.cut e h2 b⟩
  | .frz xs, _, h, b => by
    obtain ⟨a, vs, rfl, h1, h2⟩ := Rep.frz_iff.mp h
    simp only [D.low] at b
    exact Rep.frz_iff.mpr ⟨a, vs, rfl, h1, Reps.cut e h2 b⟩
  | .obj m, _, h, b => by
    obtain ⟨a, rfl, h1⟩ := Rep.obj_iff.mp h
    simp only [D.low] at b
    exact Rep.obj_iff.mpr ⟨a, rfl, by rw [← e m b]; exact h1⟩
theorem Reps.cut {n : Nat} (e : ∀ m, m < n → α'[m]? = α[m]?) : ∀ {ds : List D} {vs : List V}, Reps K H α' ds vs → D.lows n ds → Reps K H α ds vs
  | [], _, h, _ => by simp only [Reps] at h ⊢; exact h
  | d :: ds, _, h, b => by
    simp only [Reps] at h ⊢
    obtain ⟨v, r, rfl, h1, h2⟩ := h
    simp only [D.lows] at b
    exact ⟨v, r, rfl, Rep.cut e h1 b.1, Reps.cut e h2 b.2⟩
end
end
def gcOk (μ μ' : Sto) (d : D) : Prop := d.low μ.length ∧ μ.length ≤ μ'.length ∧ ∀ (i : Nat) o, i < μ.length → μ'[i]? = some o → μ[i]? = some o ∨ o.low μ.length
open Classical in
/-- behind a call: what it made and does not hand back is forgotten -/
noncomputable def gcD (μ : Sto) (o : Out D) : Out D := match o with
  | .ok d μ' => if gcOk μ μ' d then .ok d (μ'.take μ.length) else .ok d μ'
  | o => o
theorem gc_weak {p : Pa} {H : Hp} {α : List Addr} {μ : Sto} {o : Out D} {Q : VK} (S : p.S H α μ) (P : PostO p H α (gcD μ o) (RV p Q)) : PostO p H α o (RV p Q) := by
  cases o with
  | exc x μ' => exact P
  | bad => exact P
  | ok d μ' =>
    unfold gcD at P
    dsimp only at P
    by_cases hg : gcOk μ μ' d
    · rw [if_pos hg] at P
      obtain ⟨g1, g2, g3⟩ := hg
      intro H' α' e s v rv
      have al : ∀ m, m < μ.length → α'[m]? = α[m]? := fun m hm => by
        have hm' : m < α.length := by rw [S.len]; exact hm
        rw [List.getElem?_eq_getElem hm']
        exact e.pre m _ (List.getElem?_eq_getElem hm')
      refine P H' α ⟨e.tup, e.frz, fun _ _ z => z⟩ ⟨by rw [List.length_take, S.len]; omega, S.nd, fun n o a h1 h2 => ?_⟩ v (Rep.cut al rv g1)
      have hn : n < μ.length := by rw [← S.len]; exact (List.getElem?_eq_some_iff.mp h2).1
      rw [List.getElem?_take_of_lt hn] at h1
      have q := s.ob n o a h1 (e.pre n a h2)
      have ob : o.low μ.length := by
        rcases g3 n o hn h1 with z | z
        · have q0 := S.ob n o a z h2
          cases o with
          | lst xs => obtain ⟨vs, _, r⟩ := q0; have := r.low; rw [S.len] at this; exact this
          | set ks => trivial
          | dic => trivial
        · exact z
      cases o with
      | lst xs => obtain ⟨vs, h3, r⟩ := q; exact ⟨vs, h3, Reps.cut al r ob⟩
      | set ks => exact q
      | dic => exact q
    · rw [if_neg hg] at P
      exact P

/-! ### defs -/
def SO.out (o : SO) : Out D := match o with
  | .ret d μ => .ok d μ
  | .next _ μ => .ok .non μ
  | .exc x μ => .exc x μ
  | _ => .bad
/-- a def of n parameters, N names -/
noncomputable def fnD (n N : Nat) (fb : MS) : List D → Sto → Out D := fun ds μ => if ds.length = n then gcD μ (fb (ds.map some ++ List.replicate (N - n) none) μ).out else .bad
def spD (p : Pa) (n : Nat) (F : List D → Sto → Out D) : Sp := fun vs H Q _ => vs.length = n ∧ ∃ α ds μ, p.S H α μ ∧ p.Rs H α ds vs ∧ PostO p H α (F ds μ) (RV p Q)
structure Def (P : Program) (w : World) (K : PySem.W.Frag) (mg : Str → Option Value) (base : Heap) (p : Pa) (k : Nat) (x : Str) (n : Nat) (F : List D → Sto → Out D) : Prop where
  len : ∀ ds μ, ds.length ≠ n → F ds μ = .bad
  fn : ∃ f fd ps, mg x = some (.ref f) ∧ PySem.W.keepIn K (.ref f) = true ∧ Binds K fd ps [] ∧ FnOk P w K mg base CX0 k f fd ps (spD p n F)
section
variable {p : Pa} {X : Cx} {k n : Nat} {x : Str} {F : List D → Sto → Out D} {a : Expr} {es : List Expr} {fr : MA} {pos px : Pos}
theorem se_call (h : Def X.prog X.w X.K X.mg X.base p k x n F) (hr : Room k X.A) (hg : Gl X x) (ha : PA X (a :: es) (tDA p fr)) (hdb : (x == ("__debug__" : Str)) = false) (he : starEach (a :: es) X.env = (false, eval a X.env) :: starEach es X.env) (hpl : (backTo pos (starEach es X.env)).any (·.1) = false) :
    PE X (.Call (.Name x px) (a :: es) [] pos) (tD p (cArgs F fr)) := by
  obtain ⟨f, fd, ps, h1, h2, h3, h4⟩ := h.fn
  refine (pe_call (dvs := []) (E := E0) h4 hr hg h1 h2 h3 .nil pass0 ha hdb he hpl).weak fun σ H Q ⟨α, ρ, μ, S, R, P⟩ => ⟨α, ρ, μ, S, R, (PostO.bind P).imp fun ds μ1 H1 α1 X1 S1 P1 vs rv => ?_⟩
  show spD p n F (vs ++ []) H1 Q E0
  rw [List.append_nil]
  refine ⟨?_, α1, ds, μ1, S1, rv, P1⟩
  by_cases hl : ds.length = n
  · rw [rv.length]; exact hl
  · rw [h.len ds μ1 hl] at P1; exact P1.elim
end
theorem RelS.start {K : PySem.W.Frag} {H : Hp} {α : List Addr} {ds : List D} {vs : List V} (r : Reps K H α ds vs) (m : Nat) : RelS K H α (ds.map some ++ List.replicate m none) (vs.map some ++ List.replicate m none) := by
  refine ⟨by simp [r.length], fun i d h => ?_⟩
  by_cases hi : i < ds.length
  · rw [List.getElem?_append_left (by simpa using hi), List.getElem?_map] at h
    cases e : ds[i]? with
    | none => rw [e] at h; cases h
    | some x =>
      rw [e] at h; cases h
      obtain ⟨v, hv, rv⟩ := r.get e
      refine ⟨v, ?_, rv⟩
      rw [List.getElem?_append_left (by simp [r.length, hi]), List.getElem?_map, hv]; rfl
  · rw [List.getElem?_append_right (by simpa using hi), List.getElem?_replicate] at h
    split at h <;> cases h
theorem def_ok {P : Program} {w : World} {K : PySem.W.Frag} {mg : Str → Option Value} {base : Heap} {p : Pa} {k n : Nat} {x qual : Str} {st : Stmt} {f : Addr} {fd : FuncData} {N ps : List Str} {fb : MS}
    (F : Fun K x qual st f fd) (S : FnScope N ps (defScope st)) (hn : ps.length = n) (hm : mg x = some (.ref f)) (hb : Binds K fd ps [])
    (body : ∀ (cdv : Value) (A : Around) (outer : List Env) (s : Shared) (H : Hp) (E : XK), Room k (A.deeper (envOfC qual (defScope st) s.heap.objs.size f cdv)) →
      PSs (cxOf CX0 P w K mg base N qual (defScope st) f cdv A outer s H E).nox (defBody st) (tDS p fb)) : Def P w K mg base p (k + 1) x n (fnD n N.length fb) := by
  refine ⟨fun ds μ h => by unfold fnD; rw [if_neg h], f, fd, ps, hm, F.kp, hb, ?_⟩
  refine F.ok S (fun vs H Q E h => h.1.trans hn.symm) fun cdv A outer s H vs Q E hr h => ?_
  refine ⟨_, body cdv A outer s H E hr, ?_⟩
  obtain ⟨hl, α, ds, μ, S1, R1, P1⟩ := h
  unfold fnD at P1
  have hd : ds.length = n := by rw [← R1.length]; exact hl
  rw [if_pos hd] at P1
  have P2 := gc_weak S1 P1
  unfold start
  rw [hl]
  refine ⟨α, _, μ, S1, RelS.start R1 _, ?_⟩
  cases e : fb (ds.map some ++ List.replicate (N.length - n) none) μ with
  | ret d μ' => rw [e] at P2; exact fun H' α' v x s r => P2 H' α' x s v r
  | next ρ μ' => rw [e] at P2; exact fun H' α' σ' x s r => P2 H' α' x s .non (Rep.non_iff.mpr rfl)
  | exc x μ' => rw [e] at P2; exact P2
  | brk ρ μ' => rw [e] at P2; exact P2.elim
  | cnt ρ μ' => rw [e] at P2; exact P2.elim
  | bad => rw [e] at P2; exact P2.elim
end L2

set_option Elab.async false
set_option linter.all false
set_option maxRecDepth 100000
set_option maxHeartbeats 4000000
namespace L2
open PySem PySem.Spec PyProof.Rows RS

/-! ### equality of data -/
section
variable (K : PySem.W.Frag) (H : Hp)
mutual
def RdP : PyData → V → Prop
  | .none, v => v = .non
  | .bool b, v => v = .bl b
  | .int i, v => v = .int i
  | .str x, v => v = .str x
  | .tuple xs, v => ∃ a vs, v = .ref a ∧ SqT K H a vs ∧ RdPs xs vs
  | .list xs, v => ∃ a vs, v = .ref a ∧ SqL K H a vs ∧ RdPs xs vs
  | .dict _, _ => False
def RdPs : List PyData → List V → Prop
  | [], vs => vs = []
  | x :: xs, vs => ∃ v r, vs = v :: r ∧ RdP x v ∧ RdPs xs r
end
end
section
variable {X : Cx} {pins : List (Addr × Obj)} {σ : St} {H : Hp} {s : Shared}
mutual
theorem reads_of (I : Inv X pins σ H s) : ∀ (d : PyData) (x : V) (v : Value), RdP X.K H d x → RelV x v → ∃ as, Reads s.heap v d as
  | .none, _, _, h, r => by simp only [RdP] at h; subst h; cases r; exact ⟨_, .none⟩
  | .bool b, _, _, h, r => by simp only [RdP] at h; subst h; cases r; exact ⟨_, .bool b⟩
  | .int b, _, _, h, r => by simp only [RdP] at h; subst h; obtain ⟨t, rfl⟩ := r; exact ⟨_, .int b t⟩
  | .str b, _, _, h, r => by simp only [RdP] at h; subst h; obtain ⟨t, rfl⟩ := r; exact ⟨_, .str b t⟩
  | .tuple xs, _, _, h, r => by
    simp only [RdP] at h
    obtain ⟨a, vs, rfl, h1, h2⟩ := h
    cases r
    obtain ⟨its, rv, ⟨o, e1, e2, n, e3⟩, _⟩ := I.tuple h1
    obtain ⟨as, q⟩ := readsAll_of I xs vs its h2 rv
    exact ⟨_, .tuple e1 e2 e3 (by simpa using q)⟩
  | .list xs, _, _, h, r => by
    simp only [RdP] at h
    obtain ⟨a, vs, rfl, h1, h2⟩ := h
    cases r
    obtain ⟨its, rv, ⟨o, n, e1, e2, _, e3⟩, _⟩ := I.list h1
    obtain ⟨as, q⟩ := readsAll_of I xs vs its h2 rv
    exact ⟨_, .list e1 e2 e3 (by simpa using q)⟩
  | .dict _, _, _, h, _ => by simp only [RdP] at h
theorem readsAll_of (I : Inv X pins σ H s) : ∀ (ds : List PyData) (xs : List V) (vs : List Value), RdPs X.K H ds xs → Vals xs vs → ∃ as, ReadsAll s.heap vs ds as
  | [], _, _, h, r => by simp only [RdPs] at h; subst h; cases r; exact ⟨_, .nil⟩
  | d :: ds, _, _, h, r => by
    simp only [RdPs] at h
    obtain ⟨v, q, rfl, h1, h2⟩ := h
    cases r with
    | cons r rr =>
      obtain ⟨as, g1⟩ := reads_of I d _ _ h1 r
      obtain ⟨bs, g2⟩ := readsAll_of I ds _ _ h2 rr
      exact ⟨_, .cons g1 g2⟩
end
def fitP (d : PyData) : Bool := d.canLay0 && decide (d.depth ≤ 60)
def rEqP (K : PySem.W.Frag) (neg : Bool) : R2 := fun x y H Q => ∃ a b, RdP K H a x ∧ RdP K H b y ∧ fitP a = true ∧ fitP b = true ∧ Q (.bl (if neg then !PyData.eqv a b else PyData.eqv a b)) H
theorem fitP_room {a b : PyData} {A : Around} (ha : fitP a = true) (hu : A.units + 64 < cLine) : A.units + min a.depth b.depth < cLine := by
  unfold fitP at ha
  simp only [Bool.and_eq_true, decide_eq_true_eq] at ha
  have := Nat.min_le_left a.depth b.depth
  omega
theorem fitP_lay {a : PyData} (ha : fitP a = true) : a.canLay0 = true := by
  unfold fitP at ha
  simp only [Bool.and_eq_true, decide_eq_true_eq] at ha
  exact ha.1
theorem fitP_depth {a : PyData} (ha : fitP a = true) : a.depth ≤ 60 := by
  unfold fitP at ha
  simp only [Bool.and_eq_true, decide_eq_true_eq] at ha
  exact ha.2
theorem op_eqP (hu : X.A.units + 64 < cLine) : OpR X (compareOp .Eq) (rEqP X.K false) := by
  intro pins s σ H x y v u Q I rx ry h
  obtain ⟨a, b, h1, h2, h3, h4, q⟩ := h
  obtain ⟨as, r1⟩ := reads_of I a x v h1 rx
  obtain ⟨bs, r2⟩ := reads_of I b y u h2 ry
  exact SeqAt.compareEq_reads r1 r2 (fitP_lay h3) (fitP_lay h4) (fitP_room h3 hu) ⟨.bl _, H, I, rfl, q⟩
theorem op_neP (hu : X.A.units + 64 < cLine) : OpR X (compareOp .NotEq) (rEqP X.K true) := by
  intro pins s σ H x y v u Q I rx ry h
  obtain ⟨a, b, h1, h2, h3, h4, q⟩ := h
  obtain ⟨as, r1⟩ := reads_of I a x v h1 rx
  obtain ⟨bs, r2⟩ := reads_of I b y u h2 ry
  exact SeqAt.compareNe_reads r1 r2 (fitP_lay h3) (fitP_lay h4) (fitP_room h3 hu) ⟨.bl _, H, I, rfl, q⟩
def rInP (K : PySem.W.Frag) (neg : Bool) : R2 := fun x y H Q => ∃ a b xs, RdP K H a x ∧ RdP K H b y ∧ (b = .list xs ∨ b = .tuple xs) ∧ fitP a = true ∧ fitP b = true ∧ Q (.bl (if neg then !(xs.any fun y => PyData.eqv y a) else xs.any fun y => PyData.eqv y a)) H
theorem op_inP (hu : X.A.units + 64 < cLine) : OpR X (compareOp .In) (rInP X.K false) := by
  intro pins s σ H x y v u Q I rx ry h
  obtain ⟨a, b, xs, h1, h2, hb, h3, h4, q⟩ := h
  obtain ⟨as, r1⟩ := reads_of I a x v h1 rx
  obtain ⟨bs, r2⟩ := reads_of I b y u h2 ry
  have hd := fitP_depth h3
  rcases hb with rfl | rfl
  · refine SeqAt.in_list_reads r2 r1 (by simpa [PyData.canLay0] using fitP_lay h4) (fitP_lay h3) ?_ ⟨.bl _, H, I, rfl, q⟩
    have := Nat.min_le_right (PyData.depthAll xs) a.depth
    omega
  · refine SeqAt.in_tuple_reads r2 r1 (by simpa [PyData.canLay0] using fitP_lay h4) (fitP_lay h3) ?_ ⟨.bl _, H, I, rfl, q⟩
    have := Nat.min_le_right (PyData.depthAll xs) a.depth
    omega
/-! is True -/
def rIsB (neg : Bool) : R2 := fun x y H Q => ∃ b, y = .bl b ∧ Q (.bl (if neg then !decide (x = .bl b) else decide (x = .bl b))) H
end

/-! ### data to PyData -/
mutual
def toP (μ : Sto) : D → Option PyData
  | .non => some .none
  | .bl b => some (.bool b)
  | .int i => some (.int i)
  | .str x => some (.str x)
  | .tup xs => (toPs μ xs).map .tuple
  | .frz xs => (toPs μ xs).map .list
  | .obj _ => none
def toPs (μ : Sto) : List D → Option (List PyData)
  | [] => some []
  | x :: xs => (toP μ x).bind fun a => (toPs μ xs).map fun r => a :: r
end
/-- lists of the store at the top, and one level within them -/
def toL1 (μ : Sto) (d : D) : Option PyData := match d with
  | .obj n => match μ[n]? with
    | some (.lst xs) => (toPs μ xs).map .list
    | _ => none
  | d => toP μ d
def toLs1 (μ : Sto) : List D → Option (List PyData)
  | [] => some []
  | x :: xs => (toL1 μ x).bind fun a => (toLs1 μ xs).map fun r => a :: r
def toL (μ : Sto) (d : D) : Option PyData := match d with
  | .obj n => match μ[n]? with
    | some (.lst xs) => (toLs1 μ xs).map .list
    | _ => none
  | .tup xs => (toLs1 μ xs).map .tuple
  | d => toP μ d
section
variable {K : PySem.W.Frag} {w : World} {H : Hp} {α : List Addr} {μ : Sto}
mutual
theorem toP_ok : ∀ {d : D} {q : PyData} {v : V}, toP μ d = some q → Rep K H α d v → RdP K H q v
  | .non, _, _, h, r => by simp only [toP] at h; cases h; simp only [RdP]; exact Rep.non_iff.mp r
  | .bl b, _, _, h, r => by simp only [toP] at h; cases h; simp only [RdP]; exact Rep.bl_iff.mp r
  | .int b, _, _, h, r => by simp only [toP] at h; cases h; simp only [RdP]; exact Rep.int_iff.mp r
  | .str b, _, _, h, r => by simp only [toP] at h; cases h; simp only [RdP]; exact Rep.str_iff.mp r
  | .tup xs, _, _, h, r => by
    simp only [toP] at h
    cases e : toPs μ xs with
    | none => rw [e] at h; cases h
    | some ys =>
      rw [e] at h; cases h
      obtain ⟨a, vs, rfl, h1, h2⟩ := Rep.tup_iff.mp r
      simp only [RdP]
      exact ⟨a, vs, rfl, h1, toPs_ok e h2⟩
  | .frz xs, _, _, h, r => by
    simp only [toP] at h
    cases e : toPs μ xs with
    | none => rw [e] at h; cases h
    | some ys =>
      rw [e] at h; cases h
      obtain ⟨a, vs, rfl, h1, h2⟩ := Rep.frz_iff.mp r
      simp only [RdP]
      exact ⟨a, vs, rfl, h1.sq, toPs_ok e h2⟩
  | .obj n, _, _, h, r => by simp only [toP] at h; cases h
theorem toPs_ok : ∀ {ds : List D} {qs : List PyData} {vs : List V}, toPs μ ds = some qs → Reps K H α ds vs → RdPs K H qs vs
  | [], _, _, h, r => by simp only [toPs] at h; cases h; simp only [RdPs]; simp only [Reps] at r; exact r
  | x :: xs, _, _, h, r => by
    simp only [toPs] at h
    cases e1 : toP μ x with
    | none => rw [e1] at h; cases h
    | some a =>
      cases e2 : toPs μ xs with
      | none => rw [e1, e2] at h; cases h
      | some ys =>
        rw [e1, e2] at h; cases h
        simp only [Reps] at r
        obtain ⟨v, vr, rfl, r1, r2⟩ := r
        simp only [RdPs]
        exact ⟨v, vr, rfl, toP_ok e1 r1, toPs_ok e2 r2⟩
end
theorem toL1_ok {d : D} {q : PyData} {v : V} (S : SRel K w H α μ) (h : toL1 μ d = some q) (r : Rep K H α d v) : RdP K H q v := by
  cases d with
  | obj n =>
    unfold toL1 at h
    dsimp only at h
    split at h
    · rename_i xs hx
      obtain ⟨a, ea, us, hH, rr⟩ := S.at hx
      obtain ⟨a', rfl, ea'⟩ := Rep.obj_iff.mp r
      rw [ea] at ea'; cases ea'
      cases e : toPs μ xs with
      | none => rw [e] at h; cases h
      | some ys =>
        rw [e] at h; cases h
        simp only [RdP]
        exact ⟨a, us, rfl, SqL.of hH, toPs_ok e rr⟩
    · cases h
  | non => exact toP_ok h r
  | bl b => exact toP_ok h r
  | int i => exact toP_ok h r
  | str x => exact toP_ok h r
  | tup xs => exact toP_ok h r
  | frz xs => exact toP_ok h r
theorem toLs1_ok (S : SRel K w H α μ) : ∀ {ds : List D} {qs : List PyData} {vs : List V}, toLs1 μ ds = some qs → Reps K H α ds vs → RdPs K H qs vs
  | [], _, _, h, r => by simp only [toLs1] at h; cases h; simp only [RdPs]; simp only [Reps] at r; exact r
  | x :: xs, _, _, h, r => by
    simp only [toLs1] at h
    cases e1 : toL1 μ x with
    | none => rw [e1] at h; cases h
    | some a =>
      cases e2 : toLs1 μ xs with
      | none => rw [e1, e2] at h; cases h
      | some ys =>
        rw [e1, e2] at h; cases h
        simp only [Reps] at r
        obtain ⟨v, vr, rfl, r1, r2⟩ := r
        simp only [RdPs]
        exact ⟨v, vr, rfl, toL1_ok S e1 r1, toLs1_ok S e2 r2⟩
theorem toL_ok {d : D} {q : PyData} {v : V} (S : SRel K w H α μ) (h : toL μ d = some q) (r : Rep K H α d v) : RdP K H q v := by
  cases d with
  | obj n =>
    unfold toL at h
    dsimp only at h
    split at h
    · rename_i xs hx
      obtain ⟨a, ea, us, hH, rr⟩ := S.at hx
      obtain ⟨a', rfl, ea'⟩ := Rep.obj_iff.mp r
      rw [ea] at ea'; cases ea'
      cases e : toLs1 μ xs with
      | none => rw [e] at h; cases h
      | some ys =>
        rw [e] at h; cases h
        simp only [RdP]
        exact ⟨a, us, rfl, SqL.of hH, toLs1_ok S e rr⟩
    · cases h
  | tup xs =>
    unfold toL at h
    dsimp only at h
    cases e : toLs1 μ xs with
    | none => rw [e] at h; cases h
    | some ys =>
      rw [e] at h; cases h
      obtain ⟨a, vs, rfl, h1, h2⟩ := Rep.tup_iff.mp r
      simp only [RdP]
      exact ⟨a, vs, rfl, h1, toLs1_ok S e h2⟩
  | non => exact toP_ok h r
  | bl b => exact toP_ok h r
  | int i => exact toP_ok h r
  | str x => exact toP_ok h r
  | frz xs => exact toP_ok h r
end
def dEq (neg : Bool) (a b : D) (μ : Sto) : Out D := match toL μ a, toL μ b with
  | some p, some q => if fitP p = true ∧ fitP q = true then .ok (.bl (if neg then !PyData.eqv p q else PyData.eqv p q)) μ else .bad
  | _, _ => .bad
def itemsP : PyData → Option (List PyData)
  | .list xs => some xs
  | .tuple xs => some xs
  | _ => none
def dIn (neg : Bool) (a b : D) (μ : Sto) : Out D := match toL μ a, toL μ b with
  | some p, some q => match itemsP q with
    | some xs => if fitP p = true ∧ fitP q = true then .ok (.bl (if neg then !(xs.any fun y => PyData.eqv y p) else xs.any fun y => PyData.eqv y p)) μ else .bad
    | none => .bad
  | _, _ => .bad
theorem o2_eq {p : Pa} {neg : Bool} : Op2 p (dEq neg) (rEqP p.K neg) := by
  intro a b v y H α μ Q S ra rb P
  unfold dEq at P
  split at P
  · rename_i x z hx hz
    split at P
    · rename_i hf
      exact ⟨x, z, toL_ok S hx ra, toL_ok S hz rb, hf.1, hf.2, P.now S _ (Rep.bl_iff.mpr rfl)⟩
    · exact P.elim
  · exact P.elim
theorem o2_in {p : Pa} {neg : Bool} : Op2 p (dIn neg) (rInP p.K neg) := by
  intro a b v y H α μ Q S ra rb P
  unfold dIn at P
  split at P
  · rename_i x z hx hz
    split at P
    · rename_i xs hxs
      split at P
      · rename_i hf
        refine ⟨x, z, xs, toL_ok S hx ra, toL_ok S hz rb, ?_, hf.1, hf.2, P.now S _ (Rep.bl_iff.mpr rfl)⟩
        cases z <;> first | (cases hxs; exact .inl rfl) | (cases hxs; exact .inr rfl) | (cases hxs)
      · exact P.elim
    · exact P.elim
  · exact P.elim
def D.isNon : D → Bool
  | .non => true
  | _ => false
def D.isBl (c : Bool) : D → Bool
  | .bl d => d == c
  | _ => false
def dIsN (neg : Bool) (a b : D) (μ : Sto) : Out D := match b with
  | .non => .ok (.bl (if neg then !a.isNon else a.isNon)) μ
  | _ => .bad
theorem isN_rep {K : PySem.W.Frag} {H : Hp} {α : List Addr} {a : D} {v : V} (r : Rep K H α a v) : decide (v = .non) = a.isNon := by
  cases a with
  | non => rw [Rep.non_iff.mp r]; rfl
  | bl b => rw [Rep.bl_iff.mp r]; rfl
  | int b => rw [Rep.int_iff.mp r]; rfl
  | str b => rw [Rep.str_iff.mp r]; rfl
  | tup xs => obtain ⟨a, vs, rfl, _⟩ := Rep.tup_iff.mp r; rfl
  | frz xs => obtain ⟨a, vs, rfl, _⟩ := Rep.frz_iff.mp r; rfl
  | obj xs => obtain ⟨a, rfl, _⟩ := Rep.obj_iff.mp r; rfl
theorem o2_isN {p : Pa} : Op2 p (dIsN false) (fun x y H Q => y = .non ∧ Q (.bl (decide (x = .non))) H) := by
  intro a b v y H α μ Q S ra rb P
  cases b with
  | non => exact ⟨Rep.non_iff.mp rb, P.now S _ (Rep.bl_iff.mpr (by rw [isN_rep ra]; rfl))⟩
  | bl b => exact P.elim
  | int b => exact P.elim
  | str b => exact P.elim
  | tup xs => exact P.elim
  | frz xs => exact P.elim
  | obj xs => exact P.elim
theorem o2_notN {p : Pa} : Op2 p (dIsN true) (fun x y H Q => y = .non ∧ Q (.bl (!decide (x = .non))) H) := by
  intro a b v y H α μ Q S ra rb P
  cases b with
  | non => exact ⟨Rep.non_iff.mp rb, P.now S _ (Rep.bl_iff.mpr (by rw [isN_rep ra]; cases a <;> rfl))⟩
  | bl b => exact P.elim
  | int b => exact P.elim
  | str b => exact P.elim
  | tup xs => exact P.elim
  | frz xs => exact P.elim
  | obj xs => exact P.elim
def dIsB (neg : Bool) (a b : D) (μ : Sto) : Out D := match b with
  | .bl c => .ok (.bl (if neg then !a.isBl c else a.isBl c)) μ
  | _ => .bad
end L2

set_option Elab.async false
set_option linter.all false
set_option maxRecDepth 100000
set_option maxHeartbeats 4000000
/-! tuples compared -/
namespace L2
open PySem PySem.Spec PyProof.Rows RS
open PySem.SeqAt
open PySem.AutoSeq1 (wpAny_loadPart')
open PySem.MeetsSeq PySem.MeetsSeq2 PySem.MeetsSeq3
def RcOp (op : CmpOp) (A : Around) (s : Shared) (y x : Value) (k : Bool) : Prop := ∀ (prog : Program) (w : World) (E : Value → Shared → Prop) (Q : Value → Shared → Prop), Q (.bool k) s → wpAny (model prog w) A (richCompare op y x) Q E s
def lexB (t : Bool) : List (Bool × Bool) → Bool
  | [] => t
  | (e, k) :: r => if e = true then lexB t r else k
def Cmps (op : CmpOp) (A : Around) (s : Shared) : List Value → List Value → List (Bool × Bool) → Prop
  | [], _, [] => True
  | _, [], [] => True
  | y :: ys, x :: xs, (e, k) :: r => EqAt A s y x e ∧ (e = false → RcOp op A s y x k) ∧ (e = true → Cmps op A s ys xs r)
  | _, _, _ => False

theorem tuple_lt_gen (l b : Addr) (items items2 : Array Value) (n n2 : Nat) (dd dd2 : Option Addr) (sl sl2 : Array (Option Value)) (eks : List (Bool × Bool)) :
    Meets (Builtin.«tuple.__lt__» ⟨[.ref l, .ref b], []⟩)
      (fun A R s => s.heap.get? l = some { cls := .type "tuple", dict := dd, data := .seq items n, slots := sl } ∧ s.heap.get? b = some { cls := .type "tuple", dict := dd2, data := .seq items2 n2, slots := sl2 } ∧
        Cmps .Lt A.in1 s items.toList items2.toList eks ∧ R (.ok (.ret (.bool (lexB (decide (items.size < items2.size)) eks)))) s) :=
  .of_wp fun prog w A R s h => by
    obtain ⟨hp, g, d, tk, os⟩ := s; obtain ⟨hl, hb, hc, h⟩ := h
    have f2 := AutoSeq1.sub_tuple_tuple
    wp_walk using wpAny_loadPart' hl, wpAny_loadPart' hb, wpAny_forIn_list _ (fun rest b s' => b.1 = none ∧ s' = ⟨hp, g, d, tk, os⟩ ∧ ∃ (vs ws : List Value) (eks' : List (Bool × Bool)), rest = vs.zip ws ∧
      Cmps .Lt A.in1 ⟨hp, g, d, tk, os⟩ vs ws eks' ∧ R (.ok (.ret (.bool (lexB (decide (items.size < items2.size)) eks')))) ⟨hp, g, d, tk, os⟩) _
    case turn =>
      rintro ⟨y, x⟩ rest b s' ⟨hb', rfl, vs, ws, eks', hz, hci, hR⟩
      cases vs with
      | nil => rw [List.zip_nil_left] at hz; cases hz
      | cons a vs =>
        cases ws with
        | nil => rw [List.zip_nil_right] at hz; cases hz
        | cons c ws =>
          rw [List.zip_cons_cons] at hz
          injection hz with hyx hrest
          injection hyx with hy hx
          subst hy hx
          cases eks' with
          | nil => simp only [Cmps] at hci
          | cons ek eks' =>
            obtain ⟨e, k⟩ := ek
            simp only [Cmps] at hci
            obtain ⟨he, hk, hci⟩ := hci
            refine wpAny_bind (he prog w _ _ ?_)
            cases e with
            | true =>
              have hR' : R (.ok (.ret (.bool (lexB (decide (items.size < items2.size)) eks')))) ⟨hp, g, d, tk, os⟩ := hR
              wp_walk
              exact ⟨rfl, rfl, _, _, _, hrest, hci rfl, hR'⟩
            | false =>
              have hR' : R (.ok (.ret (.bool k))) ⟨hp, g, d, tk, os⟩ := hR
              have hri := hk rfl prog w
              wp_walk using hri
              exact ⟨_, rfl, by simpa using hR'⟩
    case fin =>
      rintro ⟨b1, b2⟩ s' ⟨hb', rfl, vs, ws, eks', hz, hci, hR⟩
      simp only at hb'
      subst hb'
      have hv : eks' = [] := by
        cases vs with
        | nil => cases eks' with
          | nil => rfl
          | cons _ _ => simp only [Cmps] at hci
        | cons a vs => cases ws with
          | nil => cases eks' with
            | nil => rfl
            | cons _ _ => simp only [Cmps] at hci
          | cons c ws => rw [List.zip_cons_cons] at hz; cases hz
      subst hv
      have hR' : R (.ok (.ret (.bool (decide (items.size < items2.size))))) ⟨hp, g, d, tk, os⟩ := hR
      wp_walk
      exact ⟨_, rfl, by simpa [Builtin.Tuple.tupleCompareSizes] using hR'⟩
    case h =>
      exact ⟨rfl, rfl, items.toList, items2.toList, eks, rfl, hc, h⟩
theorem lt_tup {prog : Program} {w : World} {A : Around} {E : Value → Shared → Prop} {s : Shared} {l b : Addr} {items items2 : Array Value} {eks : List (Bool × Bool)} {Q : Value → Shared → Prop} (hl : IsTup s.heap l items) (hb : IsTup s.heap b items2) (hc : Cmps .Lt A.in1 s items.toList items2.toList eks)
    (hu : A.units < cLine) (h : Q (.bool (lexB (decide (items.size < items2.size)) eks)) s) : wpAny (model prog w) A (richCompare .Lt (.ref l) (.ref b)) Q E s := by
  obtain ⟨⟨cls, dd, data, sl⟩, ho, hc', n, hd⟩ := id hl
  obtain ⟨⟨cls2, dd2, data2, sl2⟩, ho2, hc2, n2, hd2⟩ := id hb
  simp only at hc' hd hc2 hd2
  subst hc' hd hc2 hd2
  exact richCompare_meets_room (op := .Lt) ⟨_, ho, rfl⟩ ⟨_, ho2, rfl⟩ PySem.F.slot_tuple_lt PySem.F.entry_tuple_lt (PySem.F.args_tuple_lt_2 _ _) (tuple_lt_gen l b items items2 n n2 dd dd2 sl sl2 eks)
    ⟨ho, ho2, hc, show Value.bool (lexB (decide (items.size < items2.size)) eks) ≠ Value.notImplemented ∧ Q (.bool (lexB (decide (items.size < items2.size)) eks)) s from ⟨(fun x => nomatch x), h⟩⟩ hu

theorem tuple_le_gen (l b : Addr) (items items2 : Array Value) (n n2 : Nat) (dd dd2 : Option Addr) (sl sl2 : Array (Option Value)) (eks : List (Bool × Bool)) :
    Meets (Builtin.«tuple.__le__» ⟨[.ref l, .ref b], []⟩)
      (fun A R s => s.heap.get? l = some { cls := .type "tuple", dict := dd, data := .seq items n, slots := sl } ∧ s.heap.get? b = some { cls := .type "tuple", dict := dd2, data := .seq items2 n2, slots := sl2 } ∧
        Cmps .LtE A.in1 s items.toList items2.toList eks ∧ R (.ok (.ret (.bool (lexB (decide (items.size ≤ items2.size)) eks)))) s) :=
  .of_wp fun prog w A R s h => by
    obtain ⟨hp, g, d, tk, os⟩ := s; obtain ⟨hl, hb, hc, h⟩ := h
    have f2 := AutoSeq1.sub_tuple_tuple
    wp_walk using wpAny_loadPart' hl, wpAny_loadPart' hb, wpAny_forIn_list _ (fun rest b s' => b.1 = none ∧ s' = ⟨hp, g, d, tk, os⟩ ∧ ∃ (vs ws : List Value) (eks' : List (Bool × Bool)), rest = vs.zip ws ∧
      Cmps .LtE A.in1 ⟨hp, g, d, tk, os⟩ vs ws eks' ∧ R (.ok (.ret (.bool (lexB (decide (items.size ≤ items2.size)) eks')))) ⟨hp, g, d, tk, os⟩) _
    case turn =>
      rintro ⟨y, x⟩ rest b s' ⟨hb', rfl, vs, ws, eks', hz, hci, hR⟩
      cases vs with
      | nil => rw [List.zip_nil_left] at hz; cases hz
      | cons a vs =>
        cases ws with
        | nil => rw [List.zip_nil_right] at hz; cases hz
        | cons c ws =>
          rw [List.zip_cons_cons] at hz
          injection hz with hyx hrest
          injection hyx with hy hx
          subst hy hx
          cases eks' with
          | nil => simp only [Cmps] at hci
          | cons ek eks' =>
            obtain ⟨e, k⟩ := ek
            simp only [Cmps] at hci
            obtain ⟨he, hk, hci⟩ := hci
            refine wpAny_bind (he prog w _ _ ?_)
            cases e with
            | true =>
              have hR' : R (.ok (.ret (.bool (lexB (decide (items.size ≤ items2.size)) eks')))) ⟨hp, g, d, tk, os⟩ := hR
              wp_walk
              exact ⟨rfl, rfl, _, _, _, hrest, hci rfl, hR'⟩
            | false =>
              have hR' : R (.ok (.ret (.bool k))) ⟨hp, g, d, tk, os⟩ := hR
              have hri := hk rfl prog w
              wp_walk using hri
              exact ⟨_, rfl, by simpa using hR'⟩
    case fin =>
      rintro ⟨b1, b2⟩ s' ⟨hb', rfl, vs, ws, eks', hz, hci, hR⟩
      simp only at hb'
      subst hb'
      have hv : eks' = [] := by
        cases vs with
        | nil => cases eks' with
          | nil => rfl
          | cons _ _ => simp only [Cmps] at hci
        | cons a vs => cases ws with
          | nil => cases eks' with
            | nil => rfl
            | cons _ _ => simp only [Cmps] at hci
          | cons c ws => rw [List.zip_cons_cons] at hz; cases hz
      subst hv
      have hR' : R (.ok (.ret (.bool (decide (items.size ≤ items2.size))))) ⟨hp, g, d, tk, os⟩ := hR
      wp_walk
      exact ⟨_, rfl, by simpa [Builtin.Tuple.tupleCompareSizes] using hR'⟩
    case h =>
      exact ⟨rfl, rfl, items.toList, items2.toList, eks, rfl, hc, h⟩
theorem le_tup {prog : Program} {w : World} {A : Around} {E : Value → Shared → Prop} {s : Shared} {l b : Addr} {items items2 : Array Value} {eks : List (Bool × Bool)} {Q : Value → Shared → Prop} (hl : IsTup s.heap l items) (hb : IsTup s.heap b items2) (hc : Cmps .LtE A.in1 s items.toList items2.toList eks)
    (hu : A.units < cLine) (h : Q (.bool (lexB (decide (items.size ≤ items2.size)) eks)) s) : wpAny (model prog w) A (richCompare .LtE (.ref l) (.ref b)) Q E s := by
  obtain ⟨⟨cls, dd, data, sl⟩, ho, hc', n, hd⟩ := id hl
  obtain ⟨⟨cls2, dd2, data2, sl2⟩, ho2, hc2, n2, hd2⟩ := id hb
  simp only at hc' hd hc2 hd2
  subst hc' hd hc2 hd2
  exact richCompare_meets_room (op := .LtE) ⟨_, ho, rfl⟩ ⟨_, ho2, rfl⟩ PySem.F.slot_tuple_le PySem.F.entry_tuple_le (PySem.F.args_tuple_le_2 _ _) (tuple_le_gen l b items items2 n n2 dd dd2 sl sl2 eks)
    ⟨ho, ho2, hc, show Value.bool (lexB (decide (items.size ≤ items2.size)) eks) ≠ Value.notImplemented ∧ Q (.bool (lexB (decide (items.size ≤ items2.size)) eks)) s from ⟨(fun x => nomatch x), h⟩⟩ hu

theorem tuple_gt_gen (l b : Addr) (items items2 : Array Value) (n n2 : Nat) (dd dd2 : Option Addr) (sl sl2 : Array (Option Value)) (eks : List (Bool × Bool)) :
    Meets (Builtin.«tuple.__gt__» ⟨[.ref l, .ref b], []⟩)
      (fun A R s => s.heap.get? l = some { cls := .type "tuple", dict := dd, data := .seq items n, slots := sl } ∧ s.heap.get? b = some { cls := .type "tuple", dict := dd2, data := .seq items2 n2, slots := sl2 } ∧
        Cmps .Gt A.in1 s items.toList items2.toList eks ∧ R (.ok (.ret (.bool (lexB (decide (items.size > items2.size)) eks)))) s) :=
  .of_wp fun prog w A R s h => by
    obtain ⟨hp, g, d, tk, os⟩ := s; obtain ⟨hl, hb, hc, h⟩ := h
    have f2 := AutoSeq1.sub_tuple_tuple
    wp_walk using wpAny_loadPart' hl, wpAny_loadPart' hb, wpAny_forIn_list _ (fun rest b s' => b.1 = none ∧ s' = ⟨hp, g, d, tk, os⟩ ∧ ∃ (vs ws : List Value) (eks' : List (Bool × Bool)), rest = vs.zip ws ∧
      Cmps .Gt A.in1 ⟨hp, g, d, tk, os⟩ vs ws eks' ∧ R (.ok (.ret (.bool (lexB (decide (items.size > items2.size)) eks')))) ⟨hp, g, d, tk, os⟩) _
    case turn =>
      rintro ⟨y, x⟩ rest b s' ⟨hb', rfl, vs, ws, eks', hz, hci, hR⟩
      cases vs with
      | nil => rw [List.zip_nil_left] at hz; cases hz
      | cons a vs =>
        cases ws with
        | nil => rw [List.zip_nil_right] at hz; cases hz
        | cons c ws =>
          rw [List.zip_cons_cons] at hz
          injection hz with hyx hrest
          injection hyx with hy hx
          subst hy hx
          cases eks' with
          | nil => simp only [Cmps] at hci
          | cons ek eks' =>
            obtain ⟨e, k⟩ := ek
            simp only [Cmps] at hci
            obtain ⟨he, hk, hci⟩ := hci
            refine wpAny_bind (he prog w _ _ ?_)
            cases e with
            | true =>
              have hR' : R (.ok (.ret (.bool (lexB (decide (items.size > items2.size)) eks')))) ⟨hp, g, d, tk, os⟩ := hR
              wp_walk
              exact ⟨rfl, rfl, _, _, _, hrest, hci rfl, hR'⟩
            | false =>
              have hR' : R (.ok (.ret (.bool k))) ⟨hp, g, d, tk, os⟩ := hR
              have hri := hk rfl prog w
              wp_walk using hri
              exact ⟨_, rfl, by simpa using hR'⟩
    case fin =>
      rintro ⟨b1, b2⟩ s' ⟨hb', rfl, vs, ws, eks', hz, hci, hR⟩
      simp only at hb'
      subst hb'
      have hv : eks' = [] := by
        cases vs with
        | nil => cases eks' with
          | nil => rfl
          | cons _ _ => simp only [Cmps] at hci
        | cons a vs => cases ws with
          | nil => cases eks' with
            | nil => rfl
            | cons _ _ => simp only [Cmps] at hci
          | cons c ws => rw [List.zip_cons_cons] at hz; cases hz
      subst hv
      have hR' : R (.ok (.ret (.bool (decide (items.size > items2.size))))) ⟨hp, g, d, tk, os⟩ := hR
      wp_walk
      exact ⟨_, rfl, by simpa [Builtin.Tuple.tupleCompareSizes] using hR'⟩
    case h =>
      exact ⟨rfl, rfl, items.toList, items2.toList, eks, rfl, hc, h⟩
theorem gt_tup {prog : Program} {w : World} {A : Around} {E : Value → Shared → Prop} {s : Shared} {l b : Addr} {items items2 : Array Value} {eks : List (Bool × Bool)} {Q : Value → Shared → Prop} (hl : IsTup s.heap l items) (hb : IsTup s.heap b items2) (hc : Cmps .Gt A.in1 s items.toList items2.toList eks)
    (hu : A.units < cLine) (h : Q (.bool (lexB (decide (items.size > items2.size)) eks)) s) : wpAny (model prog w) A (richCompare .Gt (.ref l) (.ref b)) Q E s := by
  obtain ⟨⟨cls, dd, data, sl⟩, ho, hc', n, hd⟩ := id hl
  obtain ⟨⟨cls2, dd2, data2, sl2⟩, ho2, hc2, n2, hd2⟩ := id hb
  simp only at hc' hd hc2 hd2
  subst hc' hd hc2 hd2
  exact richCompare_meets_room (op := .Gt) ⟨_, ho, rfl⟩ ⟨_, ho2, rfl⟩ PySem.F.slot_tuple_gt PySem.F.entry_tuple_gt (PySem.F.args_tuple_gt_2 _ _) (tuple_gt_gen l b items items2 n n2 dd dd2 sl sl2 eks)
    ⟨ho, ho2, hc, show Value.bool (lexB (decide (items.size > items2.size)) eks) ≠ Value.notImplemented ∧ Q (.bool (lexB (decide (items.size > items2.size)) eks)) s from ⟨(fun x => nomatch x), h⟩⟩ hu

theorem tuple_ge_gen (l b : Addr) (items items2 : Array Value) (n n2 : Nat) (dd dd2 : Option Addr) (sl sl2 : Array (Option Value)) (eks : List (Bool × Bool)) :
    Meets (Builtin.«tuple.__ge__» ⟨[.ref l, .ref b], []⟩)
      (fun A R s => s.heap.get? l = some { cls := .type "tuple", dict := dd, data := .seq items n, slots := sl } ∧ s.heap.get? b = some { cls := .type "tuple", dict := dd2, data := .seq items2 n2, slots := sl2 } ∧
        Cmps .GtE A.in1 s items.toList items2.toList eks ∧ R (.ok (.ret (.bool (lexB (decide (items.size ≥ items2.size)) eks)))) s) :=
  .of_wp fun prog w A R s h => by
    obtain ⟨hp, g, d, tk, os⟩ := s; obtain ⟨hl, hb, hc, h⟩ := h
    have f2 := AutoSeq1.sub_tuple_tuple
    wp_walk using wpAny_loadPart' hl, wpAny_loadPart' hb, wpAny_forIn_list _ (fun rest b s' => b.1 = none ∧ s' = ⟨hp, g, d, tk, os⟩ ∧ ∃ (vs ws : List Value) (eks' : List (Bool × Bool)), rest = vs.zip ws ∧
      Cmps .GtE A.in1 ⟨hp, g, d, tk, os⟩ vs ws eks' ∧ R (.ok (.ret (.bool (lexB (decide (items.size ≥ items2.size)) eks')))) ⟨hp, g, d, tk, os⟩) _
    case turn =>
      rintro ⟨y, x⟩ rest b s' ⟨hb', rfl, vs, ws, eks', hz, hci, hR⟩
      cases vs with
      | nil => rw [List.zip_nil_left] at hz; cases hz
      | cons a vs =>
        cases ws with
        | nil => rw [List.zip_nil_right] at hz; cases hz
        | cons c ws =>
          rw [List.zip_cons_cons] at hz
          injection hz with hyx hrest
          injection hyx with hy hx
          subst hy hx
          cases eks' with
          | nil => simp only [Cmps] at hci
          | cons ek eks' =>
            obtain ⟨e, k⟩ := ek
            simp only [Cmps] at hci
            obtain ⟨he, hk, hci⟩ := hci
            refine wpAny_bind (he prog w _ _ ?_)
            cases e with
            | true =>
              have hR' : R (.ok (.ret (.bool (lexB (decide (items.size ≥ items2.size)) eks')))) ⟨hp, g, d, tk, os⟩ := hR
              wp_walk
              exact ⟨rfl, rfl, _, _, _, hrest, hci rfl, hR'⟩
            | false =>
              have hR' : R (.ok (.ret (.bool k))) ⟨hp, g, d, tk, os⟩ := hR
              have hri := hk rfl prog w
              wp_walk using hri
              exact ⟨_, rfl, by simpa using hR'⟩
    case fin =>
      rintro ⟨b1, b2⟩ s' ⟨hb', rfl, vs, ws, eks', hz, hci, hR⟩
      simp only at hb'
      subst hb'
      have hv : eks' = [] := by
        cases vs with
        | nil => cases eks' with
          | nil => rfl
          | cons _ _ => simp only [Cmps] at hci
        | cons a vs => cases ws with
          | nil => cases eks' with
            | nil => rfl
            | cons _ _ => simp only [Cmps] at hci
          | cons c ws => rw [List.zip_cons_cons] at hz; cases hz
      subst hv
      have hR' : R (.ok (.ret (.bool (decide (items.size ≥ items2.size))))) ⟨hp, g, d, tk, os⟩ := hR
      wp_walk
      exact ⟨_, rfl, by simpa [Builtin.Tuple.tupleCompareSizes] using hR'⟩
    case h =>
      exact ⟨rfl, rfl, items.toList, items2.toList, eks, rfl, hc, h⟩
theorem ge_tup {prog : Program} {w : World} {A : Around} {E : Value → Shared → Prop} {s : Shared} {l b : Addr} {items items2 : Array Value} {eks : List (Bool × Bool)} {Q : Value → Shared → Prop} (hl : IsTup s.heap l items) (hb : IsTup s.heap b items2) (hc : Cmps .GtE A.in1 s items.toList items2.toList eks)
    (hu : A.units < cLine) (h : Q (.bool (lexB (decide (items.size ≥ items2.size)) eks)) s) : wpAny (model prog w) A (richCompare .GtE (.ref l) (.ref b)) Q E s := by
  obtain ⟨⟨cls, dd, data, sl⟩, ho, hc', n, hd⟩ := id hl
  obtain ⟨⟨cls2, dd2, data2, sl2⟩, ho2, hc2, n2, hd2⟩ := id hb
  simp only at hc' hd hc2 hd2
  subst hc' hd hc2 hd2
  exact richCompare_meets_room (op := .GtE) ⟨_, ho, rfl⟩ ⟨_, ho2, rfl⟩ PySem.F.slot_tuple_ge PySem.F.entry_tuple_ge (PySem.F.args_tuple_ge_2 _ _) (tuple_ge_gen l b items items2 n n2 dd dd2 sl sl2 eks)
    ⟨ho, ho2, hc, show Value.bool (lexB (decide (items.size ≥ items2.size)) eks) ≠ Value.notImplemented ∧ Q (.bool (lexB (decide (items.size ≥ items2.size)) eks)) s from ⟨(fun x => nomatch x), h⟩⟩ hu
end L2

set_option Elab.async false
set_option linter.all false
set_option maxRecDepth 100000
set_option maxHeartbeats 4000000
namespace L2
open PySem PySem.Spec PyProof.Rows RS

/-! ### order of data -/
def cmpI : CmpOp → Int → Int → Bool
  | .Lt, i, j => decide (i < j)
  | .LtE, i, j => decide (i ≤ j)
  | .Gt, i, j => decide (i > j)
  | .GtE, i, j => decide (i ≥ j)
  | _, _, _ => false
mutual
def cmpP (op : CmpOp) : PyData → PyData → Option Bool
  | .int i, .int j => some (cmpI op i j)
  | .tuple xs, .tuple ys => cmpPs op xs ys
  | _, _ => none
def cmpPs (op : CmpOp) : List PyData → List PyData → Option Bool
  | [], ys => some (cmpI op 0 ys.length)
  | _ :: xs, [] => some (cmpI op (xs.length + 1) 0)
  | x :: xs, y :: ys => if PyData.eqv x y = true then cmpPs op xs ys else cmpP op x y
end
def isOrd : CmpOp → Bool
  | .Lt | .LtE | .Gt | .GtE => true
  | _ => false
theorem rcInt : ∀ {op : CmpOp} (ho : isOrd op = true) {A : Around} {s : Shared} (a : Int) (t : Tok) (c : Int) (u : Tok), RcOp op A s (.int a t) (.int c u) (cmpI op a c)
  | .Lt, _, A, s, a, t, c, u => fun prog w E Q h => (PyProof.Rows.lt_int h : wpAny (model prog w) A (compareOp .Lt (.int a t) (.int c u)) Q E s)
  | .LtE, _, A, s, a, t, c, u => fun prog w E Q h => (PyProof.Rows.le_int h : wpAny (model prog w) A (compareOp .LtE (.int a t) (.int c u)) Q E s)
  | .Gt, _, A, s, a, t, c, u => fun prog w E Q h => (PyProof.Rows.gt_int h : wpAny (model prog w) A (compareOp .Gt (.int a t) (.int c u)) Q E s)
  | .GtE, _, A, s, a, t, c, u => fun prog w E Q h => (PyProof.Rows.ge_int h : wpAny (model prog w) A (compareOp .GtE (.int a t) (.int c u)) Q E s)
theorem cmpI_shift {op : CmpOp} (i j : Nat) : cmpI op ((i + 1 : Nat) : Int) ((j + 1 : Nat) : Int) = cmpI op (i : Int) (j : Int) := by
  cases op <;> first | rfl | (unfold cmpI; simp)
theorem rcTup : ∀ {op : CmpOp} (ho : isOrd op = true) {A : Around} {s : Shared} {l b : Addr} {items items2 : Array Value} {eks : List (Bool × Bool)} (hl : IsTup s.heap l items) (hb : IsTup s.heap b items2) (hc : Cmps op A.in1 s items.toList items2.toList eks)
    (hu : A.units < cLine), RcOp op A s (.ref l) (.ref b) (lexB (cmpI op items.size items2.size) eks)
  | .Lt, _, A, s, l, b, items, items2, eks, hl, hb, hc, hu => fun prog w E Q h => lt_tup hl hb hc hu (by
      have e : decide (items.size < items2.size) = cmpI .Lt items.size items2.size := by (unfold cmpI; simp)
      rw [e]; exact h)
  | .LtE, _, A, s, l, b, items, items2, eks, hl, hb, hc, hu => fun prog w E Q h => le_tup hl hb hc hu (by
      have e : decide (items.size ≤ items2.size) = cmpI .LtE items.size items2.size := by (unfold cmpI; simp)
      rw [e]; exact h)
  | .Gt, _, A, s, l, b, items, items2, eks, hl, hb, hc, hu => fun prog w E Q h => gt_tup hl hb hc hu (by
      have e : decide (items.size > items2.size) = cmpI .Gt items.size items2.size := by (unfold cmpI; simp)
      rw [e]; exact h)
  | .GtE, _, A, s, l, b, items, items2, eks, hl, hb, hc, hu => fun prog w E Q h => ge_tup hl hb hc hu (by
      have e : decide (items.size ≥ items2.size) = cmpI .GtE items.size items2.size := by (unfold cmpI; simp)
      rw [e]; exact h)
mutual
theorem rc_reads {op : CmpOp} (ho : isOrd op = true) : ∀ (da db : PyData) (A : Around) (s : Shared) (a b : Value) (as bs : List Addr) (k : Bool), Reads s.heap a da as → Reads s.heap b db bs → da.canLay0 = true → db.canLay0 = true →
    A.units + min da.depth db.depth < cLine → cmpP op da db = some k → RcOp op A s a b k
  | .int i, .int j, A, s, _, _, _, _, k, ra, rb, _, _, hu, hk => by
    cases ra; cases rb
    simp only [cmpP] at hk
    cases hk
    exact rcInt ho _ _ _ _
  | .tuple xs, .tuple ys, A, s, _, _, _, _, k, ra, rb, ha, hb, hu, hk => by
    simp only [cmpP] at hk
    cases ra with
    | @tuple l o vs n _ as₁ h1 h2 h3 h4 =>
      cases rb with
      | @tuple l' o' vs' n' _ bs₁ k1 k2 k3 k4 =>
        have n1 : vs.size = xs.length := by simpa using SeqAt.ReadsAll.length _ _ _ h4
        have n2 : vs'.size = ys.length := by simpa using SeqAt.ReadsAll.length _ _ _ k4
        obtain ⟨eks, e1, e2⟩ := rc_readsAll ho xs ys A.in1 s vs.toList vs'.toList _ _ k h4 k4 (by simpa [PyData.canLay0] using ha) (by simpa [PyData.canLay0] using hb) (SeqAt.room_in hu) hk
        have := rcTup ho (A := A) (s := s) (l := l) (b := l') (items := vs) (items2 := vs') (eks := eks) ⟨_, h1, h2, _, h3⟩ ⟨_, k1, k2, _, k3⟩ e1 (SeqAt.room_here hu)
        rw [n1, n2, e2] at this
        exact this
  | .none, _, _, _, _, _, _, _, _, _, _, _, _, _, hk => by simp only [cmpP] at hk; cases hk
  | .bool _, _, _, _, _, _, _, _, _, _, _, _, _, _, hk => by simp only [cmpP] at hk; cases hk
  | .str _, _, _, _, _, _, _, _, _, _, _, _, _, _, hk => by simp only [cmpP] at hk; cases hk
  | .list _, _, _, _, _, _, _, _, _, _, _, _, _, _, hk => by simp only [cmpP] at hk; cases hk
  | .dict _, _, _, _, _, _, _, _, _, _, _, _, _, _, hk => by simp only [cmpP] at hk; cases hk
  | .int _, .none, _, _, _, _, _, _, _, _, _, _, _, _, hk => by simp only [cmpP] at hk; cases hk
  | .int _, .bool _, _, _, _, _, _, _, _, _, _, _, _, _, hk => by simp only [cmpP] at hk; cases hk
  | .int _, .str _, _, _, _, _, _, _, _, _, _, _, _, _, hk => by simp only [cmpP] at hk; cases hk
  | .int _, .list _, _, _, _, _, _, _, _, _, _, _, _, _, hk => by simp only [cmpP] at hk; cases hk
  | .int _, .tuple _, _, _, _, _, _, _, _, _, _, _, _, _, hk => by simp only [cmpP] at hk; cases hk
  | .int _, .dict _, _, _, _, _, _, _, _, _, _, _, _, _, hk => by simp only [cmpP] at hk; cases hk
  | .tuple _, .none, _, _, _, _, _, _, _, _, _, _, _, _, hk => by simp only [cmpP] at hk; cases hk
  | .tuple _, .bool _, _, _, _, _, _, _, _, _, _, _, _, _, hk => by simp only [cmpP] at hk; cases hk
  | .tuple _, .int _, _, _, _, _, _, _, _, _, _, _, _, _, hk => by simp only [cmpP] at hk; cases hk
  | .tuple _, .str _, _, _, _, _, _, _, _, _, _, _, _, _, hk => by simp only [cmpP] at hk; cases hk
  | .tuple _, .list _, _, _, _, _, _, _, _, _, _, _, _, _, hk => by simp only [cmpP] at hk; cases hk
  | .tuple _, .dict _, _, _, _, _, _, _, _, _, _, _, _, _, hk => by simp only [cmpP] at hk; cases hk
theorem rc_readsAll {op : CmpOp} (ho : isOrd op = true) : ∀ (xs ys : List PyData) (A : Around) (s : Shared) (vs ws : List Value) (as bs : List Addr) (k : Bool), ReadsAll s.heap vs xs as → ReadsAll s.heap ws ys bs → PyData.canLayAll0 xs = true → PyData.canLayAll0 ys = true →
    A.units + min (PyData.depthAll xs) (PyData.depthAll ys) < cLine → cmpPs op xs ys = some k → ∃ eks, Cmps op A s vs ws eks ∧ lexB (cmpI op (xs.length : Nat) (ys.length : Nat)) eks = k
  | [], ys, A, s, _, _, _, _, k, ra, rb, _, _, _, hk => by
    cases ra
    simp only [cmpPs] at hk
    cases hk
    exact ⟨[], by unfold Cmps; trivial, rfl⟩
  | x :: xs, [], A, s, _, _, _, _, k, ra, rb, _, _, _, hk => by
    cases rb
    simp only [cmpPs] at hk
    cases hk
    cases ra
    refine ⟨[], by unfold Cmps; trivial, ?_⟩
    simp [lexB]
  | x :: xs, y :: ys, A, s, _, _, _, _, k, ra, rb, ha, hb, hu, hk => by
    have ha' : x.canLay0 = true ∧ PyData.canLayAll0 xs = true := by simpa [PyData.canLayAll0] using ha
    have hb' : y.canLay0 = true ∧ PyData.canLayAll0 ys = true := by simpa [PyData.canLayAll0] using hb
    cases ra with
    | cons r rs =>
      cases rb with
      | cons r' rs' =>
        have he := SeqAt.eqAt_reads x y A s _ _ _ _ r r' ha'.1 hb'.1 (SeqAt.room_head hu)
        simp only [cmpPs] at hk
        cases e : PyData.eqv x y with
        | true =>
          rw [if_pos e] at hk
          rw [e] at he
          obtain ⟨eks, e1, e2⟩ := rc_readsAll ho xs ys A s _ _ _ _ k rs rs' ha'.2 hb'.2 (SeqAt.room_tail hu) hk
          refine ⟨(true, false) :: eks, ⟨he, fun z => (by cases z), fun _ => e1⟩, ?_⟩
          show lexB (cmpI op ((xs.length + 1 : Nat) : Int) ((ys.length + 1 : Nat) : Int)) eks = k
          rw [cmpI_shift]; exact e2
        | false =>
          rw [if_neg (by rw [e]; exact Bool.false_ne_true)] at hk
          rw [e] at he
          refine ⟨[(false, k)], ⟨he, fun _ => rc_reads ho x y A s _ _ _ _ k r r' ha'.1 hb'.1 (SeqAt.room_head hu) hk, fun z => (by cases z)⟩, rfl⟩
end

def rCmpP (K : PySem.W.Frag) (op : CmpOp) : R2 := fun x y H Q => ∃ a b k, RdP K H a x ∧ RdP K H b y ∧ fitP a = true ∧ fitP b = true ∧ cmpP op a b = some k ∧ Q (.bl k) H
theorem op_cmpP {X : Cx} (hu : X.A.units + 64 < cLine) : ∀ {op : CmpOp}, isOrd op = true → OpR X (compareOp op) (rCmpP X.K op) := by
  intro op ho pins s σ H x y v u Q I rx ry h
  obtain ⟨a, b, k, h1, h2, h3, h4, h5, q⟩ := h
  obtain ⟨as, r1⟩ := reads_of I a x v h1 rx
  obtain ⟨bs, r2⟩ := reads_of I b y u h2 ry
  have := rc_reads ho a b X.A s v u as bs k r1 r2 (fitP_lay h3) (fitP_lay h4) (fitP_room h3 hu) h5 X.prog X.w X.xe (EP X pins σ Q) ⟨.bl k, H, I, rfl, q⟩
  cases op <;> first
    | exact absurd ho (by decide)
    | exact this
def dCmp (op : CmpOp) (a b : D) (μ : Sto) : Out D := match toL μ a, toL μ b with
  | some p, some q => if fitP p = true ∧ fitP q = true then (match cmpP op p q with | some k => .ok (.bl k) μ | none => .bad) else .bad
  | _, _ => .bad
theorem o2_cmp {p : Pa} {op : CmpOp} : Op2 p (dCmp op) (rCmpP p.K op) := by
  intro a b v y H α μ Q S ra rb P
  unfold dCmp at P
  split at P
  · rename_i x z hx hz
    split at P
    · rename_i hf
      split at P
      · rename_i k hk
        exact ⟨x, z, k, toL_ok S hx ra, toL_ok S hz rb, hf.1, hf.2, hk, P.now S _ (Rep.bl_iff.mpr rfl)⟩
      · exact P.elim
    · exact P.elim
  · exact P.elim
end L2

set_option Elab.async false
set_option linter.all false
set_option maxRecDepth 100000
set_option maxHeartbeats 4000000
namespace L2
open PySem PySem.Spec PyProof.Rows RS

/-! ### arithmetic -/
def dI (g : Int → Int → D) (a b : D) (μ : Sto) : Out D := match a, b with
  | .int i, .int j => .ok (g i j) μ
  | _, _ => .bad
open Classical in
noncomputable def dIC (C : Int → Int → Prop) (g : Int → Int → D) (a b : D) (μ : Sto) : Out D := match a, b with
  | .int i, .int j => if C i j then .ok (g i j) μ else .bad
  | _, _ => .bad
section
variable {p : Pa}
theorem o2_I {g : Int → Int → V} {gd : Int → Int → D} (h : ∀ i j H α, p.R H α (gd i j) (g i j)) : Op2 p (dI gd) (rI0 g) := by
  intro a b v y H α μ Q S ra rb P
  unfold dI at P
  split at P
  · rename_i i j
    exact ⟨i, j, Rep.int_iff.mp ra, Rep.int_iff.mp rb, P.now S _ (h i j H α)⟩
  · exact P.elim
theorem o2_IC {C : Int → Int → Prop} {g : Int → Int → V} {gd : Int → Int → D} (h : ∀ i j H α, p.R H α (gd i j) (g i j)) : Op2 p (dIC C gd) (rI C g) := by
  intro a b v y H α μ Q S ra rb P
  unfold dIC at P
  split at P
  · rename_i i j
    split at P
    · rename_i hc
      exact ⟨i, j, Rep.int_iff.mp ra, Rep.int_iff.mp rb, hc, P.now S _ (h i j H α)⟩
    · exact P.elim
  · exact P.elim
def dNeg (a : D) (μ : Sto) : Out D := match a with
  | .int i => .ok (.int (-i)) μ
  | _ => .bad

/-! ### + -/
def rCatG (K : PySem.W.Frag) : R2 := fun x y H Q => ∃ a b xs ys, x = .ref a ∧ y = .ref b ∧ SqT K H a xs ∧ SqT K H b ys ∧ xs.length + ys.length ≤ sizeLine ∧
  (xs = [] → Q (.ref b) H) ∧ (xs ≠ [] → ys = [] → Q (.ref a) H) ∧ (xs ≠ [] → ys ≠ [] → ∀ p, H p = none → Q (.ref p) (upd H p (.tup (xs ++ ys))))
theorem cat_tup0 {prog : Program} {w : World} {A : Around} {E : Value → Shared → Prop} {s : Shared} {t b : Addr} {ws : List Value} {Q : Value → Shared → Prop} (ht : IsTup s.heap t #[]) (hb : IsTup s.heap b ws.toArray) (h0 : Q (.ref b) s) : wpAny (model prog w) A (binaryOp .Add (.ref t) (.ref b)) Q E s := by
  obtain ⟨⟨cls, dd, data, sl⟩, ho, hc, n, hd⟩ := id ht
  obtain ⟨⟨cls2, dd2, data2, sl2⟩, ho2, hc2, n2, hd2⟩ := id hb
  simp only at hc hd hc2 hd2
  subst hc hd hc2 hd2
  exact concat_meets ⟨_, ho, rfl⟩ ⟨_, ho2, rfl⟩ noFill_tuple_add seq_tuple_add PySem.F.slot_tuple_add PySem.F.entry_tuple_add (PySem.F.args_tuple_add_2 _ _)
    (tuple_addW0 t b #[] ws.toArray n n2 dd dd2 sl sl2 (by simp)) ⟨ho, ho2, h0⟩
theorem op_catG {X : Cx} : OpR X (binaryOp .Add) (rCatG X.K) := by
  intro pins s σ H x y v u Q I rx ry h
  obtain ⟨a, b, xs, ys, rfl, rfl, ha, hb, hz, q0, q1, q2⟩ := h
  by_cases hx : xs = []
  · cases rx
    cases ry
    obtain ⟨its, r1, p1, _⟩ := I.tuple ha
    obtain ⟨its2, r2, p2, _⟩ := I.tuple hb
    subst hx
    cases r1
    exact cat_tup0 p1 p2 ⟨.ref b, H, I, rfl, q0 rfl⟩
  · exact op_catT pins s σ H (.ref a) (.ref b) v u Q I rx ry ⟨a, b, xs, ys, rfl, rfl, ha, hb, hx, hz, q1 hx, q2 hx⟩
def rAddG (K : PySem.W.Frag) : R2 := fun x y H Q => rI0 (fun i j => .int (i + j)) x y H Q ∨ rCatG K x y H Q ∨ rCat x y H Q ∨ (∃ i j, x = .str i ∧ y = .str j ∧ i.length + j.length ≤ sizeLine ∧ Q (.str (i ++ j)) H)
theorem op_addG {X : Cx} : OpR X (binaryOp .Add) (rAddG X.K) := op_add.or (op_catG.or (op_cat.or op_add_str))
def dAdd (a b : D) (μ : Sto) : Out D := match a, b with
  | .int i, .int j => .ok (.int (i + j)) μ
  | .str x, .str y => if x.length + y.length ≤ sizeLine then .ok (.str (x ++ y)) μ else .bad
  | .tup xs, .tup ys => if xs.length + ys.length ≤ sizeLine then .ok (.tup (xs ++ ys)) μ else .bad
  | .obj m, .obj n => match μ[m]?, μ[n]? with
    | some (.lst xs), some (.lst ys) => if xs.length + ys.length ≤ sizeLine then .ok (.obj μ.length) (μ ++ [.lst (xs ++ ys)]) else .bad
    | _, _ => .bad
  | _, _ => .bad
theorem obj_at {H : Hp} {α : List Addr} {μ : Sto} {n : Nat} {v : V} {xs : List D} (S : p.S H α μ) (r : p.R H α (.obj n) v) (hx : μ[n]? = some (.lst xs)) : ∃ a us, v = .ref a ∧ α[n]? = some a ∧ H a = some (.lst us) ∧ p.Rs H α xs us := by
  obtain ⟨a, ea, us, hH, rr⟩ := S.at hx
  obtain ⟨a', rfl, ea'⟩ := Rep.obj_iff.mp r
  rw [ea] at ea'; cases ea'
  exact ⟨a, us, rfl, ea, hH, rr⟩
theorem Reps.nil_iff' {K : PySem.W.Frag} {H : Hp} {α : List Addr} {xs : List D} {vs : List V} (r : Reps K H α xs vs) : vs = [] ↔ xs = [] := by
  have := r.length
  constructor
  · intro h; subst h; simp at this; exact List.eq_nil_of_length_eq_zero this.symm
  · intro h; subst h; simp at this; exact this
theorem o2_add : Op2 p dAdd (rAddG p.K) := by
  intro a b v y H α μ Q S ra rb P
  unfold dAdd at P
  split at P
  · rename_i i j
    exact .inl ⟨i, j, Rep.int_iff.mp ra, Rep.int_iff.mp rb, P.now S _ (Rep.int_iff.mpr rfl)⟩
  · rename_i i j
    split at P
    · rename_i hl
      exact .inr (.inr (.inr ⟨i, j, Rep.str_iff.mp ra, Rep.str_iff.mp rb, hl, P.now S _ (Rep.str_iff.mpr rfl)⟩))
    · exact P.elim
  · rename_i xs ys
    split at P
    · rename_i hl
      obtain ⟨a, us, rfl, h1, r1⟩ := Rep.tup_iff.mp ra
      obtain ⟨b, ws, rfl, h2, r2⟩ := Rep.tup_iff.mp rb
      refine .inr (.inl ⟨a, b, us, ws, rfl, rfl, h1, h2, by rw [r1.length, r2.length]; exact hl, fun e => ?_, fun _ e => ?_, fun _ _ q hq => ?_⟩)
      · have ex := r1.nil_iff'.mp e
        subst ex
        exact P.now S _ (by simpa using rb)
      · have ey := r2.nil_iff'.mp e
        subst ey
        exact P.now S _ (by simpa using ra)
      · exact P _ _ (ext_new hq) (S.tuple hq) _ (Rep.tup_iff.mpr ⟨q, _, rfl, SqT.of upd_same, (r1.append r2).mono (ext_new hq)⟩)
    · exact P.elim
  · rename_i m n
    split at P
    · rename_i xs ys hx hy
      split at P
      · rename_i hl
        obtain ⟨a, us, rfl, a1, h1, r1⟩ := obj_at S ra hx
        obtain ⟨b, ws, rfl, b1, h2, r2⟩ := obj_at S rb hy
        refine .inr (.inr (.inl ⟨a, b, us, ws, rfl, rfl, h1, h2, by rw [r1.length, r2.length]; exact hl, fun q hq => ?_⟩))
        obtain ⟨x1, x2, x3⟩ := new_list S hq (r1.append r2)
        exact P _ _ x1 x2 _ x3
      · exact P.elim
    · exact P.elim
  · exact P.elim
/-! ### * -/
def rMulG : R2 := fun x y H Q => rI CMul (fun i j => .int (i * j)) x y H Q ∨ rRep x y H Q
theorem op_mulG {X : Cx} : OpR X (binaryOp .Mult) rMulG := op_mul.or op_rep
open Classical in
noncomputable def dMul (a b : D) (μ : Sto) : Out D := match a, b with
  | .int i, .int j => if CMul i j then .ok (.int (i * j)) μ else .bad
  | .obj m, .int k => match μ[m]? with
    | some (.lst xs) => if -(2 ^ 63) ≤ k ∧ k < 2 ^ 63 ∧ xs.length * k.toNat ≤ sizeLine then .ok (.obj μ.length) (μ ++ [.lst (List.replicate k.toNat xs).flatten]) else .bad
    | _ => .bad
  | _, _ => .bad
theorem Reps.rep {K : PySem.W.Frag} {H : Hp} {α : List Addr} {xs : List D} {vs : List V} (h : Reps K H α xs vs) : ∀ k : Nat, Reps K H α (List.replicate k xs).flatten (List.replicate k vs).flatten
  | 0 => by simpa using Reps.nil
  | k + 1 => by
    rw [List.replicate_succ, List.replicate_succ, List.flatten_cons, List.flatten_cons]
    exact h.append (Reps.rep h k)
theorem o2_mul : Op2 p dMul rMulG := by
  intro a b v y H α μ Q S ra rb P
  unfold dMul at P
  split at P
  · rename_i i j
    split at P
    · rename_i hc
      exact .inl ⟨i, j, Rep.int_iff.mp ra, Rep.int_iff.mp rb, hc, P.now S _ (Rep.int_iff.mpr rfl)⟩
    · exact P.elim
  · rename_i m k
    split at P
    · rename_i xs hx
      split at P
      · rename_i hl
        obtain ⟨a, us, rfl, a1, h1, r1⟩ := obj_at S ra hx
        refine .inr ⟨a, k, us, rfl, Rep.int_iff.mp rb, h1, hl.1, hl.2.1, by rw [r1.length]; exact hl.2.2, fun q hq => ?_⟩
        obtain ⟨x1, x2, x3⟩ := new_list S hq (r1.rep k.toNat)
        exact P _ _ x1 x2 _ x3
      · exact P.elim
    · exact P.elim
  · exact P.elim

/-! ### o[i] -/
def dIx (a b : D) (μ : Sto) : Out D := match a, b with
  | .tup xs, .int i => match atI xs i with
    | some d => .ok d μ
    | none => .bad
  | .frz xs, .int i => match atI xs i with
    | some d => .ok d μ
    | none => .bad
  | .obj n, .int i => match μ[n]? with
    | some (.lst xs) => match atI xs i with
      | some d => .ok d μ
      | none => .bad
    | _ => .bad
  | _, _ => .bad
theorem Reps.atI {K : PySem.W.Frag} {H : Hp} {α : List Addr} {xs : List D} {vs : List V} {i : Int} {d : D} (r : Reps K H α xs vs) (h : L2.atI xs i = some d) : ∃ v, L2.atI vs i = some v ∧ Rep K H α d v := by
  unfold L2.atI at h ⊢
  rw [r.length]
  cases e : ixN xs.length i with
  | none => rw [e] at h; cases h
  | some j => rw [e] at h; exact r.get h
theorem o2_ix : Op2 p dIx (rIx p.K) := by
  intro a b v y H α μ Q S ra rb P
  unfold dIx at P
  split at P
  · rename_i xs i
    split at P
    · rename_i d hd
      obtain ⟨a, us, rfl, h1, r1⟩ := Rep.tup_iff.mp ra
      obtain ⟨v, hv, rv⟩ := r1.atI hd
      exact .inr (.inl ⟨a, us, i, v, rfl, Rep.int_iff.mp rb, h1, hv, P.now S _ rv⟩)
    · exact P.elim
  · rename_i xs i
    split at P
    · rename_i d hd
      obtain ⟨a, us, rfl, h1, r1⟩ := Rep.frz_iff.mp ra
      obtain ⟨v, hv, rv⟩ := r1.atI hd
      exact .inl ⟨a, us, i, v, rfl, Rep.int_iff.mp rb, h1.sq, hv, P.now S _ rv⟩
    · exact P.elim
  · rename_i n i
    split at P
    · rename_i xs hx
      split at P
      · rename_i d hd
        obtain ⟨a, us, rfl, a1, h1, r1⟩ := obj_at S ra hx
        obtain ⟨v, hv, rv⟩ := r1.atI hd
        exact .inl ⟨a, us, i, v, rfl, Rep.int_iff.mp rb, SqL.of h1, hv, P.now S _ rv⟩
      · exact P.elim
    · exact P.elim
  · exact P.elim
theorem se_ix {X : Cx} {a b : Expr} {fa fb : ME} {pos : Pos} (hK : X.K = p.K) (ha : PE X a (tD p fa)) (hb : PE X b (tD p fb)) (hs : PlainIx b) : PE X (.Subscript a b pos) (tD p (cBin dIx fa fb)) :=
  (pe_ix ix_seq ha hb hs).weak fun σ H Q ⟨α, ρ, μ, S, R, P⟩ => ⟨α, ρ, μ, S, R, (PostO.bind P).imp fun x μ1 H1 α1 X1 S1 P1 v rv => ⟨α1, ρ, μ1, S1, R.mono X1, (PostO.bind P1).imp fun y μ2 H2 α2 X2 S2 P2 u ru => by
    rw [hK]; exact o2_ix x y v u H2 α2 μ2 Q S2 (rv.mono X2) ru P2⟩⟩

/-! ### o[i:j] -/
theorem getItem_tuple_whole {prog : Program} {w : World} {A : Around} {E : Value → Shared → Prop} {s : Shared} {t sl : Addr} {items : Array Value} {vl vu : Value} {lo hi : Option Int} {Q : Value → Shared → Prop} (ht : IsTup s.heap t items) (hs : s.heap.IsSliceOf sl vl vu .none) (pl : IsPart vl lo) (pu : IsPart vu hi)
    (hw : HT.sIx items.size 0 lo = 0 ∧ HT.sIx items.size items.size hi = items.size) (h : Q (.ref t) s) : wpAny (model prog w) A (getItem (.ref t) (.ref sl)) Q E s := by
  obtain ⟨os, hos, hcs, hds⟩ := id hs
  have hTs : s.TypeIs (.ref sl) "slice" := ⟨os, hos, hcs⟩
  unfold getItem
  try with_reducible refine wpAny_holding ?_
  first | refine wpAny_bind (wpAny_pure ?_) | skip
  refine wpAny_bind (wpAny_sequenceKey ht.typeIs (by decide) ?_)
  refine wpAny_bind (wpAny_callSpecial?_slot (name := Str.ofString "__getitem__") ht.typeIs PyProof.Rows.slot_tuple_getitem
    (wpAny_call_entry PyProof.Rows.slot_tuple_getitem ht.typeIs entry_tuple_getitem ?_ (args_tuple_getitem _ _)))
  show wpAny _ _ (Builtin.Tuple.tupleItemsOf (.ref t) >>= _) _ _ s
  refine wpAny_bind (tupleItemsOf_ ht ?_)
  refine wpAny_bind (wpAny_typeOf hTs ?_)
  rw [if_pos (by decide)]
  refine wpAny_bind (HT.sliceApplied_gen hs pl pu ?_)
  have hno : (((HT.sIx items.size 0 lo : Nat) : Int) == 0 && (1 : Int) == 1 && (HT.sIx items.size items.size hi - HT.sIx items.size 0 lo) == items.size) = true := by
    rw [hw.1, hw.2]; simp
  show wpAny _ _ (if (((HT.sIx items.size 0 lo : Nat) : Int) == 0 && (1 : Int) == 1 && (HT.sIx items.size items.size hi - HT.sIx items.size 0 lo) == items.size) = true then _ else _) _ _ s
  rw [if_pos hno]
  refine wpAny_bind (m := Builtin.Tuple.tupleIsExact (.ref t)) (wpAny_bind (wpAny_typeOf ht.typeIs (wpAny_pure ?_)))
  rw [if_pos (by decide)]
  exact wpAny_bind (wpAny_rule (wpAny_pure ⟨_, rfl, wpAny_pure h⟩))
/-- the items of xs[lo:hi] -/
def cutL {β : Type} (xs : List β) (lo hi : Option Int) : List β := (xs.drop (HT.sIx xs.length 0 lo)).take (HT.sIx xs.length xs.length hi - HT.sIx xs.length 0 lo)
theorem cutL_whole {β : Type} (xs : List β) (lo hi : Option Int) (h : HT.sIx xs.length 0 lo = 0 ∧ HT.sIx xs.length xs.length hi = xs.length) : cutL xs lo hi = xs := by
  unfold cutL
  rw [h.1, h.2]; simp
def rSlTw (K : PySem.W.Frag) : V → Option Int → Option Int → Hp → VK → Prop := fun x lo hi H Q => ∃ a xs, x = .ref a ∧ SqT K H a xs ∧
  (HT.sIx xs.length 0 lo = 0 ∧ HT.sIx xs.length xs.length hi = xs.length) ∧ Q (.ref a) H
theorem sl_tupw {X : Cx} : SlR X (rSlTw X.K) := by
  intro pins s σ H x v vl vu lo hi sl Q I rx hs pl pu h
  obtain ⟨a, xs, rfl, hx, hw, q⟩ := h
  cases rx
  obtain ⟨its, r, ht, hz⟩ := I.tuple hx
  have hlen : its.toArray.size = xs.length := by rw [List.size_toArray]; exact r.length.symm
  refine ⟨"tuple", _, PyProof.Rows.slot_tuple_getitem.lookup, ht.typeIs, ?_⟩
  exact getItem_tuple_whole ht hs pl pu (by rw [hlen]; exact hw) ⟨.ref a, H, I, rfl, q⟩
def rSlG (K : PySem.W.Frag) : V → Option Int → Option Int → Hp → VK → Prop := fun x lo hi H Q => rSlT K x lo hi H Q ∨ rSlTw K x lo hi H Q ∨ rSlL K x lo hi H Q
theorem sl_G {X : Cx} : SlR X (rSlG X.K) := sl_tup.or (sl_tupw.or sl_list)
abbrev MO := Ro → Sto → Out (Option Int)
def oNo : MO := fun _ μ => .ok none μ
def asI (d : D) (μ : Sto) : Out (Option Int) := match d with
  | .int i => .ok (some i) μ
  | _ => .bad
def oSome (f : ME) : MO := fun ρ μ => (f ρ μ).bind asI
def tDO (p : Pa) (f : MO) : TO := fun σ H Q => ∃ α ρ μ, p.S H α μ ∧ RelS p.K H α ρ σ ∧ PostO p H α (f ρ μ) (fun o _ H' _ => Q o H')
theorem PO.weak {X : Cx} {e : Option Expr} {t t' : TO} (h : PO X e t) (k : ∀ σ H Q, t' σ H Q → t σ H Q) : PO X e t' := fun pins s σ H Q I q => h pins s σ H Q I (k σ H Q q)
theorem so_none {X : Cx} : PO X none (tDO p oNo) := po_none.weak fun σ H Q ⟨α, ρ, μ, S, R, P⟩ => P.now S
theorem so_some {X : Cx} {e : Expr} {f : ME} (h : PE X e (tD p f)) : PO X (some e) (tDO p (oSome f)) := (po_some h).weak fun σ H Q ⟨α, ρ, μ, S, R, P⟩ => ⟨α, ρ, μ, S, R, (PostO.bind P).imp fun d μ1 H1 α1 X1 S1 P1 v rv => by
  unfold asI at P1
  split at P1
  · rename_i i
    exact ⟨i, Rep.int_iff.mp rv, P1.now S1⟩
  · exact P1.elim⟩
def dSl (a : D) (lo hi : Option Int) (μ : Sto) : Out D := match a with
  | .tup xs => .ok (.tup (cutL xs lo hi)) μ
  | .frz xs => .ok (.obj μ.length) (μ ++ [.lst (cutL xs lo hi)])
  | .obj n => match μ[n]? with
    | some (.lst xs) => .ok (.obj μ.length) (μ ++ [.lst (cutL xs lo hi)])
    | _ => .bad
  | _ => .bad
def cSl (fa : ME) (fl fh : MO) : ME := fun ρ μ => (fa ρ μ).bind fun a μ1 => (fl ρ μ1).bind fun lo μ2 => (fh ρ μ2).bind fun hi μ3 => dSl a lo hi μ3
theorem Reps.cut' {K : PySem.W.Frag} {H : Hp} {α : List Addr} {xs : List D} {vs : List V} (r : Reps K H α xs vs) (lo hi : Option Int) : Reps K H α (cutL xs lo hi) (cutV vs lo hi) := by
  unfold cutL cutV
  rw [r.length]
  exact (r.drop _).take _
theorem sl_ok {a : D} {v : V} {lo hi : Option Int} {H : Hp} {α : List Addr} {μ : Sto} {Q : VK} (S : p.S H α μ) (ra : p.R H α a v) (P : PostO p H α (dSl a lo hi μ) (RV p Q)) : rSlG p.K v lo hi H Q := by
  unfold dSl at P
  split at P
  · rename_i xs
    obtain ⟨a, us, rfl, h1, r1⟩ := Rep.tup_iff.mp ra
    by_cases hw : HT.sIx us.length 0 lo = 0 ∧ HT.sIx us.length us.length hi = us.length
    · refine .inr (.inl ⟨a, us, rfl, h1, hw, ?_⟩)
      rw [r1.length] at hw
      rw [cutL_whole xs lo hi hw] at P
      exact P.now S _ ra
    · exact .inl ⟨a, us, rfl, h1, hw, fun q hq => P _ _ (ext_new hq) (S.tuple hq) _ (Rep.tup_iff.mpr ⟨q, _, rfl, SqT.of upd_same, (r1.cut' lo hi).mono (ext_new hq)⟩)⟩
  · rename_i xs
    obtain ⟨a, us, rfl, h1, r1⟩ := Rep.frz_iff.mp ra
    refine .inr (.inr ⟨a, us, rfl, h1.sq, fun q hq => ?_⟩)
    obtain ⟨x1, x2, x3⟩ := new_list S hq (r1.cut' lo hi)
    exact P _ _ x1 x2 _ x3
  · rename_i n
    split at P
    · rename_i xs hx
      obtain ⟨a, us, rfl, a1, h1, r1⟩ := obj_at S ra hx
      refine .inr (.inr ⟨a, us, rfl, SqL.of h1, fun q hq => ?_⟩)
      obtain ⟨x1, x2, x3⟩ := new_list S hq (r1.cut' lo hi)
      exact P _ _ x1 x2 _ x3
    · exact P.elim
  · exact P.elim
theorem se_slice {X : Cx} {e : Expr} {lo hi : Option Expr} {fa : ME} {fl fh : MO} {pos p2 : Pos} (hK : X.K = p.K) (he : PE X e (tD p fa)) (hl : PO X lo (tDO p fl)) (hu : PO X hi (tDO p fh)) : PE X (.Subscript e (.Slice lo hi none p2) pos) (tD p (cSl fa fl fh)) :=
  (pe_slice sl_G he hl hu).weak fun σ H Q ⟨α, ρ, μ, S, R, P⟩ => ⟨α, ρ, μ, S, R, (PostO.bind P).imp fun a μ1 H1 α1 X1 S1 P1 v rv => ⟨α1, ρ, μ1, S1, R.mono X1, (PostO.bind P1).imp fun l μ2 H2 α2 X2 S2 P2 => ⟨α2, ρ, μ2, S2, (R.mono X1).mono X2, (PostO.bind P2).imp fun h μ3 H3 α3 X3 S3 P3 => by
    rw [hK]; exact sl_ok S3 ((rv.mono X2).mono X3) P3⟩⟩⟩

/-! ### t[::-1] -/
def tRev (K : PySem.W.Frag) (te ts : TE) : TE := fun σ H Q => te σ H fun x H1 => ts σ H1 fun y H2 => y = .int (-1) ∧ ∃ a xs, x = .ref a ∧ SqT K H2 a xs ∧ ∀ p, H2 p = none → Q (.ref p) (upd H2 p (.tup xs.reverse))
def dRev (a b : D) (μ : Sto) : Out D := match a, b with
  | .tup xs, .int i => if i = -1 then .ok (.tup xs.reverse) μ else .bad
  | _, _ => .bad
end
end L2

set_option Elab.async false
set_option linter.all false
set_option maxRecDepth 100000
set_option maxHeartbeats 4000000
namespace L2
open PySem PySem.Spec PyProof.Rows RS

/-! ### isinstance -/
inductive TyB (K : PySem.W.Frag) (H : Hp) : V → String → Prop where
  | non : TyB K H .non "NoneType"
  | bl (x : Bool) : TyB K H (.bl x) "bool"
  | int (i : Int) : TyB K H (.int i) "int"
  | str (x : Str) : TyB K H (.str x) "str"
  | lst {a : Addr} {xs : List V} (e : SqL K H a xs) : TyB K H (.ref a) "list"
  | tup {a : Addr} {xs : List V} (e : SqT K H a xs) : TyB K H (.ref a) "tuple"
  | dic {a : Addr} {kvs : List (Key × V)} (e : H a = some (.dK kvs)) : TyB K H (.ref a) "dict"
def isTy (tn T : String) : Bool := tn == T || (tn == "bool" && T == "int")
def tyNames : List String := ["NoneType", "bool", "int", "str", "list", "tuple", "dict"]
theorem kit_ty {K : PySem.W.Frag} : ∀ tn ∈ tyNames, ∀ T ∈ ["int", "bool", "tuple", "list", "str", "dict"], PySem.W.kitOne K (.type tn) (.type T) = some (isTy tn T) := by
  intro tn h1 T h2
  simp only [tyNames, List.mem_cons, List.not_mem_nil, or_false] at h1 h2
  rcases h1 with rfl | rfl | rfl | rfl | rfl | rfl | rfl <;> rcases h2 with rfl | rfl | rfl | rfl | rfl | rfl <;> rfl
theorem TyB.mem {K : PySem.W.Frag} {H : Hp} {x : V} {tn : String} (h : TyB K H x tn) : tn ∈ tyNames := by
  cases h <;> decide
section
variable {X : Cx}
theorem isi_ok {pins : List (Addr × Obj)} {σ : St} {H : Hp} {s : Shared} {A : Around} {E : Value → Shared → Prop} {Q : Value → Shared → Prop} {c : Value} {b : Bool} {x : V} {u : Value} {tn : String} (I : Inv X pins σ H s) (rx : RelV x u) (ty : TyB X.K H x tn) (e : PySem.W.kitOne X.K (.type tn) c = some b) (h : ∀ tk, Q (.bool b) { s with toks := tk }) :
    wpAny (model X.prog X.w) A (call (.builtin "isinstance") [u, c]) Q E s := by
  cases ty with
  | non => cases (show u = Value.none from rx); exact PySem.W.kia_one PySem.W.kitx_none I.kIn True.intro e (fun z => nomatch z) h
  | bl y => cases (show u = Value.bool y from rx); exact PySem.W.kia_one PySem.W.kitx_bool I.kIn True.intro e (fun z => nomatch z) h
  | int i => obtain ⟨t, q⟩ := (show ∃ t, u = Value.int i t from rx); cases q; exact PySem.W.kia_one PySem.W.kitx_int I.kIn True.intro e (fun z => nomatch z) h
  | str y => obtain ⟨t, q⟩ := (show ∃ t, u = Value.str y t from rx); cases q; exact PySem.W.kia_one PySem.W.kitx_str I.kIn True.intro e (fun z => nomatch z) h
  | @lst a xs ea =>
    cases (show u = Value.ref a from rx)
    obtain ⟨its, _, ⟨o, n, h1, h2, _⟩, _⟩ := I.list ea
    exact PySem.W.kia_one PySem.W.kitx_list I.kIn ⟨o, h1, h2⟩ e (fun z => nomatch z) h
  | @tup a xs ea =>
    cases (show u = Value.ref a from rx)
    obtain ⟨its, _, ⟨o, h1, h2, _⟩, _⟩ := I.tuple ea
    exact PySem.W.kia_one PySem.W.kitx_tuple I.kIn ⟨o, h1, h2⟩ e (fun z => nomatch z) h
  | @dic a kvs ea =>
    cases (show u = Value.ref a from rx)
    obtain ⟨_, _, vs, _, p⟩ := (show ObjOk X.prog X.w H s.heap a (.dK kvs) from I.hok a _ ea)
    obtain ⟨o, es, ep, h1, h2, _⟩ := p
    exact PySem.W.kia_one PySem.W.kitx_dict I.kIn ⟨o, h1, h2.1⟩ e (fun z => nomatch z) h
def rIsi (K : PySem.W.Frag) : List V → Hp → VK → Prop := fun xs H Q => ∃ x T tn b, xs = [x, .ty T] ∧ TyB K H x tn ∧ PySem.W.kitOne K (.type tn) (.type T) = some b ∧ Q (.bl b) H
theorem call_isi : CallR X (.builtin "isinstance") (rIsi X.K) := by
  intro pins s σ H xs us Q I r h
  obtain ⟨x, T, tn, b, rfl, ty, e, q⟩ := h
  obtain ⟨u, u2, rfl, ru, ru2⟩ := vals2 r
  cases ru2
  exact isi_ok I ru ty e fun tk => ⟨.bl b, H, I.tok _, rfl, q⟩
end
def tyD (μ : Sto) : D → Option String
  | .non => some "NoneType"
  | .bl _ => some "bool"
  | .int _ => some "int"
  | .str _ => some "str"
  | .tup _ => some "tuple"
  | .frz _ => some "list"
  | .obj n => match μ[n]? with
    | some (.lst _) => some "list"
    | some .dic => some "dict"
    | _ => none
theorem tyD_ok {p : Pa} {H : Hp} {α : List Addr} {μ : Sto} {d : D} {v : V} {tn : String} (S : p.S H α μ) (r : p.R H α d v) (h : tyD μ d = some tn) : TyB p.K H v tn := by
  cases d with
  | non => cases h; rw [Rep.non_iff.mp r]; exact .non
  | bl b => cases h; rw [Rep.bl_iff.mp r]; exact .bl b
  | int b => cases h; rw [Rep.int_iff.mp r]; exact .int b
  | str b => cases h; rw [Rep.str_iff.mp r]; exact .str b
  | tup xs => cases h; obtain ⟨a, vs, rfl, h1, _⟩ := Rep.tup_iff.mp r; exact .tup h1
  | frz xs => cases h; obtain ⟨a, vs, rfl, h1, _⟩ := Rep.frz_iff.mp r; exact .lst h1.sq
  | obj n =>
    unfold tyD at h
    dsimp only at h
    split at h
    · rename_i xs hx
      cases h
      obtain ⟨a, us, rfl, a1, h1, _⟩ := obj_at S r hx
      exact .lst (SqL.of h1)
    · rename_i hx
      cases h
      obtain ⟨a, ea, q⟩ := S.at hx
      obtain ⟨a', rfl, ea'⟩ := Rep.obj_iff.mp r
      rw [ea] at ea'; cases ea'
      exact .dic q
    · cases h
def dIsi (T : String) (d : D) (μ : Sto) : Out D := match tyD μ d with
  | some tn => .ok (.bl (isTy tn T)) μ
  | none => .bad
theorem se_isi {p : Pa} {X : Cx} {a : Expr} {fa : ME} {T : String} {xT : Str} {px pt pos : Pos} (hK : X.K = p.K) (hT : T ∈ ["int", "bool", "tuple", "list", "str", "dict"]) (hg : Gl X "isinstance") (hm : X.mg "isinstance" = none) (hgT : Gl X xT) (hmT : X.mg xT = none) (hbT : bootBuiltins xT = some (.type T)) (ha : PE X a (tD p fa))
    (hnT : xT ≠ "__name__") (hdT : (xT == ("__debug__" : Str)) = false) (hs1 : starEach [a, .Name xT pt] X.env = (false, eval a X.env) :: starEach [.Name xT pt] X.env) :
    PE X (.Call (.Name "isinstance" px) [a, .Name xT pt] [] pos) (tD p (cUn (dIsi T) fa)) := by
  have hb : PE X (.Name xT pt) (tC (.ty T)) := pe_bltn hgT hmT hbT rfl hnT hdT
  refine (pe_callB call_isi hg hm boot_isinstance (pa_cons ha (pa_cons hb pa_nil rfl) hs1) (by decide) (by decide) hs1 rfl).weak fun σ H Q ⟨α, ρ, μ, S, R, P⟩ => ⟨α, ρ, μ, S, R, (PostO.bind P).imp fun d μ1 H1 α1 X1 S1 P1 v rv => ?_⟩
  show rIsi X.K [v, .ty T] H1 Q
  unfold dIsi at P1
  split at P1
  · rename_i tn htn
    have ty := tyD_ok S1 rv htn
    rw [hK]
    exact ⟨v, T, tn, _, rfl, ty, kit_ty tn ty.mem T hT, P1.now S1 _ (Rep.bl_iff.mpr rfl)⟩
  · exact P1.elim

/-! ### all, any -/
def boolsV : List V → Option (List Bool)
  | [] => some []
  | .bl b :: r => (boolsV r).map (b :: ·)
  | _ :: _ => none
def boolsD : List D → Option (List Bool)
  | [] => some []
  | .bl b :: r => (boolsD r).map (b :: ·)
  | _ :: _ => none
section
variable {X : Cx}
def rAll (K : PySem.W.Frag) : List V → Hp → VK → Prop := fun xs H Q => ∃ (a : Addr) (bs : List Bool), xs = [.ref a] ∧ SqL K H a (bs.map V.bl) ∧ Q (.bl (bs.all id)) H
def rAny (K : PySem.W.Frag) : List V → Hp → VK → Prop := fun xs H Q => ∃ (a : Addr) (bs : List Bool), xs = [.ref a] ∧ SqL K H a (bs.map V.bl) ∧ Q (.bl (bs.any id)) H
theorem Inv.fresh_it {pins : List (Addr × Obj)} {σ : St} {H : Hp} {s : Shared} (I : Inv X pins σ H s) {o : Obj} {h' : Heap} {tk : Nat} (hk : ∀ b ob, b ∉ [s.heap.objs.size] → (s.heap.push o).get? b = some ob → h'.get? b = some ob) : Inv X pins σ H { s with heap := h', toks := tk } :=
  I.kept fun b ob e => hk b ob (fun hm => by
    have : b = s.heap.objs.size := by simpa using hm
    subst this
    exact absurd (Heap.lt_size e) (Nat.lt_irrefl _)) (Heap.get?_push_of_some _ e)
end
def dAll (ds : List D) (μ : Sto) : Out D := match ds with
  | [.obj n] => match μ[n]? with
    | some (.lst xs) => match boolsD xs with
      | some bs => .ok (.bl (bs.all id)) μ
      | none => .bad
    | _ => .bad
  | _ => .bad
def dAny (ds : List D) (μ : Sto) : Out D := match ds with
  | [.obj n] => match μ[n]? with
    | some (.lst xs) => match boolsD xs with
      | some bs => .ok (.bl (bs.any id)) μ
      | none => .bad
    | _ => .bad
  | _ => .bad

/-! ### len, tuple, list, int -/
def dLen (ds : List D) (μ : Sto) : Out D := match ds with
  | [.tup xs] => .ok (.int xs.length) μ
  | [.frz xs] => .ok (.int xs.length) μ
  | [.str x] => if x.length ≤ sizeLine then .ok (.int x.length) μ else .bad
  | [.obj n] => match μ[n]? with
    | some (.lst xs) => .ok (.int xs.length) μ
    | _ => .bad
  | _ => .bad
theorem on_len {p : Pa} : OpN p dLen (fun xs H Q => ∃ x n, xs = [x] ∧ LenV p.K x H n ∧ Q (.int n) H) := by
  intro ds vs H α μ Q S r P
  unfold dLen at P
  split at P
  · rename_i xs
    obtain ⟨v, rfl, r1⟩ := r.one
    obtain ⟨a, us, rfl, h1, rr⟩ := Rep.tup_iff.mp r1
    exact ⟨_, xs.length, rfl, .inr ⟨us, h1, rr.length.symm⟩, P.now S _ (Rep.int_iff.mpr rfl)⟩
  · rename_i xs
    obtain ⟨v, rfl, r1⟩ := r.one
    obtain ⟨a, us, rfl, h1, rr⟩ := Rep.frz_iff.mp r1
    exact ⟨_, xs.length, rfl, .inl ⟨us, h1.sq, rr.length.symm⟩, P.now S _ (Rep.int_iff.mpr rfl)⟩
  · rename_i x
    obtain ⟨v, rfl, r1⟩ := r.one
    split at P
    · rename_i hl
      exact ⟨v, x.length, rfl, by rw [Rep.str_iff.mp r1]; exact ⟨hl, rfl⟩, P.now S _ (Rep.int_iff.mpr rfl)⟩
    · exact P.elim
  · rename_i n
    split at P
    · rename_i xs hx
      obtain ⟨v, rfl, r1⟩ := r.one
      obtain ⟨a, us, rfl, a1, h1, rr⟩ := obj_at S r1 hx
      exact ⟨_, xs.length, rfl, .inl ⟨us, SqL.of h1, rr.length.symm⟩, P.now S _ (Rep.int_iff.mpr rfl)⟩
    · exact P.elim
  · exact P.elim
def dTuple (ds : List D) (μ : Sto) : Out D := match ds with
  | [.tup xs] => .ok (.tup xs) μ
  | [.frz xs] => .ok (.tup xs) μ
  | [.obj n] => match μ[n]? with
    | some (.lst xs) => .ok (.tup xs) μ
    | _ => .bad
  | _ => .bad
theorem on_tuple {p : Pa} : OpN p dTuple (fun xs H Q => ∃ q ys, xs = [.ref q] ∧ ((SqL p.K H q ys ∧ ∀ l, H l = none → Q (.ref l) (upd H l (.tup ys))) ∨ (SqT p.K H q ys ∧ Q (.ref q) H))) := by
  intro ds vs H α μ Q S r P
  unfold dTuple at P
  split at P
  · rename_i xs
    obtain ⟨v, rfl, r1⟩ := r.one
    obtain ⟨a, us, rfl, h1, rr⟩ := Rep.tup_iff.mp r1
    exact ⟨a, us, rfl, .inr ⟨h1, P.now S _ r1⟩⟩
  · rename_i xs
    obtain ⟨v, rfl, r1⟩ := r.one
    obtain ⟨a, us, rfl, h1, rr⟩ := Rep.frz_iff.mp r1
    exact ⟨a, us, rfl, .inl ⟨h1.sq, fun q hq => P _ _ (ext_new hq) (S.tuple hq) _ (Rep.tup_iff.mpr ⟨q, us, rfl, SqT.of upd_same, rr.mono (ext_new hq)⟩)⟩⟩
  · rename_i n
    split at P
    · rename_i xs hx
      obtain ⟨v, rfl, r1⟩ := r.one
      obtain ⟨a, us, rfl, a1, h1, rr⟩ := obj_at S r1 hx
      exact ⟨a, us, rfl, .inl ⟨SqL.of h1, fun q hq => P _ _ (ext_new hq) (S.tuple hq) _ (Rep.tup_iff.mpr ⟨q, us, rfl, SqT.of upd_same, rr.mono (ext_new hq)⟩)⟩⟩
    · exact P.elim
  · exact P.elim
def dList (ds : List D) (μ : Sto) : Out D := match ds with
  | [.tup xs] => .ok (.obj μ.length) (μ ++ [.lst xs])
  | [.frz xs] => .ok (.obj μ.length) (μ ++ [.lst xs])
  | [.obj n] => match μ[n]? with
    | some (.lst xs) => .ok (.obj μ.length) (μ ++ [.lst xs])
    | _ => .bad
  | _ => .bad
def dIntC (ds : List D) (μ : Sto) : Out D := match ds with
  | [.int i] => .ok (.int i) μ
  | [.bl k] => .ok (.int (if k then 1 else 0)) μ
  | _ => .bad
theorem on_int {p : Pa} : OpN p dIntC (fun xs H Q => (∃ i, xs = [.int i] ∧ Q (.int i) H) ∨ ∃ k, xs = [.bl k] ∧ Q (.int (if k then 1 else 0)) H) := by
  intro ds vs H α μ Q S r P
  unfold dIntC at P
  split at P
  · rename_i i
    obtain ⟨v, rfl, r1⟩ := r.one
    exact .inl ⟨i, by rw [Rep.int_iff.mp r1], P.now S _ (Rep.int_iff.mpr rfl)⟩
  · rename_i i
    obtain ⟨v, rfl, r1⟩ := r.one
    exact .inr ⟨i, by rw [Rep.bl_iff.mp r1], P.now S _ (Rep.int_iff.mpr rfl)⟩
  · exact P.elim
def dMax2 (ds : List D) (μ : Sto) : Out D := match ds with
  | [.int i, .int j] => .ok (.int (if j > i then j else i)) μ
  | _ => .bad
def dMin2 (ds : List D) (μ : Sto) : Out D := match ds with
  | [.int i, .int j] => .ok (.int (if j < i then j else i)) μ
  | _ => .bad
theorem on_max2 {p : Pa} : OpN p dMax2 (fun xs H Q => ∃ i j, xs = [.int i, .int j] ∧ Q (.int (if j > i then j else i)) H) := by
  intro ds vs H α μ Q S r P
  unfold dMax2 at P
  split at P
  · rename_i i j
    obtain ⟨v, u, rfl, r1, r2⟩ := r.two
    exact ⟨i, j, by rw [Rep.int_iff.mp r1, Rep.int_iff.mp r2], P.now S _ (Rep.int_iff.mpr rfl)⟩
  · exact P.elim
theorem on_min2 {p : Pa} : OpN p dMin2 (fun xs H Q => ∃ i j, xs = [.int i, .int j] ∧ Q (.int (if j < i then j else i)) H) := by
  intro ds vs H α μ Q S r P
  unfold dMin2 at P
  split at P
  · rename_i i j
    obtain ⟨v, u, rfl, r1, r2⟩ := r.two
    exact ⟨i, j, by rw [Rep.int_iff.mp r1, Rep.int_iff.mp r2], P.now S _ (Rep.int_iff.mpr rfl)⟩
  · exact P.elim
end L2

set_option Elab.async false
set_option linter.all false
set_option maxRecDepth 100000
set_option maxHeartbeats 4000000
namespace L2
open PySem PySem.Spec PyProof.Rows RS

section
variable {prog : Program} {w : World} {A : Around} {E : Value → Shared → Prop} {s : Shared}
theorem collect_seq {T : String} (hT : T = "list" ∨ T = "tuple") {l : Addr} {vs : List Value} {Q : List Value → Shared → Prop} {o : Obj} {n : Nat} (ho : s.heap.get? l = some o) (hc : o.cls = .type T) (hd : o.data = .seq vs.toArray n)
    (h : Q vs { s with heap := (s.heap.push (seqObj "list" #[] 0)).update s.heap.objs.size (Obj.mapSeq (· ++ vs.toArray)) }) (hsz : vs.length ≤ sizeLine) :
    wpAny (model prog w) A (collect (.ref l)) Q E s := by
  unfold collect
  refine wpAny_bind (wpAny_runValue (codeAny_builtin entry_proto_collect' ?_))
  show wpAny _ _ (do again (.builtin "list.__iadd__" ⟨[← newList [], .ref l], []⟩)) _ _ s
  refine wpAny_bind (wpAny_newList (wpAny_pure ⟨Code.quiet_builtin _ (by decide +kernel), codeAny_builtin entry_list_iadd' ?_⟩))
  show wpAny _ _ (Builtin.List.listExtendWith (.ref s.heap.objs.size) (.ref l) (.ref s.heap.objs.size)) _ _ { s with heap := s.heap.push (seqObj "list" #[] 0) }
  unfold Builtin.List.listExtendWith
  have ho' : (s.heap.push (seqObj "list" #[] 0)).get? l = some o := Heap.get?_push_of_some _ ho
  refine wpAny_bind (wpAny_typeOf (T := T) ⟨o, ho', hc⟩ ?_)
  have h1 : (Value.type "list" == Value.type "list") = true := by rfl
  have h2 : (Value.type "tuple" == Value.type "tuple") = true := by rfl
  rw [if_pos (by rcases hT with rfl | rfl <;> simp [h1, h2])]
  refine wpAny_bind (listItems_at ho' hd ?_)
  refine wpAny_bind (listItems_at (xs := #[]) (n := 0) (Heap.get?_push_size _ rfl) rfl ?_)
  rw [if_neg (by simp)]
  refine wpAny_bind (listUpdate_at (xs := #[]) (n := 0) (Heap.get?_push_size _ rfl) rfl ?_ (Nat.zero_le _) (by show (#[] ++ vs.toArray).size ≤ sizeLine + 1; simp only [Array.size_append, List.size_toArray, List.length_nil]; omega))
  refine wpAny_pure ?_
  show wpAny (model prog w) A (do
      let o ← load s.heap.objs.size
      match o.data with
      | .seq xs _ => pure xs.toList
      | _ => unsupported "internal:collect") Q E { s with heap := (s.heap.push (seqObj "list" #[] 0)).update s.heap.objs.size (Obj.mapSeq (· ++ vs.toArray)) }
  refine wpAny_bind (wpAny_load (get?_update_seq (Heap.get?_push_size _ rfl) _) ?_)
  show wpAny _ _ (pure ((#[] : Array Value) ++ vs.toArray).toList) Q E _
  rw [show ((#[] : Array Value) ++ vs.toArray).toList = vs by simp]
  exact wpAny_pure h
theorem sorted_intsT {T : String} (hT : T = "list" ∨ T = "tuple") {l : Addr} {vs : List Value} {ns : List Int} {Q : Value → Shared → Prop} {o : Obj} {n : Nat} (ho : s.heap.get? l = some o) (hc : o.cls = .type T) (hd : o.data = .seq vs.toArray n) (hI : IntsAre vs ns) (h64 : vs.length < 64)
    (h : ∀ (out : Array Value) (ns' : List Int), IntsAre out.toList ns' → ns'.Perm ns → ns'.Pairwise (· ≤ ·) → Q (.ref (s.heap.objs.size + 1)) { s with heap := sortedAll s.heap vs out }) :
    wpAny (model prog w) A (call (.builtin "sorted") [.ref l]) Q E s := by
  have hsz0 : vs.length ≤ sizeLine := Nat.le_trans (Nat.le_of_lt h64) (by decide)
  refine Calls.call_function_entry kind_sorted plain_sorted entry_sorted (args_sorted1 _) ?_
  unfold Builtin.«sorted»
  refine wpAny_bind (m := checkCount "sorted" 1 1 _) (wpAny_pure ?_)
  refine wpAny_bind (collect_seq hT ho hc hd ?_ hsz0)
  refine wpAny_bind (wpAny_newList ?_ hsz0)
  have hsz : ((s.heap.push (seqObj "list" #[] 0)).update s.heap.objs.size (Obj.mapSeq (· ++ vs.toArray))).objs.size = s.heap.objs.size + 1 := by
    rw [Heap.size_update, size_push']
  have hoL : (((s.heap.push (seqObj "list" #[] 0)).update s.heap.objs.size (Obj.mapSeq (· ++ vs.toArray))).push (seqObj "list" vs.toArray 0)).get? (s.heap.objs.size + 1) = some (seqObj "list" vs.toArray 0) := by
    rw [← hsz]; exact Heap.get?_push_size _ rfl
  show wpAny _ _ _ _ _ { s with heap := ((s.heap.push (seqObj "list" #[] 0)).update s.heap.objs.size (Obj.mapSeq (· ++ vs.toArray))).push (seqObj "list" vs.toArray 0) }
  rw [hsz]
  refine wpAny_bind (wpAny_holding (wpAny_call_entry slot_list_sort ⟨_, hoL, rfl⟩ entry_list_sort (list_sort_tree hoL hI h64 fun out ns' a1 a2 a3 => ⟨_, rfl, ?_⟩) (args_list_sort _)))
  exact wpAny_pure ⟨_, rfl, h out ns' a1 a2 a3⟩
end
theorem sortedAll_old {h : Heap} {vs : List Value} {out : Array Value} {b : Addr} {u : Obj} (e : h.get? b = some u) : (sortedAll h vs out).get? b = some u := by
  have hb := Heap.lt_size e
  have n1 : b ≠ h.objs.size := Nat.ne_of_lt hb
  have n2 : b ≠ h.objs.size + 1 := Nat.ne_of_lt (Nat.lt_succ_of_lt hb)
  unfold sortedAll sortedHeap
  rw [Heap.get?_update_ne _ _ _ _ n2]
  refine Heap.get?_push_of_some _ (Heap.get?_push_of_some _ ?_)
  rw [Heap.get?_update_ne _ _ _ _ n2]
  refine Heap.get?_push_of_some _ ?_
  rw [Heap.get?_update_ne _ _ _ _ n1]
  exact Heap.get?_push_of_some _ e
theorem sortedAll_new {h : Heap} {vs : List Value} {out : Array Value} : ∃ n, (sortedAll h vs out).get? (h.objs.size + 1) = some (seqObj "list" out n) := by
  unfold sortedAll sortedHeap
  have hsz : ((h.push (seqObj "list" #[] 0)).update h.objs.size (Obj.mapSeq (· ++ vs.toArray))).objs.size = h.objs.size + 1 := by
    rw [Heap.size_update, size_push']
  have hoL : (((h.push (seqObj "list" #[] 0)).update h.objs.size (Obj.mapSeq (· ++ vs.toArray))).push (seqObj "list" vs.toArray 0)).get? (h.objs.size + 1) = some (seqObj "list" vs.toArray 0) := by
    rw [← hsz]; exact Heap.get?_push_size _ rfl
  have g1 := get?_update_seq hoL (fun _ => #[])
  have g2 := Heap.get?_push_of_some (seqObj "list" #[] 0) (Heap.get?_push_of_some (seqObj "tuple" vs.toArray 0) g1)
  exact ⟨_, get?_update_seq g2 (fun _ => out)⟩
theorem vals_of_ints {us : List Value} {ns : List Int} (h : IntsAre us ns) : Vals (ns.map V.int) us := by
  induction h with
  | nil => exact .nil
  | cons n t _ ih => exact .cons ⟨t, rfl⟩ ih
section
variable {X : Cx}
/-- sorted of at most 63 ints -/
def rSortI (K : PySem.W.Frag) : List V → Hp → VK → Prop := fun xs H Q => ∃ (a : Addr) (ns : List Int), xs = [.ref a] ∧ (SqL K H a (ns.map V.int) ∨ SqT K H a (ns.map V.int)) ∧ ns.length < 64 ∧
  ∀ ns' : List Int, ns'.Perm ns → ns'.Pairwise (· ≤ ·) → ∀ l, H l = none → Q (.ref l) (upd H l (.lst (ns'.map V.int)))
theorem call_sortI : CallR X (.builtin "sorted") (rSortI X.K) := by
  intro pins s σ H xs us Q I r h
  obtain ⟨a, ns, rfl, ha, hl, q⟩ := h
  obtain ⟨u, rfl, ru⟩ := vals1 r
  cases ru
  have core : ∀ (T : String), T = "list" ∨ T = "tuple" → ∀ (its : List Value) (o : Obj) (n : Nat), s.heap.get? a = some o → o.cls = .type T → o.data = .seq its.toArray n → Vals (ns.map V.int) its → wpAny (model X.prog X.w) X.A (call (.builtin "sorted") [.ref a]) (EP X pins σ Q) X.xe s := by
    intro T hT its o n e1 e2 e3 rv
    have hI : IntsAre its ns := intsAre_of rv
    refine sorted_intsT hT e1 e2 e3 hI (by rw [hI.length]; exact hl) fun out ns' h1 h2 h3 => ?_
    refine ⟨.ref (s.heap.objs.size + 1), upd H (s.heap.objs.size + 1) (.lst (ns'.map V.int)), I.laid (t' := s.toks) (fun b ob e => sortedAll_old e) (Nat.le_succ _) ?_, rfl, q ns' h2 h3 _ (I.hok.fresh (Nat.le_succ _))⟩
    obtain ⟨m, e⟩ := sortedAll_new (h := s.heap) (vs := its) (out := out)
    refine ⟨?_, out.toList, m, vals_of_ints h1, by simpa using e⟩
    rw [List.length_map, h2.length_eq]
    exact Nat.le_trans (Nat.le_of_lt hl) (by decide)
  rcases ha with ha | ha
  · obtain ⟨its, rv, ⟨o, n, e1, e2, _, e3⟩, hz⟩ := I.list ha
    exact core "list" (.inl rfl) its o n e1 e2 e3 rv
  · obtain ⟨its, rv, ⟨o, e1, e2, n, e3⟩, hz⟩ := I.tuple ha
    exact core "tuple" (.inr rfl) its o n e1 e2 e3 rv

/-! ### sets of pairs -/
theorem tk_of {pins : List (Addr × Obj)} {σ : St} {H : Hp} {s : Shared} {r : Addr} {k : List Int} (I : Inv X pins σ H s) (h : SqT X.K H r (k.map V.int)) : Tk X.prog X.w s.heap k r := by
  obtain ⟨its, rv, ⟨o, e1, e2, n, e3⟩, _⟩ := I.tuple h
  refine ⟨o, its.toArray, n, e1, e2, e3, ?_⟩
  have core : ∀ (k : List Int) (its : List Value), Vals (k.map V.int) its → PySem.ItemsAre (intKind X.prog X.w) k its := by
    intro k
    induction k with
    | nil => intro its h; cases h; exact .nil
    | cons i r ih =>
      intro its h
      cases h with
      | cons h1 h2 =>
        obtain ⟨t, rfl⟩ := h1
        exact .cons (by simp [intKind, Value.isInt]) (ih _ h2)
  simpa using core k its rv
def refsV (qs : List KP) : List V := qs.map fun p => V.ref p.2
theorem vals_refs : ∀ {qs : List KP} {its : List Value}, Vals (refsV qs) its → its = qs.map fun p => Value.ref p.2
  | [], its, h => by cases h; rfl
  | q :: qs, its, h => by
    cases h with
    | cons h1 h2 => cases h1; rw [vals_refs h2]; rfl
theorem vals_refsOf : ∀ (qs : List KP), Vals (refsV qs) (refsOf qs)
  | [] => .nil
  | q :: qs => .cons rfl (vals_refsOf qs)
def rSetP (K : PySem.W.Frag) (w : World) : List V → Hp → VK → Prop := fun xs H Q => ∃ (a : Addr) (qs : List KP), xs = [.ref a] ∧ (SqL K H a (refsV qs) ∨ SqT K H a (refsV qs)) ∧ (∀ p ∈ qs, p.1 ∈ prs ∧ SqT K H p.2 (p.1.map V.int)) ∧
  ∀ l, H l = none → Q (.ref l) (upd H l (.ext fun h => SetAt w h l (addAll qs)))
theorem call_setP (hc : X.calm = true) (hu : X.A.units + 64 < cLine) : CallR X (.type "set") (rSetP X.K X.w) := by
  intro pins s σ H xs us Q I r h
  obtain ⟨a, qs, rfl, ha, hq, q⟩ := h
  obtain ⟨u, rfl, ru⟩ := vals1 r
  cases ru
  have fin : ∀ (h' : Heap) (tk : Nat), SetAt X.w h' s.heap.objs.size (addAll qs) → (∀ b o, b < s.heap.objs.size → s.heap.get? b = some o → h'.get? b = some o) → EP X pins σ Q (.ref s.heap.objs.size) { s with heap := h', toks := tk } := by
    intro h' tk hS hk
    refine ⟨.ref s.heap.objs.size, upd H s.heap.objs.size (.ext fun h => SetAt X.w h s.heap.objs.size (addAll qs)), I.laid (t' := tk) (fun b ob e => hk b ob (Heap.lt_size e) e) (Nat.le_refl _) ?_, rfl, q _ (I.hok.fresh (Nat.le_refl _))⟩
    refine ⟨hS, ?_, fun h1 h2 g k => g.keeps k⟩
    obtain ⟨o, es, ep, t, Z, S0⟩ := hS
    exact ⟨o, S0.ho⟩
  rcases ha with ha | ha
  · obtain ⟨its, rv, pl, hz⟩ := I.list ha
    exact set_of_list (I.ok.hd hc) pl.isList (by simpa using vals_refs rv) (fun p hp => (hq p hp).1) (fun p hp => tk_of I (hq p hp).2) (by omega) fin
  · obtain ⟨its, rv, pl, hz⟩ := I.tuple ha
    exact set_of_tuple (I.ok.hd hc) pl (by simpa using vals_refs rv) (fun p hp => (hq p hp).1) (fun p hp => tk_of I (hq p hp).2) (by omega) fin
def rSortP (K : PySem.W.Frag) (w : World) : List V → Hp → VK → Prop := fun xs H Q => ∃ (a : Addr) (ps : List KP), xs = [.ref a] ∧ H a = some (.ext fun h => SetAt w h a ps) ∧ (∀ p ∈ ps, SqT K H p.2 (p.1.map V.int)) ∧
  ∀ out : List KP, out.Perm ps → Rising out → ∀ l, H l = none → Q (.ref l) (upd H l (.lst (refsV out)))
theorem call_sortP (hc : X.calm = true) : CallR X (.builtin "sorted") (rSortP X.K X.w) := by
  intro pins s σ H xs us Q I r h
  obtain ⟨a, ps, rfl, ha, hT, q⟩ := h
  obtain ⟨u, rfl, ru⟩ := vals1 r
  cases ru
  obtain ⟨hS, _⟩ := (show ObjOk X.prog X.w H s.heap a (.ext fun h => SetAt X.w h a ps) from I.hok a _ ha)
  refine sorted_set (I.ok.hd hc) hS (fun p hp => tk_of I (hT p hp)) fun out hp hr h' D hD hk hn => ?_
  refine ⟨.ref D, upd H D (.lst (refsV out)), I.laid (t' := s.toks) (fun b ob e => hk b ob e) hD ?_, rfl, q out hp hr _ (I.hok.fresh hD)⟩
  obtain ⟨n, e⟩ := hn
  refine ⟨?_, refsOf out, n, vals_refsOf out, e⟩
  have hl : out.length ≤ 15 := by
    rw [hp.length_eq]
    obtain ⟨o, es, ep, t, Z, S0⟩ := hS
    exact keys_le S0.keys S0.nd
  unfold refsV
  rw [List.length_map]
  exact Nat.le_trans hl (by decide)
end
end L2

set_option Elab.async false
set_option linter.all false
set_option maxRecDepth 100000
set_option maxHeartbeats 4000000
namespace L2
open PySem PySem.Spec PyProof.Rows RS

/-! ### sets of pairs, at the data -/
def pairD (k : List Int) : D := .tup (k.map D.int)
def keyD : D → Option (List Int)
  | .tup [.int a, .int b] => if 0 ≤ a ∧ a < b ∧ b < 6 then some [a, b] else none
  | _ => none
def keysD : List D → Option (List (List Int))
  | [] => some []
  | d :: r => match keyD d, keysD r with
    | some k, some ks => some (k :: ks)
    | _, _ => none
theorem keyD_ok {d : D} {k : List Int} (h : keyD d = some k) : d = pairD k ∧ k ∈ prs := by
  unfold keyD at h
  split at h
  · split at h
    · rename_i hc
      cases h
      exact ⟨rfl, prs_mem hc.1 hc.2.1 hc.2.2⟩
    · cases h
  · cases h
theorem keyD_pair {a b : Int} (h : 0 ≤ a ∧ a < b ∧ b < 6) : keyD (.tup [.int a, .int b]) = some [a, b] := by
  simp only [keyD, if_pos h]
theorem keysD_ok : ∀ {ds : List D} {ks : List (List Int)}, keysD ds = some ks → ds = ks.map pairD ∧ ∀ k ∈ ks, k ∈ prs
  | [], ks, h => by cases h; exact ⟨rfl, fun k hk => by simp at hk⟩
  | d :: r, ks, h => by
    unfold keysD at h
    split at h
    · rename_i k ks' h1 h2
      cases h
      obtain ⟨e1, e2⟩ := keyD_ok h1
      obtain ⟨f1, f2⟩ := keysD_ok h2
      refine ⟨by rw [e1, f1]; rfl, fun k' hk => ?_⟩
      rcases List.mem_cons.mp hk with z | z
      · rw [z]; exact e2
      · exact f2 k' z
    · cases h
theorem keysD_of : ∀ {ks : List (List Int)}, (∀ k ∈ ks, k ∈ prs) → keysD (ks.map pairD) = some ks
  | [], _ => rfl
  | k :: ks, h => by
    obtain ⟨a, b, rfl, h1, h2, h3⟩ := prs_shape (h k List.mem_cons_self)
    simp only [List.map_cons, keysD, keysD_of fun k' hk => h k' (List.mem_cons_of_mem _ hk)]
    have : keyD (pairD [a, b]) = some [a, b] := keyD_pair ⟨h1, h2, h3⟩
    rw [this]
def addK (ks : List (List Int)) (k : List Int) : List (List Int) := if k ∈ ks then ks else ks ++ [k]
def dedupK (ks : List (List Int)) : List (List Int) := ks.foldl addK []
/-- the pairs of ks, rising -/
def sortK (ks : List (List Int)) : List (List Int) := prs.filter fun k => decide (k ∈ ks)
theorem addAll_fst : ∀ (qs ps : List KP), (qs.foldl (fun ps p => addP ps p.1 p.2) ps).map (·.1) = (qs.map (·.1)).foldl addK (ps.map (·.1))
  | [], ps => rfl
  | q :: qs, ps => by
    rw [List.foldl_cons, List.map_cons, List.foldl_cons, addAll_fst qs]
    congr 1
    unfold addP addK
    split <;> simp
theorem dedup_fst (qs : List KP) : (addAll qs).map (·.1) = dedupK (qs.map (·.1)) := addAll_fst qs []
theorem dedup_mem {ks : List (List Int)} {k : List Int} : k ∈ dedupK ks ↔ k ∈ ks := by
  have core : ∀ (ks acc : List (List Int)), k ∈ ks.foldl addK acc ↔ k ∈ acc ∨ k ∈ ks := by
    intro ks
    induction ks with
    | nil => intro acc; simp
    | cons x r ih =>
      intro acc
      rw [List.foldl_cons, ih]
      unfold addK
      split
      · rename_i hx
        constructor
        · rintro (h | h)
          · exact .inl h
          · exact .inr (List.mem_cons_of_mem _ h)
        · rintro (h | h)
          · exact .inl h
          · rcases List.mem_cons.mp h with z | z
            · exact .inl (by rw [z]; exact hx)
            · exact .inr z
      · simp [or_assoc]
  unfold dedupK
  rw [core]
  simp
theorem prs_sorted : prs.Pairwise fun a b => enc a < enc b := by decide +kernel
theorem enc_anti {l m : List (List Int)} (hl : l.Pairwise fun a b => enc a < enc b) (hm : m.Pairwise fun a b => enc a < enc b) (h : ∀ k, k ∈ l ↔ k ∈ m) : l = m := by
  have nl : l.Nodup := hl.imp fun h e => by subst e; omega
  have nm : m.Nodup := hm.imp fun h e => by subst e; omega
  have hp : l.Perm m := (List.perm_ext_iff_of_nodup nl nm).mpr h
  refine hp.eq_of_pairwise (le := fun a b => enc a < enc b) (fun a b _ _ h1 h2 => by omega) hl hm
theorem sortK_of {out : List KP} {ps : List KP} (hk : ∀ p ∈ ps, p.1 ∈ prs) (hp : out.Perm ps) (hr : Rising out) : out.map (·.1) = sortK (ps.map (·.1)) := by
  refine enc_anti ?_ (prs_sorted.filter _) fun k => ?_
  · unfold Rising at hr
    rw [List.pairwise_map]
    exact hr
  · have h1 : k ∈ out.map (·.1) ↔ k ∈ ps.map (·.1) := (hp.map _).mem_iff
    rw [h1]
    unfold sortK
    rw [List.mem_filter, decide_eq_true_eq]
    constructor
    · intro h
      refine ⟨?_, h⟩
      obtain ⟨p, hp', rfl⟩ := List.mem_map.mp h
      exact hk p hp'
    · exact fun h => h.2
theorem sortK_dedup (ks : List (List Int)) : sortK (dedupK ks) = sortK ks := by
  unfold sortK
  apply List.filter_congr
  intro k _
  simp only [dedup_mem]
/-- the addresses of a list of pairs -/
theorem Reps.keys {K : PySem.W.Frag} {H : Hp} {α : List Addr} : ∀ {ks : List (List Int)} {vs : List V}, Reps K H α (ks.map pairD) vs → ∃ qs : List KP, qs.map (·.1) = ks ∧ vs = refsV qs ∧ ∀ p ∈ qs, SqT K H p.2 (p.1.map V.int)
  | [], vs, h => by simp only [List.map_nil, Reps] at h; exact ⟨[], rfl, h, fun p hp => by simp at hp⟩
  | k :: ks, vs, h => by
    simp only [List.map_cons, Reps] at h
    obtain ⟨v, r, rfl, h1, h2⟩ := h
    obtain ⟨a, us, rfl, h3, h4⟩ := Rep.tup_iff.mp h1
    obtain ⟨qs, e1, e2, e3⟩ := Reps.keys h2
    refine ⟨(k, a) :: qs, by rw [List.map_cons, e1], by rw [e2]; rfl, fun p hp => ?_⟩
    rcases List.mem_cons.mp hp with z | z
    · subst z
      rw [← h4.ints]; exact h3
    · exact e3 p z
theorem Reps.ofKeys {K : PySem.W.Frag} {H : Hp} {α : List Addr} : ∀ {qs : List KP}, (∀ p ∈ qs, SqT K H p.2 (p.1.map V.int)) → Reps K H α ((qs.map (·.1)).map pairD) (refsV qs)
  | [], _ => Reps.nil
  | q :: qs, h => by
    refine Reps.cons (Rep.tup_iff.mpr ⟨q.2, _, rfl, h q List.mem_cons_self, Reps.ofInts _⟩) (Reps.ofKeys fun p hp => h p (List.mem_cons_of_mem _ hp))
def dSet (ds : List D) (μ : Sto) : Out D := match ds with
  | [.tup xs] => match keysD xs with
    | some ks => .ok (.obj μ.length) (μ ++ [.set (dedupK ks)])
    | none => .bad
  | [.obj n] => match μ[n]? with
    | some (.lst xs) => match keysD xs with
      | some ks => .ok (.obj μ.length) (μ ++ [.set (dedupK ks)])
      | none => .bad
    | _ => .bad
  | _ => .bad
section
variable {p : Pa}
theorem new_set {H : Hp} {α : List Addr} {μ : Sto} {ks : List (List Int)} {vs : List V} {Q : VK} (S : p.S H α μ) (hk : ∀ k ∈ ks, k ∈ prs) (r : p.Rs H α (ks.map pairD) vs) (P : PostO p H α (.ok (.obj μ.length) (μ ++ [.set (dedupK ks)])) (RV p Q)) :
    ∃ qs : List KP, vs = refsV qs ∧ (∀ q ∈ qs, q.1 ∈ prs ∧ SqT p.K H q.2 (q.1.map V.int)) ∧ ∀ l, H l = none → Q (.ref l) (upd H l (.ext fun h => SetAt p.w h l (addAll qs))) := by
  obtain ⟨qs, e1, e2, e3⟩ := r.keys
  refine ⟨qs, e2, fun q hq => ⟨hk _ (by rw [← e1]; exact List.mem_map_of_mem hq), e3 q hq⟩, fun l hl => ?_⟩
  have x1 : p.X H (upd H l (.ext fun h => SetAt p.w h l (addAll qs))) α (α ++ [l]) := (ext_new hl).trans (ext_more [l])
  refine P _ _ x1 (S.more hl ⟨addAll qs, by rw [dedup_fst, e1], upd_same, fun q hq => ?_, addAll_nodup, fun q hq => ?_⟩) _ (Rep.obj_iff.mpr ⟨l, rfl, by rw [← S.len]; simp⟩)
  · exact hk _ (by rw [← e1]; exact List.mem_map_of_mem (addAll_mem hq))
  · exact x1.tup _ _ (e3 q (addAll_mem hq))
theorem on_set : OpN p dSet (rSetP p.K p.w) := by
  intro ds vs H α μ Q S r P
  unfold dSet at P
  split at P
  · rename_i xs
    split at P
    · rename_i ks hks
      obtain ⟨v, rfl, r1⟩ := r.one
      obtain ⟨a, us, rfl, h1, rr⟩ := Rep.tup_iff.mp r1
      obtain ⟨f1, f2⟩ := keysD_ok hks
      rw [f1] at rr
      obtain ⟨qs, e1, e2, e3⟩ := new_set S f2 rr P
      exact ⟨a, qs, rfl, .inr (by rw [← e1]; exact h1), e2, e3⟩
    · exact P.elim
  · rename_i n
    split at P
    · rename_i xs hx
      split at P
      · rename_i ks hks
        obtain ⟨v, rfl, r1⟩ := r.one
        obtain ⟨a, us, rfl, a1, h1, rr⟩ := obj_at S r1 hx
        obtain ⟨f1, f2⟩ := keysD_ok hks
        rw [f1] at rr
        obtain ⟨qs, e1, e2, e3⟩ := new_set S f2 rr P
        exact ⟨a, qs, rfl, .inl (by rw [← e1]; exact SqL.of h1), e2, e3⟩
      · exact P.elim
    · exact P.elim
  · exact P.elim

/-! ### sorted -/
def intsD : List D → Option (List Int)
  | [] => some []
  | .int i :: r => (intsD r).map (i :: ·)
  | _ :: _ => none
theorem intsD_map : ∀ {ds : List D} {ns : List Int}, intsD ds = some ns → ds = ns.map D.int
  | [], bs, h => by cases h; rfl
  | .int b :: r, bs, h => by
    unfold intsD at h
    cases e : intsD r with
    | none => rw [e] at h; cases h
    | some cs => rw [e] at h; cases h; rw [intsD_map e]; rfl
  | .non :: r, bs, h => by cases h
  | .bl _ :: r, bs, h => by cases h
  | .str _ :: r, bs, h => by cases h
  | .tup _ :: r, bs, h => by cases h
  | .frz _ :: r, bs, h => by cases h
  | .obj _ :: r, bs, h => by cases h
def sortI (ns : List Int) : List Int := ns.mergeSort fun a b => decide (a ≤ b)
theorem sortI_of {ns ns' : List Int} (hp : ns'.Perm ns) (hs : ns'.Pairwise (· ≤ ·)) : ns' = sortI ns := by
  have h1 : (sortI ns).Perm ns := List.mergeSort_perm ns _
  have h2 : (sortI ns).Pairwise (· ≤ ·) := by
    have := List.pairwise_mergeSort (le := fun (a b : Int) => decide (a ≤ b)) (fun a b c h1 h2 => by simp at *; omega) (fun a b => by simp; omega) ns
    exact this.imp fun h => by simpa using h
  exact (hp.trans h1.symm).eq_of_pairwise (fun a b _ _ h1 h2 => Int.le_antisymm h1 h2) hs h2
def dSorted (ds : List D) (μ : Sto) : Out D := match ds with
  | [.tup xs] => match intsD xs with
    | some ns => if ns.length < 64 then .ok (.obj μ.length) (μ ++ [.lst ((sortI ns).map D.int)]) else .bad
    | none => .bad
  | [.obj n] => match μ[n]? with
    | some (.lst xs) => match intsD xs with
      | some ns => if ns.length < 64 then .ok (.obj μ.length) (μ ++ [.lst ((sortI ns).map D.int)]) else .bad
      | none => .bad
    | some (.set ks) => .ok (.obj μ.length) (μ ++ [.lst ((sortK ks).map pairD)])
    | _ => .bad
  | _ => .bad
theorem on_sorted : OpN p dSorted (fun xs H Q => rSortI p.K xs H Q ∨ rSortP p.K p.w xs H Q) := by
  intro ds vs H α μ Q S r P
  have fin : ∀ {ns : List Int}, PostO p H α (.ok (.obj μ.length) (μ ++ [.lst ((sortI ns).map D.int)])) (RV p Q) → ∀ ns' : List Int, ns'.Perm ns → ns'.Pairwise (· ≤ ·) → ∀ l, H l = none → Q (.ref l) (upd H l (.lst (ns'.map V.int))) := by
    intro ns P ns' h1 h2 l hl
    rw [← sortI_of h1 h2] at P
    obtain ⟨x1, x2, x3⟩ := new_list S hl (Reps.ofInts ns')
    exact P _ _ x1 x2 _ x3
  unfold dSorted at P
  split at P
  · rename_i xs
    split at P
    · rename_i ns hns
      split at P
      · rename_i hl
        obtain ⟨v, rfl, r1⟩ := r.one
        obtain ⟨a, us, rfl, h1, rr⟩ := Rep.tup_iff.mp r1
        rw [intsD_map hns] at rr
        exact .inl ⟨a, ns, rfl, .inr (by rw [← rr.ints]; exact h1), hl, fin P⟩
      · exact P.elim
    · exact P.elim
  · rename_i n
    split at P
    · rename_i xs hx
      split at P
      · rename_i ns hns
        split at P
        · rename_i hl
          obtain ⟨v, rfl, r1⟩ := r.one
          obtain ⟨a, us, rfl, a1, h1, rr⟩ := obj_at S r1 hx
          rw [intsD_map hns] at rr
          exact .inl ⟨a, ns, rfl, .inl (by rw [← rr.ints]; exact SqL.of h1), hl, fin P⟩
        · exact P.elim
      · exact P.elim
    · rename_i ks hx
      obtain ⟨v, rfl, r1⟩ := r.one
      obtain ⟨a, ea, ps, e1, e2, e3, e4, e5⟩ := S.at hx
      obtain ⟨a', rfl, ea'⟩ := Rep.obj_iff.mp r1
      rw [ea] at ea'; cases ea'
      refine .inr ⟨a, ps, rfl, e2, e5, fun out hp hr l hl => ?_⟩
      have rr : p.Rs H α ((out.map (·.1)).map pairD) (refsV out) := Reps.ofKeys fun q hq => e5 q (hp.mem_iff.mp hq)
      rw [sortK_of e3 hp hr, e1] at rr
      obtain ⟨x1, x2, x3⟩ := new_list S hl rr
      exact P _ _ x1 x2 _ x3
    · exact P.elim
  · exact P.elim
end

/-! ### min, max of a sequence of ints -/
section
variable {X : Cx}
def rMin1 (K : PySem.W.Frag) : List V → Hp → VK → Prop := fun xs H Q => ∃ (a : Addr) (ns : List Int), xs = [.ref a] ∧ (SqL K H a (ns.map V.int) ∨ SqT K H a (ns.map V.int)) ∧ ns ≠ [] ∧ ∀ m ∈ ns, (∀ j ∈ ns, m ≤ j) → Q (.int m) H
def rMax1 (K : PySem.W.Frag) : List V → Hp → VK → Prop := fun xs H Q => ∃ (a : Addr) (ns : List Int), xs = [.ref a] ∧ (SqL K H a (ns.map V.int) ∨ SqT K H a (ns.map V.int)) ∧ ns ≠ [] ∧ ∀ m ∈ ns, (∀ j ∈ ns, j ≤ m) → Q (.int m) H
theorem ints_at {its : List Value} {ns : List Int} (h : IntsAre its ns) {i : Nat} {v : Value} (e : its.toArray[i]? = some v) : ∃ t, v = .int (ns.getD i 0) t ∧ i < ns.length := by
  have e' : its[i]? = some v := by simpa using e
  obtain ⟨n, t, rfl, hn⟩ := h.at i v e'
  have hi := (List.getElem?_eq_some_iff.mp hn).1
  exact ⟨t, by rw [List.getD_eq_getElem?_getD, hn]; rfl, hi⟩
theorem getD_mem {ns : List Int} {i : Nat} (h : i < ns.length) : ns.getD i 0 ∈ ns := by
  rw [List.getD_eq_getElem?_getD, List.getElem?_eq_getElem h]
  exact List.getElem_mem h
theorem mem_getD {ns : List Int} {j : Int} (h : j ∈ ns) : ∃ i, i < ns.length ∧ ns.getD i 0 = j := by
  obtain ⟨i, hi, e⟩ := List.getElem_of_mem h
  exact ⟨i, hi, by rw [List.getD_eq_getElem?_getD, List.getElem?_eq_getElem hi]; exact e⟩
theorem call_min1 (hc : X.calm = true) : CallR X (.builtin "min") (rMin1 X.K) := by
  intro pins s σ H xs us Q I r h
  obtain ⟨a, ns, rfl, ha, hne, q⟩ := h
  obtain ⟨u, rfl, ru⟩ := vals1 r
  cases ru
  have hpos : 0 < ns.length := List.length_pos_iff.mpr hne
  have core : ∀ (its : List Value) (o : Obj), IntsAre its ns → ∀ v s', its.toArray[argBest (fun i j => decide (ns.getD i 0 < ns.getD j 0)) (its.toArray.size - 1)]? = some v → Moved [s.heap.objs.size] (fun a b => b = a) { s with heap := s.heap.push o } s' → EP X pins σ Q v s' := by
    intro its o hI v s' hv hm
    obtain ⟨t, rfl, hi⟩ := ints_at hI hv
    have hsz : its.toArray.size - 1 = ns.length - 1 := by rw [List.size_toArray, hI.length]
    rw [hsz] at hi ⊢
    obtain ⟨b1, b2⟩ := argBest_lt (fun i => ns.getD i 0) (ns.length - 1)
    obtain ⟨hh, g, d, tk, os⟩ := s'
    have e1 : g = s.gens := hm.gens
    have e2 : d = s.drawn := hm.drawn
    have e3 : os = s.os := hm.os
    subst e1 e2 e3
    refine ⟨.int _, H, I.fresh_it (o := o) (h' := hh) (tk := tk) fun b ob hb e => hm.heap b ob hb e, ⟨t, rfl⟩, q _ (getD_mem hi) fun j hj => ?_⟩
    obtain ⟨i, hi', rfl⟩ := mem_getD hj
    exact b2 i (by omega)
  have cmp : ∀ (its : List Value), IntsAre its ns → CmpOf X.prog X.w X.A.in1 .Lt (fun i v => its.toArray[i]? = some v) (fun i j => decide (ns.getD i 0 < ns.getD j 0)) := by
    intro its hI i j vi vj s' Q' E' h1 h2 hQ
    obtain ⟨t1, rfl, _⟩ := ints_at hI h1
    obtain ⟨t2, rfl, _⟩ := ints_at hI h2
    exact (PyProof.Rows.lt_int hQ : wpAny _ _ (compareOp .Lt _ _) _ _ _)
  rcases ha with ha | ha
  · obtain ⟨its, rv, pl, hz⟩ := I.list ha
    have hI : IntsAre its ns := intsAre_of rv
    have hne : a ≠ s.heap.objs.size := by
      obtain ⟨o, n, e, _⟩ := pl
      exact Nat.ne_of_lt (Heap.lt_size e)
    refine call_min_walkS (wpAny_pyIter_list pl.isList ?_)
    refine ⟨s.heap.objs.size, [s.heap.objs.size, a], [s.heap.objs.size], _, _, _, _, _, rfl, (Walks.list (A := X.A.in1) (show X.A.in1.handled = none from I.ok.hd hc) _ a hne its.toArray).toS, ⟨⟨_, Heap.get?_push_size _ rfl, rfl, rfl⟩, pl.isList.at fun o e => Heap.get?_push_of_some _ e⟩, fun b hb => ?_, by simp [hI.length, hpos], cmp its hI, fun v s' hv hm => core its _ hI v s' hv hm⟩
    obtain ⟨o, n, e, _⟩ := pl
    have := Heap.lt_size e
    simp only [List.mem_cons, List.not_mem_nil, or_false] at hb
    show b < (s.heap.push _).objs.size
    rw [size_push']
    rcases hb with rfl | rfl
    · exact Nat.lt_succ_self _
    · exact Nat.lt_succ_of_lt this
  · obtain ⟨its, rv, pl, hz⟩ := I.tuple ha
    have hI : IntsAre its ns := intsAre_of rv
    have hne : a ≠ s.heap.objs.size := by
      obtain ⟨o, e, _⟩ := pl
      exact Nat.ne_of_lt (Heap.lt_size e)
    refine call_min_walkS (wpAny_pyIter_tuple (show s.heap.IsTuple a its.toArray from pl) ?_)
    refine ⟨s.heap.objs.size, [s.heap.objs.size, a], [s.heap.objs.size], _, _, _, _, _, rfl, (Walks.tuple (A := X.A.in1) (show X.A.in1.handled = none from I.ok.hd hc) _ a hne its.toArray).toS, ⟨⟨_, Heap.get?_push_size _ rfl, rfl, rfl⟩, (show s.heap.IsTuple a its.toArray from pl).at fun o e => Heap.get?_push_of_some _ e⟩, fun b hb => ?_, by simp [hI.length, hpos], cmp its hI, fun v s' hv hm => core its _ hI v s' hv hm⟩
    obtain ⟨o, e, _⟩ := pl
    have := Heap.lt_size e
    simp only [List.mem_cons, List.not_mem_nil, or_false] at hb
    show b < (s.heap.push _).objs.size
    rw [size_push']
    rcases hb with rfl | rfl
    · exact Nat.lt_succ_self _
    · exact Nat.lt_succ_of_lt this
theorem call_max1 (hc : X.calm = true) : CallR X (.builtin "max") (rMax1 X.K) := by
  intro pins s σ H xs us Q I r h
  obtain ⟨a, ns, rfl, ha, hne, q⟩ := h
  obtain ⟨u, rfl, ru⟩ := vals1 r
  cases ru
  have hpos : 0 < ns.length := List.length_pos_iff.mpr hne
  have core : ∀ (its : List Value) (o : Obj), IntsAre its ns → ∀ v s', its.toArray[argBest (fun i j => decide (ns.getD i 0 > ns.getD j 0)) (its.toArray.size - 1)]? = some v → Moved [s.heap.objs.size] (fun a b => b = a) { s with heap := s.heap.push o } s' → EP X pins σ Q v s' := by
    intro its o hI v s' hv hm
    obtain ⟨t, rfl, hi⟩ := ints_at hI hv
    have hsz : its.toArray.size - 1 = ns.length - 1 := by rw [List.size_toArray, hI.length]
    rw [hsz] at hi ⊢
    obtain ⟨b1, b2⟩ := argBest_gt (fun i => ns.getD i 0) (ns.length - 1)
    obtain ⟨hh, g, d, tk, os⟩ := s'
    have e1 : g = s.gens := hm.gens
    have e2 : d = s.drawn := hm.drawn
    have e3 : os = s.os := hm.os
    subst e1 e2 e3
    refine ⟨.int _, H, I.fresh_it (o := o) (h' := hh) (tk := tk) fun b ob hb e => hm.heap b ob hb e, ⟨t, rfl⟩, q _ (getD_mem hi) fun j hj => ?_⟩
    obtain ⟨i, hi', rfl⟩ := mem_getD hj
    exact b2 i (by omega)
  have cmp : ∀ (its : List Value), IntsAre its ns → CmpOf X.prog X.w X.A.in1 .Gt (fun i v => its.toArray[i]? = some v) (fun i j => decide (ns.getD i 0 > ns.getD j 0)) := by
    intro its hI i j vi vj s' Q' E' h1 h2 hQ
    obtain ⟨t1, rfl, _⟩ := ints_at hI h1
    obtain ⟨t2, rfl, _⟩ := ints_at hI h2
    exact (PyProof.Rows.gt_int hQ : wpAny _ _ (compareOp .Gt _ _) _ _ _)
  rcases ha with ha | ha
  · obtain ⟨its, rv, pl, hz⟩ := I.list ha
    have hI : IntsAre its ns := intsAre_of rv
    have hne : a ≠ s.heap.objs.size := by
      obtain ⟨o, n, e, _⟩ := pl
      exact Nat.ne_of_lt (Heap.lt_size e)
    refine call_max_walkS (wpAny_pyIter_list pl.isList ?_)
    refine ⟨s.heap.objs.size, [s.heap.objs.size, a], [s.heap.objs.size], _, _, _, _, _, rfl, (Walks.list (A := X.A.in1) (show X.A.in1.handled = none from I.ok.hd hc) _ a hne its.toArray).toS, ⟨⟨_, Heap.get?_push_size _ rfl, rfl, rfl⟩, pl.isList.at fun o e => Heap.get?_push_of_some _ e⟩, fun b hb => ?_, by simp [hI.length, hpos], cmp its hI, fun v s' hv hm => core its _ hI v s' hv hm⟩
    obtain ⟨o, n, e, _⟩ := pl
    have := Heap.lt_size e
    simp only [List.mem_cons, List.not_mem_nil, or_false] at hb
    show b < (s.heap.push _).objs.size
    rw [size_push']
    rcases hb with rfl | rfl
    · exact Nat.lt_succ_self _
    · exact Nat.lt_succ_of_lt this
  · obtain ⟨its, rv, pl, hz⟩ := I.tuple ha
    have hI : IntsAre its ns := intsAre_of rv
    have hne : a ≠ s.heap.objs.size := by
      obtain ⟨o, e, _⟩ := pl
      exact Nat.ne_of_lt (Heap.lt_size e)
    refine call_max_walkS (wpAny_pyIter_tuple (show s.heap.IsTuple a its.toArray from pl) ?_)
    refine ⟨s.heap.objs.size, [s.heap.objs.size, a], [s.heap.objs.size], _, _, _, _, _, rfl, (Walks.tuple (A := X.A.in1) (show X.A.in1.handled = none from I.ok.hd hc) _ a hne its.toArray).toS, ⟨⟨_, Heap.get?_push_size _ rfl, rfl, rfl⟩, (show s.heap.IsTuple a its.toArray from pl).at fun o e => Heap.get?_push_of_some _ e⟩, fun b hb => ?_, by simp [hI.length, hpos], cmp its hI, fun v s' hv hm => core its _ hI v s' hv hm⟩
    obtain ⟨o, e, _⟩ := pl
    have := Heap.lt_size e
    simp only [List.mem_cons, List.not_mem_nil, or_false] at hb
    show b < (s.heap.push _).objs.size
    rw [size_push']
    rcases hb with rfl | rfl
    · exact Nat.lt_succ_self _
    · exact Nat.lt_succ_of_lt this
end
def minL : List Int → Int
  | [] => 0
  | x :: r => r.foldl min x
def maxL : List Int → Int
  | [] => 0
  | x :: r => r.foldl max x
theorem foldl_min (r : List Int) : ∀ x : Int, (r.foldl min x = x ∨ r.foldl min x ∈ r) ∧ r.foldl min x ≤ x ∧ ∀ j ∈ r, r.foldl min x ≤ j := by
  induction r with
  | nil => intro x; exact ⟨.inl rfl, Int.le_refl _, fun j hj => by simp at hj⟩
  | cons y r ih =>
    intro x
    obtain ⟨h1, h2, h3⟩ := ih (min x y)
    rw [List.foldl_cons]
    have m1 : min x y ≤ x := Int.min_le_left _ _
    have m2 : min x y ≤ y := Int.min_le_right _ _
    refine ⟨?_, by omega, fun j hj => ?_⟩
    · rcases h1 with h | h
      · rcases (by omega : min x y = x ∨ min x y = y) with e | e
        · exact .inl (by omega)
        · exact .inr (by rw [h, e]; exact List.mem_cons_self)
      · exact .inr (List.mem_cons_of_mem _ h)
    · rcases List.mem_cons.mp hj with e | e
      · rw [e]; omega
      · exact h3 j e
theorem foldl_max (r : List Int) : ∀ x : Int, (r.foldl max x = x ∨ r.foldl max x ∈ r) ∧ x ≤ r.foldl max x ∧ ∀ j ∈ r, j ≤ r.foldl max x := by
  induction r with
  | nil => intro x; exact ⟨.inl rfl, Int.le_refl _, fun j hj => by simp at hj⟩
  | cons y r ih =>
    intro x
    obtain ⟨h1, h2, h3⟩ := ih (max x y)
    rw [List.foldl_cons]
    have m1 : x ≤ max x y := Int.le_max_left _ _
    have m2 : y ≤ max x y := Int.le_max_right _ _
    refine ⟨?_, by omega, fun j hj => ?_⟩
    · rcases h1 with h | h
      · rcases (by omega : max x y = x ∨ max x y = y) with e | e
        · exact .inl (by omega)
        · exact .inr (by rw [h, e]; exact List.mem_cons_self)
      · exact .inr (List.mem_cons_of_mem _ h)
    · rcases List.mem_cons.mp hj with e | e
      · rw [e]; omega
      · exact h3 j e
theorem minL_of {ns : List Int} {m : Int} (h : m ∈ ns) (hm : ∀ j ∈ ns, m ≤ j) : m = minL ns := by
  cases ns with
  | nil => simp at h
  | cons x r =>
    obtain ⟨h1, h2, h3⟩ := foldl_min r x
    have a1 : m ≤ r.foldl min x := by
      rcases h1 with e | e
      · rw [e]; exact hm x List.mem_cons_self
      · exact hm _ (List.mem_cons_of_mem _ e)
    have a2 : r.foldl min x ≤ m := by
      rcases List.mem_cons.mp h with e | e
      · rw [e]; exact h2
      · exact h3 m e
    exact Int.le_antisymm a1 a2
theorem maxL_of {ns : List Int} {m : Int} (h : m ∈ ns) (hm : ∀ j ∈ ns, j ≤ m) : m = maxL ns := by
  cases ns with
  | nil => simp at h
  | cons x r =>
    obtain ⟨h1, h2, h3⟩ := foldl_max r x
    have a1 : r.foldl max x ≤ m := by
      rcases h1 with e | e
      · rw [e]; exact hm x List.mem_cons_self
      · exact hm _ (List.mem_cons_of_mem _ e)
    have a2 : m ≤ r.foldl max x := by
      rcases List.mem_cons.mp h with e | e
      · rw [e]; exact h2
      · exact h3 m e
    exact Int.le_antisymm a2 a1
def seqI (d : D) (μ : Sto) : Option (List Int) := match d with
  | .tup xs => intsD xs
  | .frz xs => intsD xs
  | .obj n => match μ[n]? with
    | some (.lst xs) => intsD xs
    | _ => none
  | _ => none
theorem seqI_ok {p : Pa} {H : Hp} {α : List Addr} {μ : Sto} {d : D} {v : V} {ns : List Int} (S : p.S H α μ) (r : p.R H α d v) (h : seqI d μ = some ns) : ∃ a, v = .ref a ∧ (SqL p.K H a (ns.map V.int) ∨ SqT p.K H a (ns.map V.int)) := by
  unfold seqI at h
  split at h
  · obtain ⟨a, us, rfl, h1, rr⟩ := Rep.tup_iff.mp r
    rw [intsD_map h] at rr
    exact ⟨a, rfl, .inr (by rw [← rr.ints]; exact h1)⟩
  · obtain ⟨a, us, rfl, h1, rr⟩ := Rep.frz_iff.mp r
    rw [intsD_map h] at rr
    exact ⟨a, rfl, .inl (by rw [← rr.ints]; exact h1.sq)⟩
  · split at h
    · rename_i xs hx
      obtain ⟨a, us, rfl, a1, h1, rr⟩ := obj_at S r hx
      rw [intsD_map h] at rr
      exact ⟨a, rfl, .inl (by rw [← rr.ints]; exact SqL.of h1)⟩
    · cases h
  · cases h
def dMin (ds : List D) (μ : Sto) : Out D := match ds with
  | [d] => match seqI d μ with
    | some (n :: ns) => .ok (.int (minL (n :: ns))) μ
    | _ => .bad
  | ds => dMin2 ds μ
def dMax (ds : List D) (μ : Sto) : Out D := match ds with
  | [d] => match seqI d μ with
    | some (n :: ns) => .ok (.int (maxL (n :: ns))) μ
    | _ => .bad
  | ds => dMax2 ds μ
theorem on_min {p : Pa} : OpN p dMin (fun xs H Q => rMin1 p.K xs H Q ∨ ∃ i j, xs = [.int i, .int j] ∧ Q (.int (if j < i then j else i)) H) := by
  intro ds vs H α μ Q S r P
  unfold dMin at P
  split at P
  · rename_i d
    split at P
    · rename_i n ns hns
      obtain ⟨v, rfl, r1⟩ := r.one
      obtain ⟨a, rfl, h1⟩ := seqI_ok S r1 hns
      refine .inl ⟨a, n :: ns, rfl, h1, by simp, fun m hm hj => ?_⟩
      rw [minL_of hm hj]
      exact P.now S _ (Rep.int_iff.mpr rfl)
    · exact P.elim
  · exact .inr (on_min2 ds vs H α μ Q S r P)
theorem on_max {p : Pa} : OpN p dMax (fun xs H Q => rMax1 p.K xs H Q ∨ ∃ i j, xs = [.int i, .int j] ∧ Q (.int (if j > i then j else i)) H) := by
  intro ds vs H α μ Q S r P
  unfold dMax at P
  split at P
  · rename_i d
    split at P
    · rename_i n ns hns
      obtain ⟨v, rfl, r1⟩ := r.one
      obtain ⟨a, rfl, h1⟩ := seqI_ok S r1 hns
      refine .inl ⟨a, n :: ns, rfl, h1, by simp, fun m hm hj => ?_⟩
      rw [maxL_of hm hj]
      exact P.now S _ (Rep.int_iff.mpr rfl)
    · exact P.elim
  · exact .inr (on_max2 ds vs H α μ Q S r P)

theorem vals_point : ∀ {xs : List V} {us : List Value}, xs.length = us.length → (∀ (i : Nat) x u, xs[i]? = some x → us[i]? = some u → RelV x u) → Vals xs us
  | [], [], _, _ => .nil
  | [], _ :: _, h, _ => by simp at h
  | _ :: _, [], h, _ => by simp at h
  | x :: xs, u :: us, h, k => .cons (k 0 x u rfl rfl) (vals_point (by simpa using h) fun i x' u' h1 h2 => k (i + 1) x' u' (by simpa using h1) (by simpa using h2))
/-! ### list(range(n)) -/
section
variable {X : Cx}
def tRng1 (ta : TA) : TE := fun σ H Q => ta σ H fun vs H1 => ∃ j : Int, vs = [.int j] ∧ ∀ r, H1 r = none → Q (.ref r) (upd H1 r (.rng 0 j))
theorem pe_range1 {a : Expr} {ta : TA} {p pos : Pos} (hg : Gl X "range") (hm : X.mg "range" = none) (ha : PA X [a] ta) (hs : starEach [a] X.env = [(false, eval a X.env)]) : PE X (.Call (.Name "range" p) [a] [] pos) (tRng1 ta) := by
  intro pins s σ H Q I h
  refine Call_ (ld_blt I hg hm boot_range (PyProof.Rows.callWith_type1 (thn (ha pos pins s σ H _ I h) fun us s1 ⟨vs, H1, I1, r1, q1⟩ => ?_) hs rfl))
  obtain ⟨j, e, q⟩ := q1
  subst e
  cases r1 with
  | cons r rr =>
    cases rr
    obtain ⟨t, rfl⟩ := r
    refine call_range_1 ?_
    refine ⟨.ref s1.heap.objs.size, upd H1 s1.heap.objs.size (.rng 0 j), I1.laid (fun b ob e => Heap.get?_push_of_some _ e) (Nat.le_refl _) ⟨_, _, _, Heap.get?_push_size _ rfl⟩, rfl, q _ (I1.hok.fresh (Nat.le_refl _))⟩
def rListR : List V → Hp → VK → Prop := fun xs H Q => ∃ (r : Addr) (j : Int), xs = [.ref r] ∧ H r = some (.rng 0 j) ∧ -(2 ^ 62) ≤ j ∧ j ≤ 2 ^ 20 ∧ ∀ l, H l = none → Q (.ref l) (upd H l (.lst ((List.range j.toNat).map fun (i : Nat) => V.int (i : Int))))
theorem call_listR (hc : X.calm = true) : CallR X (.type "list") rListR := by
  intro pins s σ H xs us Q I r h
  obtain ⟨r0, j, rfl, ha, j1, j2, q⟩ := h
  obtain ⟨u, rfl, ru⟩ := vals1 r
  cases ru
  obtain ⟨t, u, v, hr⟩ := (show ObjOk X.prog X.w H s.heap r0 (.rng 0 j) from I.hok r0 _ ha)
  have hn : Builtin.Range.rangeSize 0 j 1 = ((j.toNat : Nat) : Int) := by rw [rangeSize_one]; split <;> omega
  refine call_list_range (n := j.toNat) (I.ok.hd hc) hr (small_one (by omega) (by omega) (by omega) (by omega)) hn (by omega) fun h' tk acc' c' hk hl hit => ?_
  have hv : Vals ((List.range j.toNat).map fun (i : Nat) => V.int (i : Int)) acc'.toList := by
    obtain ⟨e1, e2⟩ := hit
    refine vals_point (by simp [e1]) fun i x u h1 h2 => ?_
    rw [List.getElem?_map] at h1
    have hi : i < j.toNat := by
      have := (List.getElem?_eq_some_iff.mp h2).1
      simp [e1] at this
      omega
    rw [List.getElem?_range hi] at h1
    cases h1
    obtain ⟨t, rfl⟩ := e2 i u (by simpa using h2)
    exact ⟨t, by simp⟩
  refine ⟨.ref s.heap.objs.size, upd H s.heap.objs.size (.lst ((List.range j.toNat).map fun (i : Nat) => V.int (i : Int))), I.laid (fun b ob e => hk b ob e) (Nat.le_refl _) ⟨?_, acc'.toList, c', hv, by simpa using hl⟩, rfl, q _ (I.hok.fresh (Nat.le_refl _))⟩
  have : (sizeLine : Nat) = 16777216 := sizeLine_eq
  simp only [List.length_map, List.length_range]
  omega
end
end L2

set_option Elab.async false
set_option linter.all false
set_option maxRecDepth 100000
set_option maxHeartbeats 4000000
namespace L2
open PySem PySem.Spec PyProof.Rows RS

/-! ### chains -/
def cChain (o1 o2 : D → D → Sto → Out D) (fa fb fc : ME) : ME := fun ρ μ => (fa ρ μ).bind fun a μ1 => (fb ρ μ1).bind fun b μ2 => (o1 a b μ2).bind fun z μ3 => (asB z μ3).bind fun k μ4 =>
  if k = true then (fc ρ μ4).bind fun c μ5 => o2 b c μ5 else .ok (.bl false) μ4
def cChain3 (o1 o2 o3 : D → D → Sto → Out D) (fa fb fc fd : ME) : ME := fun ρ μ => (fa ρ μ).bind fun a μ1 => (fb ρ μ1).bind fun b μ2 => (o1 a b μ2).bind fun z μ3 => (asB z μ3).bind fun k μ4 =>
  if k = true then (fc ρ μ4).bind fun c μ5 => (o2 b c μ5).bind fun z2 μ6 => (asB z2 μ6).bind fun k2 μ7 => if k2 = true then (fd ρ μ7).bind fun d μ8 => o3 c d μ8 else .ok (.bl false) μ7 else .ok (.bl false) μ4
def tChain3 (r r' r'' : R2) (ta tb tc td : TE) : TE := fun σ H Q => ta σ H fun x H1 => tb σ H1 fun y H2 => r x y H2 fun z H3 => ∃ k, z = .bl k ∧
  (if k = true then tc σ H3 fun w' H4 => r' y w' H4 fun z' H5 => ∃ k', z' = .bl k' ∧ (if k' = true then td σ H5 fun v' H6 => r'' w' v' H6 Q else Q (.bl false) H5) else Q (.bl false) H3)
section
variable {X : Cx} {p : Pa} {a b c d : Expr} {ta tb tc td : TE} {fa fb fc fd : ME} {pos : Pos} {op op' op'' : CmpOp} {r r' r'' : R2} {o1 o2 o3 : D → D → Sto → Out D}
theorem chain_weak (hd1 : Op2 p o1 r) (hd2 : Op2 p o2 r') {σ : St} {H : Hp} {Q : VK} (h : tD p (cChain o1 o2 fa fb fc) σ H Q) : tChain r r' (tD p fa) (tD p fb) (tD p fc) σ H Q := by
  obtain ⟨α, ρ, μ, S, R, P⟩ := h
  refine ⟨α, ρ, μ, S, R, (PostO.bind P).imp fun x μ1 H1 α1 X1 S1 P1 v rv => ⟨α1, ρ, μ1, S1, R.mono X1, (PostO.bind P1).imp fun y μ2 H2 α2 X2 S2 P2 u ru => ?_⟩⟩
  refine hd1 x y v u H2 α2 μ2 _ S2 (rv.mono X2) ru ((PostO.bind P2).imp fun z μ3 H3 α3 X3 S3 P3 w rw' => ?_)
  obtain ⟨k, _, e, q⟩ := asB_ok (PostO.bind P3) rw' S3
  refine ⟨k, e, ?_⟩
  cases k with
  | true =>
    rw [if_pos rfl] at q ⊢
    exact ⟨α3, ρ, μ3, S3, ((R.mono X1).mono X2).mono X3, (PostO.bind q).imp fun c μ5 H5 α5 X5 S5 P5 t rt => hd2 y c u t H5 α5 μ5 Q S5 ((ru.mono X3).mono X5) rt P5⟩
  | false => rw [if_neg Bool.false_ne_true] at q ⊢; exact q.now S3 _ (Rep.bl_iff.mpr rfl)
theorem se_chain (ho : OpR X (compareOp op) r) (ho' : OpR X (compareOp op') r') (hd1 : Op2 p o1 r) (hd2 : Op2 p o2 r') (ha : PE X a (tD p fa)) (hb : PE X b (tD p fb)) (hc : PE X c (tD p fc))
    (hm : lastMarks [op, op'] [b, c] = false) : PE X (.Compare a [op, op'] [b, c] pos) (tD p (cChain o1 o2 fa fb fc)) := (pe_chain ho ho' ha hb hc hm).weak fun σ H Q h => chain_weak hd1 hd2 h

/-! ### truth -/
def truD (d : D) (μ : Sto) : Out Bool := match d with
  | .non => .ok false μ
  | .bl b => .ok b μ
  | .int i => .ok (i != 0) μ
  | .str x => if x.length ≤ sizeLine then .ok ((x.length : Int) != 0) μ else .bad
  | .tup xs => .ok (!xs.isEmpty) μ
  | .frz xs => .ok (!xs.isEmpty) μ
  | .obj n => match μ[n]? with
    | some (.lst xs) => .ok (!xs.isEmpty) μ
    | _ => .bad
def cTru (f : ME) : MT := fun ρ μ => (f ρ μ).bind truD
theorem Reps.isEmpty {K : PySem.W.Frag} {H : Hp} {α : List Addr} {xs : List D} {vs : List V} (r : Reps K H α xs vs) : vs.isEmpty = xs.isEmpty := by
  have := r.length
  cases xs with
  | nil => have h : vs = [] := List.eq_nil_of_length_eq_zero (by simpa using this); rw [h]; rfl
  | cons x r => cases vs with
    | nil => simp at this
    | cons _ _ => rfl
theorem truD_ok {d : D} {μ : Sto} {H : Hp} {α : List Addr} {v : V} {R : Bool → Sto → Hp → List Addr → Prop} (S : p.S H α μ) (r : p.R H α d v) (P : PostO p H α (truD d μ) R) : ∃ k, TruV p.K v H k ∧ R k μ H α := by
  unfold truD at P
  split at P
  · rw [Rep.non_iff.mp r]; exact ⟨false, rfl, P.now S⟩
  · rename_i b; rw [Rep.bl_iff.mp r]; exact ⟨b, rfl, P.now S⟩
  · rename_i i; rw [Rep.int_iff.mp r]; exact ⟨_, rfl, P.now S⟩
  · rename_i x
    split at P
    · rename_i hl; rw [Rep.str_iff.mp r]; exact ⟨_, ⟨hl, rfl⟩, P.now S⟩
    · exact P.elim
  · obtain ⟨a, vs, rfl, h1, h2⟩ := Rep.tup_iff.mp r
    exact ⟨_, .inr (.inl ⟨vs, h1, by rw [h2.isEmpty]⟩), P.now S⟩
  · obtain ⟨a, vs, rfl, h1, h2⟩ := Rep.frz_iff.mp r
    exact ⟨_, .inl ⟨vs, h1.sq, by rw [h2.isEmpty]⟩, P.now S⟩
  · split at P
    · rename_i xs hx
      obtain ⟨a, us, rfl, a1, h1, rr⟩ := obj_at S r hx
      exact ⟨_, .inl ⟨us, SqL.of h1, by rw [rr.isEmpty]⟩, P.now S⟩
    · exact P.elim
theorem st_truth {e : Expr} {f : ME} (hK : X.K = p.K) (h : PE X e (tD p f)) (he : ∀ whole, isTrue e X.env whole = (do let v ← whole; standAt e.pos; holding [v] (truthy v))) : PT X e (tDT p (cTru f)) :=
  (pt_truth h he).weak fun σ H Q ⟨α, ρ, μ, S, R, P⟩ => ⟨α, ρ, μ, S, R, (PostO.bind P).imp fun d μ1 H1 α1 X1 S1 P1 v rv => by
    rw [hK]; exact truD_ok S1 rv P1⟩

/-! ### list(range(n)) -/
def dListR (ds : List D) (μ : Sto) : Out D := match ds with
  | [.int j] => if -(2 ^ 62) ≤ j ∧ j ≤ 2 ^ 20 then .ok (.obj μ.length) (μ ++ [.lst (rngD 0 j.toNat)]) else .bad
  | _ => .bad
theorem reps_rng {K : PySem.W.Frag} {H : Hp} {α : List Addr} (n : Nat) : Reps K H α (rngD 0 n) ((List.range n).map fun (i : Nat) => V.int (i : Int)) := by
  have : rngD 0 n = ((List.range n).map fun (i : Nat) => ((i : Nat) : Int)).map D.int := by
    unfold rngD; rw [List.map_map]; apply List.map_congr_left; intro i _; simp
  rw [this]
  have h2 : ((List.range n).map fun (i : Nat) => V.int (i : Int)) = ((List.range n).map fun (i : Nat) => ((i : Nat) : Int)).map V.int := by rw [List.map_map]; rfl
  rw [h2]
  exact Reps.ofInts _
theorem se_listR {fr : MA} {pl pr pos p1 : Pos} (hc : X.calm = true) (hg : Gl X "range") (hm : X.mg "range" = none) (hgl : Gl X "list") (hml : X.mg "list" = none) (ha : PA X [a] (tDA p fr)) (hs : starEach [a] X.env = [(false, eval a X.env)]) :
    PE X (.Call (.Name "list" pl) [.Call (.Name "range" pr) [a] [] p1] [] pos) (tD p (cArgs dListR fr)) := by
  refine (pe_callTy (T := "list") (call_listR hc) hgl hml boot_list (pa_cons (pe_range1 hg hm ha hs) pa_nil rfl) (by decide) (by decide) rfl rfl).weak fun σ H Q ⟨α, ρ, μ, S, R, P⟩ => ⟨α, ρ, μ, S, R, (PostO.bind P).imp fun ds μ1 H1 α1 X1 S1 P1 vs rv => ?_⟩
  unfold dListR at P1
  split at P1
  · rename_i j
    obtain ⟨v, rfl, r1⟩ := rv.one
    split at P1
    · rename_i hj
      refine ⟨j, by rw [Rep.int_iff.mp r1], fun r0 hr => ?_⟩
      refine ⟨r0, j, rfl, upd_same, hj.1, hj.2, fun l hl => ?_⟩
      have S2 : p.S (upd H1 r0 (.rng 0 j)) α1 μ1 := S1.same (ext_new hr) fun a ha => upd_ne fun z => ha (by rw [z]; exact hr)
      obtain ⟨x1, x2, x3⟩ := new_list S2 hl (reps_rng j.toNat)
      exact P1 _ _ ((ext_new hr).trans x1) x2 _ x3
    · exact P1.elim
  · exact P1.elim

/-! ### {} -/
def tDNew : TE := fun _ H Q => ∀ q, H q = none → Q (.ref q) (upd H q (.dK []))
def cDic : ME := fun _ μ => .ok (.obj μ.length) (μ ++ [.dic])

/-! ### methods of lists -/
def MtD (p : Pa) (f : D → List D → Sto → Out D) (r : V → List V → Hp → VK → Prop) : Prop := ∀ d ds v vs H α μ Q, p.S H α μ → p.R H α d v → p.Rs H α ds vs → PostO p H α (f d ds μ) (RV p Q) → r v vs H Q
def isL (d : D) (μ : Sto) : Bool := match d with
  | .obj n => match μ[n]? with
    | some (.lst _) => true
    | _ => false
  | _ => false
def cMt (f : D → List D → Sto → Out D) (fo : ME) (fr : MA) : ME := fun ρ μ => (fo ρ μ).bind fun o μ1 => if isL o μ1 = true then (fr ρ μ1).bind fun ds μ2 => f o ds μ2 else .bad
theorem isL_ok {d : D} {μ : Sto} {H : Hp} {α : List Addr} {v : V} (S : p.S H α μ) (r : p.R H α d v) (h : isL d μ = true) : tyV p.K "list" v H := by
  unfold isL at h
  split at h
  · split at h
    · rename_i xs hx
      obtain ⟨a, us, rfl, a1, h1, rr⟩ := obj_at S r hx
      exact .inl ⟨rfl, us, SqL.of h1⟩
    · cases h
  · cases h
theorem se_bm {o e : Expr} {es : List Expr} {fo : ME} {fr : MA} {name : Str} {apos cpos : Pos} {id : String} {rr : V → List V → Hp → VK → Prop} {f : D → List D → Sto → Out D} (hK : X.K = p.K) (slot : Slot "list" name id) (hty : typeOf (.builtin id) = pure (.type "method_descriptor")) (hm : MtR X id rr) (hf : MtD p f rr)
    (ho : PE X o (tD p fo)) (ha : PA X (e :: es) (tDA p fr)) (hbase : attributeBase o name X.env (eval o X.env) = eval o X.env)
    (hfew : ((backTo cpos (starEach (e :: es) X.env)).all (fun x => !x.1) && (backToKw cpos (keywordEach [] X.env)).all (fun x => x.1.isSome)
      && decide ((e :: es).length + ([] : List Keyword).length + (if ([] : List Keyword).isEmpty then 0 else 1) < 30)) = true)
    (hline : (apos.endLine == cpos.line) = true) (hs : starEach (e :: es) X.env = (false, eval e X.env) :: starEach es X.env) (hplain : (backTo cpos (starEach es X.env)).any (·.1) = false) :
    PE X (.Call (.Attribute o name apos) (e :: es) [] cpos) (tD p (cMt f fo fr)) :=
  (pe_bm PySem.F.plainAttrs_list slot hty hm ho ha hbase hfew hline hs hplain).weak fun σ H Q ⟨α, ρ, μ, S, R, P⟩ => ⟨α, ρ, μ, S, R, (PostO.bind P).imp fun d μ1 H1 α1 X1 S1 P1 v rv => by
    by_cases hl : isL d μ1 = true
    · rw [if_pos hl] at P1
      rw [hK]
      exact ⟨isL_ok S1 rv hl, α1, ρ, μ1, S1, R.mono X1, (PostO.bind P1).imp fun ds μ2 H2 α2 X2 S2 P2 vs rs => hf d ds v vs H2 α2 μ2 Q S2 (rv.mono X2) rs P2⟩
    · rw [if_neg hl] at P1; exact P1.elim⟩
def dPopAt (d : D) (ds : List D) (μ : Sto) : Out D := match d, ds with
  | .obj n, [.int i] => match μ[n]? with
    | some (.lst xs) => match ixN xs.length i with
      | some k => match xs[k]? with
        | some y => if -(2 ^ 63) ≤ i ∧ i < 2 ^ 63 then .ok y (μ.set n (.lst (xs.eraseIdx k))) else .bad
        | none => .bad
      | none => .bad
    | _ => .bad
  | _, _ => .bad
theorem mt_popD : MtD p dPopAt rPopAt := by
  intro d ds v vs H α μ Q S rd rs P
  unfold dPopAt at P
  split at P
  · rename_i n i
    split at P
    · rename_i xs hx
      split at P
      · rename_i k hk
        split at P
        · rename_i y hy
          split at P
          · rename_i hb
            obtain ⟨a, us, rfl, a1, h1, rr⟩ := obj_at S rd hx
            obtain ⟨w, rfl, rw'⟩ := rs.one
            obtain ⟨z, hz, rz⟩ := rr.get hy
            have hk' := (ixN_seq hk).1
            have q := rr.eraseIdx k
            refine ⟨a, us, i, k, z, rfl, by rw [Rep.int_iff.mp rw'], h1, hb.1, hb.2, by rw [rr.length]; exact hk', hz, ?_⟩
            exact P _ _ (ext_upd h1) (S.put hx a1 h1 q) _ (rz.mono (ext_upd h1))
          · exact P.elim
        · exact P.elim
      · exact P.elim
    · exact P.elim
  · exact P.elim
def dAppend (d : D) (ds : List D) (μ : Sto) : Out D := match d, ds with
  | .obj n, [y] => match μ[n]? with
    | some (.lst xs) => if xs.length < sizeLine then .ok .non (μ.set n (.lst (xs ++ [y]))) else .bad
    | _ => .bad
  | _, _ => .bad
end
end L2

set_option Elab.async false
set_option linter.all false
set_option maxRecDepth 100000
set_option maxHeartbeats 4000000
/-! the rules in short, their side conditions by themselves -/
namespace L2
open PySem PySem.Spec PyProof.Rows RS

abbrev pa0 (K : PySem.W.Frag) (w : World) : Pa := ⟨K, w, fun _ _ => False⟩
abbrev dSub : D → D → Sto → Out D := dI fun i j => .int (i - j)
noncomputable abbrev dFdiv : D → D → Sto → Out D := dIC CDiv fun i j => .int (i / j)
noncomputable abbrev dMod : D → D → Sto → Out D := dIC (fun _ j => 0 < j) fun i j => .int (i % j)
noncomputable abbrev dPow : D → D → Sto → Out D := dIC CPow fun i j => .int (i ^ j.toNat)

def compOk (N : List Str) (sc scope : Scope) (Nc : List Str) (cap : List (Option Nat)) : Bool :=
  (scope.kind == .function) && scope.names.all (fun y => y.2 != .cell) && scope.names.all (fun y => scope.names.lookup y.1 == some y.2) &&
  scope.names.all (fun y => y.2 != .free || sc.names.lookup y.1 == some .cell || sc.names.lookup y.1 == some .free) && capOk N { scope := sc, globals := 0, builtins := 0, locals := 0, cells := [], qual := "", func := none, code := .none, frame := none } scope Nc cap
theorem capOk_env {N : List Str} {e1 e2 : Env} {scope : Scope} : ∀ {Nc : List Str} {cap : List (Option Nat)}, capOk N e1 scope Nc cap = capOk N e2 scope Nc cap
  | [], [] => rfl
  | _ :: _, [] => rfl
  | [], _ :: _ => rfl
  | _ :: Nc, none :: cap => by unfold capOk; exact capOk_env
  | x :: Nc, some j :: cap => by unfold capOk; rw [capOk_env (Nc := Nc) (cap := cap) (e1 := e1) (e2 := e2)]
theorem comp_of {X : Cx} {N : List Str} {sc scope : Scope} {Nc : List Str} {cap : List (Option Nat)} (hN : X.N = N) (hs : X.env.scope = sc) (h : compOk N sc scope Nc cap = true) : CompScope X.N X.env scope Nc cap := by
  unfold compOk at h
  simp only [Bool.and_eq_true] at h
  obtain ⟨⟨⟨⟨h1, h2⟩, h3⟩, h4⟩, h5⟩ := h
  refine ⟨eq_of_beq h1, fun y hy => ?_, fun y hy => ?_, fun y hy hf => ?_, ?_⟩
  · have := List.all_eq_true.mp h2 y hy
    simpa using this
  · exact eq_of_beq (List.all_eq_true.mp h3 y hy)
  · have := List.all_eq_true.mp h4 y hy
    simp only [Bool.or_eq_true, hf] at this
    have e : X.env.kindOf y.1 = sc.names.lookup y.1 := by rw [← hs]; rfl
    rw [e]
    rcases this with (z | z) | z
    · exact absurd z (by decide)
    · exact .inl (eq_of_beq z)
    · exact .inr (eq_of_beq z)
  · rw [hN, capOk_env]; exact h5

structure Bx (P : Prop) : Prop where
  h : P
section
variable {X : Cx} {p : Pa} {a b c d e : Expr} {es : List Expr} {fa fb fc fd f : ME} {fr : MA} {pos : Pos} {ft gt : MT}
theorem w_v (i : Nat) {x : Str} (hN : X.N[i]? = some x := by rfl) (hv : Vis X.env.scope x := by first | exact Or.inl rfl | exact Or.inr (Or.inl rfl) | exact Or.inr (Or.inr rfl)) (hd : (x == ("__debug__" : Str)) = false := by decide) (hcd : (x == ("__classdict__" : Str)) = false := by decide) : Bx (PE X (.Name x pos) (tD p (cVar i))) := ⟨se_var (pe_var hN hv hd hcd)⟩
theorem w_i {i j} : Bx (PE X (.Constant (.int i) j pos) (tD p (cC (.int i)))) := ⟨se_c pe_int fun _ _ => Rep.int_iff.mpr rfl⟩
theorem w_b {i j} : Bx (PE X (.Constant (.bool i) j pos) (tD p (cC (.bl i)))) := ⟨se_c pe_bl fun _ _ => Rep.bl_iff.mpr rfl⟩
theorem w_n {j} : Bx (PE X (.Constant .none j pos) (tD p (cC .non))) := ⟨se_c pe_non fun _ _ => Rep.non_iff.mpr rfl⟩
/-- a module's int -/
theorem w_gi {x : Str} {i : Int} (h : ∃ t, X.mg x = some (.int i t)) (hg : Gl X x := by rfl) (hd : (x == ("__debug__" : Str)) = false := by decide) : Bx (PE X (.Name x pos) (tD p (cC (.int i)))) := Bx.mk (by
  obtain ⟨t, ht⟩ := h
  exact se_c (pe_glob (v := .int i) hg ht ⟨t, rfl⟩ hd) fun _ _ => Rep.int_iff.mpr rfl)
theorem w_add (ha : Bx (PE X a (tD p fa))) (hb : Bx (PE X b (tD p fb))) (hK : X.K = p.K := by rfl) : Bx (PE X (.BinOp a .Add b pos) (tD p (cBin dAdd fa fb))) := ⟨se_bin (r := rAddG p.K) (hK ▸ op_addG) o2_add ha.h hb.h⟩
theorem w_sub (ha : Bx (PE X a (tD p fa))) (hb : Bx (PE X b (tD p fb))) : Bx (PE X (.BinOp a .Sub b pos) (tD p (cBin dSub fa fb))) := ⟨se_bin op_sub (o2_I fun _ _ _ _ => Rep.int_iff.mpr rfl) ha.h hb.h⟩
theorem w_mul (ha : Bx (PE X a (tD p fa))) (hb : Bx (PE X b (tD p fb))) : Bx (PE X (.BinOp a .Mult b pos) (tD p (cBin dMul fa fb))) := ⟨se_bin op_mulG o2_mul ha.h hb.h⟩
theorem w_fdiv (ha : Bx (PE X a (tD p fa))) (hb : Bx (PE X b (tD p fb))) : Bx (PE X (.BinOp a .FloorDiv b pos) (tD p (cBin dFdiv fa fb))) := ⟨se_bin op_fdiv (o2_IC fun _ _ _ _ => Rep.int_iff.mpr rfl) ha.h hb.h⟩
theorem w_mod (ha : Bx (PE X a (tD p fa))) (hb : Bx (PE X b (tD p fb))) : Bx (PE X (.BinOp a .Mod b pos) (tD p (cBin dMod fa fb))) := ⟨se_bin op_mod (o2_IC fun _ _ _ _ => Rep.int_iff.mpr rfl) ha.h hb.h⟩
theorem w_pow (ha : Bx (PE X a (tD p fa))) (hb : Bx (PE X b (tD p fb))) : Bx (PE X (.BinOp a .Pow b pos) (tD p (cBin dPow fa fb))) := ⟨se_bin op_pow (o2_IC fun _ _ _ _ => Rep.int_iff.mpr rfl) ha.h hb.h⟩
/-! comparisons: what the operation is, then as a value, as a test -/
structure CmpR (X : Cx) (p : Pa) (op : CmpOp) (o : D → D → Sto → Out D) : Prop where
  ex : ∃ r, OpR X (compareOp op) r ∧ Op2 p o r
theorem k_eq (hu : X.A.units + 64 < cLine) (hK : X.K = p.K := by rfl) : CmpR X p .Eq (dEq false) := ⟨rEqP p.K false, hK ▸ op_eqP hu, o2_eq⟩
theorem k_ne (hu : X.A.units + 64 < cLine) (hK : X.K = p.K := by rfl) : CmpR X p .NotEq (dEq true) := ⟨rEqP p.K true, hK ▸ op_neP hu, o2_eq⟩
theorem k_in (hu : X.A.units + 64 < cLine) (hK : X.K = p.K := by rfl) : CmpR X p .In (dIn false) := ⟨rInP p.K false, hK ▸ op_inP hu, o2_in⟩
theorem k_isN : CmpR X p .Is (dIsN false) := ⟨_, op_isN, o2_isN⟩
theorem k_notN : CmpR X p .IsNot (dIsN true) := ⟨_, op_notN, o2_notN⟩
theorem k_ord {op : CmpOp} (hu : X.A.units + 64 < cLine) (ho : isOrd op = true := by rfl) (hK : X.K = p.K := by rfl) : CmpR X p op (dCmp op) := ⟨rCmpP p.K op, hK ▸ op_cmpP hu ho, o2_cmp⟩
variable {op op' op'' : CmpOp} {o o' o'' : D → D → Sto → Out D}
theorem w_cmp (k : CmpR X p op o) (ha : Bx (PE X a (tD p fa))) (hb : Bx (PE X b (tD p fb))) (hm : behindInMarks op b = false := by rfl) : Bx (PE X (.Compare a [op] [b] pos) (tD p (cBin o fa fb))) := Bx.mk (let ⟨_, h1, h2⟩ := k.ex; se_cmp h1 h2 ha.h hb.h hm)
theorem t_cmp (k : CmpR X p op o) (ha : Bx (PE X a (tD p fa))) (hb : Bx (PE X b (tD p fb))) (hm : behindInMarks op b = false := by rfl) : Bx (PT X (.Compare a [op] [b] pos) (tDT p (cTB (cBin o fa fb)))) := Bx.mk (let ⟨_, h1, h2⟩ := k.ex; st_cmp h1 h2 ha.h hb.h hm)
theorem w_chn (k : CmpR X p op o) (k' : CmpR X p op' o') (ha : Bx (PE X a (tD p fa))) (hb : Bx (PE X b (tD p fb))) (hc : Bx (PE X c (tD p fc))) (hm : lastMarks [op, op'] [b, c] = false := by rfl) : Bx (PE X (.Compare a [op, op'] [b, c] pos) (tD p (cChain o o' fa fb fc))) := Bx.mk (let ⟨_, h1, h2⟩ := k.ex; let ⟨_, h3, h4⟩ := k'.ex; se_chain h1 h3 h2 h4 ha.h hb.h hc.h hm)
/-! tests -/
theorem t_v (h : Bx (PE X e (tD p f))) (he : ∀ whole, isTrue e X.env whole = (do let v ← whole; standAt e.pos; holding [v] (truthy v)) := by intro _; rfl) (hK : X.K = p.K := by rfl) : Bx (PT X e (tDT p (cTru f))) := ⟨st_truth hK h.h he⟩
theorem t_and {rest : List Expr} (ha : Bx (PT X a (tDT p ft))) (hb : Bx (PW X (.BoolOp .And (b :: rest) pos) (tDT p gt))) : Bx (PW X (.BoolOp .And (a :: b :: rest) pos) (tDT p (cAndT ft gt))) := ⟨sw_and ha.h hb.h⟩
theorem t_or {rest : List Expr} (ha : Bx (PT X a (tDT p ft))) (hb : Bx (PW X (.BoolOp .Or (b :: rest) pos) (tDT p gt))) : Bx (PW X (.BoolOp .Or (a :: b :: rest) pos) (tDT p (cOrT ft gt))) := ⟨sw_or ha.h hb.h⟩
theorem t_and1 (ha : Bx (PT X a (tDT p ft))) : Bx (PW X (.BoolOp .And [a] pos) (tDT p ft)) := ⟨pw_and1 ha.h⟩
theorem t_or1 (ha : Bx (PT X a (tDT p ft))) : Bx (PW X (.BoolOp .Or [a] pos) (tDT p ft)) := ⟨pw_or1 ha.h⟩
theorem w_one {op} (ha : Bx (PE X a (tD p fa))) : Bx (PE X (.BoolOp op [a] pos) (tD p fa)) := ⟨pe_one ha.h⟩
/-! arguments, displays -/
def noStar : Expr → Bool
  | .Starred _ _ => false
  | _ => true
theorem star_cons {a : Expr} {es : List Expr} {env : Env} (h : noStar a = true) : starEach (a :: es) env = (false, eval a env) :: starEach es env := by
  cases a <;> first | rfl | cases h
theorem a_c (ha : Bx (PE X a (tD p fa))) (hr : Bx (PA X es (tDA p fr))) (hs : noStar a = true := by rfl) : Bx (PA X (a :: es) (tDA p (cCons fa fr))) := ⟨sa_cons ha.h hr.h (star_cons hs)⟩
theorem a_n  : Bx (PA X [] (tDA p cNil)) := ⟨sa_nil⟩
/-! calls -/
theorem w_call {k n : Nat} {x : Str} {F : List D → Sto → Out D} {px : Pos} (h : Def X.prog X.w X.K X.mg X.base p k x n F) (hr : Room k X.A) (ha : Bx (PA X (a :: es) (tDA p fr))) (hg : Gl X x := by rfl) (hdb : (x == ("__debug__" : Str)) = false := by decide) (he : starEach (a :: es) X.env = (false, eval a X.env) :: starEach es X.env := by rfl) (hpl : (backTo pos (starEach es X.env)).any (·.1) = false := by rfl) : Bx (PE X (.Call (.Name x px) (a :: es) [] pos) (tD p (cArgs F fr))) := ⟨se_call h hr hg ha.h hdb he hpl⟩
structure BltR (X : Cx) (p : Pa) (x : Str) (F : List D → Sto → Out D) : Prop where
  ex : ∃ (u : Value) (r : List V → Hp → VK → Prop), ((∃ id, u = .builtin id) ∨ ∃ T, u = .type T) ∧ bootBuiltins x = some u ∧ CallR X u r ∧ OpN p F r ∧ x ≠ "__name__" ∧ (x == ("__debug__" : Str)) = false
theorem w_blt {x : Str} {F : List D → Sto → Out D} {px : Pos} (k : BltR X p x F) (hm : X.mg x = none) (ha : Bx (PA X (a :: es) (tDA p fr))) (hg : Gl X x := by rfl) (he : starEach (a :: es) X.env = (false, eval a X.env) :: starEach es X.env := by rfl) (hpl : (backTo pos (starEach es X.env)).any (·.1) = false := by rfl) : Bx (PE X (.Call (.Name x px) (a :: es) [] pos) (tD p (cArgs F fr))) := Bx.mk (by
  obtain ⟨u, r, hu, h1, h2, h3, h4, h5⟩ := k.ex
  rcases hu with ⟨id, rfl⟩ | ⟨T, rfl⟩
  · exact se_callB h2 h3 hg hm h1 ha.h h4 h5 he hpl
  · exact se_callTy h2 h3 hg hm h1 ha.h h4 h5 he hpl)
theorem b_len (hK : X.K = p.K := by rfl) : BltR X p "len" dLen := ⟨_, _, .inl ⟨_, rfl⟩, PySem.boot_len, call_len, hK ▸ on_len, by decide, by decide⟩
theorem b_tuple (hK : X.K = p.K := by rfl) : BltR X p "tuple" dTuple := ⟨_, _, .inr ⟨_, rfl⟩, by decide +kernel, call_tuple_of, hK ▸ on_tuple, by decide, by decide⟩
theorem b_int : BltR X p "int" dIntC := ⟨_, _, .inr ⟨_, rfl⟩, by decide +kernel, call_int1, on_int, by decide, by decide⟩
theorem b_min (hc : X.calm = true := by rfl) (hK : X.K = p.K := by rfl) : BltR X p "min" dMin := ⟨_, _, .inl ⟨_, rfl⟩, by decide +kernel, (call_min1 hc).or (call_min2 hc), hK ▸ on_min, by decide, by decide⟩
theorem b_max (hc : X.calm = true := by rfl) (hK : X.K = p.K := by rfl) : BltR X p "max" dMax := ⟨_, _, .inl ⟨_, rfl⟩, by decide +kernel, (call_max1 hc).or (call_max2 hc), hK ▸ on_max, by decide, by decide⟩
theorem b_set (hu : X.A.units + 64 < cLine) (hc : X.calm = true := by rfl) (hK : X.K = p.K := by rfl) (hw : X.w = p.w := by rfl) : BltR X p "set" dSet := ⟨_, _, .inr ⟨_, rfl⟩, by decide +kernel, call_setP hc hu, by rw [hK, hw]; exact on_set, by decide, by decide⟩
theorem b_sorted (hc : X.calm = true := by rfl) (hK : X.K = p.K := by rfl) (hw : X.w = p.w := by rfl) : BltR X p "sorted" dSorted := ⟨_, _, .inl ⟨_, rfl⟩, by decide +kernel, call_sortI.or (call_sortP hc), by rw [hK, hw]; exact on_sorted, by decide, by decide⟩
theorem w_isi {T : String} {xT : Str} {px pt : Pos} (hT : T ∈ ["int", "bool", "tuple", "list", "str", "dict"]) (hbT : bootBuiltins xT = some (.type T)) (hnT : xT ≠ "__name__") (hdT : (xT == ("__debug__" : Str)) = false) (hm : X.mg "isinstance" = none) (hmT : X.mg xT = none) (ha : Bx (PE X a (tD p fa))) (hg : Gl X "isinstance" := by rfl) (hgT : Gl X xT := by rfl) (hs1 : starEach [a, .Name xT pt] X.env = (false, eval a X.env) :: starEach [.Name xT pt] X.env := by rfl) (hK : X.K = p.K := by rfl) : Bx (PE X (.Call (.Name "isinstance" px) [a, .Name xT pt] [] pos) (tD p (cUn (dIsi T) fa))) := ⟨se_isi hK hT hg hm hgT hmT hbT ha.h hnT hdT hs1⟩
theorem bt_int : bootBuiltins "int" = some (.type "int") := by decide +kernel
theorem bt_bool : bootBuiltins "bool" = some (.type "bool") := by decide +kernel
theorem w_lrng {pl pr p1 : Pos} (hm : X.mg "range" = none) (hml : X.mg "list" = none) (ha : Bx (PA X [a] (tDA p fr))) (hc : X.calm = true := by rfl) (hg : Gl X "range" := by rfl) (hgl : Gl X "list" := by rfl) (hs : starEach [a] X.env = [(false, eval a X.env)] := by rfl) : Bx (PE X (.Call (.Name "list" pl) [.Call (.Name "range" pr) [a] [] p1] [] pos) (tD p (cArgs dListR fr))) := ⟨se_listR hc hg hm hgl hml ha.h hs⟩
/-! subscripts -/
theorem w_ix (ha : Bx (PE X a (tD p fa))) (hb : Bx (PE X b (tD p fb))) (hs : PlainIx b := by exact fun _ _ => rfl) (hK : X.K = p.K := by rfl) : Bx (PE X (.Subscript a b pos) (tD p (cBin dIx fa fb))) := ⟨se_ix hK ha.h hb.h hs⟩
theorem w_sl {lo hi : Option Expr} {fl fh : MO} {p2 : Pos} (he : Bx (PE X e (tD p fa))) (hl : Bx (PO X lo (tDO p fl))) (hu : Bx (PO X hi (tDO p fh))) (hK : X.K = p.K := by rfl) : Bx (PE X (.Subscript e (.Slice lo hi none p2) pos) (tD p (cSl fa fl fh))) := ⟨se_slice hK he.h hl.h hu.h⟩
/-! methods -/
theorem w_pop {fo : ME} {ob : Expr} {apos : Pos} (ho : Bx (PE X ob (tD p fo))) (ha : Bx (PA X [e] (tDA p fr))) (hbase : attributeBase ob "pop" X.env (eval ob X.env) = eval ob X.env := by rfl) (hfew : ((backTo pos (starEach [e] X.env)).all (fun x => !x.1) && (backToKw pos (keywordEach [] X.env)).all (fun x => x.1.isSome)
      && decide ([e].length + ([] : List Keyword).length + (if ([] : List Keyword).isEmpty then 0 else 1) < 30)) = true := by rfl) (hline : (apos.endLine == pos.line) = true := by rfl) (hs : starEach [e] X.env = (false, eval e X.env) :: starEach [] X.env := by rfl) (hpl : (backTo pos (starEach [] X.env)).any (·.1) = false := by rfl) (hK : X.K = p.K := by rfl) : Bx (PE X (.Call (.Attribute ob "pop" apos) [e] [] pos) (tD p (cMt dPopAt fo fr))) := ⟨se_bm hK PySem.F.slot_list_pop PySem.F.type_list_pop mt_popAt mt_popD ho.h ha.h hbase hfew hline hs hpl⟩
/-! iterators, targets -/
variable {tg iter elt : Expr} {fi : MI} {g : MG} {u : MGs}
theorem i_v (hl : Bx (PE X e (tD p f))) (hK : X.K = p.K := by rfl) : Bx (PI X tg e (tDI p (iVal f))) := ⟨si_val hK hl.h⟩
theorem i_r1 {px : Pos} (hm : X.mg "range" = none) (ha : Bx (PA X [a] (tDA p fr))) (hg : Gl X "range" := by rfl) (hs : starEach [a] X.env = [(false, eval a X.env)] := by rfl) : Bx (PI X tg (.Call (.Name "range" px) [a] [] pos) (tDI p (iRng rng1 fr))) := ⟨si_range1 hg hm ha.h hs⟩
theorem i_r2 {px : Pos} (hm : X.mg "range" = none) (ha : Bx (PA X [a, b] (tDA p fr))) (hg : Gl X "range" := by rfl) (hs : starEach [a, b] X.env = [(false, eval a X.env), (false, eval b X.env)] := by rfl) (hs2 : starEach [b] X.env = [(false, eval b X.env)] := by rfl) : Bx (PI X tg (.Call (.Name "range" px) [a, b] [] pos) (tDI p (iRng rng2 fr))) := ⟨si_range2 hg hm ha.h hs hs2⟩
theorem g_n (i : Nat) {x : Str} (hN : X.N.Nodup) (hi : X.N[i]? = some x := by rfl) (hx : Loc X.env.scope x := by first | exact Or.inl rfl | exact Or.inr rfl) (hf : X.fn x = true ∨ X.env.scope.names.lookup x = some .local := by first | exact .inl rfl | exact .inr rfl) : Bx (PG X (.Name x pos) (tDG p (gNameD i))) := ⟨sg_name hN hi hx hf⟩
theorem g_nil  : Bx (PGs X [] (tDGs p gNilD)) := ⟨sgs_nil⟩
theorem g_cons (h1 : Bx (PG X e (tDG p g))) (h2 : Bx (PGs X es (tDGs p u))) (hs : (assignEach (e :: es) X.env).map (·.2) = assign e X.env :: (assignEach es X.env).map (·.2) := by rfl) : Bx (PGs X (e :: es) (tDGs p (gConsD g u))) := ⟨sgs_cons h1.h h2.h hs⟩
theorem g_tup {k n : Nat} (h : Bx (PGs X es (tDGs p u))) (hc : X.calm = true := by rfl) (hn : (assignEach es X.env).length = n := by rfl) (hst : (assignEach es X.env).findIdx? (·.1) = none := by rfl) (hK : X.K = p.K := by rfl) : Bx (PG X (.Tuple es k pos) (tDG p (gTupD n u))) := ⟨sg_tup hK hc h.h hn hst⟩
theorem g_sub {fo fi : ME} (ho : Bx (PE X a (tD p fo))) (hi : Bx (PE X b (tD p fi))) (ha : ∀ v, assign (.Subscript a b pos) X.env v = (do
      let ov ← holding [v] (eval a X.env)
      let iv ← holding [v, ov] (eval b X.env)
      standAt pos
      holding [v, ov, iv] (setItem ov iv v)
      release [v, ov, iv] []) := by intro _; rfl) : Bx (PG X (.Subscript a b pos) (tDG p (gSubD fo fi))) := ⟨sg_sub ho.h hi.h ha⟩
/-! comprehensions -/
variable {ifs : List Expr} {scope : Scope} {Nc : List Str} {cap : List (Option Nat)} {tt : MT} {te : ME}
theorem w_comp (S : CompScope X.N X.env scope Nc cap) (hi : Bx (PI X tg iter (tDI p fi))) (hg : ∀ cl C s H fp, Bx (PG (cxC X Nc scope cl C s H fp) tg (tDG p.nx g))) (ht : ∀ cl C s H fp, Bx (PTs (cxC X Nc scope cl C s H fp) ifs (tDT p.nx tt))) (he : ∀ cl C s H fp, Bx (PE (cxC X Nc scope cl C s H fp) elt (tD p.nx te))) (hc : X.calm = true := by rfl) (hs : ∀ x, foldedSetIterable iter X.env x = pure x := by intro _; rfl) : Bx (PE X (.ListComp elt [⟨tg, iter, ifs, 0⟩] scope pos) (tD p (cComp fi cap g tt te))) := ⟨se_comp hc S hi.h (fun cl C s H fp => (hg cl C s H fp).h) (fun cl C s H fp => (ht cl C s H fp).h) (fun cl C s H fp => (he cl C s H fp).h) hs⟩
/-! statements -/
variable {fs gs : MS} {st : Stmt} {sts A B body : List Stmt}
theorem s_set (i : Nat) {x : Str} {pos' : Pos} (hN : X.N.Nodup) (he : Bx (PE X e (tD p f))) (hi : X.N[i]? = some x := by rfl) (hx : Loc X.env.scope x := by first | exact Or.inl rfl | exact Or.inr rfl) (hs : swapsWith e (some (.Name x pos')) pos.line X.env = pure false := by rfl) (hf : X.fn x = true ∨ X.env.scope.names.lookup x = some .local := by first | exact .inl rfl | exact .inr rfl) : Bx (PS X (.Assign [.Name x pos'] e pos) (tDS p (sAsg f (gNameD i)))) := ⟨ss_set hN hi hx he.h hs hf⟩
theorem s_setC (i : Nat) {x : Str} {pos1 pos2 : Pos} (hN : X.N.Nodup) (S : CompScope X.N X.env scope Nc cap) (hi : Bx (PI X tg iter (tDI p fi))) (hg : ∀ cl C s H fp, Bx (PG (cxC X Nc scope cl C s H fp) tg (tDG p.nx g))) (ht : ∀ cl C s H fp, Bx (PTs (cxC X Nc scope cl C s H fp) ifs (tDT p.nx tt))) (he : ∀ cl C s H fp, Bx (PE (cxC X Nc scope cl C s H fp) elt (tD p.nx te))) (hix : X.N[i]? = some x := by rfl) (hx : X.env.scope.names.lookup x = some .local := by rfl) (hc : X.calm = true := by rfl) (hsw : swapsWith (.ListComp elt [⟨tg, iter, ifs, 0⟩] scope pos) (some (.Name x pos1)) pos2.line X.env = pure true := by rfl) (hs : ∀ x, foldedSetIterable iter X.env x = pure x := by intro _; rfl) : Bx (PS X (.Assign [.Name x pos1] (.ListComp elt [⟨tg, iter, ifs, 0⟩] scope pos) pos2) (tDS p (sAsg (cComp fi cap g tt te) (gNameD i)))) := ⟨ss_setC hc hN hix hx S hi.h (fun cl C s H fp => (hg cl C s H fp).h) (fun cl C s H fp => (ht cl C s H fp).h) (fun cl C s H fp => (he cl C s H fp).h) hsw hs⟩
theorem s_asg (he : Bx (PE X e (tD p f))) (hg : Bx (PG X tg (tDG p g))) (hs : swapsWithSole [tg] e pos.line X.env = pure false := by rfl) (hw : swappedStores [tg] e X.env = pure none := by rfl) (h1 : (assignEach [tg] X.env).map (·.2) = [assign tg X.env] := by rfl) : Bx (PS X (.Assign [tg] e pos) (tDS p (sAsg f g))) := ⟨ss_asg he.h hg.h hs hw h1⟩
theorem s_for (hp : PassesOwn (model X.prog X.w) X.A X.env X.xe) (hi : Bx (PI X tg iter (tDI p fi))) (hg : Bx (PG X tg (tDG p g))) (hb : Bx (PSs X body (tDS p fs))) (hc : X.calm = true := by rfl) (hs : ∀ x, foldedSetIterable iter X.env x = pure x := by intro _; rfl) : Bx (PS X (.For tg iter body [] pos) (tDS p (sFor fi g fs))) := ⟨ss_for hp hc hi.h hg.h hb.h hs⟩
theorem s_while (n : Nat) (hp : PassesOwn (model X.prog X.w) X.A X.env X.xe) (hc : Bx (PT X c (tDT p ft))) (hb : Bx (PSs X body (tDS p fs))) : Bx (PS X (.While c body [] pos) (tDS p (sWhile n ft fs))) := ⟨ss_while hp hc.h hb.h⟩
end

section
variable {X : Cx} {p : Pa} {a b c e : Expr} {es rest : List Expr} {fa fb f : ME} {fr : MA} {ft gt : MT} {pos : Pos} {fs gs : MS} {st : Stmt} {sts A B : List Stmt}
theorem x_not (ha : Bx (PE X a (tD p fa))) : Bx (PE X (.UnaryOp .Not a pos) (tD p (cNotV fa))) := ⟨se_not ha.h⟩
theorem x_and (ha : Bx (PE X a (tD p fa))) (hb : Bx (PE X (.BoolOp .And (b :: rest) pos) (tD p fb))) : Bx (PE X (.BoolOp .And (a :: b :: rest) pos) (tD p (cAndV fa fb))) := ⟨se_and ha.h hb.h⟩
theorem x_tup {k : Nat} (h : Bx (PA X es (tDA p fr))) : Bx (PE X (.Tuple es k pos) (tD p (cTup fr))) := ⟨se_tup h.h⟩
theorem x_lst (h : Bx (PA X es (tDA p fr))) : Bx (PE X (.List es pos) (tD p (cLst fr))) := ⟨se_lst h.h⟩
theorem x_onone : Bx (PO X none (tDO p oNo)) := ⟨so_none⟩
theorem x_osome (h : Bx (PE X e (tD p f))) : Bx (PO X (some e) (tDO p (oSome f))) := ⟨so_some h.h⟩
theorem y_not (ha : Bx (PT X a (tDT p ft))) : Bx (PT X (.UnaryOp .Not a pos) (tDT p (cNotT ft))) := ⟨st_not ha.h⟩
theorem y_pt (h : Bx (PW X e (tDT p ft))) : Bx (PT X e (tDT p ft)) := ⟨h.h.pt⟩
theorem y_nil : Bx (PTs X [] (tDT p cTrue)) := ⟨sts_nil⟩
theorem y_one (h : Bx (PT X c (tDT p ft))) : Bx (PTs X [c] (tDT p ft)) := ⟨sts_one h.h⟩
theorem z_nil : Bx (PSs X [] (tDS p sNext)) := ⟨ss_nil⟩
theorem z_cons (h1 : Bx (PS X st (tDS p fs))) (h2 : Bx (PSs X sts (tDS p gs))) : Bx (PSs X (st :: sts) (tDS p (sSeq fs gs))) := ⟨ss_cons h1.h h2.h⟩
theorem z_one (h1 : Bx (PS X st (tDS p fs))) : Bx (PSs X [st] (tDS p fs)) := ⟨ss_one h1.h⟩
theorem z_ret (h : Bx (PE X e (tD p f))) : Bx (PS X (.Return (some e) pos) (tDS p (sRet f))) := ⟨ss_ret h.h⟩
theorem z_never : Bx (PS X st (tDS p sBad)) := ⟨ss_never⟩
theorem z_if (hc : Bx (PT X c (tDT p ft))) (ha : Bx (PSs X A (tDS p fs))) (hb : Bx (PSs X B (tDS p gs))) : Bx (PS X (.If c A B pos) (tDS p (sIf ft fs gs))) := ⟨ss_if hc.h ha.h hb.h⟩
end
theorem x_def {P : Program} {w : World} {K : PySem.W.Frag} {mg : Str → Option Value} {base : Heap} {p : Pa} {k n : Nat} {x qual : Str} {st : Stmt} {f : Addr} {fd : FuncData} {N ps : List Str} {fb : MS}
    (F : Fun K x qual st f fd) (S : FnScope N ps (defScope st)) (hn : ps.length = n) (hm : mg x = some (.ref f)) (hb : Binds K fd ps [])
    (body : ∀ (cdv : Value) (A : Around) (outer : List Env) (s : Shared) (H : Hp) (E : XK), Room k (A.deeper (envOfC qual (defScope st) s.heap.objs.size f cdv)) →
      Bx (PSs (cxOf CX0 P w K mg base N qual (defScope st) f cdv A outer s H E).nox (defBody st) (tDS p fb))) : Def P w K mg base p (k + 1) x n (fnD n N.length fb) :=
  def_ok F S hn hm hb fun cdv A outer s H E hr => (body cdv A outer s H E hr).h
end L2

set_option Elab.async false
set_option linter.all false
set_option maxRecDepth 100000
set_option maxHeartbeats 4000000
/-! reckoning with the pieces -/
namespace L2
open PySem RS

section
variable {ρ : Ro} {μ : Sto} {fa fb fc fd f : ME} {fr : MA} {ft gt : MT} {op o1 o2 o3 : D → D → Sto → Out D} {fs gs : MS} {g : MG}
@[simp] theorem ev_var0 {d : D} {r : Ro} : cVar 0 (some d :: r) μ = .ok d μ := of_eq_true (eq_self _)
@[simp] theorem ev_varS {i : Nat} {x : Option D} {r : Ro} : cVar (i + 1) (x :: r) μ = cVar i r μ := of_eq_true (eq_self _)
@[simp] theorem ev_C {d : D} : cC d ρ μ = .ok d μ := of_eq_true (eq_self _)
@[simp] theorem ev_bin : cBin op fa fb ρ μ = (fa ρ μ).bind fun a μ1 => (fb ρ μ1).bind fun b μ2 => op a b μ2 := of_eq_true (eq_self _)
@[simp] theorem ev_un {o : D → Sto → Out D} : cUn o fa ρ μ = (fa ρ μ).bind fun a μ1 => o a μ1 := of_eq_true (eq_self _)
@[simp] theorem ev_nil : cNil ρ μ = .ok [] μ := of_eq_true (eq_self _)
@[simp] theorem ev_cons : cCons fa fr ρ μ = (fa ρ μ).bind fun a μ1 => (fr ρ μ1).bind fun r μ2 => .ok (a :: r) μ2 := of_eq_true (eq_self _)
@[simp] theorem ev_args {F : List D → Sto → Out D} : cArgs F fr ρ μ = (fr ρ μ).bind F := of_eq_true (eq_self _)
@[simp] theorem ev_tup : cTup fr ρ μ = (fr ρ μ).bind fun ds μ => if ds.length ≤ sizeLine then .ok (.tup ds) μ else .bad := of_eq_true (eq_self _)
@[simp] theorem ev_lst : cLst fr ρ μ = (fr ρ μ).bind fun ds μ => if ds.length ≤ sizeLine then .ok (.obj μ.length) (μ ++ [.lst ds]) else .bad := of_eq_true (eq_self _)
@[simp] theorem ev_asB {b : Bool} : asB (.bl b) μ = .ok b μ := of_eq_true (eq_self _)
@[simp] theorem ev_TB : cTB f ρ μ = (f ρ μ).bind asB := of_eq_true (eq_self _)
@[simp] theorem ev_andT : cAndT ft gt ρ μ = (ft ρ μ).bind fun b μ1 => if b = true then gt ρ μ1 else .ok false μ1 := of_eq_true (eq_self _)
@[simp] theorem ev_orT : cOrT ft gt ρ μ = (ft ρ μ).bind fun b μ1 => if b = true then .ok true μ1 else gt ρ μ1 := of_eq_true (eq_self _)
@[simp] theorem ev_notT : cNotT ft ρ μ = (ft ρ μ).bind fun b μ1 => .ok (!b) μ1 := of_eq_true (eq_self _)
@[simp] theorem ev_andV : cAndV fa fb ρ μ = (fa ρ μ).bind fun a μ1 => (asB a μ1).bind fun b μ2 => if b = true then fb ρ μ2 else .ok (.bl false) μ2 := of_eq_true (eq_self _)
@[simp] theorem ev_notV : cNotV f ρ μ = (f ρ μ).bind fun a μ1 => (asB a μ1).bind fun b μ2 => .ok (.bl (!b)) μ2 := of_eq_true (eq_self _)
@[simp] theorem ev_chain : cChain o1 o2 fa fb fc ρ μ = (fa ρ μ).bind fun a μ1 => (fb ρ μ1).bind fun b μ2 => (o1 a b μ2).bind fun z μ3 => (asB z μ3).bind fun k μ4 =>
  if k = true then (fc ρ μ4).bind fun c μ5 => o2 b c μ5 else .ok (.bl false) μ4 := of_eq_true (eq_self _)
@[simp] theorem ev_tru : cTru f ρ μ = (f ρ μ).bind truD := of_eq_true (eq_self _)
@[simp] theorem ev_truB {b : Bool} : truD (.bl b) μ = .ok b μ := of_eq_true (eq_self _)
@[simp] theorem ev_sl {fl fh : MO} : cSl fa fl fh ρ μ = (fa ρ μ).bind fun a μ1 => (fl ρ μ1).bind fun lo μ2 => (fh ρ μ2).bind fun hi μ3 => dSl a lo hi μ3 := of_eq_true (eq_self _)
@[simp] theorem ev_oNo : oNo ρ μ = .ok none μ := of_eq_true (eq_self _)
@[simp] theorem ev_oSome : oSome f ρ μ = (f ρ μ).bind asI := of_eq_true (eq_self _)
@[simp] theorem ev_asI {i : Int} : asI (.int i) μ = .ok (some i) μ := of_eq_true (eq_self _)
@[simp] theorem ev_mt {F : D → List D → Sto → Out D} {fo : ME} : cMt F fo fr ρ μ = (fo ρ μ).bind fun o μ1 => if isL o μ1 = true then (fr ρ μ1).bind fun ds μ2 => F o ds μ2 else .bad := of_eq_true (eq_self _)
/-! statements -/
@[simp] theorem ev_ret : sRet f ρ μ = (f ρ μ).bindS fun d μ' => .ret d μ' := of_eq_true (eq_self _)
@[simp] theorem ev_next : sNext ρ μ = .next ρ μ := of_eq_true (eq_self _)
@[simp] theorem ev_seq : sSeq fs gs ρ μ = (fs ρ μ).bind gs := of_eq_true (eq_self _)
@[simp] theorem ev_sif : sIf ft fs gs ρ μ = (ft ρ μ).bindS fun b μ1 => if b = true then fs ρ μ1 else gs ρ μ1 := of_eq_true (eq_self _)
@[simp] theorem ev_asg : sAsg f g ρ μ = (f ρ μ).bindS fun d μ1 => (g d ρ μ1).bindS fun ρ' μ2 => .next ρ' μ2 := of_eq_true (eq_self _)
@[simp] theorem so_next {g : MS} : (SO.next ρ μ).bind g = g ρ μ := of_eq_true (eq_self _)
@[simp] theorem so_ret {d : D} {g : MS} : (SO.ret d μ).bind g = .ret d μ := of_eq_true (eq_self _)
@[simp] theorem lo_next {g : MS} : (SO.next ρ μ).loop g = g ρ μ := of_eq_true (eq_self _)
@[simp] theorem out_ret {d : D} : (SO.ret d μ).out = .ok d μ := of_eq_true (eq_self _)
@[simp] theorem ev_gn {i : Nat} {d : D} : gNameD i d ρ μ = .ok (ρ.set i (some d)) μ := of_eq_true (eq_self _)
@[simp] theorem ev_gsub {fo fi : ME} {d : D} : gSubD fo fi d ρ μ = (fo ρ μ).bind fun o μ1 => (fi ρ μ1).bind fun i μ2 => (setD o i d μ2).bind fun _ μ3 => .ok ρ μ3 := of_eq_true (eq_self _)
@[simp] theorem ev_gtup {n : Nat} {u : MGs} {xs : List D} : gTupD n u (.tup xs) ρ μ = if xs.length = n then u xs ρ μ else .bad := of_eq_true (eq_self _)
@[simp] theorem ev_gnil : gNilD [] ρ μ = .ok ρ μ := of_eq_true (eq_self _)
@[simp] theorem ev_gcons {u : MGs} {d : D} {r : List D} : gConsD g u (d :: r) ρ μ = (g d ρ μ).bind fun ρ' μ' => u r ρ' μ' := of_eq_true (eq_self _)
@[simp] theorem ev_for {fi : MI} : sFor fi g fs ρ μ = (fi ρ μ).bindS fun src μ1 => forD src g fs src.items ρ μ1 := of_eq_true (eq_self _)
@[simp] theorem ev_iVal : iVal f ρ μ = (f ρ μ).bind srcD := of_eq_true (eq_self _)
@[simp] theorem ev_iRng {F : List D → Sto → Out Src} : iRng F fr ρ μ = (fr ρ μ).bind F := of_eq_true (eq_self _)
@[simp] theorem ev_srcT {xs : List D} : srcD (.tup xs) μ = .ok (.fix xs) μ := of_eq_true (eq_self _)
@[simp] theorem ev_comp {fi : MI} {cap : List (Option Nat)} : cComp fi cap g ft f ρ μ = (fi ρ μ).bind fun src μ1 => compLoop src μ1.length g ft f src.items (capD cap ρ) (μ1 ++ [.lst []]) := of_eq_true (eq_self _)
@[simp] theorem items_fix {xs : List D} : (Src.fix xs).items = xs := of_eq_true (eq_self _)
@[simp] theorem items_own {n : Nat} {xs : List D} : (Src.own n xs).items = xs := of_eq_true (eq_self _)
theorem ev_fn1 {N : Nat} {a : D} : fnD 1 N fs [a] μ = gcD μ (fs (some a :: List.replicate (N - 1) none) μ).out := if_pos rfl
theorem ev_fn2 {N : Nat} {a b : D} : fnD 2 N fs [a, b] μ = gcD μ (fs (some a :: some b :: List.replicate (N - 2) none) μ).out := if_pos rfl
theorem ev_fn3 {N : Nat} {a b c : D} : fnD 3 N fs [a, b, c] μ = gcD μ (fs (some a :: some b :: some c :: List.replicate (N - 3) none) μ).out := if_pos rfl
/-! operations -/
@[simp] theorem ev_cmpI {op : CmpOp} {i j : Int} : dCmp op (.int i) (.int j) μ = .ok (.bl (cmpI op i j)) μ := of_eq_true (eq_self _)
@[simp] theorem ev_addI {i j : Int} : dAdd (.int i) (.int j) μ = .ok (.int (i + j)) μ := of_eq_true (eq_self _)
@[simp] theorem ev_dI {gg : Int → Int → D} {i j : Int} : dI gg (.int i) (.int j) μ = .ok (gg i j) μ := of_eq_true (eq_self _)
@[simp] theorem ev_dIC {C : Int → Int → Prop} {gg : Int → Int → D} {i j : Int} (h : C i j) : dIC C gg (.int i) (.int j) μ = .ok (gg i j) μ := by unfold dIC; simp [h]
@[simp] theorem ev_mulI {i j : Int} (h : CMul i j) : dMul (.int i) (.int j) μ = .ok (.int (i * j)) μ := by unfold dMul; simp [h]
@[simp] theorem ev_eqI {neg : Bool} {i j : Int} : dEq neg (.int i) (.int j) μ = .ok (.bl (if neg then !(i == j) else i == j)) μ := of_eq_true (eq_self _)
@[simp] theorem ev_isN {neg : Bool} {a : D} : dIsN neg a .non μ = .ok (.bl (if neg then !a.isNon else a.isNon)) μ := of_eq_true (eq_self _)
@[simp] theorem ev_lenT {xs : List D} : dLen [.tup xs] μ = .ok (.int xs.length) μ := of_eq_true (eq_self _)
@[simp] theorem ev_lenF {xs : List D} : dLen [.frz xs] μ = .ok (.int xs.length) μ := of_eq_true (eq_self _)
theorem ev_lenL {n : Nat} {xs : List D} (h : μ[n]? = some (.lst xs)) : dLen [.obj n] μ = .ok (.int xs.length) μ := by unfold dLen; simp [h]
theorem ev_tupL {n : Nat} {xs : List D} (h : μ[n]? = some (.lst xs)) : dTuple [.obj n] μ = .ok (.tup xs) μ := by unfold dTuple; simp [h]
theorem ev_ixT {xs : List D} {i : Int} {d : D} (h : atI xs i = some d) : dIx (.tup xs) (.int i) μ = .ok d μ := by unfold dIx; simp [h]
theorem ev_ixF {xs : List D} {i : Int} {d : D} (h : atI xs i = some d) : dIx (.frz xs) (.int i) μ = .ok d μ := by unfold dIx; simp [h]
theorem ev_ixL {n : Nat} {xs : List D} {i : Int} {d : D} (hm : μ[n]? = some (.lst xs)) (h : atI xs i = some d) : dIx (.obj n) (.int i) μ = .ok d μ := by unfold dIx; simp [hm, h]
theorem ev_setL {n j : Nat} {xs : List D} {i : Int} {d : D} (hm : μ[n]? = some (.lst xs)) (h : ixN xs.length i = some j) : setD (.obj n) (.int i) d μ = .ok () (μ.set n (.lst (xs.set j d))) := by unfold setD; simp [hm, h]
theorem ev_srcL {n : Nat} {xs : List D} (hm : μ[n]? = some (.lst xs)) : srcD (.obj n) μ = .ok (.own n xs) μ := by unfold srcD; simp [hm]
theorem ev_rng1 {j : Int} (h0 : 0 ≤ j) (h : j < 1000) : rng1 [.int j] μ = .ok (.fix (rngD 0 j.toNat)) μ := by
  unfold rng1; dsimp only; rw [if_pos]; omega
theorem ev_rng2 {i j : Int} (h0 : 0 ≤ i) (h1 : i < 1000) (h2 : -1000 ≤ j) (h : j < 1000) : rng2 [.int i, .int j] μ = .ok (.fix (rngD i (j - i).toNat)) μ := by
  unfold rng2; dsimp only; rw [if_pos]; omega
theorem atI_0 {α : Type} {x : α} {r : List α} : atI (x :: r) 0 = some x := by unfold atI ixN; simp
theorem atI_1 {α : Type} {x y : α} {r : List α} : atI (x :: y :: r) 1 = some y := atI_nat (j := 1) rfl
theorem atI_2 {α : Type} {x y z : α} {r : List α} : atI (x :: y :: z :: r) 2 = some z := atI_nat (j := 2) rfl
@[simp] theorem ev_ixT0 {x : D} {r : List D} : dIx (.tup (x :: r)) (.int 0) μ = .ok x μ := ev_ixT atI_0
@[simp] theorem ev_ixT1 {x y : D} {r : List D} : dIx (.tup (x :: y :: r)) (.int 1) μ = .ok y μ := ev_ixT atI_1
theorem atI_of {α : Type} {xs : List α} {i : Int} {x : α} (h0 : 0 ≤ i) (h : xs[i.toNat]? = some x) : atI xs i = some x := by
  have := atI_nat h
  rwa [show ((i.toNat : Nat) : Int) = i by omega] at this
theorem ixN_of {n : Nat} {i : Int} (h0 : 0 ≤ i) (h : i < n) : ixN n i = some i.toNat := by unfold ixN; simp [h0, h]
end

/-! ### what is forgotten behind a call -/
section
variable {μ g : Sto} {d : D}
@[simp] theorem low_int {n : Nat} {i : Int} : (D.int i).low n = True := by simp [D.low]
@[simp] theorem low_bl {n : Nat} {i : Bool} : (D.bl i).low n = True := by simp [D.low]
@[simp] theorem low_tup {n : Nat} {xs : List D} : (D.tup xs).low n = D.lows n xs := by simp [D.low]
@[simp] theorem low_obj {n m : Nat} : (D.obj m).low n = (m < n) := by simp [D.low]
@[simp] theorem lows_nil {n : Nat} : D.lows n [] = True := by simp [D.lows]
@[simp] theorem lows_cons {n : Nat} {x : D} {xs : List D} : D.lows n (x :: xs) = (x.low n ∧ D.lows n xs) := by simp [D.lows]
theorem lows_iff {n : Nat} : ∀ {xs : List D}, D.lows n xs ↔ ∀ x ∈ xs, x.low n
  | [] => by simp
  | x :: xs => by simp [lows_iff (xs := xs)]
theorem gc_app (hd : d.low μ.length) : gcD μ (.ok d (μ ++ g)) = .ok d μ := by
  unfold gcD
  dsimp only
  rw [if_pos]
  · simp
  · refine ⟨hd, by simp, fun i o hi h => .inl ?_⟩
    rw [List.getElem?_append_left hi] at h
    exact h
theorem gc_same (hd : d.low μ.length) : gcD μ (.ok d μ) = .ok d μ := by
  have := gc_app (μ := μ) (g := []) hd
  simpa using this
theorem gc_set {i : Nat} {o : O} (hd : d.low μ.length) (ho : o.low μ.length) : gcD μ (.ok d (μ.set i o ++ g)) = .ok d (μ.set i o) := by
  unfold gcD
  dsimp only
  rw [if_pos]
  · congr 1
    rw [List.take_append_of_le_length (by simp)]
    exact List.take_of_length_le (by simp)
  · refine ⟨hd, by simp, fun j o' hj h => ?_⟩
    rw [List.getElem?_append_left (by simpa using hj)] at h
    by_cases hij : i = j
    · subst hij
      rw [List.getElem?_set_self hj] at h
      cases h
      exact .inr ho
    · rw [List.getElem?_set_ne hij] at h
      exact .inl h
theorem gc_set0 {i : Nat} {o : O} (hd : d.low μ.length) (ho : o.low μ.length) : gcD μ (.ok d (μ.set i o)) = .ok d (μ.set i o) := by
  have := gc_set (μ := μ) (g := []) (i := i) hd ho
  simpa using this
theorem gc_no {μ' : Sto} (h : ¬ d.low μ.length) : gcD μ (.ok d μ') = .ok d μ' := by
  unfold gcD
  dsimp only
  rw [if_neg fun z => h z.1]
/-- in any case: the datum, and a store that begins alike -/
theorem gc_any {μ' : Sto} : gcD μ (.ok d μ') = .ok d μ' ∨ (gcD μ (.ok d μ') = .ok d (μ'.take μ.length) ∧ d.low μ.length) := by
  unfold gcD
  dsimp only
  by_cases h : gcOk μ μ' d
  · rw [if_pos h]; exact .inr ⟨rfl, h.1⟩
  · rw [if_neg h]; exact .inl rfl
end

/-! ### comprehensions -/
theorem set_last {μ1 g : Sto} {a b : O} : (μ1 ++ a :: g).set μ1.length b = μ1 ++ b :: g := by
  rw [List.set_append_right _ _ (Nat.le_refl _), Nat.sub_self]; rfl
theorem get_last {μ1 g : Sto} {a : O} : (μ1 ++ a :: g)[μ1.length]? = some a := by
  rw [List.getElem?_append_right (Nat.le_refl _), Nat.sub_self]; rfl
theorem push_last {μ1 g : Sto} {ys : List D} {y : D} (h : ys.length < sizeLine) : pushD μ1.length y (μ1 ++ .lst ys :: g) = .ok () (μ1 ++ .lst (ys ++ [y]) :: g) := by
  unfold pushD
  rw [get_last]
  dsimp only
  rw [if_pos h, set_last]
/-- elements and tests that change nothing -/
theorem comp_pure {src : Src} {g : MG} {t : MT} {e : ME} {μ1 : Sto} {q : D → Bool} {h : D → D} (R : Ro → Prop) (ho : ∀ a, okSrc src (μ1 ++ [.lst a])) :
    ∀ {xs acc : List D} {ρ : Ro}, R ρ → acc.length + xs.length ≤ sizeLine → (∀ x ∈ xs, ∀ a ρ, R ρ → ∃ ρ1, R ρ1 ∧ g x ρ (μ1 ++ [.lst a]) = .ok ρ1 (μ1 ++ [.lst a]) ∧ t ρ1 (μ1 ++ [.lst a]) = .ok (q x) (μ1 ++ [.lst a]) ∧ (q x = true → e ρ1 (μ1 ++ [.lst a]) = .ok (h x) (μ1 ++ [.lst a]))) →
      compLoop src μ1.length g t e xs ρ (μ1 ++ [.lst acc]) = .ok (.obj μ1.length) (μ1 ++ [.lst (acc ++ (xs.filter q).map h)])
  | [], acc, ρ, hr, hl, he => by
    unfold compLoop
    rw [if_pos (ho acc)]
    simp
  | x :: xs, acc, ρ, hr, hl, he => by
    obtain ⟨ρ1, r1, e1, e2, e3⟩ := he x List.mem_cons_self acc ρ hr
    unfold compLoop
    rw [if_pos (ho acc), e1]
    simp only [Out.nox_ok, Out.bind_ok]
    rw [e2]
    simp only [Out.nox_ok, Out.bind_ok]
    have he' := fun y hy => he y (List.mem_cons_of_mem _ hy)
    simp only [List.length_cons] at hl
    cases hq : q x with
    | false =>
      rw [if_neg Bool.false_ne_true, comp_pure R ho r1 (by omega) he', List.filter_cons, hq]
      rfl
    | true =>
      rw [if_pos rfl, e3 hq]
      simp only [Out.nox_ok, Out.bind_ok]
      rw [push_last (by omega)]
      simp only [Out.bind_ok]
      rw [comp_pure R ho r1 (by simp; omega) he', List.filter_cons, hq]
      simp
/-- elements and tests that may turn the store: J speaks of what is left to walk, what was put, the slots, the store ahead of the list, that behind it -/
theorem comp_run {src : Src} {g : MG} {t : MT} {e : ME} {n : Nat} (J : List D → List D → Ro → Sto → Sto → Prop)
    (fin : ∀ ys ρ μ1 s, J [] ys ρ μ1 s → μ1.length = n ∧ okSrc src (μ1 ++ .lst ys :: s))
    (step : ∀ x r ys ρ μ1 s, J (x :: r) ys ρ μ1 s → μ1.length = n ∧ okSrc src (μ1 ++ .lst ys :: s) ∧ ∃ ρ1 μa sa b μb sb, g x ρ (μ1 ++ .lst ys :: s) = .ok ρ1 (μa ++ .lst ys :: sa) ∧ t ρ1 (μa ++ .lst ys :: sa) = .ok b (μb ++ .lst ys :: sb) ∧
      (b = true → ∃ y μc sc, e ρ1 (μb ++ .lst ys :: sb) = .ok y (μc ++ .lst ys :: sc) ∧ ys.length < sizeLine ∧ μc.length = n ∧ J r (ys ++ [y]) ρ1 μc sc) ∧ (b = false → J r ys ρ1 μb sb)) :
    ∀ {xs ys : List D} {ρ : Ro} {μ1 s : Sto}, J xs ys ρ μ1 s → ∃ ys' ρ' μ1' s', J [] ys' ρ' μ1' s' ∧ compLoop src n g t e xs ρ (μ1 ++ .lst ys :: s) = .ok (.obj n) (μ1' ++ .lst ys' :: s')
  | [], ys, ρ, μ1, s, hJ => by
    refine ⟨ys, ρ, μ1, s, hJ, ?_⟩
    unfold compLoop
    rw [if_pos (fin ys ρ μ1 s hJ).2]
  | x :: xs, ys, ρ, μ1, s, hJ => by
    obtain ⟨hn, ho, ρ1, μa, sa, b, μb, sb, e1, e2, e3, e4⟩ := step x xs ys ρ μ1 s hJ
    unfold compLoop
    rw [if_pos ho, e1]
    simp only [Out.nox_ok, Out.bind_ok]
    rw [e2]
    simp only [Out.nox_ok, Out.bind_ok]
    cases b with
    | false =>
      rw [if_neg Bool.false_ne_true]
      exact comp_run J fin step (e4 rfl)
    | true =>
      obtain ⟨y, μc, sc, f1, f2, f3, f4⟩ := e3 rfl
      rw [if_pos rfl, f1]
      simp only [Out.nox_ok, Out.bind_ok]
      subst f3
      rw [push_last f2]
      simp only [Out.bind_ok]
      exact comp_run J fin step f4
/-- a loop that goes through -/
theorem for_run {src : Src} {g : MG} {fb : MS} (J : List D → Ro → Sto → Prop) (fin : ∀ ρ μ, J [] ρ μ → okSrc src μ)
    (step : ∀ x r ρ μ, J (x :: r) ρ μ → okSrc src μ ∧ ∃ ρ1 μ1 ρ2 μ2, g x ρ μ = .ok ρ1 μ1 ∧ fb ρ1 μ1 = .next ρ2 μ2 ∧ J r ρ2 μ2) :
    ∀ {xs : List D} {ρ : Ro} {μ : Sto}, J xs ρ μ → ∃ ρ' μ', J [] ρ' μ' ∧ forD src g fb xs ρ μ = .next ρ' μ'
  | [], ρ, μ, h => ⟨ρ, μ, h, by unfold forD; rw [if_pos (fin ρ μ h)]⟩
  | x :: xs, ρ, μ, h => by
    obtain ⟨ho, ρ1, μ1, ρ2, μ2, e1, e2, h2⟩ := step x xs ρ μ h
    obtain ⟨ρ', μ', h3, e3⟩ := for_run J fin step h2
    refine ⟨ρ', μ', h3, ?_⟩
    unfold forD
    rw [if_pos ho, e1]
    simp only [Out.bindS_ok]
    rw [e2]
    exact e3
end L2

set_option Elab.async false
set_option linter.all false
set_option maxRecDepth 100000
set_option maxHeartbeats 4000000
/-! the law's own def, and its script -/
namespace L2
open PySem PySem.Spec PyProof.Rows RS
theorem fn_ok {P : Program} {w : World} {K : PySem.W.Frag} {mg : Str → Option Value} {base : Heap} {p : Pa} {k n : Nat} {x qual : Str} {st : Stmt} {f : Addr} {fd : FuncData} {N ps : List Str} {fb : MS}
    (F : Fun K x qual st f fd) (S : FnScope N ps (defScope st)) (hn : ps.length = n)
    (body : ∀ (cdv : Value) (A : Around) (outer : List Env) (s : Shared) (H : Hp) (E : XK), Room k (A.deeper (envOfC qual (defScope st) s.heap.objs.size f cdv)) →
      Bx (PSs (cxOf CX0 P w K mg base N qual (defScope st) f cdv A outer s H E).nox (defBody st) (tDS p fb))) : FnOk P w K mg base CX0 (k + 1) f fd ps (spD p n (fnD n N.length fb)) := by
  refine F.ok S (fun vs H Q E h => h.1.trans hn.symm) fun cdv A outer s H vs Q E hr h => ?_
  refine ⟨_, (body cdv A outer s H E hr).h, ?_⟩
  obtain ⟨hl, α, ds, μ, S1, R1, P1⟩ := h
  unfold fnD at P1
  have hd : ds.length = n := by rw [← R1.length]; exact hl
  rw [if_pos hd] at P1
  have P2 := gc_weak S1 P1
  unfold start
  rw [hl]
  refine ⟨α, _, μ, S1, RelS.start R1 _, ?_⟩
  cases e : fb (ds.map some ++ List.replicate (N.length - n) none) μ with
  | ret d μ' => rw [e] at P2; exact fun H' α' v x s r => P2 H' α' x s v r
  | next ρ μ' => rw [e] at P2; exact fun H' α' σ' x s r => P2 H' α' x s .non (Rep.non_iff.mpr rfl)
  | exc x μ' => rw [e] at P2; exact P2
  | brk ρ μ' => rw [e] at P2; exact P2.elim
  | cnt ρ μ' => rw [e] at P2; exact P2.elim
  | bad => rw [e] at P2; exact P2.elim
theorem reps_ints {K : PySem.W.Frag} {H : Hp} {α : List Addr} : ∀ ns : List Int, Reps K H α (ns.map D.int) (ns.map V.int)
  | [] => by simp only [List.map_nil, Reps]
  | n :: ns => by
    simp only [List.map_cons, Reps]
    exact ⟨_, _, rfl, Rep.int_iff.mpr rfl, reps_ints ns⟩
/-- a law that answers True whatever ints its script holds -/
theorem law_says {K : PySem.W.Frag} {w : World} {F : List D → Sto → Out D} {H : Hp} {a : Addr} {ns : List Int} {E : XK} (hF : ∃ μ', F [.frz (ns.map D.int)] [] = .ok (.bl true) μ') (hO : Only H) (hS : SqL K H a (ns.map V.int)) :
    spD (pa0 K w) 1 F [.ref a] H (fun v _ => v = .bl true) E := by
  obtain ⟨μ', e⟩ := hF
  have fz : FzL K H a (ns.map V.int) := by
    rcases hS with (h | h) | h
    · rcases hO a with z | ⟨o, xs, z⟩
      · rw [h] at z; cases z
      · rw [h] at z; cases z
    · exact .inl h
    · exact .inr h
  refine ⟨rfl, [], [.frz (ns.map D.int)], [], ⟨rfl, List.nodup_nil, fun n o a h => by simp at h⟩, ?_, ?_⟩
  · simp only [Reps]
    exact ⟨_, _, rfl, Rep.frz_iff.mpr ⟨a, _, rfl, fz, reps_ints ns⟩, rfl⟩
  · rw [e]
    exact fun H' α' x s v r => Rep.bl_iff.mp r
end L2

set_option Elab.async false
set_option linter.all false
set_option maxRecDepth 100000
set_option maxHeartbeats 4000000
/-! repr of data -/
namespace L2
open PySem PySem.Spec PyProof.Rows RS
section
variable {X : Cx} {p : Pa}
def rReprP (K : PySem.W.Frag) : List V → Hp → VK → Prop := fun xs H Q => ∃ a d, xs = [.ref a] ∧ RdP K H d (.ref a) ∧ d.showable = true ∧ d.hasDict = false ∧ d.depth ≤ 60 ∧ d.shown.length ≤ sizeLine ∧ Q (.str d.shown) H
theorem call_reprP (hu : X.A.units + 64 < cLine) (hg : X.A.guards = some []) : CallR X (.builtin "repr") (rReprP X.K) := by
  intro pins s σ H xs us Q I r h
  obtain ⟨a, d, rfl, h1, hs, hd, hdp, hz, q⟩ := h
  obtain ⟨u, rfl, ru⟩ := vals1 r
  cases ru
  obtain ⟨as, r1⟩ := reads_of I d (.ref a) (.ref a) h1 rfl
  exact PySem.repr_of_reads' (h₀ := s.heap) r1 hs (by rw [hd]; nofun) hg (by omega) (fun _ _ e => e) (fun h' u tk hk => ⟨.str _, H, I.kept hk, ⟨u, rfl⟩, q⟩) hz
def isRefD : D → Bool
  | .tup _ => true
  | .frz _ => true
  | .obj _ => true
  | _ => false
def okShow (q : PyData) : Bool := q.showable && !q.hasDict && decide (q.depth ≤ 60) && decide (q.shown.length ≤ sizeLine)
def dRepr (ds : List D) (μ : Sto) : Out D := match ds with
  | [d] => match toL μ d with
    | some q => if isRefD d = true ∧ okShow q = true then .ok (.str q.shown) μ else .bad
    | none => .bad
  | _ => .bad
theorem isRefD_ref {K : PySem.W.Frag} {H : Hp} {α : List Addr} {d : D} {v : V} (h : isRefD d = true) (r : Rep K H α d v) : ∃ a, v = .ref a := by
  cases d with
  | tup xs => obtain ⟨a, us, rfl, _⟩ := Rep.tup_iff.mp r; exact ⟨a, rfl⟩
  | frz xs => obtain ⟨a, us, rfl, _⟩ := Rep.frz_iff.mp r; exact ⟨a, rfl⟩
  | obj n => obtain ⟨a, rfl, _⟩ := Rep.obj_iff.mp r; exact ⟨a, rfl⟩
  | _ => cases h
theorem on_repr : OpN p dRepr (rReprP p.K) := by
  intro ds vs H α μ Q S r P
  unfold dRepr at P
  split at P
  · rename_i d
    split at P
    · rename_i q hq
      split at P
      · rename_i hf
        obtain ⟨v, rfl, r1⟩ := r.one
        obtain ⟨a, rfl⟩ := isRefD_ref hf.1 r1
        have h2 := hf.2
        unfold okShow at h2
        simp only [Bool.and_eq_true, Bool.not_eq_true', decide_eq_true_eq] at h2
        exact ⟨a, q, rfl, toL_ok S hq r1, h2.1.1.1, h2.1.1.2, h2.1.2, h2.2, P.now S _ (Rep.str_iff.mpr rfl)⟩
      · exact P.elim
    · exact P.elim
  · exact P.elim
theorem b_repr {k : Nat} (hr : Room k X.A) (hK : X.K = p.K := by rfl) : BltR X p "repr" dRepr := ⟨_, _, .inl ⟨_, rfl⟩, by decide +kernel, call_reprP hr.units hr.gd, hK ▸ on_repr, by decide, by decide⟩
/-! a += b, ints and lists -/
theorem seq_list_iadd : seqSlot? (.type "list") (dunderI "add") = pure (some (.builtin "list.__iadd__")) := PySem.seqSlot_of F.slot_list_iadd.lookup (by decide +kernel)
theorem wpAny_inplace_list {M : Model} {A : Around} {E : Value → Shared → Prop} {s : Shared} {a b : Value} {Q : Value → Shared → Prop} (ha : s.TypeIs a "list") (hb : s.TypeIs b "list")
    (hc : wpAny M A (call (.builtin "list.__iadd__") [a, b]) Q E s) : wpAny M A (inplaceOp .Add a b) Q E s := by
  unfold inplaceOp
  refine wpAny_holding ?_
  have hfi : fillsInplaceSlot (.type "list") "add" (Operator.Add == .Add) = pure false := by
    unfold fillsInplaceSlot
    show (typeLookup (.type "list") (dunderI "add") >>= fun fi => pure (fi.isSome && !isSeqSlot fi)) = pure false
    rw [F.slot_list_iadd.lookup]
    rfl
  refine wpAny_bind (wpAny_typeOf ha (wpAny_bind (wpAny_of_eq hfi ?_)))
  show wpAny M A (if false = true then _ else _) Q E s
  rw [if_neg Bool.false_ne_true]
  refine wpAny_bind (wpAny_binaryOp1_none (nm := "add") ha hb noFill_list_add ?_)
  refine wpAny_bind (wpAny_of_eq seq_list_iadd ?_)
  exact wpAny_bind (wpAny_rule hc)
def rIadd : TIp := fun x y H Q => (∃ i j, x = .int i ∧ y = .int j ∧ Q (.int (i + j)) H) ∨
  ∃ l b xs zs, x = .ref l ∧ y = .ref b ∧ H l = some (.lst xs) ∧ H b = some (.lst zs) ∧ xs.length + zs.length ≤ sizeLine ∧ Q (.ref l) (upd H l (.lst (xs ++ zs)))
theorem ip_iadd : PIp X .Add rIadd := by
  intro pins s σ H x y v u Q I r1 r2 h
  rcases h with h | h
  · exact ip_add pins s σ H x y v u Q I r1 r2 h
  · obtain ⟨l, b, xs, zs, rfl, rfl, hH, hB, hz, q⟩ := h
    cases r1
    cases r2
    obtain ⟨z, its, n, r, hl, e⟩ := I.lstM hH
    obtain ⟨z2, its2, n2, r2, hl2, e2⟩ := I.lstM hB
    have hsz : its.toArray.size + its2.toArray.size ≤ sizeLine := by rw [List.size_toArray, List.size_toArray]; omega
    have hlong : ¬ (!its.toArray.isEmpty && Builtin.List.listTooLong (its.toArray.size + its2.toArray.size)) = true := by
      rw [notLongL hsz, Bool.and_false]
      exact Bool.false_ne_true
    refine wpAny_inplace_list ⟨_, e, rfl⟩ ⟨_, e2, rfl⟩ ?_
    refine call_meets F.slot_list_iadd ⟨_, e, rfl⟩ F.entry_list_iadd (F.args_list_iadd_2 _ _)
      (AutoSeq1.list___iadd___list_list_0 l its.toArray n b its2.toArray n2 hlong (by rw [List.size_toArray]; omega) (by omega)) ⟨e, e2, ?_⟩
    refine ⟨.ref l, _, I.lset (its' := its ++ its2) hH e (by simp) (r.append r2) ?_, rfl, q⟩
    rw [List.length_append]
    omega
def dIadd (a b : D) (μ : Sto) : Out D := match a, b with
  | .int i, .int j => .ok (.int (i + j)) μ
  | .obj m, .obj n => match μ[m]?, μ[n]? with
    | some (.lst xs), some (.lst ys) => if xs.length + ys.length ≤ sizeLine then .ok (.obj m) (μ.set m (.lst (xs ++ ys))) else .bad
    | _, _ => .bad
  | _, _ => .bad
theorem o2_iadd : Op2 p dIadd rIadd := by
  intro a b v y H α μ Q S ra rb P
  unfold dIadd at P
  split at P
  · rename_i i j
    obtain rfl := Rep.int_iff.mp ra
    obtain rfl := Rep.int_iff.mp rb
    exact .inl ⟨i, j, rfl, rfl, P.now S _ (Rep.int_iff.mpr rfl)⟩
  · rename_i m n
    split at P
    · rename_i xs ys hx hy
      split at P
      · rename_i hb
        obtain ⟨a, us, rfl, a1, h1, rr⟩ := obj_at S ra hx
        obtain ⟨a', us', rfl, a1', h1', rr'⟩ := obj_at S rb hy
        have q := rr.append rr'
        exact .inr ⟨a, a', us, us', rfl, rfl, h1, h1', by rw [rr.length, rr'.length]; exact hb, P _ _ (ext_upd h1) (S.put hx a1 h1 q) _ (Rep.obj_iff.mpr ⟨a, rfl, a1⟩)⟩
      · exact P.elim
    · exact P.elim
  · exact P.elim
theorem s_aug {e : Expr} {f : ME} {pos pos' : Pos} (i : Nat) {x : Str} (hN : X.N.Nodup) (he : Bx (PE X e (tD p f))) (hi : X.N[i]? = some x := by rfl) (hx : Loc X.env.scope x := by first | exact Or.inl rfl | exact Or.inr rfl) (hf : X.fn x = true ∨ X.env.scope.names.lookup x = some .local := by first | exact .inl rfl | exact .inr rfl) :
    Bx (PS X (.AugAssign (.Name x pos') .Add e pos) (tDS p (sAug i dIadd f))) := ⟨ss_aug hN hi hx he.h ip_iadd o2_iadd hf⟩
/-! xs.extend(ys) -/
def dExtend (d : D) (ds : List D) (μ : Sto) : Out D := match d, ds with
  | .obj m, [.obj n] => match μ[m]?, μ[n]? with
    | some (.lst xs), some (.lst ys) => if xs.length + ys.length ≤ sizeLine then .ok .non (μ.set m (.lst (xs ++ ys))) else .bad
    | _, _ => .bad
  | _, _ => .bad
/-! two texts -/
def dEqS (neg : Bool) (a b : D) (μ : Sto) : Out D := match a, b with
  | .str x, .str y => .ok (.bl (if neg then !decide (x = y) else decide (x = y))) μ
  | _, _ => .bad
theorem str_dec {x y : Str} : decide (V.str x = V.str y) = decide (x = y) := by
  by_cases e : x = y
  · subst e; simp
  · rw [decide_eq_false e, decide_eq_false]
    intro z; cases z; exact e rfl
theorem o2_eqS : Op2 p (dEqS false) rEq := by
  intro a b v y H α μ Q S ra rb P
  unfold dEqS at P
  split at P
  · rename_i x z
    obtain rfl := Rep.str_iff.mp ra
    obtain rfl := Rep.str_iff.mp rb
    exact ⟨rfl, by rw [str_dec]; exact P.now S _ (Rep.bl_iff.mpr rfl)⟩
  · exact P.elim
theorem o2_neS : Op2 p (dEqS true) rNe := by
  intro a b v y H α μ Q S ra rb P
  unfold dEqS at P
  split at P
  · rename_i x z
    obtain rfl := Rep.str_iff.mp ra
    obtain rfl := Rep.str_iff.mp rb
    exact ⟨rfl, by rw [str_dec]; exact P.now S _ (Rep.bl_iff.mpr rfl)⟩
  · exact P.elim
theorem k_eqS : CmpR X p .Eq (dEqS false) := ⟨rEq, op_eq, o2_eqS⟩
theorem k_neS : CmpR X p .NotEq (dEqS true) := ⟨rNe, op_ne, o2_neS⟩
end
end L2

set_option Elab.async false
set_option linter.all false
set_option maxRecDepth 100000
set_option maxHeartbeats 4000000
namespace Lw
open PySem L2
def top (i : Nat) : Stmt := PySem.Challenge.pw_rootwebs_k51_spare_ties.main.body.getD i (.Pass ⟨0, 0, 0, 0⟩)
section
variable {P : Program} {w : World} {K : PySem.W.Frag} {mg : Str → Option Value} {base : Heap}
structure Nm (mg : Str → Option Value) : Prop where
  bool : mg "bool" = none
  int : mg "int" = none
  isinstance : mg "isinstance" = none
  len : mg "len" = none
  list : mg "list" = none
  max : mg "max" = none
  min : mg "min" = none
  range : mg "range" = none
  repr : mg "repr" = none
  set : mg "set" = none
  sorted : mg "sorted" = none
  tuple : mg "tuple" = none

abbrev st_is_whole : Stmt := top 4
theorem sc_is_whole : FnScope ["thing"] ["thing"] (defScope st_is_whole) := ⟨rfl, rfl, rfl, by decide +kernel, rfl, by decide +kernel, by decide +kernel⟩
noncomputable def B_is_whole : MS := sRet (cAndV (cUn (dIsi "int") (cVar 0)) (cNotV (cUn (dIsi "bool") (cVar 0))))
noncomputable def F_is_whole : List D → Sto → Out D := fnD 1 1 B_is_whole
abbrev st_is_whole_from : Stmt := top 5
theorem sc_is_whole_from : FnScope ["thing", "least", "most"] ["thing", "least", "most"] (defScope st_is_whole_from) := ⟨rfl, rfl, rfl, by decide +kernel, rfl, by decide +kernel, by decide +kernel⟩
noncomputable def B_is_whole_from : MS := sRet (cAndV (cArgs F_is_whole (cCons (cVar 0) (cNil))) (cChain (dCmp .LtE) (dCmp .LtE) (cVar 1) (cVar 0) (cVar 2)))
noncomputable def F_is_whole_from : List D → Sto → Out D := fnD 3 3 B_is_whole_from
abbrev st_next_places : Stmt := top 9
theorem sc_next_places : FnScope ["ties", "front"] ["ties", "front"] (defScope st_next_places) := ⟨rfl, rfl, rfl, by decide +kernel, rfl, by decide +kernel, by decide +kernel⟩
theorem nd_next_places_1 : (["a", "b", "front"] : List Str).Nodup := by decide +kernel
theorem nd_next_places_2 : (["a", "b", "front"] : List Str).Nodup := by decide +kernel
noncomputable def E_next_places_1 : ME := cVar 1
noncomputable def T_next_places_2 : MT := cTB (cBin (dIn false) (cVar 0) (cVar 2))
noncomputable def E_next_places_3 : ME := cVar 0
noncomputable def T_next_places_4 : MT := cTB (cBin (dIn false) (cVar 1) (cVar 2))
noncomputable def B_next_places : MS := sRet (cBin dAdd (cComp (iVal (cVar 0)) [none, none, some 1] (gTupD 2 (gConsD (gNameD 0) (gConsD (gNameD 1) (gNilD)))) (T_next_places_2) (E_next_places_1)) (cComp (iVal (cVar 0)) [none, none, some 1] (gTupD 2 (gConsD (gNameD 0) (gConsD (gNameD 1) (gNilD)))) (T_next_places_4) (E_next_places_3)))
noncomputable def F_next_places : List D → Sto → Out D := fnD 2 2 B_next_places
abbrev st_fars_from : Stmt := top 8
theorem sc_fars_from : FnScope ["web", "start", "many", "ties", "fars", "far", "front", "place"] ["web", "start"] (defScope st_fars_from) := ⟨rfl, rfl, rfl, by decide +kernel, rfl, by decide +kernel, by decide +kernel⟩
theorem nd_fars_from_1 : (["place", "fars"] : List Str).Nodup := by decide +kernel
noncomputable def E_fars_from_1 : ME := cVar 0
noncomputable def T_fars_from_2 : MT := cTB (cBin (dIsN false) (cBin dIx (cVar 1) (cVar 0)) (cC .non))
noncomputable def L_fars_from_3 : MS := sAsg (cVar 5) (gSubD (cVar 4) (cVar 7))
noncomputable def L_fars_from_4 : MS := sSeq (sAug 5 dIadd (cC (.int 1)))
  (sSeq (sAsg (cComp (iVal (cArgs F_next_places (cCons (cVar 3) (cCons (cVar 6) (cNil))))) [none, some 4] (gNameD 0) (T_fars_from_2) (E_fars_from_1)) (gNameD 6))
  (sFor (iVal (cVar 6)) (gNameD 7) L_fars_from_3))
noncomputable def B_fars_from : MS := sSeq (sAsg (cVar 0) (gTupD 2 (gConsD (gNameD 2) (gConsD (gNameD 3) (gNilD)))))
  (sSeq (sAsg (cBin dMul (cLst (cCons (cC .non) (cNil))) (cVar 2)) (gNameD 4))
  (sSeq (sAsg (cC (.int 0)) (gSubD (cVar 4) (cVar 1)))
  (sSeq (sAsg (cC (.int 0)) (gNameD 5))
  (sSeq (sAsg (cLst (cCons (cVar 1) (cNil))) (gNameD 6))
  (sSeq (sWhile 100 (cTru (cVar 6)) L_fars_from_4)
  (sRet (cVar 4)))))))
noncomputable def F_fars_from : List D → Sto → Out D := fnD 2 8 B_fars_from
abbrev st_steps_web : Stmt := top 10
theorem sc_steps_web : FnScope ["web", "k", "many", "ties", "one", "fars"] ["web", "k"] (defScope st_steps_web) := ⟨rfl, rfl, rfl, by decide +kernel, rfl, by decide +kernel, by decide +kernel⟩
theorem nd_steps_web_1 : (["other", "one", "k", "fars"] : List Str).Nodup := by decide +kernel
noncomputable def E_steps_web_1 : ME := cTup (cCons (cVar 1) (cCons (cVar 0) (cNil)))
noncomputable def T_steps_web_2 : MT := cAndT (cTB (cBin (dIsN true) (cBin dIx (cVar 3) (cVar 0)) (cC .non))) (cTB (cBin (dCmp .LtE) (cBin dIx (cVar 3) (cVar 0)) (cVar 2)))
noncomputable def L_steps_web_3 : MS := sSeq (sAsg (cArgs F_fars_from (cCons (cVar 0) (cCons (cVar 4) (cNil)))) (gNameD 5))
  (sAug 3 dIadd (cComp (iRng rng2 (cCons (cBin dAdd (cVar 4) (cC (.int 1))) (cCons (cVar 2) (cNil)))) [none, some 4, some 1, some 5] (gNameD 0) (T_steps_web_2) (E_steps_web_1)))
noncomputable def B_steps_web : MS := sSeq (sIf (cNotT (cTru (cArgs F_is_whole_from (cCons (cVar 1) (cCons (cC (.int 1)) (cCons (cC (.int 6)) (cNil))))))) (sBad) (sNext))
  (sSeq (sAsg (cBin dIx (cVar 0) (cC (.int 0))) (gNameD 2))
  (sSeq (sAsg (cLst (cNil)) (gNameD 3))
  (sSeq (sFor (iRng rng1 (cCons (cVar 2) (cNil))) (gNameD 4) L_steps_web_3)
  (sRet (cTup (cCons (cVar 2) (cCons (cArgs dTuple (cCons (cVar 3) (cNil))) (cNil))))))))
noncomputable def F_steps_web : List D → Sto → Out D := fnD 2 6 B_steps_web
abbrev st_two_step : Stmt := top 11
theorem sc_two_step : FnScope ["web"] ["web"] (defScope st_two_step) := ⟨rfl, rfl, rfl, by decide +kernel, rfl, by decide +kernel, by decide +kernel⟩
noncomputable def B_two_step : MS := sRet (cArgs F_steps_web (cCons (cVar 0) (cCons (cC (.int 2)) (cNil))))
noncomputable def F_two_step : List D → Sto → Out D := fnD 1 1 B_two_step
abbrev st_without : Stmt := top 13
theorem sc_without : FnScope ["web", "tie", "many", "ties"] ["web", "tie"] (defScope st_without) := ⟨rfl, rfl, rfl, by decide +kernel, rfl, by decide +kernel, by decide +kernel⟩
theorem nd_without_1 : (["other", "tie"] : List Str).Nodup := by decide +kernel
noncomputable def E_without_1 : ME := cVar 0
noncomputable def T_without_2 : MT := cTB (cBin (dEq true) (cVar 0) (cVar 1))
noncomputable def B_without : MS := sSeq (sAsg (cVar 0) (gTupD 2 (gConsD (gNameD 2) (gConsD (gNameD 3) (gNilD)))))
  (sRet (cTup (cCons (cVar 2) (cCons (cArgs dTuple (cCons (cComp (iVal (cVar 3)) [none, some 1] (gNameD 0) (T_without_2) (E_without_1)) (cNil))) (cNil)))))
noncomputable def F_without : List D → Sto → Out D := fnD 2 4 B_without
abbrev st_is_spare : Stmt := top 14
theorem sc_is_spare : FnScope ["web", "tie"] ["web", "tie"] (defScope st_is_spare) := ⟨rfl, rfl, rfl, by decide +kernel, rfl, by decide +kernel, by decide +kernel⟩
noncomputable def B_is_spare : MS := sRet (cBin (dEq false) (cArgs F_two_step (cCons (cArgs F_without (cCons (cVar 0) (cCons (cVar 1) (cNil)))) (cNil))) (cArgs F_two_step (cCons (cVar 0) (cNil))))
noncomputable def F_is_spare : List D → Sto → Out D := fnD 2 2 B_is_spare
abbrev st_spare_ties : Stmt := top 15
theorem sc_spare_ties : FnScope ["web"] ["web"] (defScope st_spare_ties) := ⟨rfl, rfl, rfl, by decide +kernel, rfl, by decide +kernel, by decide +kernel⟩
theorem nd_spare_ties_1 : (["tie", "web"] : List Str).Nodup := by decide +kernel
noncomputable def E_spare_ties_1 : ME := cVar 0
noncomputable def T_spare_ties_2 : MT := cTru (cArgs F_is_spare (cCons (cVar 1) (cCons (cVar 0) (cNil))))
noncomputable def B_spare_ties : MS := sRet (cArgs dTuple (cCons (cComp (iVal (cBin dIx (cVar 0) (cC (.int 1)))) [none, some 0] (gNameD 0) (T_spare_ties_2) (E_spare_ties_1)) (cNil)))
noncomputable def F_spare_ties : List D → Sto → Out D := fnD 1 1 B_spare_ties
abbrev st_thinned : Stmt := top 16
theorem sc_thinned : FnScope ["web", "left", "tie"] ["web"] (defScope st_thinned) := ⟨rfl, rfl, rfl, by decide +kernel, rfl, by decide +kernel, by decide +kernel⟩
noncomputable def L_thinned_1 : MS := sIf (cTru (cArgs F_is_spare (cCons (cVar 1) (cCons (cVar 2) (cNil))))) (sAsg (cArgs F_without (cCons (cVar 1) (cCons (cVar 2) (cNil)))) (gNameD 1)) (sNext)
noncomputable def B_thinned : MS := sSeq (sAsg (cVar 0) (gNameD 1))
  (sSeq (sFor (iVal (cBin dIx (cVar 0) (cC (.int 1)))) (gNameD 2) L_thinned_1)
  (sRet (cVar 1)))
noncomputable def F_thinned : List D → Sto → Out D := fnD 1 3 B_thinned
abbrev st__law_cell_at : Stmt := top 18
theorem sc__law_cell_at : FnScope ["_law_script", "_law_k"] ["_law_script", "_law_k"] (defScope st__law_cell_at) := ⟨rfl, rfl, rfl, by decide +kernel, rfl, by decide +kernel, by decide +kernel⟩
noncomputable def B__law_cell_at : MS := sSeq (sIf (cTB (cBin (dCmp .Lt) (cVar 1) (cArgs dLen (cCons (cVar 0) (cNil))))) (sRet (cBin dIx (cVar 0) (cVar 1))) (sNext))
  (sRet (cC (.int 0)))
noncomputable def F__law_cell_at : List D → Sto → Out D := fnD 2 2 B__law_cell_at
abbrev st__law_next : Stmt := top 19
theorem sc__law_next : FnScope ["_law_seed"] ["_law_seed"] (defScope st__law_next) := ⟨rfl, rfl, rfl, by decide +kernel, rfl, by decide +kernel, by decide +kernel⟩
noncomputable def B__law_next : MS := sSeq (sAsg (cBin dMod (cBin dAdd (cVar 0) (cC (.int 7919))) (cC (.int 2147483647))) (gNameD 0))
  (sRet (cBin dMod (cBin dAdd (cBin dAdd (cBin dMul (cVar 0) (cVar 0)) (cBin dMul (cC (.int 48271)) (cVar 0))) (cC (.int 12345))) (cC (.int 2147483629))))
noncomputable def F__law_next : List D → Sto → Out D := fnD 1 1 B__law_next
abbrev st__law_pen_of : Stmt := top 20
theorem sc__law_pen_of : FnScope ["_law_cell", "_law_left"] ["_law_cell"] (defScope st__law_pen_of) := ⟨rfl, rfl, rfl, by decide +kernel, rfl, by decide +kernel, by decide +kernel⟩
noncomputable def B__law_pen_of : MS := sSeq (sAsg (cArgs dMax (cCons (cVar 0) (cCons (cBin dSub (cC (.int 0)) (cVar 0)) (cNil)))) (gNameD 1))
  (sRet (cLst (cCons (cVar 1) (cCons (cArgs dIntC (cCons (cBin (dCmp .GtE) (cVar 1) (cBin dPow (cC (.int 10)) (cC (.int 18)))) (cNil))) (cCons (cBin dMod (cVar 1) (cC (.int 1000003))) (cNil))))))
noncomputable def F__law_pen_of : List D → Sto → Out D := fnD 1 2 B__law_pen_of
abbrev st__law_draw : Stmt := top 21
theorem sc__law_draw : FnScope ["_law_pen", "_law_many", "_law_found"] ["_law_pen", "_law_many"] (defScope st__law_draw) := ⟨rfl, rfl, rfl, by decide +kernel, rfl, by decide +kernel, by decide +kernel⟩
noncomputable def B__law_draw : MS := sSeq (sIf (cTB (cBin (dEq false) (cBin dIx (cVar 0) (cC (.int 1))) (cC (.int 1)))) (sSeq (sAsg (cBin dMod (cBin dIx (cVar 0) (cC (.int 0))) (cVar 1)) (gNameD 2))
  (sSeq (sAsg (cBin dFdiv (cBin dIx (cVar 0) (cC (.int 0))) (cVar 1)) (gSubD (cVar 0) (cC (.int 0))))
  (sRet (cVar 2)))) (sNext))
  (sSeq (sAsg (cArgs F__law_next (cCons (cBin dAdd (cArgs F__law_next (cCons (cBin dIx (cVar 0) (cC (.int 2))) (cNil))) (cC (.int 7))) (cNil))) (gSubD (cVar 0) (cC (.int 2))))
  (sRet (cBin dMod (cBin dFdiv (cBin dIx (cVar 0) (cC (.int 2))) (cC (.int 64))) (cVar 1))))
noncomputable def F__law_draw : List D → Sto → Out D := fnD 2 3 B__law_draw
abbrev st__law_named : Stmt := top 22
theorem sc__law_named : FnScope ["_law_web", "_law_names", "_law_ties"] ["_law_web", "_law_names"] (defScope st__law_named) := ⟨rfl, rfl, rfl, by decide +kernel, rfl, by decide +kernel, by decide +kernel⟩
theorem nd__law_named_1 : (["_law_one", "_law_other", "_law_names"] : List Str).Nodup := by decide +kernel
theorem nd__law_named_2 : (["_law_tie"] : List Str).Nodup := by decide +kernel
noncomputable def E__law_named_1 : ME := cTup (cCons (cBin dIx (cVar 2) (cVar 0)) (cCons (cBin dIx (cVar 2) (cVar 1)) (cNil)))
noncomputable def E__law_named_2 : ME := cTup (cCons (cArgs dMin (cCons (cVar 0) (cNil))) (cCons (cArgs dMax (cCons (cVar 0) (cNil))) (cNil)))
noncomputable def B__law_named : MS := sSeq (sAsg (cComp (iVal (cBin dIx (cVar 0) (cC (.int 1)))) [none, none, some 1] (gTupD 2 (gConsD (gNameD 0) (gConsD (gNameD 1) (gNilD)))) (cTrue) (E__law_named_1)) (gNameD 2))
  (sRet (cTup (cCons (cBin dIx (cVar 0) (cC (.int 0))) (cCons (cArgs dTuple (cCons (cArgs dSorted (cCons (cArgs dSet (cCons (cComp (iVal (cVar 2)) [none] (gNameD 0) (cTrue) (E__law_named_2)) (cNil))) (cNil))) (cNil))) (cNil)))))
noncomputable def F__law_named : List D → Sto → Out D := fnD 2 3 B__law_named
abbrev st__law_names_by : Stmt := top 23
theorem sc__law_names_by : FnScope ["_law_pen", "_law_many", "_law_left"] ["_law_pen", "_law_many"] (defScope st__law_names_by) := ⟨rfl, rfl, rfl, by decide +kernel, rfl, by decide +kernel, by decide +kernel⟩
theorem nd__law_names_by_1 : (["_law_place", "_law_left", "_law_pen"] : List Str).Nodup := by decide +kernel
noncomputable def E__law_names_by_1 : ME := cMt dPopAt (cVar 1) (cCons (cArgs F__law_draw (cCons (cVar 2) (cCons (cArgs dLen (cCons (cVar 1) (cNil))) (cNil)))) (cNil))
noncomputable def B__law_names_by : MS := sSeq (sAsg (cArgs dListR (cCons (cVar 1) (cNil))) (gNameD 2))
  (sRet (cArgs dTuple (cCons (cComp (iRng rng1 (cCons (cVar 1) (cNil))) [none, some 2, some 0] (gNameD 0) (cTrue) (E__law_names_by_1)) (cNil))))
noncomputable def F__law_names_by : List D → Sto → Out D := fnD 2 3 B__law_names_by
abbrev st__law_far : Stmt := top 24
theorem sc__law_far : FnScope ["_law_web", "_law_many", "_law_far_here", "_law_place", "_law_size", "_law_one", "_law_other", "_law_a", "_law_b"] ["_law_web"] (defScope st__law_far) := ⟨rfl, rfl, rfl, by decide +kernel, rfl, by decide +kernel, by decide +kernel⟩
theorem nd__law_far_1 : (["_law_place", "_law_many"] : List Str).Nodup := by decide +kernel
noncomputable def E__law_far_1 : ME := cBin dMul (cLst (cCons (cC .non) (cNil))) (cVar 1)
noncomputable def L__law_far_2 : MS := sIf (cAndT (cTB (cBin (dEq false) (cBin dIx (cBin dIx (cVar 2) (cVar 3)) (cVar 7)) (cBin dSub (cVar 4) (cC (.int 1))))) (cTB (cBin (dIsN false) (cBin dIx (cBin dIx (cVar 2) (cVar 3)) (cVar 8)) (cC .non)))) (sAsg (cVar 4) (gSubD (cBin dIx (cVar 2) (cVar 3)) (cVar 8))) (sNext)
noncomputable def L__law_far_3 : MS := sFor (iVal (cLst (cCons (cTup (cCons (cVar 5) (cCons (cVar 6) (cNil)))) (cCons (cTup (cCons (cVar 6) (cCons (cVar 5) (cNil)))) (cNil))))) (gTupD 2 (gConsD (gNameD 7) (gConsD (gNameD 8) (gNilD)))) L__law_far_2
noncomputable def L__law_far_4 : MS := sFor (iVal (cBin dIx (cVar 0) (cC (.int 1)))) (gTupD 2 (gConsD (gNameD 5) (gConsD (gNameD 6) (gNilD)))) L__law_far_3
noncomputable def L__law_far_5 : MS := sSeq (sAsg (cC (.int 0)) (gSubD (cBin dIx (cVar 2) (cVar 3)) (cVar 3)))
  (sFor (iRng rng2 (cCons (cC (.int 1)) (cCons (cVar 1) (cNil)))) (gNameD 4) L__law_far_4)
noncomputable def B__law_far : MS := sSeq (sAsg (cBin dIx (cVar 0) (cC (.int 0))) (gNameD 1))
  (sSeq (sAsg (cComp (iRng rng1 (cCons (cVar 1) (cNil))) [none, some 1] (gNameD 0) (cTrue) (E__law_far_1)) (gNameD 2))
  (sSeq (sFor (iRng rng1 (cCons (cVar 1) (cNil))) (gNameD 3) L__law_far_5)
  (sRet (cVar 2))))
noncomputable def F__law_far : List D → Sto → Out D := fnD 1 9 B__law_far
abbrev st__law_steps : Stmt := top 25
theorem sc__law_steps : FnScope ["_law_web", "_law_k", "_law_far_here", "_law_ties", "_law_one"] ["_law_web", "_law_k"] (defScope st__law_steps) := ⟨rfl, rfl, rfl, by decide +kernel, rfl, by decide +kernel, by decide +kernel⟩
theorem nd__law_steps_1 : (["_law_b", "_law_one", "_law_k", "_law_far_here"] : List Str).Nodup := by decide +kernel
noncomputable def E__law_steps_1 : ME := cTup (cCons (cVar 1) (cCons (cVar 0) (cNil)))
noncomputable def T__law_steps_2 : MT := cAndT (cTB (cBin (dIsN true) (cBin dIx (cBin dIx (cVar 3) (cVar 1)) (cVar 0)) (cC .non))) (cTB (cBin (dCmp .LtE) (cBin dIx (cBin dIx (cVar 3) (cVar 1)) (cVar 0)) (cVar 2)))
noncomputable def L__law_steps_3 : MS := sAsg (cBin dAdd (cVar 3) (cComp (iRng rng2 (cCons (cBin dAdd (cVar 4) (cC (.int 1))) (cCons (cBin dIx (cVar 0) (cC (.int 0))) (cNil)))) [none, some 4, some 1, some 2] (gNameD 0) (T__law_steps_2) (E__law_steps_1))) (gNameD 3)
noncomputable def B__law_steps : MS := sSeq (sAsg (cArgs F__law_far (cCons (cVar 0) (cNil))) (gNameD 2))
  (sSeq (sAsg (cLst (cNil)) (gNameD 3))
  (sSeq (sFor (iRng rng1 (cCons (cBin dIx (cVar 0) (cC (.int 0))) (cNil))) (gNameD 4) L__law_steps_3)
  (sRet (cTup (cCons (cBin dIx (cVar 0) (cC (.int 0))) (cCons (cArgs dTuple (cCons (cVar 3) (cNil))) (cNil)))))))
noncomputable def F__law_steps : List D → Sto → Out D := fnD 2 5 B__law_steps
abbrev st__law_sparse_by : Stmt := top 26
theorem sc__law_sparse_by : FnScope ["_law_pen", "_law_way", "_law_many", "_law_every", "_law_other", "_law_ties"] ["_law_pen"] (defScope st__law_sparse_by) := ⟨rfl, rfl, rfl, by decide +kernel, rfl, by decide +kernel, by decide +kernel⟩
theorem nd__law_sparse_by_1 : (["_law_one", "_law_other"] : List Str).Nodup := by decide +kernel
theorem nd__law_sparse_by_2 : (["_law_pair", "_law_pen"] : List Str).Nodup := by decide +kernel
theorem nd__law_sparse_by_3 : (["_law_pair", "_law_pen"] : List Str).Nodup := by decide +kernel
theorem nd__law_sparse_by_4 : (["_law_place"] : List Str).Nodup := by decide +kernel
theorem nd__law_sparse_by_5 : (["_law_place"] : List Str).Nodup := by decide +kernel
theorem nd__law_sparse_by_6 : (["_law_place"] : List Str).Nodup := by decide +kernel
theorem nd__law_sparse_by_7 : (["_law_place", "_law_pen"] : List Str).Nodup := by decide +kernel
noncomputable def E__law_sparse_by_1 : ME := cTup (cCons (cVar 0) (cCons (cVar 1) (cNil)))
noncomputable def L__law_sparse_by_2 : MS := sAsg (cBin dAdd (cVar 3) (cComp (iRng rng1 (cCons (cVar 4) (cNil))) [none, some 4] (gNameD 0) (cTrue) (E__law_sparse_by_1))) (gNameD 3)
noncomputable def E__law_sparse_by_3 : ME := cVar 0
noncomputable def T__law_sparse_by_4 : MT := cTB (cBin (dEq false) (cArgs F__law_draw (cCons (cVar 1) (cCons (cC (.int 2)) (cNil)))) (cC (.int 0)))
noncomputable def E__law_sparse_by_5 : ME := cVar 0
noncomputable def T__law_sparse_by_6 : MT := cTB (cBin (dEq false) (cArgs F__law_draw (cCons (cVar 1) (cCons (cC (.int 3)) (cNil)))) (cC (.int 0)))
noncomputable def E__law_sparse_by_7 : ME := cTup (cCons (cVar 0) (cCons (cBin dAdd (cVar 0) (cC (.int 1))) (cNil)))
noncomputable def E__law_sparse_by_8 : ME := cTup (cCons (cVar 0) (cCons (cBin dAdd (cVar 0) (cC (.int 1))) (cNil)))
noncomputable def E__law_sparse_by_9 : ME := cTup (cCons (cC (.int 0)) (cCons (cVar 0) (cNil)))
noncomputable def E__law_sparse_by_10 : ME := cTup (cCons (cArgs F__law_draw (cCons (cVar 1) (cCons (cVar 0) (cNil)))) (cCons (cVar 0) (cNil)))
noncomputable def B__law_sparse_by : MS := sSeq (sAsg (cArgs F__law_draw (cCons (cVar 0) (cCons (cC (.int 7)) (cNil)))) (gNameD 1))
  (sSeq (sAsg (cBin dAdd (cC (.int 1)) (cArgs F__law_draw (cCons (cVar 0) (cCons (cC (.int 6)) (cNil))))) (gNameD 2))
  (sSeq (sAsg (cLst (cNil)) (gNameD 3))
  (sSeq (sFor (iRng rng1 (cCons (cVar 2) (cNil))) (gNameD 4) L__law_sparse_by_2)
  (sSeq (sIf (cTB (cBin (dEq false) (cVar 1) (cC (.int 0)))) (sAsg (cComp (iVal (cVar 3)) [none, some 0] (gNameD 0) (T__law_sparse_by_4) (E__law_sparse_by_3)) (gNameD 5)) (sIf (cTB (cBin (dEq false) (cVar 1) (cC (.int 1)))) (sAsg (cComp (iVal (cVar 3)) [none, some 0] (gNameD 0) (T__law_sparse_by_6) (E__law_sparse_by_5)) (gNameD 5)) (sIf (cTB (cBin (dEq false) (cVar 1) (cC (.int 2)))) (sAsg (cBin dAdd (cComp (iRng rng1 (cCons (cBin dSub (cVar 2) (cC (.int 1))) (cNil))) [none] (gNameD 0) (cTrue) (E__law_sparse_by_7)) (cBin dMul (cLst (cCons (cTup (cCons (cC (.int 0)) (cCons (cBin dSub (cVar 2) (cC (.int 1))) (cNil)))) (cNil))) (cArgs dIntC (cCons (cBin (dCmp .Gt) (cVar 2) (cC (.int 2))) (cNil))))) (gNameD 5)) (sIf (cTB (cBin (dEq false) (cVar 1) (cC (.int 3)))) (sAsg (cComp (iRng rng1 (cCons (cBin dSub (cVar 2) (cC (.int 1))) (cNil))) [none] (gNameD 0) (cTrue) (E__law_sparse_by_8)) (gNameD 5)) (sIf (cTB (cBin (dEq false) (cVar 1) (cC (.int 4)))) (sAsg (cComp (iRng rng2 (cCons (cC (.int 1)) (cCons (cVar 2) (cNil)))) [none] (gNameD 0) (cTrue) (E__law_sparse_by_9)) (gNameD 5)) (sAsg (cComp (iRng rng2 (cCons (cC (.int 1)) (cCons (cVar 2) (cNil)))) [none, some 0] (gNameD 0) (cTrue) (E__law_sparse_by_10)) (gNameD 5)))))))
  (sRet (cArgs F__law_named (cCons (cTup (cCons (cVar 2) (cCons (cArgs dTuple (cCons (cVar 5) (cNil))) (cNil)))) (cCons (cArgs F__law_names_by (cCons (cVar 0) (cCons (cVar 2) (cNil)))) (cNil)))))))))
noncomputable def F__law_sparse_by : List D → Sto → Out D := fnD 1 6 B__law_sparse_by
abbrev st__law_web_by : Stmt := top 27
theorem sc__law_web_by : FnScope ["_law_pen", "_law_web", "_law_way", "_law_spot", "_law_one", "_law_pair"] ["_law_pen"] (defScope st__law_web_by) := ⟨rfl, rfl, rfl, by decide +kernel, rfl, by decide +kernel, by decide +kernel⟩
noncomputable def B__law_web_by : MS := sSeq (sAsg (cArgs F__law_sparse_by (cCons (cVar 0) (cNil))) (gNameD 1))
  (sSeq (sAsg (cArgs F__law_draw (cCons (cVar 0) (cCons (cC (.int 6)) (cNil)))) (gNameD 2))
  (sSeq (sIf (cTB (cBin (dCmp .Lt) (cVar 2) (cC (.int 3)))) (sAsg (cArgs F__law_steps (cCons (cVar 1) (cCons (cC (.int 2)) (cNil)))) (gNameD 1)) (sNext))
  (sSeq (sIf (cAndT (cTB (cBin (dEq false) (cVar 2) (cC (.int 0)))) (cTB (cBin (dEq true) (cBin dIx (cVar 1) (cC (.int 1))) (cTup (cNil))))) (sSeq (sAsg (cArgs F__law_draw (cCons (cVar 0) (cCons (cArgs dLen (cCons (cBin dIx (cVar 1) (cC (.int 1))) (cNil))) (cNil)))) (gNameD 3))
  (sRet (cTup (cCons (cBin dIx (cVar 1) (cC (.int 0))) (cCons (cBin dAdd (cSl (cBin dIx (cVar 1) (cC (.int 1))) (oNo) (oSome (cVar 3))) (cSl (cBin dIx (cVar 1) (cC (.int 1))) (oSome (cBin dAdd (cVar 3) (cC (.int 1)))) (oNo))) (cNil)))))) (sNext))
  (sSeq (sIf (cAndT (cTB (cBin (dEq false) (cVar 2) (cC (.int 1)))) (cTB (cBin (dCmp .Gt) (cBin dIx (cVar 1) (cC (.int 0))) (cC (.int 1))))) (sSeq (sAsg (cArgs F__law_draw (cCons (cVar 0) (cCons (cBin dIx (cVar 1) (cC (.int 0))) (cNil)))) (gNameD 4))
  (sSeq (sAsg (cArgs dTuple (cCons (cArgs dSorted (cCons (cTup (cCons (cVar 4) (cCons (cBin dMod (cBin dAdd (cBin dAdd (cVar 4) (cC (.int 1))) (cArgs F__law_draw (cCons (cVar 0) (cCons (cBin dSub (cBin dIx (cVar 1) (cC (.int 0))) (cC (.int 1))) (cNil))))) (cBin dIx (cVar 1) (cC (.int 0)))) (cNil)))) (cNil))) (cNil))) (gNameD 5))
  (sRet (cTup (cCons (cBin dIx (cVar 1) (cC (.int 0))) (cCons (cArgs dTuple (cCons (cArgs dSorted (cCons (cArgs dSet (cCons (cBin dAdd (cBin dIx (cVar 1) (cC (.int 1))) (cTup (cCons (cVar 5) (cNil)))) (cNil))) (cNil))) (cNil))) (cNil))))))) (sNext))
  (sRet (cVar 1))))))
noncomputable def F__law_web_by : List D → Sto → Out D := fnD 1 6 B__law_web_by
abbrev st__law_spare : Stmt := top 28
theorem sc__law_spare : FnScope ["_law_web", "_law_tie", "_law_less"] ["_law_web", "_law_tie"] (defScope st__law_spare) := ⟨rfl, rfl, rfl, by decide +kernel, rfl, by decide +kernel, by decide +kernel⟩
theorem nd__law_spare_1 : (["_law_one", "_law_tie"] : List Str).Nodup := by decide +kernel
noncomputable def E__law_spare_1 : ME := cVar 0
noncomputable def T__law_spare_2 : MT := cTB (cBin (dEq true) (cVar 0) (cVar 1))
noncomputable def B__law_spare : MS := sSeq (sAsg (cTup (cCons (cBin dIx (cVar 0) (cC (.int 0))) (cCons (cArgs dTuple (cCons (cComp (iVal (cBin dIx (cVar 0) (cC (.int 1)))) [none, some 1] (gNameD 0) (T__law_spare_2) (E__law_spare_1)) (cNil))) (cNil)))) (gNameD 2))
  (sRet (cBin (dEq false) (cArgs F__law_steps (cCons (cVar 2) (cCons (cC (.int 2)) (cNil)))) (cArgs F__law_steps (cCons (cVar 0) (cCons (cC (.int 2)) (cNil))))))
noncomputable def F__law_spare : List D → Sto → Out D := fnD 2 3 B__law_spare
abbrev st__law_right : Stmt := top 29
theorem sc__law_right : FnScope ["_law_web", "_law_left", "_law_tie"] ["_law_web"] (defScope st__law_right) := ⟨rfl, rfl, rfl, by decide +kernel, rfl, by decide +kernel, by decide +kernel⟩
theorem nd__law_right_1 : (["_law_tie", "_law_web"] : List Str).Nodup := by decide +kernel
theorem nd__law_right_2 : (["_law_one", "_law_tie"] : List Str).Nodup := by decide +kernel
noncomputable def E__law_right_1 : ME := cVar 0
noncomputable def T__law_right_2 : MT := cTru (cArgs F__law_spare (cCons (cVar 1) (cCons (cVar 0) (cNil))))
noncomputable def E__law_right_3 : ME := cVar 0
noncomputable def T__law_right_4 : MT := cTB (cBin (dEq true) (cVar 0) (cVar 1))
noncomputable def L__law_right_5 : MS := sIf (cTru (cArgs F__law_spare (cCons (cVar 1) (cCons (cVar 2) (cNil))))) (sAsg (cTup (cCons (cBin dIx (cVar 1) (cC (.int 0))) (cCons (cArgs dTuple (cCons (cComp (iVal (cBin dIx (cVar 1) (cC (.int 1)))) [none, some 2] (gNameD 0) (T__law_right_4) (E__law_right_3)) (cNil))) (cNil)))) (gNameD 1)) (sNext)
noncomputable def B__law_right : MS := sSeq (sIf (cTB (cBin (dEqS true) (cArgs dRepr (cCons (cArgs F_spare_ties (cCons (cVar 0) (cNil))) (cNil))) (cArgs dRepr (cCons (cArgs dTuple (cCons (cComp (iVal (cBin dIx (cVar 0) (cC (.int 1)))) [none, some 0] (gNameD 0) (T__law_right_2) (E__law_right_1)) (cNil))) (cNil))))) (sRet (cC (.bl false))) (sNext))
  (sSeq (sAsg (cVar 0) (gNameD 1))
  (sSeq (sFor (iVal (cBin dIx (cVar 0) (cC (.int 1)))) (gNameD 2) L__law_right_5)
  (sRet (cBin (dEqS false) (cArgs dRepr (cCons (cArgs F_thinned (cCons (cVar 0) (cNil))) (cNil))) (cArgs dRepr (cCons (cVar 1) (cNil)))))))
noncomputable def F__law_right : List D → Sto → Out D := fnD 1 3 B__law_right
abbrev st_law : Stmt := top 30
theorem sc_law : FnScope ["_law_script", "_law_every", "_law_one", "_law_cell", "_law_pen"] ["_law_script"] (defScope st_law) := ⟨rfl, rfl, rfl, by decide +kernel, rfl, by decide +kernel, by decide +kernel⟩
theorem nd_law_1 : (["_law_other", "_law_one"] : List Str).Nodup := by decide +kernel
noncomputable def E_law_1 : ME := cTup (cCons (cVar 1) (cCons (cVar 0) (cNil)))
noncomputable def L_law_2 : MS := sAsg (cBin dAdd (cVar 1) (cComp (iRng rng2 (cCons (cBin dAdd (cVar 2) (cC (.int 1))) (cCons (cC (.int 6)) (cNil)))) [none, some 2] (gNameD 0) (cTrue) (E_law_1))) (gNameD 1)
noncomputable def L_law_3 : MS := sSeq (sAsg (cArgs F__law_pen_of (cCons (cVar 3) (cNil))) (gNameD 4))
  (sIf (cOrT (cNotT (cTru (cArgs F__law_right (cCons (cArgs F__law_web_by (cCons (cVar 4) (cNil))) (cNil))))) (cNotT (cTru (cArgs F__law_right (cCons (cArgs F__law_steps (cCons (cArgs F__law_sparse_by (cCons (cVar 4) (cNil))) (cCons (cC (.int 2)) (cNil)))) (cNil)))))) (sRet (cC (.bl false))) (sNext))
noncomputable def B_law : MS := sSeq (sAsg (cLst (cNil)) (gNameD 1))
  (sSeq (sFor (iRng rng1 (cCons (cC (.int 6)) (cNil))) (gNameD 2) L_law_2)
  (sSeq (sIf (cOrT (cNotT (cTru (cArgs F__law_right (cCons (cTup (cCons (cC (.int 1)) (cCons (cTup (cNil)) (cNil)))) (cNil))))) (cNotT (cTru (cArgs F__law_right (cCons (cTup (cCons (cC (.int 6)) (cCons (cArgs dTuple (cCons (cVar 1) (cNil))) (cNil)))) (cNil)))))) (sRet (cC (.bl false))) (sNext))
  (sSeq (sFor (iVal (cBin dAdd (cLst (cCons (cArgs F__law_cell_at (cCons (cVar 0) (cCons (cC (.int 0)) (cNil)))) (cNil))) (cSl (cVar 0) (oSome (cC (.int 1))) (oSome (cC (.int 6)))))) (gNameD 3) L_law_3)
  (sRet (cC (.bl true))))))
noncomputable def F_law : List D → Sto → Out D := fnD 1 5 B_law
end
end Lw

set_option Elab.async false
set_option linter.all false
set_option maxRecDepth 100000
set_option maxHeartbeats 4000000
namespace Lw
open PySem L2
section
variable {P : Program} {w : World} {K : PySem.W.Frag} {mg : Str → Option Value} {base : Heap}
theorem ok_is_whole (nm : Nm mg) {f : Addr} {fd : FuncData} (F : Fun K "is_whole" "is_whole" st_is_whole f fd) (hm : mg "is_whole" = some (.ref f)) : Def P w K mg base (pa0 K w) 1 "is_whole" 1 F_is_whole :=
  x_def F sc_is_whole rfl hm (F.binds fun _ _ _ _ _ _ us hl => match us, hl with | [_], _ => rfl) fun cdv A outer s H E hr =>
  z_one (z_ret (x_and (w_isi (T := "int") (by decide) bt_int (by decide) (by decide) nm.isinstance nm.int (w_v 0)) (w_one (x_not (w_isi (T := "bool") (by decide) bt_bool (by decide) (by decide) nm.isinstance nm.bool (w_v 0))))))

end
end Lw

set_option Elab.async false
set_option linter.all false
set_option maxRecDepth 100000
set_option maxHeartbeats 4000000
namespace Lw
open PySem L2
section
variable {P : Program} {w : World} {K : PySem.W.Frag} {mg : Str → Option Value} {base : Heap}
theorem ok_is_whole_from (nm : Nm mg) {f : Addr} {fd : FuncData} (F : Fun K "is_whole_from" "is_whole_from" st_is_whole_from f fd) (hm : mg "is_whole_from" = some (.ref f)) (d_is_whole : Def P w K mg base (pa0 K w) 1 "is_whole" 1 F_is_whole) : Def P w K mg base (pa0 K w) 2 "is_whole_from" 3 F_is_whole_from :=
  x_def F sc_is_whole_from rfl hm (F.binds fun _ _ _ _ _ _ us hl => match us, hl with | [_, _, _], _ => rfl) fun cdv A outer s H E hr =>
  z_one (z_ret (x_and (w_call d_is_whole (hr.mono (by decide)) (a_c (w_v 0) (a_n))) (w_one (w_chn (k_ord (op := .LtE) hr.units) (k_ord (op := .LtE) hr.units) (w_v 1) (w_v 0) (w_v 2)))))

end
end Lw

set_option Elab.async false
set_option linter.all false
set_option maxRecDepth 100000
set_option maxHeartbeats 4000000
namespace Lw
open PySem L2
section
variable {P : Program} {w : World} {K : PySem.W.Frag} {mg : Str → Option Value} {base : Heap}
theorem ok_next_places (nm : Nm mg) {f : Addr} {fd : FuncData} (F : Fun K "next_places" "next_places" st_next_places f fd) (hm : mg "next_places" = some (.ref f)) : Def P w K mg base (pa0 K w) 1 "next_places" 2 F_next_places :=
  x_def F sc_next_places rfl hm (F.binds fun _ _ _ _ _ _ us hl => match us, hl with | [_, _], _ => rfl) fun cdv A outer s H E hr =>
  z_one (z_ret (w_add (w_comp (comp_of (N := ["ties", "front"]) (sc := defScope st_next_places) (Nc := ["a", "b", "front"]) (cap := [none, none, some 1]) rfl rfl (by decide +kernel)) (i_v (w_v 0)) (fun _ _ _ _ _ => g_tup (g_cons (g_n 0 nd_next_places_1) (g_cons (g_n 1 nd_next_places_1) (g_nil)))) (fun _ _ _ _ _ => y_one (t_cmp (k_in hr.units) (w_v 0) (w_v 2))) (fun _ _ _ _ _ => w_v 1)) (w_comp (comp_of (N := ["ties", "front"]) (sc := defScope st_next_places) (Nc := ["a", "b", "front"]) (cap := [none, none, some 1]) rfl rfl (by decide +kernel)) (i_v (w_v 0)) (fun _ _ _ _ _ => g_tup (g_cons (g_n 0 nd_next_places_2) (g_cons (g_n 1 nd_next_places_2) (g_nil)))) (fun _ _ _ _ _ => y_one (t_cmp (k_in hr.units) (w_v 1) (w_v 2))) (fun _ _ _ _ _ => w_v 0))))

end
end Lw

set_option Elab.async false
set_option linter.all false
set_option maxRecDepth 100000
set_option maxHeartbeats 4000000
namespace Lw
open PySem L2
section
variable {P : Program} {w : World} {K : PySem.W.Frag} {mg : Str → Option Value} {base : Heap}
theorem ok_fars_from (nm : Nm mg) {f : Addr} {fd : FuncData} (F : Fun K "fars_from" "fars_from" st_fars_from f fd) (hm : mg "fars_from" = some (.ref f)) (d_next_places : Def P w K mg base (pa0 K w) 1 "next_places" 2 F_next_places) : Def P w K mg base (pa0 K w) 2 "fars_from" 2 F_fars_from :=
  x_def F sc_fars_from rfl hm (F.binds fun _ _ _ _ _ _ us hl => match us, hl with | [_, _], _ => rfl) fun cdv A outer s H E hr =>
  z_cons (s_asg (w_v 0) (g_tup (g_cons (g_n 2 sc_fars_from.nd) (g_cons (g_n 3 sc_fars_from.nd) (g_nil)))))
  (z_cons (s_set 4 sc_fars_from.nd (w_mul (x_lst (a_c (w_n) (a_n))) (w_v 2)))
  (z_cons (s_asg (w_i) (g_sub (w_v 4) (w_v 1)))
  (z_cons (s_set 5 sc_fars_from.nd (w_i))
  (z_cons (s_set 6 sc_fars_from.nd (x_lst (a_c (w_v 1) (a_n))))
  (z_cons (s_while 100 PassesOwn.never (t_v (w_v 6)) (z_cons (s_aug 5 sc_fars_from.nd (w_i))
  (z_cons (s_setC 6 sc_fars_from.nd (comp_of (N := ["web", "start", "many", "ties", "fars", "far", "front", "place"]) (sc := defScope st_fars_from) (Nc := ["place", "fars"]) (cap := [none, some 4]) rfl rfl (by decide +kernel)) (i_v (w_call d_next_places (hr.mono (by decide)) (a_c (w_v 3) (a_c (w_v 6) (a_n))))) (fun _ _ _ _ _ => g_n 0 nd_fars_from_1) (fun _ _ _ _ _ => y_one (t_cmp (k_isN) (w_ix (w_v 1) (w_v 0)) (w_n))) (fun _ _ _ _ _ => w_v 0))
  (z_one (s_for PassesOwn.never (i_v (w_v 6)) (g_n 7 sc_fars_from.nd) (z_one (s_asg (w_v 5) (g_sub (w_v 4) (w_v 7)))))))))
  (z_one (z_ret (w_v 4))))))))

end
end Lw

set_option Elab.async false
set_option linter.all false
set_option maxRecDepth 100000
set_option maxHeartbeats 4000000
namespace Lw
open PySem L2
section
variable {P : Program} {w : World} {K : PySem.W.Frag} {mg : Str → Option Value} {base : Heap}
theorem ok_steps_web (nm : Nm mg) {f : Addr} {fd : FuncData} (F : Fun K "steps_web" "steps_web" st_steps_web f fd) (hm : mg "steps_web" = some (.ref f)) (c_MOST_STEPS : ∃ t, mg "MOST_STEPS" = some (.int 6 t)) (d_is_whole_from : Def P w K mg base (pa0 K w) 2 "is_whole_from" 3 F_is_whole_from) (d_fars_from : Def P w K mg base (pa0 K w) 2 "fars_from" 2 F_fars_from) : Def P w K mg base (pa0 K w) 3 "steps_web" 2 F_steps_web :=
  x_def F sc_steps_web rfl hm (F.binds fun _ _ _ _ _ _ us hl => match us, hl with | [_, _], _ => rfl) fun cdv A outer s H E hr =>
  z_cons (z_if (y_not (t_v (w_call d_is_whole_from (hr.mono (by decide)) (a_c (w_v 1) (a_c (w_i) (a_c (w_gi c_MOST_STEPS) (a_n))))))) (z_one (z_never)) (z_nil))
  (z_cons (s_set 2 sc_steps_web.nd (w_ix (w_v 0) (w_i)))
  (z_cons (s_set 3 sc_steps_web.nd (x_lst (a_n)))
  (z_cons (s_for PassesOwn.never (i_r1 nm.range (a_c (w_v 2) (a_n))) (g_n 4 sc_steps_web.nd) (z_cons (s_set 5 sc_steps_web.nd (w_call d_fars_from (hr.mono (by decide)) (a_c (w_v 0) (a_c (w_v 4) (a_n)))))
  (z_one (s_aug 3 sc_steps_web.nd (w_comp (comp_of (N := ["web", "k", "many", "ties", "one", "fars"]) (sc := defScope st_steps_web) (Nc := ["other", "one", "k", "fars"]) (cap := [none, some 4, some 1, some 5]) rfl rfl (by decide +kernel)) (i_r2 nm.range (a_c (w_add (w_v 4) (w_i)) (a_c (w_v 2) (a_n)))) (fun _ _ _ _ _ => g_n 0 nd_steps_web_1) (fun _ _ _ _ _ => y_one (y_pt (t_and (t_cmp (k_notN) (w_ix (w_v 3) (w_v 0)) (w_n)) (t_and1 (t_cmp (k_ord (op := .LtE) hr.units) (w_ix (w_v 3) (w_v 0)) (w_v 2)))))) (fun _ _ _ _ _ => x_tup (a_c (w_v 1) (a_c (w_v 0) (a_n)))))))))
  (z_one (z_ret (x_tup (a_c (w_v 2) (a_c (w_blt b_tuple nm.tuple (a_c (w_v 3) (a_n))) (a_n)))))))))

end
end Lw

set_option Elab.async false
set_option linter.all false
set_option maxRecDepth 100000
set_option maxHeartbeats 4000000
namespace Lw
open PySem L2
section
variable {P : Program} {w : World} {K : PySem.W.Frag} {mg : Str → Option Value} {base : Heap}
theorem ok_two_step (nm : Nm mg) {f : Addr} {fd : FuncData} (F : Fun K "two_step" "two_step" st_two_step f fd) (hm : mg "two_step" = some (.ref f)) (d_steps_web : Def P w K mg base (pa0 K w) 3 "steps_web" 2 F_steps_web) : Def P w K mg base (pa0 K w) 4 "two_step" 1 F_two_step :=
  x_def F sc_two_step rfl hm (F.binds fun _ _ _ _ _ _ us hl => match us, hl with | [_], _ => rfl) fun cdv A outer s H E hr =>
  z_one (z_ret (w_call d_steps_web (hr.mono (by decide)) (a_c (w_v 0) (a_c (w_i) (a_n)))))

end
end Lw

set_option Elab.async false
set_option linter.all false
set_option maxRecDepth 100000
set_option maxHeartbeats 4000000
namespace Lw
open PySem L2
section
variable {P : Program} {w : World} {K : PySem.W.Frag} {mg : Str → Option Value} {base : Heap}
theorem ok_without (nm : Nm mg) {f : Addr} {fd : FuncData} (F : Fun K "without" "without" st_without f fd) (hm : mg "without" = some (.ref f)) : Def P w K mg base (pa0 K w) 1 "without" 2 F_without :=
  x_def F sc_without rfl hm (F.binds fun _ _ _ _ _ _ us hl => match us, hl with | [_, _], _ => rfl) fun cdv A outer s H E hr =>
  z_cons (s_asg (w_v 0) (g_tup (g_cons (g_n 2 sc_without.nd) (g_cons (g_n 3 sc_without.nd) (g_nil)))))
  (z_one (z_ret (x_tup (a_c (w_v 2) (a_c (w_blt b_tuple nm.tuple (a_c (w_comp (comp_of (N := ["web", "tie", "many", "ties"]) (sc := defScope st_without) (Nc := ["other", "tie"]) (cap := [none, some 1]) rfl rfl (by decide +kernel)) (i_v (w_v 3)) (fun _ _ _ _ _ => g_n 0 nd_without_1) (fun _ _ _ _ _ => y_one (t_cmp (k_ne hr.units) (w_v 0) (w_v 1))) (fun _ _ _ _ _ => w_v 0)) (a_n))) (a_n))))))

end
end Lw

set_option Elab.async false
set_option linter.all false
set_option maxRecDepth 100000
set_option maxHeartbeats 4000000
namespace Lw
open PySem L2
section
variable {P : Program} {w : World} {K : PySem.W.Frag} {mg : Str → Option Value} {base : Heap}
theorem ok_is_spare (nm : Nm mg) {f : Addr} {fd : FuncData} (F : Fun K "is_spare" "is_spare" st_is_spare f fd) (hm : mg "is_spare" = some (.ref f)) (d_two_step : Def P w K mg base (pa0 K w) 4 "two_step" 1 F_two_step) (d_without : Def P w K mg base (pa0 K w) 1 "without" 2 F_without) : Def P w K mg base (pa0 K w) 5 "is_spare" 2 F_is_spare :=
  x_def F sc_is_spare rfl hm (F.binds fun _ _ _ _ _ _ us hl => match us, hl with | [_, _], _ => rfl) fun cdv A outer s H E hr =>
  z_one (z_ret (w_cmp (k_eq hr.units) (w_call d_two_step (hr.mono (by decide)) (a_c (w_call d_without (hr.mono (by decide)) (a_c (w_v 0) (a_c (w_v 1) (a_n)))) (a_n))) (w_call d_two_step (hr.mono (by decide)) (a_c (w_v 0) (a_n)))))

end
end Lw

set_option Elab.async false
set_option linter.all false
set_option maxRecDepth 100000
set_option maxHeartbeats 4000000
namespace Lw
open PySem L2
section
variable {P : Program} {w : World} {K : PySem.W.Frag} {mg : Str → Option Value} {base : Heap}
theorem ok_spare_ties (nm : Nm mg) {f : Addr} {fd : FuncData} (F : Fun K "spare_ties" "spare_ties" st_spare_ties f fd) (hm : mg "spare_ties" = some (.ref f)) (d_is_spare : Def P w K mg base (pa0 K w) 5 "is_spare" 2 F_is_spare) : Def P w K mg base (pa0 K w) 6 "spare_ties" 1 F_spare_ties :=
  x_def F sc_spare_ties rfl hm (F.binds fun _ _ _ _ _ _ us hl => match us, hl with | [_], _ => rfl) fun cdv A outer s H E hr =>
  z_one (z_ret (w_blt b_tuple nm.tuple (a_c (w_comp (comp_of (N := ["web"]) (sc := defScope st_spare_ties) (Nc := ["tie", "web"]) (cap := [none, some 0]) rfl rfl (by decide +kernel)) (i_v (w_ix (w_v 0) (w_i))) (fun _ _ _ _ _ => g_n 0 nd_spare_ties_1) (fun _ _ _ _ _ => y_one (t_v (w_call d_is_spare (hr.mono (by decide)) (a_c (w_v 1) (a_c (w_v 0) (a_n)))))) (fun _ _ _ _ _ => w_v 0)) (a_n))))

end
end Lw

set_option Elab.async false
set_option linter.all false
set_option maxRecDepth 100000
set_option maxHeartbeats 4000000
namespace Lw
open PySem L2
section
variable {P : Program} {w : World} {K : PySem.W.Frag} {mg : Str → Option Value} {base : Heap}
theorem ok_thinned (nm : Nm mg) {f : Addr} {fd : FuncData} (F : Fun K "thinned" "thinned" st_thinned f fd) (hm : mg "thinned" = some (.ref f)) (d_is_spare : Def P w K mg base (pa0 K w) 5 "is_spare" 2 F_is_spare) (d_without : Def P w K mg base (pa0 K w) 1 "without" 2 F_without) : Def P w K mg base (pa0 K w) 6 "thinned" 1 F_thinned :=
  x_def F sc_thinned rfl hm (F.binds fun _ _ _ _ _ _ us hl => match us, hl with | [_], _ => rfl) fun cdv A outer s H E hr =>
  z_cons (s_set 1 sc_thinned.nd (w_v 0))
  (z_cons (s_for PassesOwn.never (i_v (w_ix (w_v 0) (w_i))) (g_n 2 sc_thinned.nd) (z_one (z_if (t_v (w_call d_is_spare (hr.mono (by decide)) (a_c (w_v 1) (a_c (w_v 2) (a_n))))) (z_one (s_set 1 sc_thinned.nd (w_call d_without (hr.mono (by decide)) (a_c (w_v 1) (a_c (w_v 2) (a_n)))))) (z_nil))))
  (z_one (z_ret (w_v 1))))

end
end Lw

set_option Elab.async false
set_option linter.all false
set_option maxRecDepth 100000
set_option maxHeartbeats 4000000
namespace Lw
open PySem L2
section
variable {P : Program} {w : World} {K : PySem.W.Frag} {mg : Str → Option Value} {base : Heap}
theorem ok__law_cell_at (nm : Nm mg) {f : Addr} {fd : FuncData} (F : Fun K "_law_cell_at" "_law_cell_at" st__law_cell_at f fd) (hm : mg "_law_cell_at" = some (.ref f)) : Def P w K mg base (pa0 K w) 1 "_law_cell_at" 2 F__law_cell_at :=
  x_def F sc__law_cell_at rfl hm (F.binds fun _ _ _ _ _ _ us hl => match us, hl with | [_, _], _ => rfl) fun cdv A outer s H E hr =>
  z_cons (z_if (t_cmp (k_ord (op := .Lt) hr.units) (w_v 1) (w_blt b_len nm.len (a_c (w_v 0) (a_n)))) (z_one (z_ret (w_ix (w_v 0) (w_v 1)))) (z_nil))
  (z_one (z_ret (w_i)))

end
end Lw

set_option Elab.async false
set_option linter.all false
set_option maxRecDepth 100000
set_option maxHeartbeats 4000000
namespace Lw
open PySem L2
section
variable {P : Program} {w : World} {K : PySem.W.Frag} {mg : Str → Option Value} {base : Heap}
theorem ok__law_next (nm : Nm mg) {f : Addr} {fd : FuncData} (F : Fun K "_law_next" "_law_next" st__law_next f fd) (hm : mg "_law_next" = some (.ref f)) : Def P w K mg base (pa0 K w) 1 "_law_next" 1 F__law_next :=
  x_def F sc__law_next rfl hm (F.binds fun _ _ _ _ _ _ us hl => match us, hl with | [_], _ => rfl) fun cdv A outer s H E hr =>
  z_cons (s_set 0 sc__law_next.nd (w_mod (w_add (w_v 0) (w_i)) (w_i)))
  (z_one (z_ret (w_mod (w_add (w_add (w_mul (w_v 0) (w_v 0)) (w_mul (w_i) (w_v 0))) (w_i)) (w_i))))

end
end Lw

set_option Elab.async false
set_option linter.all false
set_option maxRecDepth 100000
set_option maxHeartbeats 4000000
namespace Lw
open PySem L2
section
variable {P : Program} {w : World} {K : PySem.W.Frag} {mg : Str → Option Value} {base : Heap}
theorem ok__law_pen_of (nm : Nm mg) {f : Addr} {fd : FuncData} (F : Fun K "_law_pen_of" "_law_pen_of" st__law_pen_of f fd) (hm : mg "_law_pen_of" = some (.ref f)) : Def P w K mg base (pa0 K w) 1 "_law_pen_of" 1 F__law_pen_of :=
  x_def F sc__law_pen_of rfl hm (F.binds fun _ _ _ _ _ _ us hl => match us, hl with | [_], _ => rfl) fun cdv A outer s H E hr =>
  z_cons (s_set 1 sc__law_pen_of.nd (w_blt b_max nm.max (a_c (w_v 0) (a_c (w_sub (w_i) (w_v 0)) (a_n)))))
  (z_one (z_ret (x_lst (a_c (w_v 1) (a_c (w_blt b_int nm.int (a_c (w_cmp (k_ord (op := .GtE) hr.units) (w_v 1) (w_pow (w_i) (w_i))) (a_n))) (a_c (w_mod (w_v 1) (w_i)) (a_n)))))))

end
end Lw

set_option Elab.async false
set_option linter.all false
set_option maxRecDepth 100000
set_option maxHeartbeats 4000000
namespace Lw
open PySem L2
section
variable {P : Program} {w : World} {K : PySem.W.Frag} {mg : Str → Option Value} {base : Heap}
theorem ok__law_draw (nm : Nm mg) {f : Addr} {fd : FuncData} (F : Fun K "_law_draw" "_law_draw" st__law_draw f fd) (hm : mg "_law_draw" = some (.ref f)) (d__law_next : Def P w K mg base (pa0 K w) 1 "_law_next" 1 F__law_next) : Def P w K mg base (pa0 K w) 2 "_law_draw" 2 F__law_draw :=
  x_def F sc__law_draw rfl hm (F.binds fun _ _ _ _ _ _ us hl => match us, hl with | [_, _], _ => rfl) fun cdv A outer s H E hr =>
  z_cons (z_if (t_cmp (k_eq hr.units) (w_ix (w_v 0) (w_i)) (w_i)) (z_cons (s_set 2 sc__law_draw.nd (w_mod (w_ix (w_v 0) (w_i)) (w_v 1)))
  (z_cons (s_asg (w_fdiv (w_ix (w_v 0) (w_i)) (w_v 1)) (g_sub (w_v 0) (w_i)))
  (z_one (z_ret (w_v 2))))) (z_nil))
  (z_cons (s_asg (w_call d__law_next (hr.mono (by decide)) (a_c (w_add (w_call d__law_next (hr.mono (by decide)) (a_c (w_ix (w_v 0) (w_i)) (a_n))) (w_i)) (a_n))) (g_sub (w_v 0) (w_i)))
  (z_one (z_ret (w_mod (w_fdiv (w_ix (w_v 0) (w_i)) (w_i)) (w_v 1)))))

end
end Lw

set_option Elab.async false
set_option linter.all false
set_option maxRecDepth 100000
set_option maxHeartbeats 4000000
namespace Lw
open PySem L2
section
variable {P : Program} {w : World} {K : PySem.W.Frag} {mg : Str → Option Value} {base : Heap}
theorem ok__law_named (nm : Nm mg) {f : Addr} {fd : FuncData} (F : Fun K "_law_named" "_law_named" st__law_named f fd) (hm : mg "_law_named" = some (.ref f)) : Def P w K mg base (pa0 K w) 1 "_law_named" 2 F__law_named :=
  x_def F sc__law_named rfl hm (F.binds fun _ _ _ _ _ _ us hl => match us, hl with | [_, _], _ => rfl) fun cdv A outer s H E hr =>
  z_cons (s_setC 2 sc__law_named.nd (comp_of (N := ["_law_web", "_law_names", "_law_ties"]) (sc := defScope st__law_named) (Nc := ["_law_one", "_law_other", "_law_names"]) (cap := [none, none, some 1]) rfl rfl (by decide +kernel)) (i_v (w_ix (w_v 0) (w_i))) (fun _ _ _ _ _ => g_tup (g_cons (g_n 0 nd__law_named_1) (g_cons (g_n 1 nd__law_named_1) (g_nil)))) (fun _ _ _ _ _ => y_nil) (fun _ _ _ _ _ => x_tup (a_c (w_ix (w_v 2) (w_v 0)) (a_c (w_ix (w_v 2) (w_v 1)) (a_n)))))
  (z_one (z_ret (x_tup (a_c (w_ix (w_v 0) (w_i)) (a_c (w_blt b_tuple nm.tuple (a_c (w_blt b_sorted nm.sorted (a_c (w_blt (b_set hr.units) nm.set (a_c (w_comp (comp_of (N := ["_law_web", "_law_names", "_law_ties"]) (sc := defScope st__law_named) (Nc := ["_law_tie"]) (cap := [none]) rfl rfl (by decide +kernel)) (i_v (w_v 2)) (fun _ _ _ _ _ => g_n 0 nd__law_named_2) (fun _ _ _ _ _ => y_nil) (fun _ _ _ _ _ => x_tup (a_c (w_blt b_min nm.min (a_c (w_v 0) (a_n))) (a_c (w_blt b_max nm.max (a_c (w_v 0) (a_n))) (a_n))))) (a_n))) (a_n))) (a_n))) (a_n))))))

end
end Lw

set_option Elab.async false
set_option linter.all false
set_option maxRecDepth 100000
set_option maxHeartbeats 4000000
namespace Lw
open PySem L2
section
variable {P : Program} {w : World} {K : PySem.W.Frag} {mg : Str → Option Value} {base : Heap}
theorem ok__law_names_by (nm : Nm mg) {f : Addr} {fd : FuncData} (F : Fun K "_law_names_by" "_law_names_by" st__law_names_by f fd) (hm : mg "_law_names_by" = some (.ref f)) (d__law_draw : Def P w K mg base (pa0 K w) 2 "_law_draw" 2 F__law_draw) : Def P w K mg base (pa0 K w) 3 "_law_names_by" 2 F__law_names_by :=
  x_def F sc__law_names_by rfl hm (F.binds fun _ _ _ _ _ _ us hl => match us, hl with | [_, _], _ => rfl) fun cdv A outer s H E hr =>
  z_cons (s_set 2 sc__law_names_by.nd (w_lrng nm.range nm.list (a_c (w_v 1) (a_n))))
  (z_one (z_ret (w_blt b_tuple nm.tuple (a_c (w_comp (comp_of (N := ["_law_pen", "_law_many", "_law_left"]) (sc := defScope st__law_names_by) (Nc := ["_law_place", "_law_left", "_law_pen"]) (cap := [none, some 2, some 0]) rfl rfl (by decide +kernel)) (i_r1 nm.range (a_c (w_v 1) (a_n))) (fun _ _ _ _ _ => g_n 0 nd__law_names_by_1) (fun _ _ _ _ _ => y_nil) (fun _ _ _ _ _ => w_pop (w_v 1) (a_c (w_call d__law_draw (hr.mono (by decide)) (a_c (w_v 2) (a_c (w_blt b_len nm.len (a_c (w_v 1) (a_n))) (a_n)))) (a_n)))) (a_n)))))

end
end Lw

set_option Elab.async false
set_option linter.all false
set_option maxRecDepth 100000
set_option maxHeartbeats 4000000
namespace Lw
open PySem L2
section
variable {P : Program} {w : World} {K : PySem.W.Frag} {mg : Str → Option Value} {base : Heap}
theorem ok__law_far (nm : Nm mg) {f : Addr} {fd : FuncData} (F : Fun K "_law_far" "_law_far" st__law_far f fd) (hm : mg "_law_far" = some (.ref f)) : Def P w K mg base (pa0 K w) 1 "_law_far" 1 F__law_far :=
  x_def F sc__law_far rfl hm (F.binds fun _ _ _ _ _ _ us hl => match us, hl with | [_], _ => rfl) fun cdv A outer s H E hr =>
  z_cons (s_set 1 sc__law_far.nd (w_ix (w_v 0) (w_i)))
  (z_cons (s_setC 2 sc__law_far.nd (comp_of (N := ["_law_web", "_law_many", "_law_far_here", "_law_place", "_law_size", "_law_one", "_law_other", "_law_a", "_law_b"]) (sc := defScope st__law_far) (Nc := ["_law_place", "_law_many"]) (cap := [none, some 1]) rfl rfl (by decide +kernel)) (i_r1 nm.range (a_c (w_v 1) (a_n))) (fun _ _ _ _ _ => g_n 0 nd__law_far_1) (fun _ _ _ _ _ => y_nil) (fun _ _ _ _ _ => w_mul (x_lst (a_c (w_n) (a_n))) (w_v 1)))
  (z_cons (s_for PassesOwn.never (i_r1 nm.range (a_c (w_v 1) (a_n))) (g_n 3 sc__law_far.nd) (z_cons (s_asg (w_i) (g_sub (w_ix (w_v 2) (w_v 3)) (w_v 3)))
  (z_one (s_for PassesOwn.never (i_r2 nm.range (a_c (w_i) (a_c (w_v 1) (a_n)))) (g_n 4 sc__law_far.nd) (z_one (s_for PassesOwn.never (i_v (w_ix (w_v 0) (w_i))) (g_tup (g_cons (g_n 5 sc__law_far.nd) (g_cons (g_n 6 sc__law_far.nd) (g_nil)))) (z_one (s_for PassesOwn.never (i_v (x_lst (a_c (x_tup (a_c (w_v 5) (a_c (w_v 6) (a_n)))) (a_c (x_tup (a_c (w_v 6) (a_c (w_v 5) (a_n)))) (a_n))))) (g_tup (g_cons (g_n 7 sc__law_far.nd) (g_cons (g_n 8 sc__law_far.nd) (g_nil)))) (z_one (z_if (y_pt (t_and (t_cmp (k_eq hr.units) (w_ix (w_ix (w_v 2) (w_v 3)) (w_v 7)) (w_sub (w_v 4) (w_i))) (t_and1 (t_cmp (k_isN) (w_ix (w_ix (w_v 2) (w_v 3)) (w_v 8)) (w_n))))) (z_one (s_asg (w_v 4) (g_sub (w_ix (w_v 2) (w_v 3)) (w_v 8)))) (z_nil)))))))))))
  (z_one (z_ret (w_v 2)))))

end
end Lw

set_option Elab.async false
set_option linter.all false
set_option maxRecDepth 100000
set_option maxHeartbeats 4000000
namespace Lw
open PySem L2
section
variable {P : Program} {w : World} {K : PySem.W.Frag} {mg : Str → Option Value} {base : Heap}
theorem ok__law_steps (nm : Nm mg) {f : Addr} {fd : FuncData} (F : Fun K "_law_steps" "_law_steps" st__law_steps f fd) (hm : mg "_law_steps" = some (.ref f)) (d__law_far : Def P w K mg base (pa0 K w) 1 "_law_far" 1 F__law_far) : Def P w K mg base (pa0 K w) 2 "_law_steps" 2 F__law_steps :=
  x_def F sc__law_steps rfl hm (F.binds fun _ _ _ _ _ _ us hl => match us, hl with | [_, _], _ => rfl) fun cdv A outer s H E hr =>
  z_cons (s_set 2 sc__law_steps.nd (w_call d__law_far (hr.mono (by decide)) (a_c (w_v 0) (a_n))))
  (z_cons (s_set 3 sc__law_steps.nd (x_lst (a_n)))
  (z_cons (s_for PassesOwn.never (i_r1 nm.range (a_c (w_ix (w_v 0) (w_i)) (a_n))) (g_n 4 sc__law_steps.nd) (z_one (s_set 3 sc__law_steps.nd (w_add (w_v 3) (w_comp (comp_of (N := ["_law_web", "_law_k", "_law_far_here", "_law_ties", "_law_one"]) (sc := defScope st__law_steps) (Nc := ["_law_b", "_law_one", "_law_k", "_law_far_here"]) (cap := [none, some 4, some 1, some 2]) rfl rfl (by decide +kernel)) (i_r2 nm.range (a_c (w_add (w_v 4) (w_i)) (a_c (w_ix (w_v 0) (w_i)) (a_n)))) (fun _ _ _ _ _ => g_n 0 nd__law_steps_1) (fun _ _ _ _ _ => y_one (y_pt (t_and (t_cmp (k_notN) (w_ix (w_ix (w_v 3) (w_v 1)) (w_v 0)) (w_n)) (t_and1 (t_cmp (k_ord (op := .LtE) hr.units) (w_ix (w_ix (w_v 3) (w_v 1)) (w_v 0)) (w_v 2)))))) (fun _ _ _ _ _ => x_tup (a_c (w_v 1) (a_c (w_v 0) (a_n)))))))))
  (z_one (z_ret (x_tup (a_c (w_ix (w_v 0) (w_i)) (a_c (w_blt b_tuple nm.tuple (a_c (w_v 3) (a_n))) (a_n))))))))

end
end Lw

set_option Elab.async false
set_option linter.all false
set_option maxRecDepth 100000
set_option maxHeartbeats 4000000
namespace Lw
open PySem L2
section
variable {P : Program} {w : World} {K : PySem.W.Frag} {mg : Str → Option Value} {base : Heap}
theorem ok__law_sparse_by (nm : Nm mg) {f : Addr} {fd : FuncData} (F : Fun K "_law_sparse_by" "_law_sparse_by" st__law_sparse_by f fd) (hm : mg "_law_sparse_by" = some (.ref f)) (d__law_draw : Def P w K mg base (pa0 K w) 2 "_law_draw" 2 F__law_draw) (d__law_named : Def P w K mg base (pa0 K w) 1 "_law_named" 2 F__law_named) (d__law_names_by : Def P w K mg base (pa0 K w) 3 "_law_names_by" 2 F__law_names_by) : Def P w K mg base (pa0 K w) 4 "_law_sparse_by" 1 F__law_sparse_by :=
  x_def F sc__law_sparse_by rfl hm (F.binds fun _ _ _ _ _ _ us hl => match us, hl with | [_], _ => rfl) fun cdv A outer s H E hr =>
  z_cons (s_set 1 sc__law_sparse_by.nd (w_call d__law_draw (hr.mono (by decide)) (a_c (w_v 0) (a_c (w_i) (a_n)))))
  (z_cons (s_set 2 sc__law_sparse_by.nd (w_add (w_i) (w_call d__law_draw (hr.mono (by decide)) (a_c (w_v 0) (a_c (w_i) (a_n))))))
  (z_cons (s_set 3 sc__law_sparse_by.nd (x_lst (a_n)))
  (z_cons (s_for PassesOwn.never (i_r1 nm.range (a_c (w_v 2) (a_n))) (g_n 4 sc__law_sparse_by.nd) (z_one (s_set 3 sc__law_sparse_by.nd (w_add (w_v 3) (w_comp (comp_of (N := ["_law_pen", "_law_way", "_law_many", "_law_every", "_law_other", "_law_ties"]) (sc := defScope st__law_sparse_by) (Nc := ["_law_one", "_law_other"]) (cap := [none, some 4]) rfl rfl (by decide +kernel)) (i_r1 nm.range (a_c (w_v 4) (a_n))) (fun _ _ _ _ _ => g_n 0 nd__law_sparse_by_1) (fun _ _ _ _ _ => y_nil) (fun _ _ _ _ _ => x_tup (a_c (w_v 0) (a_c (w_v 1) (a_n)))))))))
  (z_cons (z_if (t_cmp (k_eq hr.units) (w_v 1) (w_i)) (z_one (s_setC 5 sc__law_sparse_by.nd (comp_of (N := ["_law_pen", "_law_way", "_law_many", "_law_every", "_law_other", "_law_ties"]) (sc := defScope st__law_sparse_by) (Nc := ["_law_pair", "_law_pen"]) (cap := [none, some 0]) rfl rfl (by decide +kernel)) (i_v (w_v 3)) (fun _ _ _ _ _ => g_n 0 nd__law_sparse_by_2) (fun _ _ _ _ _ => y_one (t_cmp (k_eq hr.units) (w_call d__law_draw (hr.mono (by decide)) (a_c (w_v 1) (a_c (w_i) (a_n)))) (w_i))) (fun _ _ _ _ _ => w_v 0))) (z_one (z_if (t_cmp (k_eq hr.units) (w_v 1) (w_i)) (z_one (s_setC 5 sc__law_sparse_by.nd (comp_of (N := ["_law_pen", "_law_way", "_law_many", "_law_every", "_law_other", "_law_ties"]) (sc := defScope st__law_sparse_by) (Nc := ["_law_pair", "_law_pen"]) (cap := [none, some 0]) rfl rfl (by decide +kernel)) (i_v (w_v 3)) (fun _ _ _ _ _ => g_n 0 nd__law_sparse_by_3) (fun _ _ _ _ _ => y_one (t_cmp (k_eq hr.units) (w_call d__law_draw (hr.mono (by decide)) (a_c (w_v 1) (a_c (w_i) (a_n)))) (w_i))) (fun _ _ _ _ _ => w_v 0))) (z_one (z_if (t_cmp (k_eq hr.units) (w_v 1) (w_i)) (z_one (s_set 5 sc__law_sparse_by.nd (w_add (w_comp (comp_of (N := ["_law_pen", "_law_way", "_law_many", "_law_every", "_law_other", "_law_ties"]) (sc := defScope st__law_sparse_by) (Nc := ["_law_place"]) (cap := [none]) rfl rfl (by decide +kernel)) (i_r1 nm.range (a_c (w_sub (w_v 2) (w_i)) (a_n))) (fun _ _ _ _ _ => g_n 0 nd__law_sparse_by_4) (fun _ _ _ _ _ => y_nil) (fun _ _ _ _ _ => x_tup (a_c (w_v 0) (a_c (w_add (w_v 0) (w_i)) (a_n))))) (w_mul (x_lst (a_c (x_tup (a_c (w_i) (a_c (w_sub (w_v 2) (w_i)) (a_n)))) (a_n))) (w_blt b_int nm.int (a_c (w_cmp (k_ord (op := .Gt) hr.units) (w_v 2) (w_i)) (a_n))))))) (z_one (z_if (t_cmp (k_eq hr.units) (w_v 1) (w_i)) (z_one (s_setC 5 sc__law_sparse_by.nd (comp_of (N := ["_law_pen", "_law_way", "_law_many", "_law_every", "_law_other", "_law_ties"]) (sc := defScope st__law_sparse_by) (Nc := ["_law_place"]) (cap := [none]) rfl rfl (by decide +kernel)) (i_r1 nm.range (a_c (w_sub (w_v 2) (w_i)) (a_n))) (fun _ _ _ _ _ => g_n 0 nd__law_sparse_by_5) (fun _ _ _ _ _ => y_nil) (fun _ _ _ _ _ => x_tup (a_c (w_v 0) (a_c (w_add (w_v 0) (w_i)) (a_n)))))) (z_one (z_if (t_cmp (k_eq hr.units) (w_v 1) (w_i)) (z_one (s_setC 5 sc__law_sparse_by.nd (comp_of (N := ["_law_pen", "_law_way", "_law_many", "_law_every", "_law_other", "_law_ties"]) (sc := defScope st__law_sparse_by) (Nc := ["_law_place"]) (cap := [none]) rfl rfl (by decide +kernel)) (i_r2 nm.range (a_c (w_i) (a_c (w_v 2) (a_n)))) (fun _ _ _ _ _ => g_n 0 nd__law_sparse_by_6) (fun _ _ _ _ _ => y_nil) (fun _ _ _ _ _ => x_tup (a_c (w_i) (a_c (w_v 0) (a_n)))))) (z_one (s_setC 5 sc__law_sparse_by.nd (comp_of (N := ["_law_pen", "_law_way", "_law_many", "_law_every", "_law_other", "_law_ties"]) (sc := defScope st__law_sparse_by) (Nc := ["_law_place", "_law_pen"]) (cap := [none, some 0]) rfl rfl (by decide +kernel)) (i_r2 nm.range (a_c (w_i) (a_c (w_v 2) (a_n)))) (fun _ _ _ _ _ => g_n 0 nd__law_sparse_by_7) (fun _ _ _ _ _ => y_nil) (fun _ _ _ _ _ => x_tup (a_c (w_call d__law_draw (hr.mono (by decide)) (a_c (w_v 1) (a_c (w_v 0) (a_n)))) (a_c (w_v 0) (a_n)))))))))))))))
  (z_one (z_ret (w_call d__law_named (hr.mono (by decide)) (a_c (x_tup (a_c (w_v 2) (a_c (w_blt b_tuple nm.tuple (a_c (w_v 5) (a_n))) (a_n)))) (a_c (w_call d__law_names_by (hr.mono (by decide)) (a_c (w_v 0) (a_c (w_v 2) (a_n)))) (a_n))))))))))

end
end Lw

set_option Elab.async false
set_option linter.all false
set_option maxRecDepth 100000
set_option maxHeartbeats 4000000
namespace Lw
open PySem L2
section
variable {P : Program} {w : World} {K : PySem.W.Frag} {mg : Str → Option Value} {base : Heap}
theorem ok__law_web_by (nm : Nm mg) {f : Addr} {fd : FuncData} (F : Fun K "_law_web_by" "_law_web_by" st__law_web_by f fd) (hm : mg "_law_web_by" = some (.ref f)) (d__law_sparse_by : Def P w K mg base (pa0 K w) 4 "_law_sparse_by" 1 F__law_sparse_by) (d__law_draw : Def P w K mg base (pa0 K w) 2 "_law_draw" 2 F__law_draw) (d__law_steps : Def P w K mg base (pa0 K w) 2 "_law_steps" 2 F__law_steps) : Def P w K mg base (pa0 K w) 5 "_law_web_by" 1 F__law_web_by :=
  x_def F sc__law_web_by rfl hm (F.binds fun _ _ _ _ _ _ us hl => match us, hl with | [_], _ => rfl) fun cdv A outer s H E hr =>
  z_cons (s_set 1 sc__law_web_by.nd (w_call d__law_sparse_by (hr.mono (by decide)) (a_c (w_v 0) (a_n))))
  (z_cons (s_set 2 sc__law_web_by.nd (w_call d__law_draw (hr.mono (by decide)) (a_c (w_v 0) (a_c (w_i) (a_n)))))
  (z_cons (z_if (t_cmp (k_ord (op := .Lt) hr.units) (w_v 2) (w_i)) (z_one (s_set 1 sc__law_web_by.nd (w_call d__law_steps (hr.mono (by decide)) (a_c (w_v 1) (a_c (w_i) (a_n)))))) (z_nil))
  (z_cons (z_if (y_pt (t_and (t_cmp (k_eq hr.units) (w_v 2) (w_i)) (t_and1 (t_cmp (k_ne hr.units) (w_ix (w_v 1) (w_i)) (x_tup (a_n)))))) (z_cons (s_set 3 sc__law_web_by.nd (w_call d__law_draw (hr.mono (by decide)) (a_c (w_v 0) (a_c (w_blt b_len nm.len (a_c (w_ix (w_v 1) (w_i)) (a_n))) (a_n)))))
  (z_one (z_ret (x_tup (a_c (w_ix (w_v 1) (w_i)) (a_c (w_add (w_sl (w_ix (w_v 1) (w_i)) (x_onone) (x_osome (w_v 3))) (w_sl (w_ix (w_v 1) (w_i)) (x_osome (w_add (w_v 3) (w_i))) (x_onone))) (a_n))))))) (z_nil))
  (z_cons (z_if (y_pt (t_and (t_cmp (k_eq hr.units) (w_v 2) (w_i)) (t_and1 (t_cmp (k_ord (op := .Gt) hr.units) (w_ix (w_v 1) (w_i)) (w_i))))) (z_cons (s_set 4 sc__law_web_by.nd (w_call d__law_draw (hr.mono (by decide)) (a_c (w_v 0) (a_c (w_ix (w_v 1) (w_i)) (a_n)))))
  (z_cons (s_set 5 sc__law_web_by.nd (w_blt b_tuple nm.tuple (a_c (w_blt b_sorted nm.sorted (a_c (x_tup (a_c (w_v 4) (a_c (w_mod (w_add (w_add (w_v 4) (w_i)) (w_call d__law_draw (hr.mono (by decide)) (a_c (w_v 0) (a_c (w_sub (w_ix (w_v 1) (w_i)) (w_i)) (a_n))))) (w_ix (w_v 1) (w_i))) (a_n)))) (a_n))) (a_n))))
  (z_one (z_ret (x_tup (a_c (w_ix (w_v 1) (w_i)) (a_c (w_blt b_tuple nm.tuple (a_c (w_blt b_sorted nm.sorted (a_c (w_blt (b_set hr.units) nm.set (a_c (w_add (w_ix (w_v 1) (w_i)) (x_tup (a_c (w_v 5) (a_n)))) (a_n))) (a_n))) (a_n))) (a_n)))))))) (z_nil))
  (z_one (z_ret (w_v 1)))))))

end
end Lw

set_option Elab.async false
set_option linter.all false
set_option maxRecDepth 100000
set_option maxHeartbeats 4000000
namespace Lw
open PySem L2
section
variable {P : Program} {w : World} {K : PySem.W.Frag} {mg : Str → Option Value} {base : Heap}
theorem ok__law_spare (nm : Nm mg) {f : Addr} {fd : FuncData} (F : Fun K "_law_spare" "_law_spare" st__law_spare f fd) (hm : mg "_law_spare" = some (.ref f)) (d__law_steps : Def P w K mg base (pa0 K w) 2 "_law_steps" 2 F__law_steps) : Def P w K mg base (pa0 K w) 3 "_law_spare" 2 F__law_spare :=
  x_def F sc__law_spare rfl hm (F.binds fun _ _ _ _ _ _ us hl => match us, hl with | [_, _], _ => rfl) fun cdv A outer s H E hr =>
  z_cons (s_set 2 sc__law_spare.nd (x_tup (a_c (w_ix (w_v 0) (w_i)) (a_c (w_blt b_tuple nm.tuple (a_c (w_comp (comp_of (N := ["_law_web", "_law_tie", "_law_less"]) (sc := defScope st__law_spare) (Nc := ["_law_one", "_law_tie"]) (cap := [none, some 1]) rfl rfl (by decide +kernel)) (i_v (w_ix (w_v 0) (w_i))) (fun _ _ _ _ _ => g_n 0 nd__law_spare_1) (fun _ _ _ _ _ => y_one (t_cmp (k_ne hr.units) (w_v 0) (w_v 1))) (fun _ _ _ _ _ => w_v 0)) (a_n))) (a_n)))))
  (z_one (z_ret (w_cmp (k_eq hr.units) (w_call d__law_steps (hr.mono (by decide)) (a_c (w_v 2) (a_c (w_i) (a_n)))) (w_call d__law_steps (hr.mono (by decide)) (a_c (w_v 0) (a_c (w_i) (a_n)))))))

end
end Lw

set_option Elab.async false
set_option linter.all false
set_option maxRecDepth 100000
set_option maxHeartbeats 4000000
namespace Lw
open PySem L2
section
variable {P : Program} {w : World} {K : PySem.W.Frag} {mg : Str → Option Value} {base : Heap}
theorem ok__law_right (nm : Nm mg) {f : Addr} {fd : FuncData} (F : Fun K "_law_right" "_law_right" st__law_right f fd) (hm : mg "_law_right" = some (.ref f)) (d_spare_ties : Def P w K mg base (pa0 K w) 6 "spare_ties" 1 F_spare_ties) (d__law_spare : Def P w K mg base (pa0 K w) 3 "_law_spare" 2 F__law_spare) (d_thinned : Def P w K mg base (pa0 K w) 6 "thinned" 1 F_thinned) : Def P w K mg base (pa0 K w) 7 "_law_right" 1 F__law_right :=
  x_def F sc__law_right rfl hm (F.binds fun _ _ _ _ _ _ us hl => match us, hl with | [_], _ => rfl) fun cdv A outer s H E hr =>
  z_cons (z_if (t_cmp (k_neS) (w_blt (b_repr hr) nm.repr (a_c (w_call d_spare_ties (hr.mono (by decide)) (a_c (w_v 0) (a_n))) (a_n))) (w_blt (b_repr hr) nm.repr (a_c (w_blt b_tuple nm.tuple (a_c (w_comp (comp_of (N := ["_law_web", "_law_left", "_law_tie"]) (sc := defScope st__law_right) (Nc := ["_law_tie", "_law_web"]) (cap := [none, some 0]) rfl rfl (by decide +kernel)) (i_v (w_ix (w_v 0) (w_i))) (fun _ _ _ _ _ => g_n 0 nd__law_right_1) (fun _ _ _ _ _ => y_one (t_v (w_call d__law_spare (hr.mono (by decide)) (a_c (w_v 1) (a_c (w_v 0) (a_n)))))) (fun _ _ _ _ _ => w_v 0)) (a_n))) (a_n)))) (z_one (z_ret (w_b))) (z_nil))
  (z_cons (s_set 1 sc__law_right.nd (w_v 0))
  (z_cons (s_for PassesOwn.never (i_v (w_ix (w_v 0) (w_i))) (g_n 2 sc__law_right.nd) (z_one (z_if (t_v (w_call d__law_spare (hr.mono (by decide)) (a_c (w_v 1) (a_c (w_v 2) (a_n))))) (z_one (s_set 1 sc__law_right.nd (x_tup (a_c (w_ix (w_v 1) (w_i)) (a_c (w_blt b_tuple nm.tuple (a_c (w_comp (comp_of (N := ["_law_web", "_law_left", "_law_tie"]) (sc := defScope st__law_right) (Nc := ["_law_one", "_law_tie"]) (cap := [none, some 2]) rfl rfl (by decide +kernel)) (i_v (w_ix (w_v 1) (w_i))) (fun _ _ _ _ _ => g_n 0 nd__law_right_2) (fun _ _ _ _ _ => y_one (t_cmp (k_ne hr.units) (w_v 0) (w_v 1))) (fun _ _ _ _ _ => w_v 0)) (a_n))) (a_n)))))) (z_nil))))
  (z_one (z_ret (w_cmp (k_eqS) (w_blt (b_repr hr) nm.repr (a_c (w_call d_thinned (hr.mono (by decide)) (a_c (w_v 0) (a_n))) (a_n))) (w_blt (b_repr hr) nm.repr (a_c (w_v 1) (a_n))))))))

end
end Lw

set_option Elab.async false
set_option linter.all false
set_option maxRecDepth 100000
set_option maxHeartbeats 4000000
namespace Lw
open PySem L2
section
variable {P : Program} {w : World} {K : PySem.W.Frag} {mg : Str → Option Value} {base : Heap}
theorem fn_law (nm : Nm mg) {f : Addr} {fd : FuncData} (F : Fun K "law" "law" st_law f fd) (d__law_right : Def P w K mg base (pa0 K w) 7 "_law_right" 1 F__law_right) (d__law_cell_at : Def P w K mg base (pa0 K w) 1 "_law_cell_at" 2 F__law_cell_at) (d__law_pen_of : Def P w K mg base (pa0 K w) 1 "_law_pen_of" 1 F__law_pen_of) (d__law_web_by : Def P w K mg base (pa0 K w) 5 "_law_web_by" 1 F__law_web_by) (d__law_steps : Def P w K mg base (pa0 K w) 2 "_law_steps" 2 F__law_steps) (d__law_sparse_by : Def P w K mg base (pa0 K w) 4 "_law_sparse_by" 1 F__law_sparse_by) : FnOk P w K mg base CX0 8 f fd ["_law_script"] (spD (pa0 K w) 1 F_law) :=
  fn_ok F sc_law rfl fun cdv A outer s H E hr =>
  z_cons (s_set 1 sc_law.nd (x_lst (a_n)))
  (z_cons (s_for PassesOwn.never (i_r1 nm.range (a_c (w_i) (a_n))) (g_n 2 sc_law.nd) (z_one (s_set 1 sc_law.nd (w_add (w_v 1) (w_comp (comp_of (N := ["_law_script", "_law_every", "_law_one", "_law_cell", "_law_pen"]) (sc := defScope st_law) (Nc := ["_law_other", "_law_one"]) (cap := [none, some 2]) rfl rfl (by decide +kernel)) (i_r2 nm.range (a_c (w_add (w_v 2) (w_i)) (a_c (w_i) (a_n)))) (fun _ _ _ _ _ => g_n 0 nd_law_1) (fun _ _ _ _ _ => y_nil) (fun _ _ _ _ _ => x_tup (a_c (w_v 1) (a_c (w_v 0) (a_n)))))))))
  (z_cons (z_if (y_pt (t_or (y_not (t_v (w_call d__law_right (hr.mono (by decide)) (a_c (x_tup (a_c (w_i) (a_c (x_tup (a_n)) (a_n)))) (a_n))))) (t_or1 (y_not (t_v (w_call d__law_right (hr.mono (by decide)) (a_c (x_tup (a_c (w_i) (a_c (w_blt b_tuple nm.tuple (a_c (w_v 1) (a_n))) (a_n)))) (a_n)))))))) (z_one (z_ret (w_b))) (z_nil))
  (z_cons (s_for PassesOwn.never (i_v (w_add (x_lst (a_c (w_call d__law_cell_at (hr.mono (by decide)) (a_c (w_v 0) (a_c (w_i) (a_n)))) (a_n))) (w_sl (w_v 0) (x_osome (w_i)) (x_osome (w_i))))) (g_n 3 sc_law.nd) (z_cons (s_set 4 sc_law.nd (w_call d__law_pen_of (hr.mono (by decide)) (a_c (w_v 3) (a_n))))
  (z_one (z_if (y_pt (t_or (y_not (t_v (w_call d__law_right (hr.mono (by decide)) (a_c (w_call d__law_web_by (hr.mono (by decide)) (a_c (w_v 4) (a_n))) (a_n))))) (t_or1 (y_not (t_v (w_call d__law_right (hr.mono (by decide)) (a_c (w_call d__law_steps (hr.mono (by decide)) (a_c (w_call d__law_sparse_by (hr.mono (by decide)) (a_c (w_v 4) (a_n))) (a_c (w_i) (a_n)))) (a_n)))))))) (z_one (z_ret (w_b))) (z_nil)))))
  (z_one (z_ret (w_b))))))
end
end Lw

set_option linter.all false
/-! how far the places of a web are -/
namespace Lv
variable {adj : Int → Int → Prop} {p : Int}
/-- within n steps of p -/
def R (adj : Int → Int → Prop) (p : Int) : Nat → Int → Prop
  | 0, q => q = p
  | n + 1, q => R adj p n q ∨ ∃ r, adj r q ∧ R adj p n r
/-- n steps from p, and no fewer -/
def Lev (adj : Int → Int → Prop) (p : Int) : Nat → Int → Prop
  | 0, q => q = p
  | n + 1, q => R adj p (n + 1) q ∧ ¬ R adj p n q
theorem R.up {n : Nat} {q : Int} (h : R adj p n q) : R adj p (n + 1) q := .inl h
theorem R.mono {n m : Nat} {q : Int} (h : R adj p n q) (hm : n ≤ m) : R adj p m q := by
  induction hm with
  | refl => exact h
  | step _ ih => exact ih.up
theorem Lev.r {n : Nat} {q : Int} (h : Lev adj p n q) : R adj p n q := by
  cases n with
  | zero => exact h
  | succ n => exact h.1
theorem R.lev {n : Nat} {q : Int} (h : R adj p n q) : ∃ j, j ≤ n ∧ Lev adj p j q := by
  induction n with
  | zero => exact ⟨0, Nat.le_refl _, h⟩
  | succ n ih =>
    by_cases hr : R adj p n q
    · obtain ⟨j, hj, hl⟩ := ih hr
      exact ⟨j, by omega, hl⟩
    · exact ⟨n + 1, Nat.le_refl _, h, hr⟩
theorem Lev.low {n j : Nat} {q : Int} (h : Lev adj p n q) (hj : j < n) : ¬ R adj p j q := by
  cases n with
  | zero => omega
  | succ n => exact fun hr => h.2 (hr.mono (by omega))
theorem Lev.one {n m : Nat} {q : Int} (h : Lev adj p n q) (h' : Lev adj p m q) : n = m := by
  rcases Nat.lt_trichotomy n m with z | z | z
  · exact absurd h.r (h'.low z)
  · exact z
  · exact absurd h'.r (h.low z)
theorem lev_next {n : Nat} {q : Int} : Lev adj p (n + 1) q ↔ ¬ R adj p n q ∧ ∃ r, adj r q ∧ Lev adj p n r := by
  constructor
  · rintro ⟨h1, h2⟩
    refine ⟨h2, ?_⟩
    rcases h1 with h1 | ⟨r, ha, hr⟩
    · exact absurd h1 h2
    · refine ⟨r, ha, ?_⟩
      cases n with
      | zero => exact hr
      | succ n => exact ⟨hr, fun z => h2 (.inr ⟨r, ha, z⟩)⟩
  · rintro ⟨h1, r, ha, hr⟩
    exact ⟨.inr ⟨r, ha, hr.r⟩, h1⟩
/-- a table that is right as far as n -/
def Up (adj : Int → Int → Prop) (p : Int) (D : Int → Prop) (n : Nat) (f : Int → Option Nat) : Prop := ∀ q, D q → ∀ j, f q = some j ↔ (j ≤ n ∧ Lev adj p j q)
theorem Up.none {D : Int → Prop} {n : Nat} {f : Int → Option Nat} (h : Up adj p D n f) {q : Int} (hq : D q) : f q = none ↔ ¬ R adj p n q := by
  constructor
  · intro e hr
    obtain ⟨j, hj, hl⟩ := hr.lev
    have := (h q hq j).mpr ⟨hj, hl⟩
    rw [e] at this; cases this
  · intro hr
    cases e : f q with
    | none => rfl
    | some j =>
      obtain ⟨hj, hl⟩ := (h q hq j).mp e
      exact absurd (hl.r.mono hj) hr
theorem Up.zero {D : Int → Prop} {f : Int → Option Nat} (h : ∀ q, D q → f q = if q = p then some 0 else Option.none) : Up adj p D 0 f := fun q hq j => by
  rw [h q hq]
  by_cases e : q = p
  · rw [if_pos e]
    constructor
    · intro z; cases z; exact ⟨Nat.le_refl _, e⟩
    · rintro ⟨h1, _⟩
      have : j = 0 := by omega
      rw [this]
  · rw [if_neg e]
    constructor
    · intro z; cases z
    · rintro ⟨h1, h2⟩
      have : j = 0 := by omega
      subst this
      exact absurd h2 e
theorem Up.next {D : Int → Prop} {n : Nat} {f f' : Int → Option Nat} (h : Up adj p D n f) (hD : ∀ a b, adj a b → D a) (e : ∀ q, D q → ∀ j, f' q = some j ↔ (f q = some j ∨ (f q = Option.none ∧ j = n + 1 ∧ ∃ r, adj r q ∧ f r = some n))) : Up adj p D (n + 1) f' := fun q hq j => by
  rw [e q hq j]
  constructor
  · rintro (z | ⟨z1, z2, r, z3, z4⟩)
    · obtain ⟨hj, hl⟩ := (h q hq j).mp z
      exact ⟨by omega, hl⟩
    · subst z2
      refine ⟨Nat.le_refl _, lev_next.mpr ⟨(h.none hq).mp z1, r, z3, ?_⟩⟩
      exact ((h r (hD r q z3) n).mp z4).2
  · rintro ⟨hj, hl⟩
    by_cases hn : j ≤ n
    · exact .inl ((h q hq j).mpr ⟨hn, hl⟩)
    · have : j = n + 1 := by omega
      subst this
      obtain ⟨h1, r, ha, hr⟩ := lev_next.mp hl
      exact .inr ⟨(h.none hq).mpr h1, rfl, r, ha, (h r (hD r q ha) n).mpr ⟨Nat.le_refl _, hr⟩⟩
/-- the whole table -/
def Full (adj : Int → Int → Prop) (p : Int) (D : Int → Prop) (f : Int → Option Nat) : Prop := ∀ q, D q → ∀ j, f q = some j ↔ Lev adj p j q
theorem Full.eq {D : Int → Prop} {f g : Int → Option Nat} (h : Full adj p D f) (h' : Full adj p D g) {q : Int} (hq : D q) : f q = g q := by
  apply Option.ext
  intro j
  rw [h q hq j, h' q hq j]
/-- below each level there is one -/
theorem Lev.below {n : Nat} : ∀ {q : Int}, Lev adj p n q → ∀ j, j ≤ n → ∃ r, Lev adj p j r := by
  induction n with
  | zero => intro q h j hj; exact ⟨q, by have : j = 0 := by omega
                                         subst this; exact h⟩
  | succ n ih =>
    intro q h j hj
    by_cases e : j = n + 1
    · subst e; exact ⟨q, h⟩
    · obtain ⟨_, r, _, hr⟩ := lev_next.mp h
      exact ih hr j (by omega)
/-- an empty level: nothing lies behind it -/
theorem Up.full {D : Int → Prop} {n : Nat} {f : Int → Option Nat} (h : Up adj p D n f) (hD : ∀ a b, adj a b → D b) (e : ∀ q, D q → ¬ Lev adj p (n + 1) q) : Full adj p D f := fun q hq j => by
  rw [h q hq j]
  constructor
  · exact fun z => z.2
  · intro hl
    refine ⟨?_, hl⟩
    apply Nat.le_of_not_lt
    intro hj
    obtain ⟨r, hr⟩ := hl.below (n + 1) (by omega)
    obtain ⟨_, s, hs, _⟩ := lev_next.mp hr
    exact e r (hD s r hs) hr
/-- m places: no level past m - 1 -/
theorem lev_lt {m : Nat} (hp : 0 ≤ p ∧ p < m) (hD : ∀ a b, adj a b → 0 ≤ b ∧ b < m) {n : Nat} {q : Int} (h : Lev adj p n q) : n < m := by
  have hr : ∀ j, ∃ r, j ≤ n → Lev adj p j r := fun j => by
    by_cases hj : j ≤ n
    · obtain ⟨r, hr⟩ := h.below j hj; exact ⟨r, fun _ => hr⟩
    · exact ⟨0, fun z => absurd z hj⟩
  let r : Nat → Int := fun j => (hr j).choose
  have hr' : ∀ j, j ≤ n → Lev adj p j (r j) := fun j hj => (hr j).choose_spec hj
  have rng : ∀ j, j ≤ n → 0 ≤ r j ∧ r j < m := fun j hj => by
    have := hr' j hj
    cases j with
    | zero => rw [show r 0 = p from this]; exact hp
    | succ j =>
      obtain ⟨_, s, hs, _⟩ := lev_next.mp this
      exact hD s _ hs
  have nd : ((List.range (n + 1)).map fun j => (r j).toNat).Nodup := by
    rw [List.Nodup, List.pairwise_map]
    refine List.Pairwise.imp_of_mem (R := (· < ·)) ?_ List.pairwise_lt_range
    intro a b ha hb hab e
    rw [List.mem_range] at ha hb
    have r1 := rng a (by omega)
    have r2 := rng b (by omega)
    have e' : r a = r b := by omega
    have h1 := hr' a (by omega)
    have h2 := hr' b (by omega)
    rw [e'] at h1
    have := h1.one h2
    omega
  have sub : ((List.range (n + 1)).map fun j => (r j).toNat) ⊆ List.range m := fun x hx => by
    obtain ⟨j, hj, rfl⟩ := List.mem_map.mp hx
    rw [List.mem_range] at hj ⊢
    have := rng j (by omega)
    omega
  have := nd.length_le_of_subset sub
  rw [List.length_map, List.length_range, List.length_range] at this; omega
end Lv

set_option linter.all false
/-! the round that writes n + 1 at whatever lies next to an n -/
namespace Lv
def updF (f : Int → Option Nat) (r : Int) (v : Nat) : Int → Option Nat := fun q => if q = r then some v else f q
def stp (n : Nat) (f : Int → Option Nat) (qr : Int × Int) : Int → Option Nat := if f qr.1 = some n ∧ f qr.2 = none then updF f qr.2 (n + 1) else f
theorem stp_inv {n : Nat} {f0 f : Int → Option Nat} {done : List (Int × Int)} {qr : Int × Int}
    (h : ∀ q j, f q = some j ↔ (f0 q = some j ∨ (f0 q = none ∧ j = n + 1 ∧ ∃ r, (r, q) ∈ done ∧ f0 r = some n))) :
    ∀ q j, stp n f qr q = some j ↔ (f0 q = some j ∨ (f0 q = none ∧ j = n + 1 ∧ ∃ r, (r, q) ∈ done ++ [qr] ∧ f0 r = some n)) := by
  intro q j
  have hn : ∀ r, f r = some n ↔ f0 r = some n := fun r => by
    rw [h r n]
    constructor
    · rintro (z | ⟨_, z, _⟩)
      · exact z
      · omega
    · exact .inl
  have h0 : ∀ r, f r = none → f0 r = none := fun r e => by
    cases e0 : f0 r with
    | none => rfl
    | some i =>
      have := (h r i).mpr (.inl e0)
      rw [e] at this; cases this
  obtain ⟨a, b⟩ := qr
  unfold stp
  dsimp only
  by_cases c : f a = some n ∧ f b = none
  · rw [if_pos c]
    unfold updF
    by_cases e : q = b
    · subst e
      rw [if_pos rfl]
      have z := h0 q c.2
      constructor
      · intro e; cases e
        exact .inr ⟨z, rfl, a, by simp, (hn a).mp c.1⟩
      · rintro (y | ⟨_, y, _⟩)
        · rw [z] at y; cases y
        · rw [y]
    · rw [if_neg e, h q j]
      constructor
      · rintro (y | ⟨y1, y2, r, y3, y4⟩)
        · exact .inl y
        · exact .inr ⟨y1, y2, r, List.mem_append_left _ y3, y4⟩
      · rintro (y | ⟨y1, y2, r, y3, y4⟩)
        · exact .inl y
        · rcases List.mem_append.mp y3 with y3 | y3
          · exact .inr ⟨y1, y2, r, y3, y4⟩
          · simp at y3; exact absurd y3.2 e
  · rw [if_neg c, h q j]
    constructor
    · rintro (y | ⟨y1, y2, r, y3, y4⟩)
      · exact .inl y
      · exact .inr ⟨y1, y2, r, List.mem_append_left _ y3, y4⟩
    · rintro (y | ⟨y1, y2, r, y3, y4⟩)
      · exact .inl y
      · rcases List.mem_append.mp y3 with y3 | y3
        · exact .inr ⟨y1, y2, r, y3, y4⟩
        · simp at y3
          obtain ⟨rfl, rfl⟩ := y3
          -- f r = some n, so f q is not none
          have c2 : f q ≠ none := fun z => c ⟨(hn r).mpr y4, z⟩
          cases e : f q with
          | none => exact absurd e c2
          | some i =>
            have := (h q i).mp e
            rcases this with w | ⟨w1, w2, w3⟩
            · rw [y1] at w; cases w
            · exact .inr ⟨y1, y2, w3⟩
theorem fold_inv {n : Nat} {f0 : Int → Option Nat} : ∀ (qs done : List (Int × Int)) (f : Int → Option Nat),
    (∀ q j, f q = some j ↔ (f0 q = some j ∨ (f0 q = none ∧ j = n + 1 ∧ ∃ r, (r, q) ∈ done ∧ f0 r = some n))) →
    ∀ q j, qs.foldl (stp n) f q = some j ↔ (f0 q = some j ∨ (f0 q = none ∧ j = n + 1 ∧ ∃ r, (r, q) ∈ done ++ qs ∧ f0 r = some n))
  | [], done, f, h => by simpa using h
  | qr :: qs, done, f, h => by
    have := fold_inv qs (done ++ [qr]) (stp n f qr) (stp_inv h)
    simpa [List.append_assoc] using this
theorem round_up {adj : Int → Int → Prop} {p : Int} {D : Int → Prop} {n : Nat} {f : Int → Option Nat} {qs : List (Int × Int)} (h : Up adj p D n f) (hD : ∀ a b, adj a b → D a) (ha : ∀ a b, adj a b ↔ (a, b) ∈ qs) : Up adj p D (n + 1) (qs.foldl (stp n) f) := by
  refine h.next hD fun q hq j => ?_
  have := fold_inv (n := n) (f0 := f) qs [] f (fun q j => by simp) q j
  rw [this]
  simp only [List.nil_append, ha]
end Lv

set_option Elab.async false
set_option linter.all false
set_option maxRecDepth 100000
set_option maxHeartbeats 4000000
namespace Lw
open PySem L2 RS
theorem small1 : 1000 ≤ sizeLine := by decide


theorem sp_next {μ : Sto} (s : Int) : ∃ r : Int, F__law_next [.int s] μ = .ok (.int r) μ := by
  have h0 : 0 ≤ (s + 7919) % 2147483647 := Int.emod_nonneg _ (by decide)
  have h1 : (s + 7919) % 2147483647 < 2147483647 := Int.emod_lt_of_pos _ (by decide)
  generalize ht : (s + 7919) % 2147483647 = t at h0 h1
  refine ⟨(t * t + 48271 * t + 12345) % 2147483629, ?_⟩
  have c1 : CMul t t := .inl ⟨by omega, by omega⟩
  have c2 : CMul 48271 t := .inl ⟨by omega, by omega⟩
  unfold F__law_next
  rw [ev_fn1]
  simp [B__law_next, ht, c1, c2]
  exact gc_same (by simp)
def penD (a b c : Int) : O := .lst [.int a, .int b, .int c]
theorem low_pen {n : Nat} {a b c : Int} : (penD a b c).low n := by simp [penD, O.low]
theorem sp_pen {μ : Sto} (x : Int) : ∃ a b c : Int, F__law_pen_of [.int x] μ = .ok (.obj μ.length) (μ ++ [penD a b c]) := by
  have e : ∀ i j : Int, dMax [.int i, .int j] μ = .ok (.int (if j > i then j else i)) μ := fun _ _ => rfl
  have p1 : CPow 10 18 := ⟨by decide, by decide, by decide⟩
  have ib : ∀ k : Bool, ∀ μ, dIntC [.bl k] μ = .ok (.int (if k then 1 else 0)) μ := fun _ _ => rfl
  refine ⟨(if 0 - x > x then 0 - x else x), (if cmpI .GtE (if 0 - x > x then 0 - x else x) (10 ^ (18 : Int).toNat) then 1 else 0), (if 0 - x > x then 0 - x else x) % 1000003, ?_⟩
  unfold F__law_pen_of
  rw [ev_fn1]
  have l3 : (3 : Nat) ≤ sizeLine := by decide
  simp only [B__law_pen_of, ev_seq, ev_asg, ev_args, ev_cons, ev_nil, ev_var0, ev_varS, ev_bin, ev_C, Out.bind_ok, Out.bindS_ok, ev_dI, e, ev_gn, so_next, ev_ret, ev_lst, List.set, List.replicate, List.set_cons_succ, List.set_cons_zero]
  have pw : dPow (.int 10) (.int 18) μ = .ok (.int (10 ^ (18 : Int).toNat)) μ := ev_dIC p1
  have md : ∀ x, dMod (.int x) (.int 1000003) μ = .ok (.int (x % 1000003)) μ := fun x => ev_dIC (show (0:Int) < 1000003 by decide)
  simp only [pw, md, Out.bind_ok, ev_cmpI, ib, List.length_cons, List.length_nil, if_pos l3, Out.bindS_ok, out_ret]
  rw [gc_no (by simp)]
  rfl
theorem sp_draw {μ : Sto} {i : Nat} {a b c m : Int} (hp : μ[i]? = some (penD a b c)) (h0 : 0 < m) (h1 : m < 1000) :
    ∃ r a' b' c' : Int, 0 ≤ r ∧ r < m ∧ F__law_draw [.obj i, .int m] μ = .ok (.int r) (μ.set i (penD a' b' c')) := by
  have hi : i < μ.length := (List.getElem?_eq_some_iff.mp hp).1
  have hp' : μ[i]? = some (.lst [.int a, .int b, .int c]) := hp
  have md : ∀ {x : Int} {μ : Sto}, dMod (.int x) (.int m) μ = .ok (.int (x % m)) μ := fun {x μ} => ev_dIC (show (fun _ j => (0:Int) < j) x m from h0)
  have fd : ∀ {x : Int} {μ : Sto}, dFdiv (.int x) (.int m) μ = .ok (.int (x / m)) μ := fun {x μ} => ev_dIC (show CDiv x m from ⟨h0, by omega⟩)
  have f64 : ∀ {x : Int} {μ : Sto}, dFdiv (.int x) (.int 64) μ = .ok (.int (x / 64)) μ := fun {x μ} => ev_dIC (show CDiv x 64 from ⟨by decide, by decide⟩)
  unfold F__law_draw
  rw [ev_fn2]
  by_cases hb : b = 1
  · subst hb
    refine ⟨a % m, a / m, 1, c, Int.emod_nonneg _ (by omega), Int.emod_lt_of_pos _ h0, ?_⟩
    simp only [B__law_draw, ev_seq, ev_sif, ev_TB, ev_bin, ev_var0, ev_varS, ev_C, Out.bind_ok]
    rw [ev_ixL hp' atI_1]
    simp only [Out.bind_ok, ev_eqI, beq_self_eq_true, if_true, ev_asB, Out.bindS_ok, ev_seq, ev_asg, ev_bin, ev_var0, ev_varS, ev_C]
    simp only [Bool.false_eq_true, if_false, if_true, ev_seq, ev_asg, ev_bin, ev_var0, ev_varS, ev_C, Out.bind_ok]
    rw [ev_ixL hp' atI_0]
    simp only [Out.bind_ok, md, Out.bindS_ok, ev_gn, so_next, List.replicate, List.set_cons_succ, List.set_cons_zero, ev_var0, ev_varS, ev_C, ev_bin, ev_asg, ev_seq]
    rw [ev_ixL hp' atI_0]
    simp only [Out.bind_ok, fd, Out.bindS_ok, ev_gsub, ev_var0, ev_varS, ev_C]
    rw [ev_setL hp' (ixN_of (by decide) (by simp))]
    simp only [Out.bind_ok, Out.bindS_ok, so_next, ev_ret, ev_var0, ev_varS, so_ret, out_ret]
    exact gc_set0 (by simp only [low_int]) (low_pen (a := a / m) (b := 1) (c := c))
  · obtain ⟨s1, e1⟩ := sp_next (μ := μ) c
    obtain ⟨s2, e2⟩ := sp_next (μ := μ) (s1 + 7)
    refine ⟨s2 / 64 % m, a, b, s2, Int.emod_nonneg _ (by omega), Int.emod_lt_of_pos _ h0, ?_⟩
    have hb' : (b == 1) = false := by simpa using hb
    simp only [B__law_draw, ev_seq, ev_sif, ev_TB, ev_bin, ev_var0, ev_varS, ev_C, Out.bind_ok]
    rw [ev_ixL hp' atI_1]
    simp only [Out.bind_ok, ev_eqI, hb', ev_asB, Out.bindS_ok, Bool.false_eq_true, if_false, ev_next, so_next, ev_seq, ev_asg, ev_args, ev_cons, ev_nil, ev_bin, ev_var0, ev_varS, ev_C]
    rw [ev_ixL hp' atI_2]
    simp only [Out.bind_ok, e1, ev_addI, e2, Out.bindS_ok, ev_gsub, ev_var0, ev_varS, ev_C]
    rw [ev_setL hp' (ixN_of (by decide) (by simp))]
    have hg : (μ.set i (.lst ([D.int a, D.int b, D.int c].set (2 : Int).toNat (.int s2))))[i]? = some (.lst [D.int a, D.int b, D.int s2]) := by rw [List.getElem?_set_self hi]; rfl
    simp only [Out.bind_ok, Out.bindS_ok, so_next, ev_ret, ev_bin, ev_var0, ev_varS, ev_C]
    rw [ev_ixL hg atI_2]
    simp only [Out.bind_ok, f64, md, Out.bindS_ok, out_ret]
    exact gc_set0 (by simp) (low_pen (a := a) (b := b) (c := s2))


theorem get_app {μ g : Sto} {i : Nat} {o : O} (h : μ[i]? = some o) : (μ ++ g)[i]? = some o := by
  rw [List.getElem?_append_left (List.getElem?_eq_some_iff.mp h).1]; exact h
theorem set_app {μ g : Sto} {i : Nat} {o : O} (h : i < μ.length) : (μ ++ g).set i o = μ.set i o ++ g := by
  rw [List.set_append_left _ _ h]
theorem get_set {μ : Sto} {i : Nat} {o : O} (h : i < μ.length) : (μ.set i o)[i]? = some o := List.getElem?_set_self h
theorem erase_map {β γ : Type} {f : β → γ} : ∀ {l : List β} {i : Nat}, (l.map f).eraseIdx i = (l.eraseIdx i).map f
  | [], _ => rfl
  | _ :: _, 0 => rfl
  | x :: r, i + 1 => by simp [erase_map (l := r) (i := i)]
/-- the names that are left, those that were drawn -/
theorem nb_step {μ : Sto} {i : Nat} {a b c : Int} {L : List Int} {ys : List D} {x : D} (hi : i < μ.length) (hL : 0 < L.length) (hL2 : L.length < 1000) :
    ∃ (r : Nat) (y : Int) (a' b' c' : Int), L[r]? = some y ∧ E__law_names_by_1 [some x, some (.obj μ.length), some (.obj i)] ((μ.set i (penD a b c) ++ [.lst (L.map D.int)]) ++ .lst ys :: []) =
      .ok (.int y) ((μ.set i (penD a' b' c') ++ [.lst ((L.eraseIdx r).map D.int)]) ++ .lst ys :: []) := by
  have hn : ((μ.set i (penD a b c) ++ [.lst (L.map D.int)]) ++ .lst ys :: [])[μ.length]? = some (.lst (L.map D.int)) := by
    have e : μ.length = (μ.set i (penD a b c)).length := by simp
    rw [List.append_assoc, e]
    exact get_last
  have hp : ((μ.set i (penD a b c) ++ [.lst (L.map D.int)]) ++ .lst ys :: [])[i]? = some (penD a b c) := get_app (get_app (get_set hi))
  obtain ⟨r, a', b', c', h0, h1, e⟩ := sp_draw (m := (L.length : Int)) hp (by omega) (by omega)
  have hr : r.toNat < L.length := by omega
  refine ⟨r.toNat, L[r.toNat], a', b', c', List.getElem?_eq_getElem hr, ?_⟩
  have hset : ((μ.set i (penD a b c) ++ [O.lst (L.map D.int)]) ++ O.lst ys :: []).set i (penD a' b' c') = (μ.set i (penD a' b' c') ++ [O.lst (L.map D.int)]) ++ O.lst ys :: [] := by
    rw [set_app (by simp; omega), set_app (by simpa using hi), List.set_set]
  have hn' : ((μ.set i (penD a' b' c') ++ [.lst (L.map D.int)]) ++ .lst ys :: [])[μ.length]? = some (.lst (L.map D.int)) := by
    have e : μ.length = (μ.set i (penD a' b' c')).length := by simp
    rw [List.append_assoc, e]
    exact get_last
  have hl : isL (.obj μ.length) ((μ.set i (penD a b c) ++ [.lst (L.map D.int)]) ++ .lst ys :: []) = true := by
    unfold isL; simp only [hn]
  unfold E__law_names_by_1
  simp only [ev_mt, ev_varS, ev_var0, Out.bind_ok, hl, if_true, ev_cons, ev_nil, ev_args]
  rw [ev_lenL hn]
  simp only [Out.bind_ok, List.length_map]
  rw [e]
  simp only [Out.bind_ok, hset]
  unfold dPopAt
  dsimp only
  rw [hn']
  dsimp only
  rw [ixN_of h0 (by simpa using h1)]
  dsimp only
  rw [List.getElem?_map, List.getElem?_eq_getElem hr]
  dsimp only [Option.map_some]
  rw [if_pos (by omega)]
  congr 1
  have e2 : μ.length = (μ.set i (penD a' b' c')).length := by simp
  rw [List.append_assoc, e2]
  show (μ.set i (penD a' b' c') ++ O.lst (L.map D.int) :: [O.lst ys]).set _ _ = _
  rw [set_last, List.append_assoc]
  congr 2
  congr 1
  exact erase_map

theorem perm_erase {L : List Int} {r : Nat} {y : Int} (h : L[r]? = some y) : L.Perm (y :: L.eraseIdx r) := by
  induction L generalizing r with
  | nil => simp at h
  | cons x l ih =>
    cases r with
    | zero => simp at h; subst h; exact List.Perm.refl _
    | succ r =>
      simp at h
      exact ((ih h).cons x).trans (List.Perm.swap y x _)
theorem sp_names {μ : Sto} {i : Nat} {a b c m : Int} (hp : μ[i]? = some (penD a b c)) (h0 : 1 ≤ m) (h1 : m ≤ 6) :
    ∃ (ns : List Int) (a' b' c' : Int), ns.Nodup ∧ (ns.length : Int) = m ∧ (∀ n ∈ ns, 0 ≤ n ∧ n < m) ∧ F__law_names_by [.obj i, .int m] μ = .ok (.tup (ns.map D.int)) (μ.set i (penD a' b' c')) := by
  have hi : i < μ.length := (List.getElem?_eq_some_iff.mp hp).1
  have h00 : μ = μ.set i (penD a b c) := by
    apply List.ext_getElem?
    intro j
    by_cases hj : i = j
    · subst hj; rw [get_set hi]; exact hp
    · rw [List.getElem?_set_ne hj]
  let N0 : List Int := (List.range m.toNat).map fun (k : Nat) => (k : Int)
  have hN0 : rngD 0 m.toNat = N0.map D.int := by
    simp only [rngD, N0, List.map_map]
    apply List.map_congr_left; intro k _; simp
  have run := comp_run (src := .fix (rngD 0 m.toNat)) (g := gNameD 0) (t := cTrue) (e := E__law_names_by_1) (n := μ.length + 1)
    (fun xs ys ρ μ1 s => s = [] ∧ ∃ (o : Option D) (L ns : List Int) (a b c : Int), ρ = [o, some (.obj μ.length), some (.obj i)] ∧ μ1 = μ.set i (penD a b c) ++ [.lst (L.map D.int)] ∧ ys = ns.map D.int ∧ (ns ++ L).Perm N0 ∧ L.length = xs.length ∧ xs.length ≤ 6)
    (fun ys ρ μ1 s ⟨_, o, L, ns, a, b, c, _, e, _⟩ => ⟨by rw [e]; simp, trivial⟩)
    (fun x r ys ρ μ1 s ⟨es, o, L, ns, a, b, c, e1, e2, e3, e4, e5, e6⟩ => by
      subst es
      refine ⟨by rw [e2]; simp, trivial, [some x, some (.obj μ.length), some (.obj i)], μ1, [], true, μ1, [], by rw [e1]; rfl, rfl, fun _ => ?_, fun z => by cases z⟩
      simp only [List.length_cons] at e5 e6
      obtain ⟨j, y, a', b', c', hj, e⟩ := nb_step (a := a) (b := b) (c := c) (L := L) (ys := ys) (x := x) hi (by omega) (by omega)
      rw [e2]
      refine ⟨.int y, _, [], e, ?_, by simp, rfl, some x, L.eraseIdx j, ns ++ [y], a', b', c', rfl, rfl, by rw [e3]; simp, ?_, ?_, by omega⟩
      · rw [e3, List.length_map]
        have := e4.length_eq
        have hN : N0.length = m.toNat := by simp [N0]
        rw [List.length_append, hN] at this
        exact Nat.lt_of_lt_of_le (show ns.length < 1000 by omega) small1
      · rw [List.append_assoc]
        exact (List.Perm.append_left ns (perm_erase hj).symm).trans e4
      · have hlt := (List.getElem?_eq_some_iff.mp hj).1
        rw [List.length_eraseIdx, if_pos hlt]; omega)
    (xs := rngD 0 m.toNat) (ys := []) (ρ := [none, some (.obj μ.length), some (.obj i)]) (μ1 := μ ++ [.lst (rngD 0 m.toNat)]) (s := [])
    ⟨rfl, none, N0, [], a, b, c, rfl, by rw [← h00, hN0], rfl, by simp, by simp [N0, rngD], by simp [rngD]; omega⟩
  obtain ⟨ys', ρ', μ1', s', ⟨es, o, L, ns, a', b', c', f1, f2, f3, f4, f5, _⟩, run⟩ := run
  have hLn : L = [] := List.eq_nil_of_length_eq_zero (by simpa using f5)
  subst hLn es
  rw [List.append_nil] at f4
  refine ⟨ns, a', b', c', ?_, ?_, fun n hn => ?_, ?_⟩
  · rw [f4.nodup_iff]
    simp only [N0]
    rw [List.nodup_iff_pairwise_ne, List.pairwise_map]
    exact (List.nodup_range (n := m.toNat)).imp fun h e => h (by omega)
  · have := f4.length_eq
    rw [this]; simp [N0]; omega
  · have := f4.mem_iff.mp hn
    simp only [N0, List.mem_map, List.mem_range] at this
    obtain ⟨k, hk, rfl⟩ := this
    omega
  · unfold F__law_names_by
    rw [ev_fn2]
    have lr : dListR [.int m] μ = .ok (.obj μ.length) (μ ++ [.lst (rngD 0 m.toNat)]) := by
      unfold dListR; dsimp only; rw [if_pos (by omega)]
    simp only [B__law_names_by, ev_seq, ev_asg, ev_args, ev_cons, ev_nil, ev_varS, ev_var0, Out.bind_ok, lr, Out.bindS_ok, ev_gn, so_next, ev_ret, ev_comp, ev_iRng]
    simp only [List.replicate, List.set_cons_succ, List.set_cons_zero, ev_varS, ev_var0, Out.bind_ok]
    rw [ev_rng1 (by omega) (by omega)]
    simp only [Out.bind_ok, items_fix, List.length_append, List.length_cons, List.length_nil]
    rw [show capD [none, some 2, some 0] [some (D.obj i), some (D.int m), some (D.obj μ.length)] = [none, some (.obj μ.length), some (.obj i)] from rfl]
    rw [run]
    simp only [Out.bind_ok]
    have hl : (μ1' ++ [O.lst ys'])[μ.length + 1]? = some (.lst ys') := by
      have : μ1'.length = μ.length + 1 := by rw [f2]; simp
      rw [← this]; exact get_last
    rw [ev_tupL hl]
    simp only [Out.bindS_ok, out_ret]
    rw [f2, f3, List.append_assoc]
    exact gc_set (lows_iff.mpr (by simp)) low_pen


/-- a pair of places of a web of m -/
def OkP (m : Int) (k : List Int) : Prop := ∃ a b : Int, k = [a, b] ∧ 0 ≤ a ∧ a < b ∧ b < m
theorem OkP.prs {m : Int} {k : List Int} (h : OkP m k) (hm : m ≤ 6) : k ∈ prs := by
  obtain ⟨a, b, rfl, h1, h2, h3⟩ := h
  exact prs_mem h1 h2 (by omega)
/-- a web, as it is made here -/
def GoodW (d : D) (m : Int) (ks : List (List Int)) : Prop := d = .tup [.int m, .tup (ks.map pairD)] ∧ 1 ≤ m ∧ m ≤ 6 ∧ (ks.Pairwise fun a b => enc a < enc b) ∧ ∀ k ∈ ks, OkP m k
theorem sorted_good {m : Int} {ks : List (List Int)} (h0 : 1 ≤ m) (h1 : m ≤ 6) (hk : ∀ k ∈ ks, OkP m k) : GoodW (.tup [.int m, .tup ((sortK ks).map pairD)]) m (sortK ks) := by
  refine ⟨rfl, h0, h1, prs_sorted.filter _, fun k h => ?_⟩
  unfold sortK at h
  rw [List.mem_filter, decide_eq_true_eq] at h
  exact hk k h.2
theorem good_len {m : Int} {ks : List (List Int)} {d : D} (h : GoodW d m ks) : ks.length ≤ 15 := by
  obtain ⟨_, _, hm, hp, hk⟩ := h
  have hn : ks.Nodup := hp.imp fun h e => by subst e; omega
  have hs : ks ⊆ prs := fun k h => (hk k h).prs hm
  have := hn.length_le_of_subset hs
  rw [prs_len] at this
  exact this
def prD (p : Int × Int) : D := .tup [.int p.1, .int p.2]
theorem l2 : (2 : Nat) ≤ sizeLine := by decide
theorem min2 {u v : Int} {μ : Sto} : dMin [.tup [.int u, .int v]] μ = .ok (.int (min u v)) μ := rfl
theorem max2 {u v : Int} {μ : Sto} : dMax [.tup [.int u, .int v]] μ = .ok (.int (max u v)) μ := rfl
theorem sp_named {μ : Sto} {m : Int} {ps : List (Int × Int)} {ns : List Int} (h0 : 1 ≤ m) (h1 : m ≤ 6) (hps : ∀ p ∈ ps, 0 ≤ p.1 ∧ p.1 < m ∧ 0 ≤ p.2 ∧ p.2 < m ∧ p.1 ≠ p.2) (hl : ps.length < 1000)
    (hn : ns.Nodup) (hnl : (ns.length : Int) = m) (hnr : ∀ n ∈ ns, 0 ≤ n ∧ n < m) :
    ∃ d ks, GoodW d m ks ∧ F__law_named [.tup [.int m, .tup (ps.map prD)], .tup (ns.map D.int)] μ = .ok d μ := by
  let nm : Int → Int := fun k => ns.getD k.toNat 0
  have nmD : ∀ k, 0 ≤ k → k < m → atI (ns.map D.int) k = some (.int (nm k)) := fun k k0 k1 => by
    have hk : k.toNat < ns.length := by omega
    refine atI_of k0 ?_
    rw [List.getElem?_map, List.getElem?_eq_getElem hk]
    simp [nm, List.getD_eq_getElem?_getD, List.getElem?_eq_getElem hk]
  have nmR : ∀ k, 0 ≤ k → k < m → 0 ≤ nm k ∧ nm k < m := fun k k0 k1 => by
    have hk : k.toNat < ns.length := by omega
    have : nm k = ns[k.toNat] := by simp [nm, List.getD_eq_getElem?_getD, List.getElem?_eq_getElem hk]
    rw [this]; exact hnr _ (List.getElem_mem hk)
  have nmI : ∀ j k, 0 ≤ j → j < m → 0 ≤ k → k < m → j ≠ k → nm j ≠ nm k := fun j k j0 j1 k0 k1 hjk e => by
    have hj : j.toNat < ns.length := by omega
    have hk : k.toNat < ns.length := by omega
    have e1 : nm j = ns[j.toNat] := by simp [nm, List.getD_eq_getElem?_getD, List.getElem?_eq_getElem hj]
    have e2 : nm k = ns[k.toNat] := by simp [nm, List.getD_eq_getElem?_getD, List.getElem?_eq_getElem hk]
    rw [e1, e2] at e
    have := (List.getElem_inj hn).mp e
    omega
  let qs : List (Int × Int) := ps.map fun p => (nm p.1, nm p.2)
  let ks : List (List Int) := qs.map fun p => [min p.1 p.2, max p.1 p.2]
  have hks : ∀ k ∈ ks, OkP m k := fun k hk => by
    simp only [ks, qs, List.map_map, List.mem_map, Function.comp_apply] at hk
    obtain ⟨p, hp, rfl⟩ := hk
    obtain ⟨a1, a2, a3, a4, a5⟩ := hps p hp
    have b1 := nmR p.1 a1 a2
    have b2 := nmR p.2 a3 a4
    have b3 := nmI p.1 p.2 a1 a2 a3 a4 a5
    exact ⟨_, _, rfl, by omega, by omega, by omega⟩
  refine ⟨_, _, sorted_good h0 h1 hks, ?_⟩
  have c1 : compLoop (.fix (ps.map prD)) μ.length (gTupD 2 (gConsD (gNameD 0) (gConsD (gNameD 1) gNilD))) cTrue E__law_named_1 (ps.map prD) [none, none, some (.tup (ns.map D.int))] (μ ++ [.lst []]) = .ok (.obj μ.length) (μ ++ [.lst (qs.map prD)]) := by
    have := comp_pure (src := .fix (ps.map prD)) (g := gTupD 2 (gConsD (gNameD 0) (gConsD (gNameD 1) gNilD))) (t := cTrue) (e := E__law_named_1) (μ1 := μ) (q := fun _ => true)
      (h := fun d => match d with | .tup [.int a, .int b] => prD (nm a, nm b) | _ => .non) (fun ρ => ∃ o1 o2, ρ = [o1, o2, some (.tup (ns.map D.int))]) (fun _ => trivial) (xs := ps.map prD) (acc := []) (ρ := [none, none, some (.tup (ns.map D.int))]) ⟨none, none, rfl⟩
      (by rw [List.length_map, List.length_nil]; exact Nat.le_trans (by omega) small1)
      (fun x hx a ρ ⟨o1, o2, ho⟩ => by
        obtain ⟨p, hp, rfl⟩ := List.mem_map.mp hx
        obtain ⟨a1, a2, a3, a4, a5⟩ := hps p hp
        refine ⟨[some (.int p.1), some (.int p.2), some (.tup (ns.map D.int))], ⟨_, _, rfl⟩, by subst ho; rfl, rfl, fun _ => ?_⟩
        unfold E__law_named_1
        simp only [ev_tup, ev_cons, ev_nil, ev_bin, ev_varS, ev_var0, Out.bind_ok]
        rw [ev_ixT (nmD p.1 a1 a2)]
        simp only [Out.bind_ok]
        rw [ev_ixT (nmD p.2 a3 a4)]
        simp only [Out.bind_ok, List.length_cons, List.length_nil, if_pos l2]
        rfl)
    rw [this, List.filter_eq_self.mpr (fun _ _ => rfl)]
    simp only [List.nil_append, List.map_map, qs]
    rfl
  have c2 : compLoop (.own μ.length (qs.map prD)) (μ ++ [O.lst (qs.map prD)]).length (gNameD 0) cTrue E__law_named_2 (qs.map prD) [none] ((μ ++ [O.lst (qs.map prD)]) ++ [.lst []]) = .ok (.obj (μ ++ [O.lst (qs.map prD)]).length) ((μ ++ [O.lst (qs.map prD)]) ++ [.lst (ks.map pairD)]) := by
    have := comp_pure (src := .own μ.length (qs.map prD)) (g := gNameD 0) (t := cTrue) (e := E__law_named_2) (μ1 := μ ++ [O.lst (qs.map prD)]) (q := fun _ => true)
      (h := fun d => match d with | .tup [.int a, .int b] => pairD [min a b, max a b] | _ => .non) (fun ρ => ∃ o1, ρ = [o1]) (fun a => get_app get_last) (xs := qs.map prD) (acc := []) (ρ := [none]) ⟨none, rfl⟩
      (by rw [List.length_map, List.length_nil]; simp only [qs, List.length_map]; exact Nat.le_trans (by omega) small1)
      (fun x hx a ρ ⟨o1, ho⟩ => by
        obtain ⟨p, hp, rfl⟩ := List.mem_map.mp hx
        refine ⟨[some (prD p)], ⟨_, rfl⟩, by subst ho; rfl, rfl, fun _ => ?_⟩
        unfold E__law_named_2 prD
        simp only [ev_tup, ev_cons, ev_nil, ev_args, ev_var0, Out.bind_ok, min2, max2, List.length_cons, List.length_nil, if_pos l2]
        rfl)
    rw [this, List.filter_eq_self.mpr (fun _ _ => rfl)]
    simp only [List.nil_append, List.map_map, ks]
    rfl
  have kd : keysD (ks.map pairD) = some ks := keysD_of fun k hk => (hks k hk).prs h1
  unfold F__law_named
  rw [ev_fn2]
  simp only [B__law_named, ev_seq, ev_asg, ev_comp, ev_iVal, ev_bin, ev_var0, ev_varS, ev_C, Out.bind_ok, ev_ixT1, ev_srcT, items_fix]
  rw [show capD [none, none, some 1] (some (D.tup [D.int m, D.tup (List.map prD ps)]) :: some (D.tup (List.map D.int ns)) :: List.replicate (3 - 2) none) = [none, none, some (.tup (ns.map D.int))] from rfl, c1]
  simp only [Out.bindS_ok, ev_gn, so_next, ev_ret, ev_tup, ev_cons, ev_nil, ev_args, ev_bin, ev_var0, ev_varS, ev_C, Out.bind_ok, List.replicate, List.set_cons_succ, List.set_cons_zero, ev_ixT0, ev_comp, ev_iVal]
  rw [ev_srcL get_last]
  simp only [Out.bind_ok, items_own]
  rw [show capD [none] _ = [none] from rfl, c2]
  simp only [Out.bind_ok]
  have s1 : dSet [.obj (μ ++ [O.lst (qs.map prD)]).length] (μ ++ [O.lst (qs.map prD)] ++ [O.lst (ks.map pairD)]) = .ok (.obj (μ ++ [O.lst (qs.map prD)] ++ [O.lst (ks.map pairD)]).length) ((μ ++ [O.lst (qs.map prD)] ++ [O.lst (ks.map pairD)]) ++ [.set (dedupK ks)]) := by
    unfold dSet; dsimp only; rw [get_last]; dsimp only; rw [kd]
  rw [s1]
  simp only [Out.bind_ok]
  have s2 : ∀ M : Sto, dSorted [.obj M.length] (M ++ [.set (dedupK ks)]) = .ok (.obj (M ++ [O.set (dedupK ks)]).length) ((M ++ [.set (dedupK ks)]) ++ [.lst ((sortK ks).map pairD)]) := fun M => by
    unfold dSorted; dsimp only; rw [get_last]; dsimp only; rw [sortK_dedup]
  rw [s2]
  simp only [Out.bind_ok]
  rw [ev_tupL get_last]
  simp only [Out.bind_ok, List.length_cons, List.length_nil, if_pos l2, Out.bindS_ok, out_ret]
  rw [List.append_assoc, List.append_assoc, List.append_assoc]
  exact gc_app (by simp; exact lows_iff.mpr (fun x hx => by obtain ⟨k, _, rfl⟩ := List.mem_map.mp hx; simp [pairD]; exact lows_iff.mpr (by simp)))
theorem good_low {n : Nat} {d : D} {m : Int} {ks : List (List Int)} (h : GoodW d m ks) : d.low n := by
  obtain ⟨rfl, _⟩ := h
  simp
  exact lows_iff.mpr fun x hx => by
    obtain ⟨k, _, rfl⟩ := List.mem_map.mp hx
    simp [pairD]
    exact lows_iff.mpr (by simp)

theorem rngD_succ {lo : Int} {n : Nat} : rngD lo (n + 1) = .int lo :: rngD (lo + 1) n := by
  unfold rngD
  rw [List.range_succ_eq_map, List.map_cons, List.map_map]
  congr 1
  · simp
  · apply List.map_congr_left
    intro i _
    simp only [Function.comp_apply]
    congr 1
    omega
theorem rngD_zero {lo : Int} : rngD lo 0 = [] := rfl
theorem rngD_nil {lo : Int} {n : Nat} (h : rngD lo n = []) : n = 0 := by
  cases n with
  | zero => rfl
  | succ n => rw [rngD_succ] at h; cases h
theorem flat_one {x : D} : ∀ k : Nat, (List.replicate k [x]).flatten = List.replicate k x
  | 0 => rfl
  | k + 1 => by rw [List.replicate_succ, List.flatten_cons, flat_one k]; rfl
theorem l1 : (1 : Nat) ≤ sizeLine := by decide
theorem far1 {M : Sto} {m : Nat} {x : D} (hm : m ≤ 6) : E__law_far_1 [some x, some (.int m)] M = .ok (.obj (M.length + 1)) (M ++ [.lst [.non], .lst (List.replicate m .non)]) := by
  unfold E__law_far_1
  simp only [ev_bin, ev_lst, ev_cons, ev_nil, ev_C, Out.bind_ok, List.length_cons, List.length_nil, if_pos l1, ev_varS, ev_var0]
  unfold dMul
  dsimp only
  rw [get_last]
  dsimp only
  have hz : (6 : Nat) ≤ sizeLine := by decide
  rw [if_pos (by refine ⟨by omega, by omega, ?_⟩; simp only [List.length_cons, List.length_nil]; omega)]
  simp only [Int.toNat_natCast, flat_one, List.length_append, List.length_cons, List.length_nil, List.append_assoc, List.cons_append, List.nil_append]
end Lw

set_option Elab.async false
set_option linter.all false
set_option maxRecDepth 100000
set_option maxHeartbeats 4000000
namespace Lw
open PySem L2 RS Lv

/-! ### how far: the table, exactly -/
def optD : Option Nat → D
  | none => .non
  | some n => .int n
theorem optD_kind (o : Option Nat) : optD o = .non ∨ ∃ i, optD o = .int i := by
  cases o with
  | none => exact .inl rfl
  | some n => exact .inr ⟨n, rfl⟩
def rowD (m : Nat) (f : Int → Option Nat) : List D := (List.range m).map fun q : Nat => optD (f q)
theorem rowD_get {m : Nat} {f : Int → Option Nat} {q : Int} (q0 : 0 ≤ q) (q1 : q < m) : atI (rowD m f) q = some (optD (f q)) := by
  refine atI_of q0 ?_
  unfold rowD
  rw [List.getElem?_map, List.getElem?_range (by omega)]
  simp only [Option.map_some, Int.toNat_of_nonneg q0]
theorem rowD_set {m : Nat} {f : Int → Option Nat} {q : Int} {v : Nat} (q0 : 0 ≤ q) (q1 : q < m) : (rowD m f).set q.toNat (.int v) = rowD m (updF f q v) := by
  unfold rowD
  apply List.ext_getElem?
  intro i
  rw [List.getElem?_set, List.length_map, List.length_range, List.getElem?_map, List.getElem?_map]
  by_cases e : q.toNat = i
  · rw [if_pos e, if_pos (by omega), List.getElem?_range (by omega), ← e]
    simp only [Option.map_some, Int.toNat_of_nonneg q0, updF, if_pos rfl]
    rfl
  · rw [if_neg e]
    by_cases hi : i < m
    · rw [List.getElem?_range hi]
      simp only [Option.map_some, updF]
      rw [if_neg (by omega)]
    · rw [List.getElem?_eq_none (by rw [List.length_range]; omega)]
      rfl
def setT (T : Int → Int → Option Nat) (p : Int) (f : Int → Option Nat) : Int → Int → Option Nat := fun p' => if p' = p then f else T p'
theorem setT_same {T : Int → Int → Option Nat} {p : Int} {f : Int → Option Nat} : setT T p f p = f := if_pos rfl
theorem setT_set {T : Int → Int → Option Nat} {p : Int} {f g : Int → Option Nat} : setT (setT T p f) p g = setT T p g := by
  funext p'
  unfold setT
  by_cases e : p' = p
  · rw [if_pos e, if_pos e]
  · rw [if_neg e, if_neg e, if_neg e]
def FT (μ0 : Sto) (m a : Nat) (T : Int → Int → Option Nat) (μ : Sto) : Prop := μ0.length ≤ a ∧ (∀ i, i < μ0.length → μ[i]? = μ0[i]?) ∧ ∃ bs : List Nat, bs.Nodup ∧ μ[a]? = some (.lst (bs.map D.obj)) ∧ bs.length = m ∧
  ∀ (p b : Nat), bs[p]? = some b → μ0.length ≤ b ∧ b ≠ a ∧ μ[b]? = some (.lst (rowD m (T p)))
theorem FT.app {μ0 μ g : Sto} {m a : Nat} {T : Int → Int → Option Nat} (h : FT μ0 m a T μ) : FT μ0 m a T (μ ++ g) := by
  obtain ⟨h1, h2, bs, h0, h3, h4, h5⟩ := h
  have hl : μ0.length ≤ μ.length := Nat.le_trans h1 (Nat.le_of_lt (List.getElem?_eq_some_iff.mp h3).1)
  refine ⟨h1, fun i hi => ?_, bs, h0, get_app h3, h4, fun p b hb => ?_⟩
  · rw [List.getElem?_append_left (by omega)]; exact h2 i hi
  · obtain ⟨g1, g2, g3⟩ := h5 p b hb
    exact ⟨g1, g2, get_app g3⟩
theorem FT.pre {μ0 μ : Sto} {m a : Nat} {T : Int → Int → Option Nat} (h : FT μ0 m a T μ) : ∃ g, μ = μ0 ++ g := by
  obtain ⟨h1, h2, bs, h0, h3, h4, h5⟩ := h
  refine ⟨μ.drop μ0.length, ?_⟩
  apply List.ext_getElem?
  intro i
  by_cases hi : i < μ0.length
  · rw [List.getElem?_append_left hi, h2 i hi]
  · rw [List.getElem?_append_right (by omega), List.getElem?_drop]
    congr 1; omega
theorem FT.get {μ0 μ : Sto} {m a : Nat} {T : Int → Int → Option Nat} {p : Int} (h : FT μ0 m a T μ) (p0 : 0 ≤ p) (p1 : p < m) : ∃ b, dIx (.obj a) (.int p) μ = .ok (.obj b) μ ∧ (∀ q : Int, 0 ≤ q → q < m → dIx (.obj b) (.int q) μ = .ok (optD (T p q)) μ) ∧
    ∀ (q : Int) (v : Nat), 0 ≤ q → q < m → ∃ μ', setD (.obj b) (.int q) (.int v) μ = .ok () μ' ∧ (∀ (n : Nat) xs t, μ[n]? = some (.lst xs) → D.tup t ∈ xs → μ'[n]? = some (.lst xs)) ∧ FT μ0 m a (setT T p (updF (T p) q v)) μ' := by
  obtain ⟨h1, h2, bs, h0, h3, h4, h5⟩ := h
  have hp : p.toNat < bs.length := by omega
  have hpe : ((p.toNat : Nat) : Int) = p := Int.toNat_of_nonneg p0
  obtain ⟨g1, g2, g3⟩ := h5 p.toNat bs[p.toNat] (List.getElem?_eq_getElem hp)
  rw [hpe] at g3
  refine ⟨bs[p.toNat], ev_ixL h3 (atI_of p0 (by rw [List.getElem?_map, List.getElem?_eq_getElem hp]; rfl)), fun q q0 q1 => ev_ixL g3 (rowD_get q0 q1), fun q v q0 q1 => ?_⟩
  have hlen : (rowD m (T p)).length = m := by unfold rowD; rw [List.length_map, List.length_range]
  refine ⟨_, ev_setL g3 (ixN_of q0 (by rw [hlen]; exact q1)), fun n xs t hn ht => ?_, h1, fun i hi => ?_, bs, h0, ?_, h4, fun p' b hb => ?_⟩
  · by_cases e : bs[p.toNat] = n
    · subst e
      rw [g3] at hn
      cases hn
      unfold rowD at ht
      obtain ⟨j, _, hj⟩ := List.mem_map.mp ht
      rcases optD_kind (T p j) with z | ⟨i, z⟩ <;> (rw [z] at hj; cases hj)
    · rw [List.getElem?_set_ne e]; exact hn
  · rw [List.getElem?_set_ne (by omega)]; exact h2 i hi
  · rw [List.getElem?_set_ne (by omega)]; exact h3
  · obtain ⟨k1, k2, k3⟩ := h5 p' b hb
    obtain ⟨hp', hbe⟩ := List.getElem?_eq_some_iff.mp hb
    refine ⟨k1, k2, ?_⟩
    by_cases e : p' = p.toNat
    · subst e
      rw [hbe, get_set (List.getElem?_eq_some_iff.mp (hbe ▸ g3)).1, rowD_set q0 q1, hpe, setT_same]
    · have hne : bs[p.toNat] ≠ b := fun z => e ((List.getElem_inj h0).mp (hbe.trans z.symm))
      rw [List.getElem?_set_ne hne, k3]
      unfold setT
      rw [if_neg (by omega)]
/-- the ties, there and back -/
def dirs (ks : List (List Int)) : List (Int × Int) := ks.flatMap fun k => match k with
  | [u, v] => [(u, v), (v, u)]
  | _ => []
def Adj (ks : List (List Int)) (a b : Int) : Prop := (a, b) ∈ dirs ks
theorem eq_opt {μ : Sto} {o : Option Nat} {n : Nat} : dEq false (optD o) (.int ((n : Int) + 1 - 1)) μ = .ok (.bl (decide (o = some n))) μ := by
  cases o with
  | none => rfl
  | some k =>
    show dEq false (.int k) (.int ((n : Int) + 1 - 1)) μ = _
    rw [ev_eqI]
    simp only [Bool.false_eq_true, if_false]
    congr 2
    by_cases e : k = n
    · subst e; simp
    · have : ¬ (k : Int) = (n : Int) + 1 - 1 := by omega
      rw [decide_eq_false (show ¬ some k = some n by simp [e])]
      exact beq_eq_false_iff_ne.mpr this
theorem isNon_opt {o : Option Nat} : (optD o).isNon = decide (o = none) := by
  cases o <;> rfl
section
variable {μ0 μ : Sto} {m a : Nat} {web : D} {M p u v q r : Int} {n : Nat} {T : Int → Int → Option Nat} {f : Int → Option Nat}
theorem fr2 (h : FT μ0 m a (setT T p f) μ) (p0 : 0 ≤ p) (p1 : p < m) (q0 : 0 ≤ q) (q1 : q < m) (r0 : 0 ≤ r) (r1 : r < m) :
    ∃ μ', L__law_far_2 [some web, some (.int M), some (.obj a), some (.int p), some (.int ((n : Int) + 1)), some (.int u), some (.int v), some (.int q), some (.int r)] μ = .next [some web, some (.int M), some (.obj a), some (.int p), some (.int ((n : Int) + 1)), some (.int u), some (.int v), some (.int q), some (.int r)] μ' ∧
      (∀ (n : Nat) xs t, μ[n]? = some (.lst xs) → D.tup t ∈ xs → μ'[n]? = some (.lst xs)) ∧ FT μ0 m a (setT T p (stp n f (q, r))) μ' := by
  obtain ⟨b, e1, e2, k⟩ := h.get p0 p1
  rw [setT_same] at k e2
  have sub1 : ∀ x : Int, dSub (.int x) (.int 1) μ = .ok (.int (x - 1)) μ := fun _ => rfl
  unfold L__law_far_2
  simp only [ev_sif, ev_andT, ev_TB, ev_bin, ev_varS, ev_var0, ev_C, Out.bind_ok, e1, e2 q q0 q1, sub1, eq_opt, ev_asB]
  unfold stp
  dsimp only
  by_cases c1 : f q = some n
  · simp only [decide_eq_true c1, if_true, e1, e2 r r0 r1, Out.bind_ok, ev_isN, isNon_opt, Bool.false_eq_true, if_false, ev_asB, Out.bindS_ok]
    by_cases c2 : f r = none
    · obtain ⟨μ', g1, g2, g3⟩ := k r (n + 1) r0 r1
      rw [setT_set] at g3
      rw [show ((n + 1 : Nat) : Int) = (n : Int) + 1 by push_cast; rfl] at g1
      simp only [decide_eq_true c2, if_true, ev_asg, ev_varS, ev_var0, Out.bindS_ok, ev_gsub, ev_bin, Out.bind_ok, e1, g1]
      rw [if_pos ⟨c1, c2⟩]
      exact ⟨μ', rfl, g2, g3⟩
    · simp only [decide_eq_false c2, Bool.false_eq_true, if_false, ev_next]
      rw [if_neg fun z => c2 z.2]
      exact ⟨μ, rfl, fun _ _ _ h _ => h, h⟩
  · simp only [decide_eq_false c1, Bool.false_eq_true, if_false, Out.bindS_ok, ev_next]
    rw [if_neg fun z => c1 z.1]
    exact ⟨μ, rfl, fun _ _ _ h _ => h, h⟩
theorem fr3 (h : FT μ0 m a (setT T p f) μ) (p0 : 0 ≤ p) (p1 : p < m) (u0 : 0 ≤ u) (u1 : u < m) (v0 : 0 ≤ v) (v1 : v < m) {o7 o8 : Option D} :
    ∃ o7' o8' μ', L__law_far_3 [some web, some (.int M), some (.obj a), some (.int p), some (.int ((n : Int) + 1)), some (.int u), some (.int v), o7, o8] μ = .next [some web, some (.int M), some (.obj a), some (.int p), some (.int ((n : Int) + 1)), some (.int u), some (.int v), o7', o8'] μ' ∧ FT μ0 m a (setT T p (stp n (stp n f (u, v)) (v, u))) μ' := by
  unfold L__law_far_3
  simp only [ev_for, ev_iVal, ev_lst, ev_cons, ev_nil, ev_tup, ev_varS, ev_var0, Out.bind_ok, List.length_cons, List.length_nil, if_pos l2]
  rw [ev_srcL get_last]
  simp only [Out.bindS_ok, items_own]
  have hn : (μ ++ [O.lst [.tup [.int u, .int v], .tup [.int v, .int u]]])[μ.length]? = some (.lst [.tup [.int u, .int v], .tup [.int v, .int u]]) := get_last
  obtain ⟨μ1, e1, e2, e3⟩ := fr2 (web := web) (M := M) (n := n) (u := u) (v := v) (h.app (g := [O.lst [.tup [.int u, .int v], .tup [.int v, .int u]]])) p0 p1 u0 u1 v0 v1
  have hn1 := e2 _ _ _ hn List.mem_cons_self
  obtain ⟨μ2, f1, f2, f3⟩ := fr2 (web := web) (M := M) (n := n) (u := u) (v := v) e3 p0 p1 v0 v1 u0 u1
  have hn2 := f2 _ _ _ hn1 List.mem_cons_self
  refine ⟨some (.int v), some (.int u), μ2, ?_, f3⟩
  have g1 : gTupD 2 (gConsD (gNameD 7) (gConsD (gNameD 8) gNilD)) (.tup [.int u, .int v]) [some web, some (.int M), some (.obj a), some (.int p), some (.int ((n : Int) + 1)), some (.int u), some (.int v), o7, o8] (μ ++ [O.lst [.tup [.int u, .int v], .tup [.int v, .int u]]]) = .ok [some web, some (.int M), some (.obj a), some (.int p), some (.int ((n : Int) + 1)), some (.int u), some (.int v), some (.int u), some (.int v)] (μ ++ [O.lst [.tup [.int u, .int v], .tup [.int v, .int u]]]) := rfl
  have g2 : gTupD 2 (gConsD (gNameD 7) (gConsD (gNameD 8) gNilD)) (.tup [.int v, .int u]) [some web, some (.int M), some (.obj a), some (.int p), some (.int ((n : Int) + 1)), some (.int u), some (.int v), some (.int u), some (.int v)] μ1 = .ok [some web, some (.int M), some (.obj a), some (.int p), some (.int ((n : Int) + 1)), some (.int u), some (.int v), some (.int v), some (.int u)] μ1 := rfl
  unfold forD
  rw [if_pos (show okSrc (.own μ.length _) _ from hn), g1, Out.bindS_ok, e1, lo_next]
  unfold forD
  rw [if_pos (show okSrc (.own μ.length _) _ from hn1), g2, Out.bindS_ok, f1, lo_next]
  unfold forD
  rw [if_pos (show okSrc (.own μ.length _) _ from hn2)]
theorem fr4 {ks : List (List Int)} (hk : ∀ k ∈ ks, OkP m k) (h : FT μ0 m a (setT T p f) μ) (p0 : 0 ≤ p) (p1 : p < m) {o5 o6 o7 o8 : Option D} :
    ∃ o5' o6' o7' o8' μ', L__law_far_4 [some (.tup [.int M, .tup (ks.map pairD)]), some (.int M), some (.obj a), some (.int p), some (.int ((n : Int) + 1)), o5, o6, o7, o8] μ = .next [some (.tup [.int M, .tup (ks.map pairD)]), some (.int M), some (.obj a), some (.int p), some (.int ((n : Int) + 1)), o5', o6', o7', o8'] μ' ∧ FT μ0 m a (setT T p ((dirs ks).foldl (stp n) f)) μ' := by
  unfold L__law_far_4
  simp only [ev_for, ev_iVal, ev_bin, ev_var0, ev_C, Out.bind_ok, ev_ixT1, ev_srcT, Out.bindS_ok, items_fix]
  have run := for_run (src := .fix (ks.map pairD)) (g := gTupD 2 (gConsD (gNameD 5) (gConsD (gNameD 6) gNilD))) (fb := L__law_far_3)
    (fun xs ρ μ1 => ∃ ys zs : List (List Int), xs = zs.map pairD ∧ ks = ys ++ zs ∧ FT μ0 m a (setT T p ((dirs ys).foldl (stp n) f)) μ1 ∧ ∃ o5 o6 o7 o8, ρ = [some (.tup [.int M, .tup (ks.map pairD)]), some (.int M), some (.obj a), some (.int p), some (.int ((n : Int) + 1)), o5, o6, o7, o8])
    (fun _ _ _ => trivial)
    (fun x xs ρ μ1 ⟨ys, zs, hx, hks, hF, o5, o6, o7, o8, e⟩ => by
      subst e
      cases zs with
      | nil => cases hx
      | cons k zs =>
        injection hx with hx1 hx2
        subst hx1 hx2
        obtain ⟨u, v, rfl, u0, uv, v1⟩ := hk k (by rw [hks]; simp)
        obtain ⟨o7', o8', μ3, e1, e3⟩ := fr3 (web := .tup [.int M, .tup (ks.map pairD)]) (M := M) (n := n) (u := u) (v := v) (o7 := o7) (o8 := o8) hF p0 p1 u0 (by omega) (by omega) v1
        refine ⟨trivial, _, μ1, _, μ3, rfl, e1, ys ++ [[u, v]], zs, rfl, by rw [hks]; simp, ?_, _, _, _, _, rfl⟩
        have : dirs (ys ++ [[u, v]]) = dirs ys ++ [(u, v), (v, u)] := by simp [dirs]
        rw [this, List.foldl_append]
        exact e3)
    (xs := ks.map pairD) (ρ := [some (.tup [.int M, .tup (ks.map pairD)]), some (.int M), some (.obj a), some (.int p), some (.int ((n : Int) + 1)), o5, o6, o7, o8]) (μ := μ)
    ⟨[], ks, rfl, rfl, h, o5, o6, o7, o8, rfl⟩
  obtain ⟨ρ', μ', ⟨ys, zs, hx, hks, hF, o5', o6', o7', o8', e⟩, run⟩ := run
  subst e
  have hz : zs = [] := by cases zs with
    | nil => rfl
    | cons => cases hx
  subst hz
  rw [List.append_nil] at hks
  subst hks
  exact ⟨o5', o6', o7', o8', μ', run, hF⟩
theorem dirs_ok {ks : List (List Int)} (hk : ∀ k ∈ ks, OkP m k) {x y : Int} (h : Adj ks x y) : (0 ≤ x ∧ x < m) ∧ (0 ≤ y ∧ y < m) := by
  unfold Adj dirs at h
  obtain ⟨k, hk', hm⟩ := List.mem_flatMap.mp h
  obtain ⟨u, v, rfl, u0, uv, v1⟩ := hk k hk'
  simp at hm
  omega
theorem fr5 {ks : List (List Int)} (hk : ∀ k ∈ ks, OkP m k) (h : FT μ0 m a (setT T p fun _ => none) μ) (p0 : 0 ≤ p) (p1 : p < m) (hm : m ≤ 6) {o4 o5 o6 o7 o8 : Option D} :
    ∃ o4' o5' o6' o7' o8' μ' f, L__law_far_5 [some (.tup [.int m, .tup (ks.map pairD)]), some (.int m), some (.obj a), some (.int p), o4, o5, o6, o7, o8] μ = .next [some (.tup [.int m, .tup (ks.map pairD)]), some (.int m), some (.obj a), some (.int p), o4', o5', o6', o7', o8'] μ' ∧ FT μ0 m a (setT T p f) μ' ∧ Full (Adj ks) p (fun q => 0 ≤ q ∧ q < m) f := by
  obtain ⟨b, e1, _, k⟩ := h.get p0 p1
  obtain ⟨μ1, e3, _, h1⟩ := k p 0 p0 p1
  rw [setT_set, setT_same] at h1
  unfold L__law_far_5
  simp only [ev_seq, ev_asg, ev_C, Out.bindS_ok, ev_gsub, ev_bin, ev_varS, ev_var0, Out.bind_ok, e1]
  rw [show (D.int 0) = .int ((0 : Nat) : Int) from rfl, e3]
  simp only [Out.bind_ok, Out.bindS_ok, so_next, ev_for, ev_iRng, ev_cons, ev_nil, ev_C, ev_varS, ev_var0]
  rw [ev_rng2 (by omega) (by omega) (by omega) (by omega)]
  simp only [Out.bindS_ok, items_fix]
  have run := for_run (src := .fix (rngD 1 ((m : Int) - 1).toNat)) (g := gNameD 4) (fb := L__law_far_4)
    (fun xs ρ μ1 => ∃ (n c : Nat) (f : Int → Option Nat), xs = rngD ((n : Int) + 1) c ∧ n + 1 + c = m ∧ FT μ0 m a (setT T p f) μ1 ∧ Up (Adj ks) p (fun q => 0 ≤ q ∧ q < m) n f ∧ ∃ o4 o5 o6 o7 o8, ρ = [some (.tup [.int m, .tup (ks.map pairD)]), some (.int m), some (.obj a), some (.int p), o4, o5, o6, o7, o8])
    (fun _ _ _ => trivial)
    (fun x xs ρ μ1 ⟨n, c, f, hx, hc, hF, hU, o4, o5, o6, o7, o8, e⟩ => by
      subst e
      cases c with
      | zero => rw [rngD_zero] at hx; cases hx
      | succ c =>
        rw [rngD_succ] at hx
        injection hx with hx1 hx2
        subst hx1 hx2
        obtain ⟨o5', o6', o7', o8', μ3, e1, e3⟩ := fr4 (M := m) (n := n) (o5 := o5) (o6 := o6) (o7 := o7) (o8 := o8) hk hF p0 p1
        exact ⟨trivial, _, μ1, _, μ3, rfl, e1, n + 1, c, _, by push_cast; rfl, by omega, e3, round_up hU (fun a b h => (dirs_ok hk h).1) (fun a b => Iff.rfl), _, _, _, _, _, rfl⟩)
    (xs := rngD 1 ((m : Int) - 1).toNat) (ρ := [some (.tup [.int m, .tup (ks.map pairD)]), some (.int m), some (.obj a), some (.int p), o4, o5, o6, o7, o8]) (μ := μ1)
    ⟨0, m - 1, _, by rw [show ((m : Int) - 1).toNat = m - 1 by omega]; rfl, by omega, h1, Up.zero (fun q _ => by unfold updF; rfl), o4, o5, o6, o7, o8, rfl⟩
  obtain ⟨ρ', μ', ⟨n, c, f, hx, hc, hF, hU, o4', o5', o6', o7', o8', e⟩, run⟩ := run
  subst e
  have hz := rngD_nil hx.symm
  subst hz
  refine ⟨o4', o5', o6', o7', o8', μ', f, run, hF, hU.full (fun a b h => (dirs_ok hk h).2) fun q hq hl => ?_⟩
  have := lev_lt (m := m) ⟨p0, p1⟩ (fun a b h => (dirs_ok hk h).2) hl
  omega
end
end Lw

set_option Elab.async false
set_option linter.all false
set_option maxRecDepth 100000
set_option maxHeartbeats 4000000
namespace Lw
open PySem L2 RS Lv

theorem rowD_none {m : Nat} : rowD m (fun _ => none) = List.replicate m .non := by
  unfold rowD optD
  rw [List.map_const', List.length_range]
theorem fr_rows {μ : Sto} {m : Nat} (hm : m ≤ 6) : ∃ (bs : List Nat) (s : Sto), compLoop (.fix (rngD 0 m)) μ.length (gNameD 0) cTrue E__law_far_1 (rngD 0 m) [none, some (.int m)] (μ ++ [.lst []]) = .ok (.obj μ.length) (μ ++ .lst (bs.map D.obj) :: s) ∧ bs.length = m ∧ bs.Nodup ∧ ∀ b ∈ bs, ∃ j, b = μ.length + 1 + j ∧ s[j]? = some (.lst (List.replicate m .non)) := by
  have run := comp_run (src := .fix (rngD 0 m)) (g := gNameD 0) (t := cTrue) (e := E__law_far_1) (n := μ.length)
    (fun xs ys ρ μ1 s => μ1 = μ ∧ (∃ o, ρ = [o, some (.int m)]) ∧ ∃ bs : List Nat, ys = bs.map D.obj ∧ bs.length + xs.length = m ∧ bs.Nodup ∧ ∀ b ∈ bs, ∃ j, b = μ.length + 1 + j ∧ s[j]? = some (.lst (List.replicate m .non)))
    (fun ys ρ μ1 s ⟨e, _⟩ => ⟨by rw [e], trivial⟩)
    (fun x r ys ρ μ1 s ⟨e1, ⟨o, e2⟩, bs, e3, e4, e6, e5⟩ => by
      subst e1 e2
      refine ⟨rfl, trivial, [some x, some (.int m)], _, s, true, _, s, rfl, rfl, fun _ => ?_, fun z => by cases z⟩
      have e := far1 (M := μ1 ++ .lst ys :: s) (x := x) hm
      simp only [List.length_cons] at e4
      refine ⟨.obj ((μ1 ++ O.lst ys :: s).length + 1), μ1, s ++ [.lst [.non], .lst (List.replicate m .non)], by rw [e]; simp, ?_, rfl, rfl, ⟨_, rfl⟩, bs ++ [(μ1 ++ O.lst ys :: s).length + 1], by rw [e3]; simp, by simp; omega, ?_, fun b hb => ?_⟩
      · rw [e3, List.length_map]
        exact Nat.lt_of_lt_of_le (show bs.length < 1000 by omega) small1
      · rw [List.nodup_append]
        refine ⟨e6, by simp, fun b hb c hc => ?_⟩
        obtain ⟨j, f1, f2⟩ := e5 b hb
        have := (List.getElem?_eq_some_iff.mp f2).1
        simp only [List.mem_singleton, List.length_append, List.length_cons] at hc
        omega
      · rcases List.mem_append.mp hb with z | z
        · obtain ⟨j, f1, f2⟩ := e5 b z
          exact ⟨j, f1, get_app f2⟩
        · refine ⟨s.length + 1, ?_, ?_⟩
          · simp only [List.mem_singleton, List.length_append, List.length_cons] at z; omega
          · rw [List.getElem?_append_right (by omega)]; simp)
    (xs := rngD 0 m) (ys := []) (ρ := [none, some (.int m)]) (μ1 := μ) (s := [])
    ⟨rfl, ⟨_, rfl⟩, [], rfl, by simp [rngD], by simp, by simp⟩
  obtain ⟨ys', ρ', μ1', s', ⟨e1, _, bs, e3, e4, e6, e5⟩, run⟩ := run
  subst e1 e3
  exact ⟨bs, s', run, by simpa using e4, e6, e5⟩
theorem sp_farE {μ : Sto} {k : Nat} {ks : List (List Int)} (h : GoodW (.tup [.int k, .tup (ks.map pairD)]) k ks) : ∃ a μ' T, F__law_far [.tup [.int k, .tup (ks.map pairD)]] μ = .ok (.obj a) μ' ∧ FT μ k a T μ' ∧ ∀ p : Int, 0 ≤ p → p < k → Full (Adj ks) p (fun q => 0 ≤ q ∧ q < k) (T p) := by
  obtain ⟨_, h0, h1, hp, hk⟩ := h
  have hk6 : k ≤ 6 := by omega
  obtain ⟨bs, s, e1, e2, e4, e3⟩ := fr_rows (μ := μ) hk6
  have F0 : FT μ k μ.length (fun _ _ => none) (μ ++ .lst (bs.map D.obj) :: s) := by
    refine ⟨Nat.le_refl _, fun i hi => by rw [List.getElem?_append_left hi], bs, e4, get_last, e2, fun p b hb => ?_⟩
    obtain ⟨j, rfl, f⟩ := e3 b (List.mem_of_getElem? hb)
    refine ⟨by omega, by omega, ?_⟩
    rw [List.getElem?_append_right (by omega), show μ.length + 1 + j - μ.length = j + 1 by omega, rowD_none]
    exact f
  have run := for_run (src := .fix (rngD 0 k)) (g := gNameD 3) (fb := L__law_far_5)
    (fun xs ρ μ1 => ∃ (n c : Nat) (T : Int → Int → Option Nat), xs = rngD n c ∧ n + c = k ∧ FT μ k μ.length T μ1 ∧ (∀ p : Int, (n : Int) ≤ p → T p = fun _ => none) ∧ (∀ p : Int, 0 ≤ p → p < n → Full (Adj ks) p (fun q => 0 ≤ q ∧ q < k) (T p)) ∧ ∃ o3 o4 o5 o6 o7 o8, ρ = [some (.tup [.int k, .tup (ks.map pairD)]), some (.int k), some (.obj μ.length), o3, o4, o5, o6, o7, o8])
    (fun _ _ _ => trivial)
    (fun x xs ρ μ1 ⟨n, c, T, hx, hc, hF, hN, hU, o3, o4, o5, o6, o7, o8, e⟩ => by
      subst e
      cases c with
      | zero => rw [rngD_zero] at hx; cases hx
      | succ c =>
        rw [rngD_succ] at hx
        injection hx with hx1 hx2
        subst hx1 hx2
        have hT : setT T n (fun _ => none) = T := by
          funext p'
          unfold setT
          by_cases e : p' = (n : Int)
          · rw [if_pos e, e, hN n (Int.le_refl _)]
          · rw [if_neg e]
        obtain ⟨o4', o5', o6', o7', o8', μ3, f, g1, g3, g4⟩ := fr5 (T := T) (p := (n : Int)) (o4 := o4) (o5 := o5) (o6 := o6) (o7 := o7) (o8 := o8) hk (by rw [hT]; exact hF) (by omega) (by omega) hk6
        refine ⟨trivial, _, μ1, _, μ3, rfl, g1, n + 1, c, _, by push_cast; rfl, by omega, g3, fun p hp => ?_, fun p p0 p1 => ?_, _, _, _, _, _, _, rfl⟩
        · unfold setT
          rw [if_neg (by omega)]
          exact hN p (by omega)
        · unfold setT
          by_cases e : p = (n : Int)
          · rw [if_pos e, e]; exact g4
          · rw [if_neg e]; exact hU p p0 (by omega))
    (xs := rngD 0 k) (ρ := [some (.tup [.int k, .tup (ks.map pairD)]), some (.int k), some (.obj μ.length), none, none, none, none, none, none]) (μ := μ ++ .lst (bs.map D.obj) :: s)
    ⟨0, k, _, rfl, by omega, F0, fun _ _ => rfl, fun p p0 p1 => by omega, _, _, _, _, _, _, rfl⟩
  obtain ⟨ρ', μ', ⟨n, c, T, hx, hc, hF, hN, hU, o3, o4, o5, o6, o7, o8, e⟩, run⟩ := run
  subst e
  have hz := rngD_nil hx.symm
  subst hz
  have hnk : n = k := by omega
  subst hnk
  refine ⟨μ.length, μ', T, ?_, hF, hU⟩
  unfold F__law_far
  rw [ev_fn1]
  simp only [B__law_far, ev_seq, ev_asg, ev_bin, ev_var0, ev_C, Out.bind_ok, ev_ixT0, Out.bindS_ok, ev_gn, so_next, ev_comp, ev_iRng, ev_cons, ev_nil]
  simp only [List.replicate, List.set_cons_succ, List.set_cons_zero, ev_varS, ev_var0, Out.bind_ok]
  rw [ev_rng1 (by omega) (by omega)]
  simp only [Out.bind_ok, items_fix, Int.toNat_natCast]
  rw [show capD [none, some 1] [some (D.tup [D.int n, D.tup (List.map pairD ks)]), some (D.int n), none, none, none, none, none, none, none] = [none, some (.int n)] from rfl, e1]
  simp only [Out.bindS_ok, ev_gn, so_next, ev_seq, ev_for, ev_iRng, ev_cons, ev_nil, List.set_cons_succ, List.set_cons_zero, ev_varS, ev_var0, Out.bind_ok]
  rw [ev_rng1 (by omega) (by omega)]
  simp only [Out.bindS_ok, items_fix, Int.toNat_natCast]
  rw [run]
  simp only [so_next, ev_ret, ev_varS, ev_var0, Out.bindS_ok, out_ret]
  exact gc_no (by simp)
end Lw

set_option Elab.async false
set_option linter.all false
set_option maxRecDepth 100000
set_option maxHeartbeats 4000000
namespace Lw
open PySem L2 RS Lv

def okd (k : Int) : Option Nat → Bool
  | some j => decide ((j : Int) ≤ k)
  | none => false
def rowK (T : Int → Int → Option Nat) (k p lo : Int) (c : Nat) : List (List Int) := (((List.range c).map fun i : Nat => lo + (i : Int)).filter fun q => okd k (T p q)).map fun q => [p, q]
def stK (m : Nat) (T : Int → Int → Option Nat) (k : Int) : List (List Int) := (List.range m).flatMap fun p : Nat => rowK T k p ((p : Int) + 1) (m - (p + 1))
theorem rowK_len {T : Int → Int → Option Nat} {k p lo : Int} {c : Nat} : (rowK T k p lo c).length ≤ c := by
  unfold rowK
  rw [List.length_map]
  refine Nat.le_trans (List.length_filter_le _ _) ?_
  rw [List.length_map, List.length_range]
  exact Nat.le_refl _
theorem rowK_mem {T : Int → Int → Option Nat} {k p lo : Int} {c : Nat} {x : List Int} (h : x ∈ rowK T k p lo c) : ∃ q : Int, x = [p, q] ∧ lo ≤ q ∧ q < lo + c := by
  unfold rowK at h
  obtain ⟨q, hq, rfl⟩ := List.mem_map.mp h
  obtain ⟨hq, _⟩ := List.mem_filter.mp hq
  obtain ⟨i, hi, rfl⟩ := List.mem_map.mp hq
  rw [List.mem_range] at hi
  exact ⟨_, rfl, by omega, by omega⟩
theorem rowK_pw {T : Int → Int → Option Nat} {k p lo : Int} {c : Nat} : (rowK T k p lo c).Pairwise fun a b => enc a < enc b := by
  unfold rowK
  rw [List.pairwise_map]
  apply List.Pairwise.filter
  rw [List.pairwise_map]
  exact List.pairwise_lt_range.imp fun {a b} h => by show p * 6 + (lo + (a : Int)) < p * 6 + (lo + (b : Int)); omega
theorem stK_good {m : Nat} {T : Int → Int → Option Nat} {k : Int} (h0 : 1 ≤ m) (h1 : m ≤ 6) : GoodW (.tup [.int m, .tup ((stK m T k).map pairD)]) m (stK m T k) := by
  refine ⟨rfl, by omega, by omega, ?_, fun x hx => ?_⟩
  · unfold stK
    rw [List.pairwise_flatMap]
    refine ⟨fun p _ => rowK_pw, ?_⟩
    refine List.Pairwise.imp_of_mem (R := (· < ·)) ?_ List.pairwise_lt_range
    intro a b ha hb hab x hx y hy
    rw [List.mem_range] at ha hb
    obtain ⟨q, rfl, q0, q1⟩ := rowK_mem hx
    obtain ⟨r, rfl, r0, r1⟩ := rowK_mem hy
    show (a : Int) * 6 + q < (b : Int) * 6 + r
    omega
  · unfold stK at hx
    obtain ⟨p, hp, hx⟩ := List.mem_flatMap.mp hx
    rw [List.mem_range] at hp
    obtain ⟨q, rfl, q0, q1⟩ := rowK_mem hx
    exact ⟨_, _, rfl, by omega, by omega, by omega⟩
theorem rowK_rng {T : Int → Int → Option Nat} {k p lo : Int} {c : Nat} : ((rngD lo c).filter fun d => match d with | .int q => okd k (T p q) | _ => false).map (fun d => match d with | .int q => pairD [p, q] | _ => .non) = (rowK T k p lo c).map pairD := by
  unfold rngD rowK
  rw [List.filter_map, List.map_map, List.filter_map, List.map_map, List.map_map]
  rfl
section
variable {μ0 μ : Sto} {m a : Nat} {p q : Int} {k : Int} {T : Int → Int → Option Nat}
theorem stE_test (h : FT μ0 m a T μ) (p0 : 0 ≤ p) (p1 : p < m) (q0 : 0 ≤ q) (q1 : q < m) : T__law_steps_2 [some (.int q), some (.int p), some (.int k), some (.obj a)] μ = .ok (okd k (T p q)) μ := by
  obtain ⟨b, e1, e2, _⟩ := h.get p0 p1
  unfold T__law_steps_2
  simp only [ev_andT, ev_TB, ev_bin, ev_varS, ev_var0, ev_C, Out.bind_ok, e1, e2 q q0 q1, ev_isN, isNon_opt, ev_asB]
  cases e : T p q with
  | none => rfl
  | some j =>
    simp only [decide_eq_false (show ¬ some j = none by simp), Bool.not_false, if_true, ev_cmpI, Out.bind_ok, ev_asB, optD]
    rfl
theorem stE_comp (h : FT μ0 m a T μ) (hm : m ≤ 6) (p0 : 0 ≤ p) (p1 : p < m) :
    compLoop (.fix (rngD (p + 1) ((m : Int) - (p + 1)).toNat)) μ.length (gNameD 0) T__law_steps_2 E__law_steps_1 (rngD (p + 1) ((m : Int) - (p + 1)).toNat) [none, some (.int p), some (.int k), some (.obj a)] (μ ++ [.lst []]) = .ok (.obj μ.length) (μ ++ [.lst ((rowK T k p (p + 1) ((m : Int) - (p + 1)).toNat).map pairD)]) := by
  have := comp_pure (src := .fix (rngD (p + 1) ((m : Int) - (p + 1)).toNat)) (g := gNameD 0) (t := T__law_steps_2) (e := E__law_steps_1) (μ1 := μ) (q := fun d => match d with | .int q => okd k (T p q) | _ => false)
    (h := fun d => match d with | .int q => pairD [p, q] | _ => .non) (fun ρ => ∃ o, ρ = [o, some (.int p), some (.int k), some (.obj a)]) (fun _ => trivial) (xs := rngD (p + 1) ((m : Int) - (p + 1)).toNat) (acc := []) (ρ := [none, some (.int p), some (.int k), some (.obj a)]) ⟨none, rfl⟩
    (by unfold rngD; rw [List.length_map, List.length_nil, List.length_range]; exact Nat.le_trans (by omega) small1)
    (fun x hx acc ρ ⟨o, ho⟩ => by
      unfold rngD at hx
      obtain ⟨i, hi, rfl⟩ := List.mem_map.mp hx
      rw [List.mem_range] at hi
      subst ho
      refine ⟨[some (.int (p + 1 + (i : Int))), some (.int p), some (.int k), some (.obj a)], ⟨_, rfl⟩, rfl, stE_test (h.app) p0 p1 (by omega) (by omega), fun _ => ?_⟩
      unfold E__law_steps_1
      simp only [ev_tup, ev_cons, ev_nil, ev_varS, ev_var0, Out.bind_ok, List.length_cons, List.length_nil, if_pos l2]
      rfl)
  rw [this, rowK_rng]
  rfl
end
theorem flat_len {m : Nat} {T : Int → Int → Option Nat} {k : Int} (h : m ≤ 6) : ∀ n, ((List.range n).flatMap fun p : Nat => rowK T k p ((p : Int) + 1) (m - (p + 1))).length ≤ 6 * n
  | 0 => by simp
  | n + 1 => by
    rw [List.range_succ, List.flatMap_append, List.length_append]
    have := flat_len (T := T) (k := k) h n
    have h2 := rowK_len (T := T) (k := k) (p := n) (lo := (n : Int) + 1) (c := m - (n + 1))
    simp only [List.flatMap_cons, List.flatMap_nil, List.append_nil]
    omega
theorem sp_stepsE {μ : Sto} {m : Nat} {k : Int} {ks : List (List Int)} (h : GoodW (.tup [.int m, .tup (ks.map pairD)]) m ks) : ∃ T, (∀ p : Int, 0 ≤ p → p < m → Full (Adj ks) p (fun q => 0 ≤ q ∧ q < m) (T p)) ∧
    F__law_steps [.tup [.int m, .tup (ks.map pairD)], .int k] μ = .ok (.tup [.int m, .tup ((stK m T k).map pairD)]) μ := by
  obtain ⟨a, μf, T, ef, hF, hT⟩ := sp_farE (μ := μ) h
  obtain ⟨_, h0, h1, hp, hk⟩ := h
  have hm6 : m ≤ 6 := by omega
  refine ⟨T, hT, ?_⟩
  have run := for_run (src := .fix (rngD 0 m)) (g := gNameD 4) (fb := L__law_steps_3)
    (fun xs ρ μ1 => ∃ (n c t : Nat) (o4 : Option D), xs = rngD n c ∧ n + c = m ∧ ρ = [some (.tup [.int m, .tup (ks.map pairD)]), some (.int k), some (.obj a), some (.obj t), o4] ∧ FT μ m a T μ1 ∧ μ1[t]? = some (.lst (((List.range n).flatMap fun p : Nat => rowK T k p ((p : Int) + 1) (m - (p + 1))).map pairD)))
    (fun _ _ _ => trivial)
    (fun x r ρ μ1 ⟨n, c, t, o4, e1, e3, e4, e5, e6⟩ => by
      subst e4
      cases c with
      | zero => rw [rngD_zero] at e1; cases e1
      | succ c =>
        rw [rngD_succ] at e1
        injection e1 with ex er
        subst ex er
        have q3 := stE_comp (k := k) (p := (n : Int)) e5 hm6 (by omega) (by omega)
        rw [show ((m : Int) - ((n : Int) + 1)).toNat = m - (n + 1) by omega] at q3
        have hlen := flat_len (T := T) (k := k) hm6 n
        have hrow := rowK_len (T := T) (k := k) (p := n) (lo := (n : Int) + 1) (c := m - (n + 1))
        refine ⟨trivial, _, μ1, [some (.tup [.int m, .tup (ks.map pairD)]), some (.int k), some (.obj a), some (.obj (μ1.length + 1)), some (.int n)], (μ1 ++ [O.lst ((rowK T k n ((n : Int) + 1) (m - (n + 1))).map pairD)]) ++ [O.lst (((List.range (n + 1)).flatMap fun p : Nat => rowK T k p ((p : Int) + 1) (m - (p + 1))).map pairD)], rfl, ?_, n + 1, c, μ1.length + 1, some (.int n), by push_cast; rfl, by omega, rfl, (e5.app).app, ?_⟩
        · show L__law_steps_3 [some (.tup [.int m, .tup (ks.map pairD)]), some (.int k), some (.obj a), some (.obj t), some (.int n)] μ1 = _
          unfold L__law_steps_3
          simp only [ev_asg, ev_bin, ev_varS, ev_var0, Out.bind_ok, ev_comp, ev_iRng, ev_cons, ev_nil, ev_C, ev_addI, ev_ixT0]
          rw [ev_rng2 (by omega) (by omega) (by omega) (by omega)]
          simp only [Out.bind_ok, items_fix]
          rw [show ((m : Int) - ((n : Int) + 1)).toNat = m - (n + 1) by omega]
          rw [show capD [none, some 4, some 1, some 2] [some (D.tup [D.int ↑m, D.tup (List.map pairD ks)]), some (D.int k), some (D.obj a), some (D.obj t), some (D.int n)] = [none, some (.int n), some (.int k), some (.obj a)] from rfl, q3]
          simp only [Out.bind_ok]
          unfold dAdd
          dsimp only
          rw [get_app e6, get_last]
          dsimp only
          rw [if_pos (by
            rw [List.length_map, List.length_map]
            exact Nat.le_trans (show _ ≤ 1000 by omega) small1)]
          simp only [Out.bindS_ok, ev_gn]
          simp only [List.length_append, List.length_cons, List.length_nil, List.set_cons_succ, List.set_cons_zero, List.range_succ, List.flatMap_append, List.map_append, List.flatMap_cons, List.flatMap_nil, List.append_nil]
        · have : μ1.length + 1 = (μ1 ++ [O.lst ((rowK T k n ((n : Int) + 1) (m - (n + 1))).map pairD)]).length := by simp
          rw [this]; exact get_last)
    (xs := rngD 0 m) (ρ := [some (.tup [.int m, .tup (ks.map pairD)]), some (.int k), some (.obj a), some (.obj μf.length), none]) (μ := μf ++ [.lst []])
    ⟨0, m, μf.length, none, rfl, by omega, rfl, hF.app, get_last⟩
  obtain ⟨ρ', μ', ⟨n, c, t, o4, e1, e3, e4, e5, e6⟩, run⟩ := run
  subst e4
  have hz := rngD_nil e1.symm
  subst hz
  have hnm : n = m := by omega
  subst hnm
  have hg : GoodW (.tup [.int n, .tup ((stK n T k).map pairD)]) n (stK n T k) := stK_good (by omega) hm6
  obtain ⟨g, hpre⟩ := e5.pre
  unfold F__law_steps
  rw [ev_fn2]
  simp only [B__law_steps, ev_seq, ev_asg, ev_args, ev_cons, ev_nil, ev_var0, Out.bind_ok, ef, Out.bindS_ok, ev_gn, so_next, ev_lst]
  have l0 : (0 : Nat) ≤ sizeLine := Nat.zero_le _
  simp only [List.length_nil, if_pos l0, Out.bindS_ok, so_next, List.replicate, List.set_cons_succ, List.set_cons_zero, ev_seq, ev_for, ev_iRng, ev_cons, ev_nil, ev_bin, ev_var0, ev_C, Out.bind_ok, ev_ixT0]
  rw [ev_rng1 (by omega) (by omega)]
  simp only [Out.bindS_ok, items_fix, Int.toNat_natCast]
  rw [run]
  simp only [so_next, ev_ret, ev_tup, ev_cons, ev_nil, ev_bin, ev_args, ev_varS, ev_var0, ev_C, Out.bind_ok, ev_ixT0]
  rw [ev_tupL e6]
  simp only [Out.bind_ok, List.length_cons, List.length_nil, if_pos l2, Out.bindS_ok, out_ret]
  rw [hpre]
  exact gc_app (good_low hg)
end Lw

set_option Elab.async false
set_option linter.all false
set_option maxRecDepth 100000
set_option maxHeartbeats 4000000
namespace Lw
open PySem L2 RS Lv

theorem ints_toL {μ : Sto} : ∀ fs : List Int, toLs1 μ (fs.map D.int) = some (fs.map PyData.int)
  | [] => rfl
  | x :: fs => by simp only [List.map_cons, toLs1, ints_toL fs]; rfl
theorem ints_fit : ∀ fs : List Int, PyData.canLayAll0 (fs.map PyData.int) = true ∧ PyData.depthAll (fs.map PyData.int) = 0
  | [] => by simp [PyData.canLayAll0, PyData.depthAll]
  | x :: fs => by
    have := ints_fit fs
    simp only [List.map_cons, PyData.canLayAll0, PyData.depthAll, PyData.canLay0, PyData.depth, this.1, this.2]
    exact ⟨rfl, rfl⟩
theorem in_ints {μ : Sto} {F : Nat} {fs : List Int} {a : Int} (h : μ[F]? = some (.lst (fs.map D.int))) : dIn false (.int a) (.obj F) μ = .ok (.bl (decide (a ∈ fs))) μ := by
  have e1 : toL μ (.int a) = some (.int a) := rfl
  have e2 : toL μ (.obj F) = some (.list (fs.map PyData.int)) := by
    unfold toL
    dsimp only
    rw [h]
    dsimp only
    rw [ints_toL]
    rfl
  have f1 : fitP (.int a) = true := rfl
  have f2 : fitP (.list (fs.map PyData.int)) = true := by
    have := ints_fit fs
    simp only [fitP, PyData.canLay0, this.1, PyData.depth, this.2, Bool.true_and]
    rfl
  unfold dIn
  rw [e1, e2]
  dsimp only [itemsP]
  rw [if_pos ⟨f1, f2⟩]
  simp only [Bool.false_eq_true, if_false]
  congr 2
  rw [List.any_map]
  apply Bool.eq_iff_iff.mpr
  rw [List.any_eq_true, decide_eq_true_eq]
  constructor
  · rintro ⟨x, hx, e⟩
    have : x = a := by simpa [PyData.eqv] using e
    subst this; exact hx
  · intro hx
    exact ⟨a, hx, by simp [PyData.eqv]⟩
theorem adj_iff {m : Int} {ks : List (List Int)} (hk : ∀ k ∈ ks, OkP m k) {a b : Int} : Adj ks a b ↔ ([a, b] ∈ ks ∨ [b, a] ∈ ks) := by
  unfold Adj dirs
  rw [List.mem_flatMap]
  constructor
  · rintro ⟨k, hk', hm⟩
    obtain ⟨u, v, rfl, _⟩ := hk k hk'
    simp at hm
    rcases hm with ⟨rfl, rfl⟩ | ⟨rfl, rfl⟩
    · exact .inl hk'
    · exact .inr hk'
  · rintro (h | h)
    · exact ⟨_, h, by simp⟩
    · exact ⟨_, h, by simp⟩
/-- the other ends -/
theorem ends_list {m : Int} {t e : List Int → Int} : ∀ {ks : List (List Int)}, (∀ k ∈ ks, OkP m k) → ∀ (P : Int → Bool), ∃ l : List Int,
    ((ks.map pairD).filter (fun d => match d with | .tup [.int a, .int b] => P (t [a, b]) | _ => false)).map (fun d => match d with | .tup [.int a, .int b] => .int (e [a, b]) | _ => .non) = l.map D.int ∧ l.length ≤ ks.length ∧ ∀ x, x ∈ l ↔ ∃ k ∈ ks, P (t k) = true ∧ x = e k
  | [], _, P => ⟨[], rfl, Nat.le_refl _, by simp⟩
  | k :: ks, h, P => by
    obtain ⟨l, e1, e2, e3⟩ := ends_list (t := t) (e := e) (ks := ks) (fun x hx => h x (List.mem_cons_of_mem _ hx)) P
    obtain ⟨a, b, rfl, _⟩ := h k List.mem_cons_self
    rw [List.map_cons, List.filter_cons]
    show ∃ l : List Int, List.map _ (if P (t [a, b]) = true then _ else _) = _ ∧ _
    by_cases c : P (t [a, b]) = true
    · rw [if_pos c, List.map_cons, e1]
      refine ⟨e [a, b] :: l, rfl, by simp; omega, fun x => ?_⟩
      simp only [List.mem_cons, e3]
      constructor
      · rintro (rfl | ⟨k, hk, z⟩)
        · exact ⟨[a, b], .inl rfl, c, rfl⟩
        · exact ⟨k, .inr hk, z⟩
      · rintro ⟨k, rfl | hk, z1, z2⟩
        · exact .inl z2
        · exact .inr ⟨k, hk, z1, z2⟩
    · rw [if_neg c, e1]
      refine ⟨l, rfl, by simp; omega, fun x => ?_⟩
      simp only [List.mem_cons, e3]
      constructor
      · rintro ⟨k, hk, z⟩; exact ⟨k, .inr hk, z⟩
      · rintro ⟨k, rfl | hk, z1, z2⟩
        · exact absurd z1 c
        · exact ⟨k, hk, z1, z2⟩
def fstK : List Int → Int
  | [a, _] => a
  | _ => 0
def sndK : List Int → Int
  | [_, b] => b
  | _ => 0
theorem sp_nextp {μ : Sto} {m : Int} {F : Nat} {fs : List Int} {ks : List (List Int)} (hk : ∀ k ∈ ks, OkP m k) (hl : ks.length ≤ 15) (h : μ[F]? = some (.lst (fs.map D.int))) :
    ∃ (t : Nat) (g : Sto) (ns : List Int), F_next_places [.tup (ks.map pairD), .obj F] μ = .ok (.obj t) (μ ++ g) ∧ (μ ++ g)[t]? = some (.lst (ns.map D.int)) ∧ ns.length ≤ 30 ∧ μ.length ≤ t ∧ ∀ q, q ∈ ns ↔ ∃ r ∈ fs, Adj ks r q := by
  obtain ⟨l1, a1, a2, a3⟩ := ends_list (t := fstK) (e := sndK) hk fun x => decide (x ∈ fs)
  obtain ⟨l2', b1, b2, b3⟩ := ends_list (t := sndK) (e := fstK) hk fun x => decide (x ∈ fs)
  have c1 := comp_pure (src := .fix (ks.map pairD)) (g := gTupD 2 (gConsD (gNameD 0) (gConsD (gNameD 1) (gNilD)))) (t := T_next_places_2) (e := E_next_places_1) (μ1 := μ)
    (q := fun d => match d with | .tup [.int a, .int b] => decide (fstK [a, b] ∈ fs) | _ => false) (h := fun d => match d with | .tup [.int a, .int b] => .int (sndK [a, b]) | _ => .non)
    (fun ρ => ∃ o1 o2, ρ = [o1, o2, some (.obj F)]) (fun _ => trivial) (xs := ks.map pairD) (acc := []) (ρ := [none, none, some (.obj F)]) ⟨_, _, rfl⟩
    (by rw [List.length_map, List.length_nil]; exact Nat.le_trans (by omega) small1)
    (fun x hx a ρ ⟨o1, o2, ho⟩ => by
      obtain ⟨k, hk', rfl⟩ := List.mem_map.mp hx
      obtain ⟨u, v, rfl, _⟩ := hk k hk'
      subst ho
      refine ⟨[some (.int u), some (.int v), some (.obj F)], ⟨_, _, rfl⟩, rfl, ?_, fun _ => rfl⟩
      unfold T_next_places_2
      simp only [ev_TB, ev_bin, ev_varS, ev_var0, Out.bind_ok]
      rw [in_ints (get_app h)]
      rfl)
  have c2 := fun M : Sto => fun hM : M[F]? = some (.lst (fs.map D.int)) => comp_pure (src := .fix (ks.map pairD)) (g := gTupD 2 (gConsD (gNameD 0) (gConsD (gNameD 1) (gNilD)))) (t := T_next_places_4) (e := E_next_places_3) (μ1 := M)
    (q := fun d => match d with | .tup [.int a, .int b] => decide (sndK [a, b] ∈ fs) | _ => false) (h := fun d => match d with | .tup [.int a, .int b] => .int (fstK [a, b]) | _ => .non)
    (fun ρ => ∃ o1 o2, ρ = [o1, o2, some (.obj F)]) (fun _ => trivial) (xs := ks.map pairD) (acc := []) (ρ := [none, none, some (.obj F)]) ⟨_, _, rfl⟩
    (by rw [List.length_map, List.length_nil]; exact Nat.le_trans (by omega) small1)
    (fun x hx a ρ ⟨o1, o2, ho⟩ => by
      obtain ⟨k, hk', rfl⟩ := List.mem_map.mp hx
      obtain ⟨u, v, rfl, _⟩ := hk k hk'
      subst ho
      refine ⟨[some (.int u), some (.int v), some (.obj F)], ⟨_, _, rfl⟩, rfl, ?_, fun _ => rfl⟩
      unfold T_next_places_4
      simp only [ev_TB, ev_bin, ev_varS, ev_var0, Out.bind_ok]
      rw [in_ints (get_app hM)]
      rfl)
  rw [List.nil_append, a1] at c1
  have c2' := c2 (μ ++ [O.lst (l1.map D.int)]) (get_app h)
  rw [List.nil_append, b1] at c2'
  refine ⟨((μ ++ [O.lst (l1.map D.int)]) ++ [O.lst (l2'.map D.int)]).length, ([O.lst (l1.map D.int)] ++ [O.lst (l2'.map D.int)]) ++ [O.lst ((l1 ++ l2').map D.int)], l1 ++ l2', ?_, ?_, by rw [List.length_append]; omega, by simp, fun q => ?_⟩
  · unfold F_next_places
    rw [ev_fn2]
    simp only [B_next_places, ev_ret, ev_bin, ev_comp, ev_iVal, ev_var0, Out.bind_ok, ev_srcT, items_fix, List.replicate]
    rw [show capD [none, none, some 1] (some (D.tup (List.map pairD ks)) :: some (D.obj F) :: List.replicate (2 - 2) none) = [none, none, some (.obj F)] from rfl, c1]
    simp only [Out.bind_ok]
    rw [c2']
    simp only [Out.bind_ok]
    have ad : dAdd (.obj μ.length) (.obj (μ ++ [O.lst (l1.map D.int)]).length) ((μ ++ [O.lst (l1.map D.int)]) ++ [O.lst (l2'.map D.int)]) = .ok (.obj ((μ ++ [O.lst (l1.map D.int)]) ++ [O.lst (l2'.map D.int)]).length) (((μ ++ [O.lst (l1.map D.int)]) ++ [O.lst (l2'.map D.int)]) ++ [O.lst ((l1 ++ l2').map D.int)]) := by
      unfold dAdd
      dsimp only
      rw [get_last, get_app get_last]
      dsimp only
      rw [if_pos, List.map_append]
      rw [List.length_map, List.length_map]
      exact Nat.le_trans (show _ ≤ 1000 by omega) small1
    rw [ad, Out.bindS_ok, out_ret, gc_no (by simp)]
    simp only [List.append_assoc]
  · rw [← List.append_assoc, ← List.append_assoc]; exact get_last
  · rw [List.mem_append, a3, b3]
    constructor
    · rintro (⟨k, hk', z1, z2⟩ | ⟨k, hk', z1, z2⟩)
      · obtain ⟨u, v, rfl, _⟩ := hk k hk'
        subst z2
        exact ⟨u, of_decide_eq_true z1, (adj_iff hk).mpr (.inl hk')⟩
      · obtain ⟨u, v, rfl, _⟩ := hk k hk'
        subst z2
        exact ⟨v, of_decide_eq_true z1, (adj_iff hk).mpr (.inr hk')⟩
    · rintro ⟨r, hr, ha⟩
      rcases (adj_iff hk).mp ha with z | z
      · exact .inl ⟨_, z, decide_eq_true hr, rfl⟩
      · exact .inr ⟨_, z, decide_eq_true hr, rfl⟩
end Lw

set_option Elab.async false
set_option linter.all false
set_option maxRecDepth 100000
set_option maxHeartbeats 4000000
namespace Lw
open PySem L2 RS Lv

theorem seq_next51 {f g : MS} {ρ ρ' : Ro} {μ μ' : Sto} (h : f ρ μ = .next ρ' μ') : sSeq f g ρ μ = g ρ' μ' := by rw [ev_seq, h, so_next]
theorem get_setN {μ : Sto} {i j : Nat} {o o' : O} (h : μ[j]? = some o') (ne : i ≠ j) : (μ.set i o)[j]? = some o' := by rw [List.getElem?_set_ne ne]; exact h
def allF (v : Nat) (f : Int → Option Nat) (qs : List Int) : Int → Option Nat := qs.foldl (fun f q => updF f q v) f
theorem allF_get {v : Nat} : ∀ (qs : List Int) (f : Int → Option Nat) (q : Int), allF v f qs q = if q ∈ qs then some v else f q
  | [], f, q => by simp [allF]
  | x :: qs, f, q => by
    have := allF_get (v := v) qs (updF f x v) q
    unfold allF at this ⊢
    rw [List.foldl_cons, this]
    by_cases h : q ∈ qs
    · rw [if_pos h, if_pos (List.mem_cons_of_mem _ h)]
    · rw [if_neg h]
      unfold updF
      by_cases e : q = x
      · rw [if_pos e, if_pos (by simp [e])]
      · rw [if_neg e, if_neg (by simp [e, h])]
section
variable {μ0 : Sto} {m A : Nat} {p : Int} {ks : List (List Int)} {w : D}
/-- what the places of the front get -/
theorem ff_fill {M : Sto} {A t n : Nat} {f : Int → Option Nat} {fs : List Int} {o0 o1 o2 o3 : Option D} {o7 : Option D} (hA : M[A]? = some (.lst (rowD m f))) (ht : M[t]? = some (.lst (fs.map D.int))) (hne : A ≠ t) (hfs : ∀ q ∈ fs, 0 ≤ q ∧ q < (m : Int)) :
    ∃ o7', sFor (iVal (cVar 6)) (gNameD 7) L_fars_from_3 [o0, o1, o2, o3, some (.obj A), some (.int n), some (.obj t), o7] M = .next [o0, o1, o2, o3, some (.obj A), some (.int n), some (.obj t), o7'] (M.set A (.lst (rowD m (allF n f fs)))) := by
  have hAl : A < M.length := (List.getElem?_eq_some_iff.mp hA).1
  have run := for_run (src := .own t (fs.map D.int)) (g := gNameD 7) (fb := L_fars_from_3)
    (fun xs ρ μ1 => ∃ ys zs : List Int, xs = zs.map D.int ∧ fs = ys ++ zs ∧ μ1 = M.set A (.lst (rowD m (allF n f ys))) ∧ ∃ o7, ρ = [o0, o1, o2, o3, some (.obj A), some (.int n), some (.obj t), o7])
    (fun ρ μ1 ⟨ys, zs, _, _, e, _⟩ => by subst e; exact get_setN ht hne)
    (fun x xs ρ μ1 ⟨ys, zs, hx, hf, e, o7, eρ⟩ => by
      subst e eρ
      cases zs with
      | nil => cases hx
      | cons z zs =>
        injection hx with h1 h2
        subst h1 h2
        have hz := hfs z (by rw [hf]; simp)
        have hlen : (rowD m (allF n f ys)).length = m := by unfold rowD; rw [List.length_map, List.length_range]
        refine ⟨get_setN ht hne, _, _, [o0, o1, o2, o3, some (.obj A), some (.int n), some (.obj t), some (.int z)], M.set A (.lst (rowD m (allF n f (ys ++ [z])))), rfl, ?_, ys ++ [z], zs, rfl, by rw [hf]; simp, rfl, _, rfl⟩
        show L_fars_from_3 [o0, o1, o2, o3, some (.obj A), some (.int n), some (.obj t), some (.int z)] _ = _
        unfold L_fars_from_3
        simp only [ev_asg, ev_varS, ev_var0, Out.bindS_ok, ev_gsub, Out.bind_ok]
        rw [ev_setL (get_set hAl) (ixN_of hz.1 (by rw [hlen]; exact hz.2)), rowD_set hz.1 hz.2]
        simp only [Out.bind_ok, Out.bindS_ok, List.set_set]
        unfold allF
        rw [List.foldl_append]
        rfl)
    (xs := fs.map D.int) (ρ := [o0, o1, o2, o3, some (.obj A), some (.int n), some (.obj t), o7]) (μ := M)
    ⟨[], fs, rfl, rfl, by
      apply List.ext_getElem?
      intro j
      by_cases e : A = j
      · subst e; rw [get_set hAl, hA]; rfl
      · rw [List.getElem?_set_ne e], _, rfl⟩
  obtain ⟨ρ', μ', ⟨ys, zs, hx, hf, e, o7', eρ⟩, run⟩ := run
  subst e eρ
  have hz : zs = [] := by cases zs with
    | nil => rfl
    | cons => cases hx
  subst hz
  rw [List.append_nil] at hf
  subst hf
  refine ⟨o7', ?_⟩
  simp only [ev_for, ev_iVal, ev_varS, ev_var0, Out.bind_ok]
  rw [ev_srcL ht]
  simp only [Out.bindS_ok, items_own]
  exact run
/-- one turn -/
theorem ff_turn {M : Sto} {A t n : Nat} {f : Int → Option Nat} {fs : List Int} {o0 o1 o2 o7 : Option D} (hk : ∀ k ∈ ks, OkP m k) (hl : ks.length ≤ 15) (hA : M[A]? = some (.lst (rowD m f))) (ht : M[t]? = some (.lst (fs.map D.int))) (hne : A ≠ t)
    (hU : Up (Adj ks) p (fun q => 0 ≤ q ∧ q < m) n f) (hfs : ∀ q, q ∈ fs ↔ ((0 ≤ q ∧ q < (m : Int)) ∧ f q = some n)) :
    ∃ (t' : Nat) (fs' : List Int) (f' : Int → Option Nat) (g : Sto) (o7' : Option D), L_fars_from_4 [o0, o1, o2, some (.tup (ks.map pairD)), some (.obj A), some (.int n), some (.obj t), o7] M = .next [o0, o1, o2, some (.tup (ks.map pairD)), some (.obj A), some (.int ((n + 1 : Nat) : Int)), some (.obj t'), o7'] ((M ++ g).set A (.lst (rowD m f'))) ∧
      (M ++ g)[t']? = some (.lst (fs'.map D.int)) ∧ A ≠ t' ∧ Up (Adj ks) p (fun q => 0 ≤ q ∧ q < m) (n + 1) f' ∧ ∀ q, q ∈ fs' ↔ ((0 ≤ q ∧ q < (m : Int)) ∧ f' q = some (n + 1)) := by
  obtain ⟨s, g, ns, e1, e2, e3, e4, e5⟩ := sp_nextp hk hl ht
  have hA' := get_app (g := g) hA
  have hAl : A < M.length := (List.getElem?_eq_some_iff.mp hA).1
  have hnsD : ∀ q ∈ ns, 0 ≤ q ∧ q < (m : Int) := fun q hq => by
    obtain ⟨r, _, ha⟩ := (e5 q).mp hq
    exact (dirs_ok hk ha).2
  have c := comp_pure (src := .own s (ns.map D.int)) (g := gNameD 0) (t := T_fars_from_2) (e := E_fars_from_1) (μ1 := M ++ g) (q := fun d => match d with | .int q => decide (f q = none) | _ => false) (h := fun d => d)
    (fun ρ => ∃ o, ρ = [o, some (.obj A)]) (fun a => get_app e2) (xs := ns.map D.int) (acc := []) (ρ := [none, some (.obj A)]) ⟨_, rfl⟩
    (by rw [List.length_map, List.length_nil]; exact Nat.le_trans (by omega) small1)
    (fun x hx a ρ ⟨o, ho⟩ => by
      obtain ⟨q, hq, rfl⟩ := List.mem_map.mp hx
      subst ho
      refine ⟨[some (.int q), some (.obj A)], ⟨_, rfl⟩, rfl, ?_, fun _ => rfl⟩
      unfold T_fars_from_2
      simp only [ev_TB, ev_bin, ev_varS, ev_var0, ev_C, Out.bind_ok]
      rw [ev_ixL (get_app hA') (rowD_get (hnsD q hq).1 (hnsD q hq).2)]
      simp only [Out.bind_ok, ev_isN, isNon_opt, Bool.false_eq_true, if_false, ev_asB])
  have hfl : ((ns.map D.int).filter fun d => match d with | .int q => decide (f q = none) | _ => false).map (fun d => d) = (ns.filter fun q => decide (f q = none)).map D.int := by
    rw [List.map_id', List.filter_map]
    rfl
  rw [List.nil_append, hfl] at c
  have hmem : ∀ q, q ∈ (ns.filter fun q => decide (f q = none)) ↔ (f q = none ∧ ∃ r, Adj ks r q ∧ f r = some n) := fun q => by
    rw [List.mem_filter, decide_eq_true_eq, e5]
    constructor
    · rintro ⟨⟨r, hr, ha⟩, hn⟩
      exact ⟨hn, r, ha, ((hfs r).mp hr).2⟩
    · rintro ⟨hn, r, ha, hr⟩
      exact ⟨⟨r, (hfs r).mpr ⟨(dirs_ok hk ha).1, hr⟩, ha⟩, hn⟩
  have hD' : ∀ q, q ∈ (ns.filter fun q => decide (f q = none)) → 0 ≤ q ∧ q < (m : Int) := fun q hq => hnsD q (List.mem_filter.mp hq).1
  have hne' : A ≠ (M ++ g).length := by rw [List.length_append]; omega
  obtain ⟨o7', er⟩ := ff_fill (m := m) (n := n + 1) (f := f) (fs := ns.filter fun q => decide (f q = none)) (o0 := o0) (o1 := o1) (o2 := o2) (o3 := some (.tup (ks.map pairD))) (o7 := o7) (M := (M ++ g) ++ [O.lst ((ns.filter fun q => decide (f q = none)).map D.int)]) (get_app hA') get_last hne' hD'
  refine ⟨(M ++ g).length, ns.filter fun q => decide (f q = none), allF (n + 1) f (ns.filter fun q => decide (f q = none)), g ++ [O.lst ((ns.filter fun q => decide (f q = none)).map D.int)], o7', ?_, by rw [← List.append_assoc]; exact get_last, hne', ?_, fun q => ?_⟩
  · unfold L_fars_from_4
    have s1 : sAug 5 dIadd (cC (.int 1)) [o0, o1, o2, some (.tup (ks.map pairD)), some (.obj A), some (.int n), some (.obj t), o7] M = .next [o0, o1, o2, some (.tup (ks.map pairD)), some (.obj A), some (.int ((n + 1 : Nat) : Int)), some (.obj t), o7] M := by
      push_cast; rfl
    rw [seq_next51 s1, ev_seq, ev_asg, ev_comp, ev_iVal, ev_args]
    simp only [ev_cons, ev_nil, ev_varS, ev_var0, Out.bind_ok, e1]
    rw [ev_srcL e2]
    simp only [Out.bind_ok, items_own]
    rw [show capD [none, some 4] [o0, o1, o2, some (.tup (ks.map pairD)), some (.obj A), some (.int ((n + 1 : Nat) : Int)), some (.obj t), o7] = [none, some (.obj A)] from rfl, c]
    simp only [Out.bindS_ok, ev_gn, List.set_cons_succ, List.set_cons_zero, so_next]
    rw [er, ← List.append_assoc]
  · refine hU.next (fun a b h => (dirs_ok hk h).1) fun q hq j => ?_
    rw [allF_get]
    by_cases hm : q ∈ ns.filter fun q => decide (f q = none)
    · rw [if_pos hm]
      have := (hmem q).mp hm
      constructor
      · intro e; cases e; exact .inr ⟨this.1, rfl, this.2⟩
      · rintro (z | ⟨_, z, _⟩)
        · rw [this.1] at z; cases z
        · rw [z]
    · rw [if_neg hm]
      constructor
      · exact .inl
      · rintro (z | ⟨z1, z2, z3⟩)
        · exact z
        · exact absurd ((hmem q).mpr ⟨z1, z3⟩) hm
  · rw [allF_get]
    constructor
    · intro hm
      exact ⟨hD' q hm, by rw [if_pos hm]⟩
    · rintro ⟨hq, z⟩
      by_cases hm : q ∈ ns.filter fun q => decide (f q = none)
      · exact hm
      · rw [if_neg hm] at z
        have := ((hU q hq (n + 1)).mp z).1
        omega
end
end Lw

set_option Elab.async false
set_option linter.all false
set_option maxRecDepth 100000
set_option maxHeartbeats 4000000
namespace Lw
open PySem L2 RS Lv

theorem ff_while {μ0 : Sto} {m A : Nat} {p : Int} {ks : List (List Int)} {o0 o1 o2 : Option D} (hk : ∀ k ∈ ks, OkP m k) (hl : ks.length ≤ 15) (hp : 0 ≤ p ∧ p < (m : Int)) (hA0 : μ0.length ≤ A) :
    ∀ (c n : Nat) (f : Int → Option Nat) (fs : List Int) (M : Sto) (t : Nat) (o7 : Option D), M[A]? = some (.lst (rowD m f)) → M[t]? = some (.lst (fs.map D.int)) → A ≠ t → Up (Adj ks) p (fun q => 0 ≤ q ∧ q < m) n f →
      (∀ q, q ∈ fs ↔ ((0 ≤ q ∧ q < (m : Int)) ∧ f q = some n)) → (∀ i, i < μ0.length → M[i]? = μ0[i]?) → n ≤ m → m < n + c →
      ∃ ρ' M' f', whileD (cTru (cVar 6)) L_fars_from_4 c [o0, o1, o2, some (.tup (ks.map pairD)), some (.obj A), some (.int n), some (.obj t), o7] M = .next ρ' M' ∧ (∃ o5 o6 o7, ρ' = [o0, o1, o2, some (.tup (ks.map pairD)), some (.obj A), o5, o6, o7]) ∧
        M'[A]? = some (.lst (rowD m f')) ∧ (∀ i, i < μ0.length → M'[i]? = μ0[i]?) ∧ Full (Adj ks) p (fun q => 0 ≤ q ∧ q < m) f'
  | 0, n, f, fs, M, t, o7, hA, ht, hne, hU, hfs, hpre, h1, h2 => by omega
  | c + 1, n, f, fs, M, t, o7, hA, ht, hne, hU, hfs, hpre, h1, h2 => by
    have tr : cTru (cVar 6) [o0, o1, o2, some (.tup (ks.map pairD)), some (.obj A), some (.int n), some (.obj t), o7] M = .ok (!(fs.map D.int).isEmpty) M := by
      simp only [ev_tru, ev_varS, ev_var0, Out.bind_ok]
      unfold truD
      dsimp only
      rw [ht]
    unfold whileD
    rw [tr, Out.bindS_ok]
    cases fs with
    | nil =>
      refine ⟨_, M, f, rfl, ⟨_, _, _, rfl⟩, hA, hpre, hU.full (fun a b h => (dirs_ok hk h).2) fun q hq hl => ?_⟩
      obtain ⟨_, r, ha, hr⟩ := lev_next.mp hl
      have := (hfs r).mpr ⟨(dirs_ok hk ha).1, (hU r (dirs_ok hk ha).1 n).mpr ⟨Nat.le_refl _, hr⟩⟩
      cases this
    | cons x fs =>
      have hx := (hfs x).mp List.mem_cons_self
      have hnm : n < m := lev_lt (m := m) hp (fun a b h => (dirs_ok hk h).2) ((hU x hx.1 n).mp hx.2).2
      obtain ⟨t', fs', f', g, o7', e, ht', hne', hU', hfs'⟩ := ff_turn (o0 := o0) (o1 := o1) (o2 := o2) (o7 := o7) hk hl hA ht hne hU hfs
      have hAl : A < (M ++ g).length := by rw [List.length_append]; have := (List.getElem?_eq_some_iff.mp hA).1; omega
      rw [if_pos (show (!(List.map D.int (x :: fs)).isEmpty) = true from rfl), e, lo_next]
      exact ff_while hk hl hp hA0 c (n + 1) f' fs' ((M ++ g).set A (.lst (rowD m f'))) t' o7' (get_set hAl) (get_setN ht' hne') hne' hU' hfs' (fun i hi => by
        rw [List.getElem?_set_ne (by omega), List.getElem?_append_left (by have := (List.getElem?_eq_some_iff.mp hA).1; omega)]; exact hpre i hi) (by omega) (by omega)
theorem sp_fars {μ : Sto} {m : Nat} {p : Int} {ks : List (List Int)} (h : GoodW (.tup [.int m, .tup (ks.map pairD)]) m ks) (p0 : 0 ≤ p) (p1 : p < (m : Int)) :
    ∃ A μ' f, F_fars_from [.tup [.int m, .tup (ks.map pairD)], .int p] μ = .ok (.obj A) (μ ++ μ') ∧ (μ ++ μ')[A]? = some (.lst (rowD m f)) ∧ μ.length ≤ A ∧ Full (Adj ks) p (fun q => 0 ≤ q ∧ q < m) f := by
  have hlen := good_len h
  obtain ⟨_, h0, h1, hpw, hk⟩ := h
  have hm6 : m ≤ 6 := by omega
  let M0 : Sto := (μ ++ [.lst [.non]]) ++ [.lst (rowD m fun _ => none)]
  have hM0 : M0[(μ ++ [O.lst [.non]]).length]? = some (.lst (rowD m fun _ => none)) := get_last
  have hlen0 : (rowD m fun _ => none).length = m := by unfold rowD; rw [List.length_map, List.length_range]
  let A : Nat := (μ ++ [O.lst [.non]]).length
  have hAl : A < M0.length := (List.getElem?_eq_some_iff.mp hM0).1
  let M1 : Sto := M0.set A (.lst (rowD m (updF (fun _ => none) p 0)))
  have hM1 : M1[A]? = some (.lst (rowD m (updF (fun _ => none) p 0))) := get_set hAl
  have hpreM : ∀ i, i < μ.length → (M1 ++ [O.lst [.int p]])[i]? = μ[i]? := fun i hi => by
    have : i < M1.length := by simp only [M1, M0, List.length_set, List.length_append]; omega
    rw [List.getElem?_append_left this]
    simp only [M1]
    rw [List.getElem?_set_ne (by simp only [A, List.length_append]; omega)]
    simp only [M0]
    rw [List.append_assoc, List.getElem?_append_left hi]
  obtain ⟨ρ', M', f', ew, ⟨o5, o6, o7, eρ⟩, hA', hpre, hF⟩ := ff_while (μ0 := μ) (o0 := some (.tup [.int m, .tup (ks.map pairD)])) (o1 := some (.int p)) (o2 := some (.int m)) hk hlen ⟨p0, p1⟩ (show μ.length ≤ A by simp only [A, List.length_append]; omega) 100 0 (updF (fun _ => none) p 0) [p] (M1 ++ [O.lst [.int p]]) M1.length none
    (get_app hM1) get_last (by simp only [M1, List.length_set]; omega) (Up.zero fun q _ => by unfold updF; rfl) (fun q => by
      unfold updF
      rw [List.mem_singleton]
      constructor
      · rintro rfl; exact ⟨⟨p0, p1⟩, by rw [if_pos rfl]⟩
      · rintro ⟨_, z⟩
        by_cases e : q = p
        · exact e
        · rw [if_neg e] at z; cases z) hpreM (by omega) (by omega)
  subst eρ
  obtain ⟨g, hg⟩ : ∃ g, M' = μ ++ g := by
    refine ⟨M'.drop μ.length, ?_⟩
    apply List.ext_getElem?
    intro i
    by_cases hi : i < μ.length
    · rw [List.getElem?_append_left hi, hpre i hi]
    · rw [List.getElem?_append_right (by omega), List.getElem?_drop]
      congr 1; omega
  refine ⟨A, g, f', ?_, by rw [← hg]; exact hA', by simp only [A, List.length_append]; omega, hF⟩
  unfold F_fars_from
  rw [ev_fn2]
  have l2' : [D.int m, D.tup (ks.map pairD)].length = 2 := rfl
  have s1 : sAsg (cVar 0) (gTupD 2 (gConsD (gNameD 2) (gConsD (gNameD 3) (gNilD)))) [some (.tup [.int m, .tup (ks.map pairD)]), some (.int p), none, none, none, none, none, none] μ = .next [some (.tup [.int m, .tup (ks.map pairD)]), some (.int p), some (.int m), some (.tup (ks.map pairD)), none, none, none, none] μ := by
    simp only [ev_asg, ev_var0, Out.bindS_ok, ev_gtup, if_pos l2', ev_gcons, ev_gnil, ev_gn, Out.bind_ok, List.set_cons_succ, List.set_cons_zero]
  have s2 : sAsg (cBin dMul (cLst (cCons (cC .non) (cNil))) (cVar 2)) (gNameD 4) [some (.tup [.int m, .tup (ks.map pairD)]), some (.int p), some (.int m), some (.tup (ks.map pairD)), none, none, none, none] μ = .next [some (.tup [.int m, .tup (ks.map pairD)]), some (.int p), some (.int m), some (.tup (ks.map pairD)), some (.obj A), none, none, none] M0 := by
    simp only [ev_asg, ev_bin, ev_lst, ev_cons, ev_nil, ev_C, Out.bind_ok, List.length_cons, List.length_nil, if_pos l1, ev_varS, ev_var0]
    unfold dMul
    dsimp only
    rw [get_last]
    dsimp only
    have hz : (6 : Nat) ≤ sizeLine := by decide
    rw [if_pos (by refine ⟨by omega, by omega, ?_⟩; simp only [List.length_cons, List.length_nil]; omega)]
    simp only [Int.toNat_natCast, flat_one, Out.bindS_ok, ev_gn, List.set_cons_succ, List.set_cons_zero, M0, A, rowD_none]
  have s3 : sAsg (cC (.int 0)) (gSubD (cVar 4) (cVar 1)) [some (.tup [.int m, .tup (ks.map pairD)]), some (.int p), some (.int m), some (.tup (ks.map pairD)), some (.obj A), none, none, none] M0 = .next [some (.tup [.int m, .tup (ks.map pairD)]), some (.int p), some (.int m), some (.tup (ks.map pairD)), some (.obj A), none, none, none] M1 := by
    simp only [ev_asg, ev_C, Out.bindS_ok, ev_gsub, ev_varS, ev_var0, Out.bind_ok]
    rw [ev_setL hM0 (ixN_of p0 (by rw [hlen0]; exact p1)), show (D.int 0) = .int ((0 : Nat) : Int) from rfl, rowD_set p0 p1]
    rfl
  have s4 : sAsg (cC (.int 0)) (gNameD 5) [some (.tup [.int m, .tup (ks.map pairD)]), some (.int p), some (.int m), some (.tup (ks.map pairD)), some (.obj A), none, none, none] M1 = .next [some (.tup [.int m, .tup (ks.map pairD)]), some (.int p), some (.int m), some (.tup (ks.map pairD)), some (.obj A), some (.int ((0 : Nat) : Int)), none, none] M1 := rfl
  have s5 : sAsg (cLst (cCons (cVar 1) (cNil))) (gNameD 6) [some (.tup [.int m, .tup (ks.map pairD)]), some (.int p), some (.int m), some (.tup (ks.map pairD)), some (.obj A), some (.int ((0 : Nat) : Int)), none, none] M1 = .next [some (.tup [.int m, .tup (ks.map pairD)]), some (.int p), some (.int m), some (.tup (ks.map pairD)), some (.obj A), some (.int ((0 : Nat) : Int)), some (.obj M1.length), none] (M1 ++ [O.lst [.int p]]) := by
    simp only [ev_asg, ev_lst, ev_cons, ev_nil, ev_varS, ev_var0, Out.bind_ok, List.length_cons, List.length_nil, if_pos l1, Out.bindS_ok, ev_gn, List.set_cons_succ, List.set_cons_zero]
  unfold B_fars_from
  simp only [List.replicate]
  rw [seq_next51 s1, seq_next51 s2, seq_next51 s3, seq_next51 s4, seq_next51 s5, seq_next51 (show sWhile 100 (cTru (cVar 6)) L_fars_from_4 _ _ = _ from ew)]
  simp only [ev_ret, ev_varS, ev_var0, Out.bindS_ok, out_ret]
  rw [gc_no (by simp only [low_obj, A, List.length_append]; omega), hg]
end Lw

set_option Elab.async false
set_option linter.all false
set_option maxRecDepth 100000
set_option maxHeartbeats 4000000
namespace Lw
open PySem L2 RS Lv

theorem wfrom_int {μ : Sto} {k : Int} (h0 : 1 ≤ k) (h1 : k ≤ 6) : F_is_whole_from [.int k, .int 1, .int 6] μ = .ok (.bl true) μ := by
  have w : F_is_whole [.int k] μ = .ok (.bl true) μ := by
    unfold F_is_whole
    rw [ev_fn1]
    have e1 : dIsi "int" (.int k) μ = .ok (.bl true) μ := rfl
    have e2 : dIsi "bool" (.int k) μ = .ok (.bl false) μ := rfl
    simp only [B_is_whole, ev_ret, ev_andV, ev_un, ev_notV, ev_var0, Out.bind_ok, e1, e2, ev_asB, if_true, Bool.not_false, Out.bindS_ok, out_ret]
    exact gc_same (by simp)
  unfold F_is_whole_from
  rw [ev_fn3]
  simp only [B_is_whole_from, ev_ret, ev_andV, ev_args, ev_cons, ev_nil, ev_varS, ev_var0, Out.bind_ok, w, ev_asB, if_true, ev_chain, ev_cmpI]
  rw [show cmpI .LtE 1 k = true from decide_eq_true h0, show cmpI .LtE k 6 = true from decide_eq_true h1]
  simp only [ev_asB, Out.bind_ok, if_true, Out.bindS_ok, out_ret]
  exact gc_same (by simp)
theorem row_eq {m : Nat} {f g : Int → Option Nat} (h : ∀ q : Int, 0 ≤ q ∧ q < (m : Int) → f q = g q) : rowD m f = rowD m g := by
  unfold rowD
  apply List.map_congr_left
  intro i hi
  rw [List.mem_range] at hi
  rw [h i (by omega)]
theorem sw_comp {M : Sto} {m A : Nat} {p k : Int} {T : Int → Int → Option Nat} (hA : M[A]? = some (.lst (rowD m (T p)))) (hm : m ≤ 6) (p0 : 0 ≤ p) (p1 : p < m) :
    compLoop (.fix (rngD (p + 1) ((m : Int) - (p + 1)).toNat)) M.length (gNameD 0) T_steps_web_2 E_steps_web_1 (rngD (p + 1) ((m : Int) - (p + 1)).toNat) [none, some (.int p), some (.int k), some (.obj A)] (M ++ [.lst []]) = .ok (.obj M.length) (M ++ [.lst ((rowK T k p (p + 1) ((m : Int) - (p + 1)).toNat).map pairD)]) := by
  have := comp_pure (src := .fix (rngD (p + 1) ((m : Int) - (p + 1)).toNat)) (g := gNameD 0) (t := T_steps_web_2) (e := E_steps_web_1) (μ1 := M) (q := fun d => match d with | .int q => okd k (T p q) | _ => false)
    (h := fun d => match d with | .int q => pairD [p, q] | _ => .non) (fun ρ => ∃ o, ρ = [o, some (.int p), some (.int k), some (.obj A)]) (fun _ => trivial) (xs := rngD (p + 1) ((m : Int) - (p + 1)).toNat) (acc := []) (ρ := [none, some (.int p), some (.int k), some (.obj A)]) ⟨none, rfl⟩
    (by unfold rngD; rw [List.length_map, List.length_nil, List.length_range]; exact Nat.le_trans (by omega) small1)
    (fun x hx acc ρ ⟨o, ho⟩ => by
      unfold rngD at hx
      obtain ⟨i, hi, rfl⟩ := List.mem_map.mp hx
      rw [List.mem_range] at hi
      subst ho
      refine ⟨[some (.int (p + 1 + (i : Int))), some (.int p), some (.int k), some (.obj A)], ⟨_, rfl⟩, rfl, ?_, fun _ => ?_⟩
      · have hix := ev_ixL (μ := M ++ [.lst acc]) (get_app hA) (rowD_get (f := T p) (m := m) (q := p + 1 + (i : Int)) (by omega) (by omega))
        unfold T_steps_web_2
        simp only [ev_andT, ev_TB, ev_bin, ev_varS, ev_var0, ev_C, Out.bind_ok, hix, ev_isN, isNon_opt, ev_asB]
        cases e : T p (p + 1 + (i : Int)) with
        | none => rfl
        | some j =>
          simp only [decide_eq_false (show ¬ some j = none by simp), Bool.not_false, if_true, ev_cmpI, Out.bind_ok, ev_asB, optD]
          rfl
      · unfold E_steps_web_1
        simp only [ev_tup, ev_cons, ev_nil, ev_varS, ev_var0, Out.bind_ok, List.length_cons, List.length_nil, if_pos l2]
        rfl)
  rw [this, List.nil_append]
  exact congrArg (fun z => Out.ok (D.obj M.length) (M ++ [O.lst z])) (rowK_rng (T := T) (k := k) (p := p) (lo := p + 1) (c := ((m : Int) - (p + 1)).toNat))
theorem sp_stepsW {μ : Sto} {m : Nat} {k : Int} {ks : List (List Int)} {T : Int → Int → Option Nat} (h : GoodW (.tup [.int m, .tup (ks.map pairD)]) m ks) (k0 : 1 ≤ k) (k1 : k ≤ 6)
    (hT : ∀ p : Int, 0 ≤ p → p < m → Full (Adj ks) p (fun q => 0 ≤ q ∧ q < m) (T p)) :
    F_steps_web [.tup [.int m, .tup (ks.map pairD)], .int k] μ = .ok (.tup [.int m, .tup ((stK m T k).map pairD)]) μ := by
  have hG := h
  obtain ⟨_, h0, h1, hp, hk⟩ := h
  have hm6 : m ≤ 6 := by omega
  have run := for_run (src := .fix (rngD 0 m)) (g := gNameD 4) (fb := L_steps_web_3)
    (fun xs ρ μ1 => ∃ (n c : Nat) (o4 o5 : Option D), xs = rngD n c ∧ n + c = m ∧ ρ = [some (.tup [.int m, .tup (ks.map pairD)]), some (.int k), some (.int m), some (.obj μ.length), o4, o5] ∧ (∀ i, i < μ.length → μ1[i]? = μ[i]?) ∧ μ1[μ.length]? = some (.lst (((List.range n).flatMap fun p : Nat => rowK T k p ((p : Int) + 1) (m - (p + 1))).map pairD)))
    (fun _ _ _ => trivial)
    (fun x r ρ μ1 ⟨n, c, o4, o5, e1, e3, e4, e5, e6⟩ => by
      subst e4
      cases c with
      | zero => rw [rngD_zero] at e1; cases e1
      | succ c =>
        rw [rngD_succ] at e1
        injection e1 with ex er
        subst ex er
        obtain ⟨A, g, f, ef, hA, hAl, hF⟩ := sp_fars (μ := μ1) (p := (n : Int)) hG (by omega) (by omega)
        have hrow : rowD m f = rowD m (T n) := row_eq fun q hq => hF.eq (hT n (by omega) (by omega)) hq
        rw [hrow] at hA
        have q3 := sw_comp (k := k) (p := (n : Int)) hA hm6 (by omega) (by omega)
        rw [show ((m : Int) - ((n : Int) + 1)).toNat = m - (n + 1) by omega] at q3
        have hlen := flat_len (T := T) (k := k) hm6 n
        have hrl := rowK_len (T := T) (k := k) (p := n) (lo := (n : Int) + 1) (c := m - (n + 1))
        have hml : μ.length < μ1.length := (List.getElem?_eq_some_iff.mp e6).1
        have e6' : ((μ1 ++ g) ++ [O.lst ((rowK T k n ((n : Int) + 1) (m - (n + 1))).map pairD)])[μ.length]? = some (.lst (((List.range n).flatMap fun p : Nat => rowK T k p ((p : Int) + 1) (m - (p + 1))).map pairD)) := get_app (get_app e6)
        refine ⟨trivial, _, μ1, [some (.tup [.int m, .tup (ks.map pairD)]), some (.int k), some (.int m), some (.obj μ.length), some (.int n), some (.obj A)], ((μ1 ++ g) ++ [O.lst ((rowK T k n ((n : Int) + 1) (m - (n + 1))).map pairD)]).set μ.length (O.lst (((List.range (n + 1)).flatMap fun p : Nat => rowK T k p ((p : Int) + 1) (m - (p + 1))).map pairD)), rfl, ?_, n + 1, c, some (.int n), some (.obj A), by push_cast; rfl, by omega, rfl, fun i hi => ?_, ?_⟩
        · show L_steps_web_3 [some (.tup [.int m, .tup (ks.map pairD)]), some (.int k), some (.int m), some (.obj μ.length), some (.int n), o5] μ1 = _
          unfold L_steps_web_3
          have s1 : sAsg (cArgs F_fars_from (cCons (cVar 0) (cCons (cVar 4) (cNil)))) (gNameD 5) [some (.tup [.int m, .tup (ks.map pairD)]), some (.int k), some (.int m), some (.obj μ.length), some (.int n), o5] μ1 = .next [some (.tup [.int m, .tup (ks.map pairD)]), some (.int k), some (.int m), some (.obj μ.length), some (.int n), some (.obj A)] (μ1 ++ g) := by
            simp only [ev_asg, ev_args, ev_cons, ev_nil, ev_varS, ev_var0, Out.bind_ok, ef, Out.bindS_ok, ev_gn, List.set_cons_succ, List.set_cons_zero]
          rw [seq_next51 s1]
          unfold sAug
          simp only [ev_varS, ev_var0, Out.bindS_ok, ev_comp, ev_iRng, ev_cons, ev_nil, ev_bin, ev_C, Out.bind_ok, ev_addI]
          rw [ev_rng2 (by omega) (by omega) (by omega) (by omega)]
          simp only [Out.bind_ok, items_fix]
          rw [show ((m : Int) - ((n : Int) + 1)).toNat = m - (n + 1) by omega]
          rw [show capD [none, some 4, some 1, some 5] [some (D.tup [D.int ↑m, D.tup (List.map pairD ks)]), some (D.int k), some (.int m), some (D.obj μ.length), some (D.int n), some (.obj A)] = [none, some (.int n), some (.int k), some (.obj A)] from rfl, q3]
          simp only [Out.bindS_ok]
          unfold dIadd
          dsimp only
          rw [e6', get_last]
          dsimp only
          rw [if_pos (by
            rw [List.length_map, List.length_map]
            exact Nat.le_trans (show _ ≤ 1000 by omega) small1)]
          simp only [Out.bindS_ok, List.set_cons_succ, List.set_cons_zero, List.range_succ, List.flatMap_append, List.map_append, List.flatMap_cons, List.flatMap_nil, List.append_nil]
        · rw [List.getElem?_set_ne (by omega), List.append_assoc, List.getElem?_append_left (by omega)]
          exact e5 i hi
        · exact get_set (by rw [List.length_append, List.length_append]; omega))
    (xs := rngD 0 m) (ρ := [some (.tup [.int m, .tup (ks.map pairD)]), some (.int k), some (.int m), some (.obj μ.length), none, none]) (μ := μ ++ [.lst []])
    ⟨0, m, none, none, rfl, by omega, rfl, fun i hi => by rw [List.getElem?_append_left hi], get_last⟩
  obtain ⟨ρ', μ', ⟨n, c, o4, o5, e1, e3, e4, e5, e6⟩, run⟩ := run
  subst e4
  have hz := rngD_nil e1.symm
  subst hz
  have hnm : n = m := by omega
  subst hnm
  have hg : GoodW (.tup [.int n, .tup ((stK n T k).map pairD)]) n (stK n T k) := stK_good (by omega) hm6
  obtain ⟨g, hpre⟩ : ∃ g, μ' = μ ++ g := by
    refine ⟨μ'.drop μ.length, ?_⟩
    apply List.ext_getElem?
    intro i
    by_cases hi : i < μ.length
    · rw [List.getElem?_append_left hi, e5 i hi]
    · rw [List.getElem?_append_right (by omega), List.getElem?_drop]
      congr 1; omega
  unfold F_steps_web
  rw [ev_fn2]
  simp only [B_steps_web, List.replicate]
  rw [ev_seq, ev_sif, ev_notT, ev_tru, ev_args]
  simp only [ev_cons, ev_nil, ev_varS, ev_var0, ev_C, Out.bind_ok, wfrom_int k0 k1, ev_truB, Bool.not_true, Out.bindS_ok, Bool.false_eq_true, if_false, ev_next, so_next]
  simp only [ev_seq, ev_asg, ev_bin, ev_var0, ev_C, Out.bind_ok, ev_ixT0, Out.bindS_ok, ev_gn, so_next, List.set_cons_succ, List.set_cons_zero, ev_lst, ev_nil, List.length_nil, if_pos (Nat.zero_le sizeLine), ev_for, ev_iRng, ev_cons, ev_varS]
  rw [ev_rng1 (by omega) (by omega)]
  simp only [Out.bindS_ok, items_fix, Int.toNat_natCast]
  rw [run]
  simp only [so_next, ev_ret, ev_tup, ev_cons, ev_nil, ev_bin, ev_args, ev_varS, ev_var0, ev_C, Out.bind_ok]
  rw [ev_tupL e6]
  simp only [Out.bind_ok, List.length_cons, List.length_nil, if_pos l2, Out.bindS_ok, out_ret]
  rw [hpre]
  exact gc_app (good_low hg)
/-- the program's step and the law's are one -/
theorem sp_two {μ : Sto} {m : Nat} {ks : List (List Int)} (h : GoodW (.tup [.int m, .tup (ks.map pairD)]) m ks) : ∃ ks', GoodW (.tup [.int m, .tup (ks'.map pairD)]) m ks' ∧ (∀ μ, F__law_steps [.tup [.int m, .tup (ks.map pairD)], .int 2] μ = .ok (.tup [.int m, .tup (ks'.map pairD)]) μ) ∧ ∀ μ, F_two_step [.tup [.int m, .tup (ks.map pairD)]] μ = .ok (.tup [.int m, .tup (ks'.map pairD)]) μ := by
  obtain ⟨T, hT, e⟩ := sp_stepsE (μ := μ) (k := 2) h
  have hm : 1 ≤ m ∧ m ≤ 6 := by obtain ⟨_, h0, h1, _⟩ := h; omega
  have hg : GoodW (.tup [.int m, .tup ((stK m T 2).map pairD)]) m (stK m T 2) := stK_good hm.1 hm.2
  refine ⟨stK m T 2, hg, fun μ1 => ?_, fun μ1 => ?_⟩
  · obtain ⟨T', hT', e'⟩ := sp_stepsE (μ := μ1) (k := 2) h
    have w1 := sp_stepsW (μ := μ1) (k := 2) h (by decide) (by decide) hT
    have w2 := sp_stepsW (μ := μ1) (k := 2) h (by decide) (by decide) hT'
    rw [e', ← w2, w1]
  · unfold F_two_step
    rw [ev_fn1]
    simp only [B_two_step, ev_ret, ev_args, ev_cons, ev_nil, ev_var0, ev_C, Out.bind_ok]
    rw [sp_stepsW h (by decide) (by decide) hT]
    simp only [Out.bindS_ok, out_ret]
    exact gc_same (good_low hg)
end Lw

set_option Elab.async false
set_option linter.all false
set_option maxRecDepth 100000
set_option maxHeartbeats 4000000
namespace Lw
open PySem L2 RS Lv

def pairP (k : List Int) : PyData := .tuple (k.map PyData.int)
theorem pairs_toL {μ : Sto} {m : Int} : ∀ {ks : List (List Int)}, (∀ k ∈ ks, OkP m k) → toLs1 μ (ks.map pairD) = some (ks.map pairP)
  | [], _ => rfl
  | k :: ks, h => by
    obtain ⟨a, b, rfl, _⟩ := h k List.mem_cons_self
    have ih := pairs_toL (μ := μ) fun x hx => h x (List.mem_cons_of_mem _ hx)
    simp only [List.map_cons, toLs1, ih]
    rfl
theorem pairs_toP {μ : Sto} {m : Int} : ∀ {ks : List (List Int)}, (∀ k ∈ ks, OkP m k) → toPs μ (ks.map pairD) = some (ks.map pairP)
  | [], _ => rfl
  | k :: ks, h => by
    obtain ⟨a, b, rfl, _⟩ := h k List.mem_cons_self
    have ih := pairs_toP (μ := μ) fun x hx => h x (List.mem_cons_of_mem _ hx)
    simp only [List.map_cons, toPs, ih]
    rfl
theorem pairs_lay {m : Int} : ∀ {ks : List (List Int)}, (∀ k ∈ ks, OkP m k) → PyData.canLayAll0 (ks.map pairP) = true ∧ PyData.depthAll (ks.map pairP) ≤ 1
  | [], _ => by simp [PyData.canLayAll0, PyData.depthAll]
  | k :: ks, h => by
    obtain ⟨a, b, rfl, _⟩ := h k List.mem_cons_self
    have ih := pairs_lay fun x hx => h x (List.mem_cons_of_mem _ hx)
    simp only [List.map_cons, PyData.canLayAll0, PyData.depthAll, ih.1, pairP, List.map_nil, PyData.canLay0, PyData.depth]
    refine ⟨rfl, ?_⟩
    have := ih.2
    omega
def webP (m : Int) (ks : List (List Int)) : PyData := .tuple [.int m, .tuple (ks.map pairP)]
theorem web_toL {μ : Sto} {d : D} {m : Int} {ks : List (List Int)} (h : GoodW d m ks) : toL μ d = some (webP m ks) := by
  obtain ⟨rfl, _, _, _, hk⟩ := h
  have e : toP μ (.tup (ks.map pairD)) = some (.tuple (ks.map pairP)) := by
    simp only [toP, pairs_toP hk, Option.map_some]
  unfold toL
  dsimp only
  simp only [toLs1, toL1, toP, e, pairs_toP hk, Option.map_some, Option.bind_some]
  rfl
theorem web_fit {d : D} {m : Int} {ks : List (List Int)} (h : GoodW d m ks) : fitP (webP m ks) = true := by
  obtain ⟨_, _, _, _, hk⟩ := h
  have := pairs_lay hk
  simp only [fitP, webP, PyData.canLay0, PyData.canLayAll0, this.1, PyData.depth, PyData.depthAll, Bool.true_and, Bool.and_true]
  exact decide_eq_true (by have := this.2; omega)
theorem web_eq {d d' : D} {m m' : Int} {ks ks' : List (List Int)} (h : GoodW d m ks) (h' : GoodW d' m' ks') : ∃ b, ∀ μ, dEq false d d' μ = .ok (.bl b) μ := by
  refine ⟨PyData.eqv (webP m ks) (webP m' ks'), fun μ => ?_⟩
  unfold dEq
  rw [web_toL h, web_toL h']
  dsimp only
  rw [if_pos ⟨web_fit h, web_fit h'⟩]
  rfl
theorem ne_pair {μ : Sto} {a b c d : Int} : dEq true (pairD [a, b]) (pairD [c, d]) μ = .ok (.bl (!decide ([a, b] = [c, d]))) μ := by
  have e : dEq true (pairD [a, b]) (pairD [c, d]) μ = .ok (.bl (!(PyData.eqv (.tuple [.int a, .int b]) (.tuple [.int c, .int d])))) μ := rfl
  rw [e]
  congr 3
  simp only [PyData.eqv, PyData.eqvAll]
  by_cases h1 : a = c <;> by_cases h2 : b = d <;> simp [h1, h2]
/-- the ties but one -/
theorem less_comp {e : ME} {t : MT} {μ : Sto} {m : Int} {ks : List (List Int)} {x : List Int} (hk : ∀ k ∈ ks, OkP m k) (hx : OkP m x) (hl : ks.length ≤ 15) (he : e = cVar 0) (ht : t = cTB (cBin (dEq true) (cVar 0) (cVar 1))) :
    compLoop (.fix (ks.map pairD)) μ.length (gNameD 0) t e (ks.map pairD) [none, some (pairD x)] (μ ++ [.lst []]) = .ok (.obj μ.length) (μ ++ [.lst ((ks.filter fun k => !decide (k = x)).map pairD)]) := by
  subst he ht
  obtain ⟨c, d, rfl, _⟩ := hx
  have := comp_pure (src := .fix (ks.map pairD)) (g := gNameD 0) (t := cTB (cBin (dEq true) (cVar 0) (cVar 1))) (e := cVar 0) (μ1 := μ) (q := fun z => match z with | .tup [.int a, .int b] => !decide ([a, b] = [c, d]) | _ => false)
    (h := fun z => z) (fun ρ => ∃ o, ρ = [o, some (pairD [c, d])]) (fun _ => trivial) (xs := ks.map pairD) (acc := []) (ρ := [none, some (pairD [c, d])]) ⟨none, rfl⟩
    (by rw [List.length_map, List.length_nil]; exact Nat.le_trans (by omega) small1)
    (fun z hz a ρ ⟨o, ho⟩ => by
      obtain ⟨k, hk', rfl⟩ := List.mem_map.mp hz
      obtain ⟨u, v, rfl, _⟩ := hk k hk'
      subst ho
      refine ⟨[some (pairD [u, v]), some (pairD [c, d])], ⟨_, rfl⟩, rfl, ?_, fun _ => by rw [ev_var0]⟩
      simp only [ev_TB, ev_bin, ev_varS, ev_var0, Out.bind_ok, ne_pair, ev_asB]
      rfl)
  rw [this, List.nil_append, List.map_id', List.filter_map]
  congr 4
  congr 1
  apply List.filter_congr
  intro k hk'
  obtain ⟨u, v, rfl, _⟩ := hk k hk'
  rfl
theorem good_less {m : Nat} {ks : List (List Int)} {x : List Int} (h : GoodW (.tup [.int m, .tup (ks.map pairD)]) m ks) : GoodW (.tup [.int m, .tup ((ks.filter fun k => !decide (k = x)).map pairD)]) m (ks.filter fun k => !decide (k = x)) := by
  obtain ⟨_, h0, h1, hp, hk⟩ := h
  exact ⟨rfl, h0, h1, hp.filter _, fun k hk' => hk k (List.mem_filter.mp hk').1⟩
theorem sp_without {μ : Sto} {m : Nat} {ks : List (List Int)} {x : List Int} (h : GoodW (.tup [.int m, .tup (ks.map pairD)]) m ks) (hx : OkP m x) : F_without [.tup [.int m, .tup (ks.map pairD)], pairD x] μ = .ok (.tup [.int m, .tup ((ks.filter fun k => !decide (k = x)).map pairD)]) μ := by
  have hg := good_less (x := x) h
  have hlen := good_len h
  obtain ⟨_, h0, h1, hp, hk⟩ := h
  have l2' : [D.int m, D.tup (ks.map pairD)].length = 2 := rfl
  unfold F_without
  rw [ev_fn2]
  simp only [B_without, List.replicate, ev_seq, ev_asg, ev_var0, Out.bindS_ok, ev_gtup, if_pos l2', ev_gcons, ev_gnil, ev_gn, Out.bind_ok, List.set_cons_succ, List.set_cons_zero, so_next, ev_ret, ev_tup, ev_cons, ev_nil, ev_varS, ev_args, ev_comp, ev_iVal, ev_srcT, items_fix]
  rw [show capD [none, some 1] [some (D.tup [D.int m, D.tup (ks.map pairD)]), some (pairD x), some (D.int m), some (D.tup (ks.map pairD))] = [none, some (pairD x)] from rfl, less_comp (t := T_without_2) (e := E_without_1) hk hx hlen rfl rfl]
  simp only [Out.bind_ok]
  rw [ev_tupL get_last]
  simp only [Out.bind_ok, List.length_cons, List.length_nil, if_pos l2, Out.bindS_ok, out_ret]
  exact gc_app (good_low hg)
/-- spare, by either -/
theorem sp_spare {m : Nat} {ks : List (List Int)} {x : List Int} (h : GoodW (.tup [.int m, .tup (ks.map pairD)]) m ks) (hx : OkP m x) : ∃ b, (∀ μ, F_is_spare [.tup [.int m, .tup (ks.map pairD)], pairD x] μ = .ok (.bl b) μ) ∧ ∀ μ, F__law_spare [.tup [.int m, .tup (ks.map pairD)], pairD x] μ = .ok (.bl b) μ := by
  have hg := good_less (x := x) h
  have hlen := good_len h
  obtain ⟨k1, g1, a1, b1⟩ := sp_two (μ := []) h
  obtain ⟨k2, g2, a2, b2⟩ := sp_two (μ := []) hg
  obtain ⟨b, hb⟩ := web_eq g2 g1
  refine ⟨b, fun μ => ?_, fun μ => ?_⟩
  · unfold F_is_spare
    rw [ev_fn2]
    simp only [B_is_spare, List.replicate, ev_ret, ev_bin, ev_args, ev_cons, ev_nil, ev_var0, ev_varS, Out.bind_ok, sp_without h hx, b2, b1, hb, Out.bindS_ok, out_ret]
    exact gc_same (by simp)
  · have hk := h.2.2.2.2
    unfold F__law_spare
    rw [ev_fn2]
    simp only [B__law_spare, List.replicate, ev_seq, ev_asg, ev_tup, ev_cons, ev_nil, ev_bin, ev_var0, ev_varS, ev_C, Out.bind_ok, ev_ixT0, ev_ixT1, ev_args, ev_comp, ev_iVal, ev_srcT, items_fix]
    rw [show capD [none, some 1] _ = [none, some (pairD x)] from rfl, less_comp (t := T__law_spare_2) (e := E__law_spare_1) hk hx hlen rfl rfl]
    simp only [Out.bind_ok]
    rw [ev_tupL get_last]
    simp only [Out.bind_ok, List.length_cons, List.length_nil, if_pos l2, Out.bindS_ok, ev_gn, List.set_cons_succ, List.set_cons_zero, so_next, ev_ret, ev_bin, ev_args, ev_cons, ev_nil, ev_varS, ev_var0, ev_C, a2, a1, hb, out_ret]
    exact gc_app (by simp)
end Lw

set_option Elab.async false
set_option linter.all false
set_option maxRecDepth 100000
set_option maxHeartbeats 4000000
namespace Lw
open PySem L2 RS


/-- the store as it was, the pen turned, and what was made since -/
def Pn (μ0 : Sto) (i : Nat) (μ : Sto) : Prop := ∃ a b c g, μ = μ0.set i (penD a b c) ++ g
theorem Pn.app {μ0 μ g : Sto} {i : Nat} (h : Pn μ0 i μ) : Pn μ0 i (μ ++ g) := by
  obtain ⟨a, b, c, g', rfl⟩ := h
  exact ⟨a, b, c, g' ++ g, by rw [List.append_assoc]⟩
theorem Pn.get {μ0 μ : Sto} {i : Nat} (h : Pn μ0 i μ) (hi : i < μ0.length) : ∃ a b c, μ[i]? = some (penD a b c) := by
  obtain ⟨a, b, c, g', rfl⟩ := h
  exact ⟨a, b, c, get_app (get_set hi)⟩
theorem Pn.set {μ0 μ : Sto} {i : Nat} {a b c : Int} (h : Pn μ0 i μ) (hi : i < μ0.length) : Pn μ0 i (μ.set i (penD a b c)) := by
  obtain ⟨a', b', c', g', rfl⟩ := h
  exact ⟨a, b, c, g', by rw [set_app (by simpa using hi), List.set_set]⟩
theorem Pn.len {μ0 μ : Sto} {i : Nat} (h : Pn μ0 i μ) : μ0.length ≤ μ.length := by
  obtain ⟨a', b', c', g', rfl⟩ := h
  simp
theorem Pn.self {μ0 : Sto} {i : Nat} {a b c : Int} (h : μ0[i]? = some (penD a b c)) : Pn μ0 i μ0 := by
  refine ⟨a, b, c, [], ?_⟩
  rw [List.append_nil]
  apply List.ext_getElem?
  intro j
  by_cases e : i = j
  · subst e; rw [get_set (List.getElem?_eq_some_iff.mp h).1, h]
  · rw [List.getElem?_set_ne e]
theorem Pn.draw {μ0 μ : Sto} {i : Nat} {m : Int} (h : Pn μ0 i μ) (hi : i < μ0.length) (h0 : 0 < m) (h1 : m < 1000) :
    ∃ r a b c : Int, 0 ≤ r ∧ r < m ∧ F__law_draw [.obj i, .int m] μ = .ok (.int r) (μ.set i (penD a b c)) ∧ Pn μ0 i (μ.set i (penD a b c)) := by
  obtain ⟨a, b, c, hp⟩ := h.get hi
  obtain ⟨r, a', b', c', r0, r1, e⟩ := sp_draw hp h0 h1
  exact ⟨r, a', b', c', r0, r1, e, h.set hi⟩
/-- the end of a call that turned the pen -/
theorem Pn.gc {μ0 μ : Sto} {i : Nat} {d : D} (h : Pn μ0 i μ) (hd : d.low μ0.length) : ∃ a b c, gcD μ0 (.ok d μ) = .ok d (μ0.set i (penD a b c)) := by
  obtain ⟨a, b, c, g', rfl⟩ := h
  exact ⟨a, b, c, gc_set hd low_pen⟩
/-- pairs over a range -/
theorem comp_rng {μ1 : Sto} {e : ME} {rest : Ro} {f : Int → Int × Int} {lo : Int} {n : Nat} (hn : n < 1000) (he : ∀ v a, e (some (.int v) :: rest) (μ1 ++ [.lst a]) = .ok (prD (f v)) (μ1 ++ [.lst a])) :
    compLoop (.fix (rngD lo n)) μ1.length (gNameD 0) cTrue e (rngD lo n) (none :: rest) (μ1 ++ [.lst []]) = .ok (.obj μ1.length) (μ1 ++ [.lst (((List.range n).map fun k : Nat => f (lo + (k : Int))).map prD)]) := by
  have := comp_pure (src := .fix (rngD lo n)) (g := gNameD 0) (t := cTrue) (e := e) (μ1 := μ1) (q := fun _ => true)
    (h := fun d => match d with | .int a => prD (f a) | _ => .non) (fun ρ => ∃ o, ρ = o :: rest) (fun _ => trivial) (xs := rngD lo n) (acc := []) (ρ := none :: rest) ⟨none, rfl⟩
    (by unfold rngD; rw [List.length_map, List.length_nil, List.length_range]; exact Nat.le_trans (by omega) small1)
    (fun x hx a ρ ⟨o, ho⟩ => by
      unfold rngD at hx
      obtain ⟨k, hk, rfl⟩ := List.mem_map.mp hx
      exact ⟨_, ⟨_, rfl⟩, by subst ho; rfl, rfl, fun _ => he _ _⟩)
  rw [this, List.filter_eq_self.mpr (fun _ _ => rfl)]
  unfold rngD
  simp only [List.nil_append, List.map_map]
  rfl
/-- ties of a web of m, in any order -/
def Prs (m : Int) (ps : List (Int × Int)) : Prop := ps.length ≤ 40 ∧ ∀ p ∈ ps, 0 ≤ p.1 ∧ p.1 < m ∧ 0 ≤ p.2 ∧ p.2 < m ∧ p.1 ≠ p.2
/-- some of the pairs, by draws -/
theorem comp_drawn {μ0 μ1 : Sto} {i t : Nat} {m : Int} {k : Int} {ps : List (Int × Int)} (hi : i < μ0.length) (ht : μ0.length ≤ t) (h : Pn μ0 i μ1) (hl : μ1[t]? = some (.lst (ps.map prD))) (hps : Prs m ps) (k0 : 0 < k) (k1 : k < 1000) :
    ∃ qs μ2, Prs m qs ∧ Pn μ0 i μ2 ∧ μ2.length = μ1.length ∧ compLoop (.own t (ps.map prD)) μ1.length (gNameD 0) (cTB (cBin (dEq false) (cArgs F__law_draw (cCons (cVar 1) (cCons (cC (.int k)) (cNil)))) (cC (.int 0)))) (cVar 0) (ps.map prD) [none, some (.obj i)] (μ1 ++ [.lst []]) = .ok (.obj μ1.length) (μ2 ++ [.lst (qs.map prD)]) := by
  have run := comp_run (src := .own t (ps.map prD)) (g := gNameD 0) (t := (cTB (cBin (dEq false) (cArgs F__law_draw (cCons (cVar 1) (cCons (cC (.int k)) (cNil)))) (cC (.int 0))))) (e := cVar 0) (n := μ1.length)
    (fun xs ys ρ μ2 s => s = [] ∧ μ2.length = μ1.length ∧ Pn μ0 i μ2 ∧ μ2[t]? = some (.lst (ps.map prD)) ∧ (∃ o, ρ = [o, some (.obj i)]) ∧ ∃ rs qs : List (Int × Int), xs = rs.map prD ∧ ys = qs.map prD ∧ qs.length + rs.length ≤ 40 ∧ (∀ p ∈ rs, 0 ≤ p.1 ∧ p.1 < m ∧ 0 ≤ p.2 ∧ p.2 < m ∧ p.1 ≠ p.2) ∧ (∀ p ∈ qs, 0 ≤ p.1 ∧ p.1 < m ∧ 0 ≤ p.2 ∧ p.2 < m ∧ p.1 ≠ p.2))
    (fun ys ρ μ2 s ⟨_, e1, _, e2, _⟩ => ⟨e1, get_app e2⟩)
    (fun x r ys ρ μ2 s ⟨es, e1, e2, e3, ⟨o, e4⟩, rs, qs, e5, e6, e7, e8, e9⟩ => by
      subst es e4 e6
      cases rs with
      | nil => cases e5
      | cons p rs =>
        injection e5 with ex er
        subst ex er
        obtain ⟨v, a, b, c, v0, v1, ed, hp⟩ := (e2.app (g := [.lst (qs.map prD)])).draw hi k0 k1
        have i2 : i < μ2.length := Nat.lt_of_lt_of_le hi e2.len
        rw [set_app i2] at ed
        refine ⟨e1, get_app e3, [some (prD p), some (.obj i)], μ2, [], v == 0, μ2.set i (penD a b c), [], rfl, ?_, fun hc => ?_, fun hc => ?_⟩
        · simp only [ev_TB, ev_bin, ev_args, ev_cons, ev_nil, ev_varS, ev_var0, ev_C, Out.bind_ok, ed, ev_eqI, Bool.false_eq_true, if_false, ev_asB]
        · refine ⟨prD p, μ2.set i (penD a b c), [], by rw [ev_var0], ?_, by simpa using e1, rfl, by simpa using e1, e2.set hi, get_setN e3 (by omega), ⟨_, rfl⟩, rs, qs ++ [p], rfl, by simp, by simp at e7 ⊢; omega, fun q hq => e8 q (List.mem_cons_of_mem _ hq), fun q hq => ?_⟩
          · rw [List.length_map]
            simp only [List.length_cons] at e7
            exact Nat.lt_of_lt_of_le (show qs.length < 1000 by omega) small1
          · rcases List.mem_append.mp hq with z | z
            · exact e9 q z
            · simp at z; subst z; exact e8 _ List.mem_cons_self
        · exact ⟨rfl, by simpa using e1, e2.set hi, get_setN e3 (by omega), ⟨_, rfl⟩, rs, qs, rfl, rfl, by simp at e7 ⊢; omega, fun q hq => e8 q (List.mem_cons_of_mem _ hq), e9⟩)
    (xs := ps.map prD) (ys := []) (ρ := [none, some (.obj i)]) (μ1 := μ1) (s := [])
    ⟨rfl, rfl, h, hl, ⟨_, rfl⟩, ps, [], rfl, rfl, by have := hps.1; simpa using this, hps.2, by simp⟩
  obtain ⟨ys', ρ', μ2, s', ⟨es, e1, e2, e3, ⟨o, e4⟩, rs, qs, e5, e6, e7, e8, e9⟩, run⟩ := run
  subst es e6
  exact ⟨qs, μ2, ⟨by omega, e9⟩, e2, e1, run⟩
/-- a drawn place ahead of each -/
theorem comp_ahead {μ0 μ1 : Sto} {i : Nat} {m : Int} (hi : i < μ0.length) (h : Pn μ0 i μ1) (m0 : 1 ≤ m) (m1 : m ≤ 6) :
    ∃ qs μ2, Prs m qs ∧ Pn μ0 i μ2 ∧ μ2.length = μ1.length ∧ compLoop (.fix (rngD 1 (m - 1).toNat)) μ1.length (gNameD 0) cTrue E__law_sparse_by_10 (rngD 1 (m - 1).toNat) [none, some (.obj i)] (μ1 ++ [.lst []]) = .ok (.obj μ1.length) (μ2 ++ [.lst (qs.map prD)]) := by
  have run := comp_run (src := .fix (rngD 1 (m - 1).toNat)) (g := gNameD 0) (t := cTrue) (e := E__law_sparse_by_10) (n := μ1.length)
    (fun xs ys ρ μ2 s => s = [] ∧ μ2.length = μ1.length ∧ Pn μ0 i μ2 ∧ (∃ o, ρ = [o, some (.obj i)]) ∧ ∃ (lo : Int) (n : Nat) (qs : List (Int × Int)), xs = rngD lo n ∧ 1 ≤ lo ∧ lo + n = m ∧ ys = qs.map prD ∧ qs.length + n ≤ 40 ∧ (∀ p ∈ qs, 0 ≤ p.1 ∧ p.1 < m ∧ 0 ≤ p.2 ∧ p.2 < m ∧ p.1 ≠ p.2))
    (fun ys ρ μ2 s ⟨_, e1, _⟩ => ⟨e1, trivial⟩)
    (fun x r ys ρ μ2 s ⟨es, e1, e2, ⟨o, e4⟩, lo, n, qs, e5, e6, e7, e8, e9, e10⟩ => by
      subst es e4 e8
      cases n with
      | zero => rw [rngD_zero] at e5; cases e5
      | succ n =>
        rw [rngD_succ] at e5
        injection e5 with ex er
        subst ex er
        obtain ⟨v, a, b, c, v0, v1, ed, hp⟩ := (e2.app (g := [.lst (qs.map prD)])).draw (m := lo) hi (by omega) (by omega)
        have i2 : i < μ2.length := Nat.lt_of_lt_of_le hi e2.len
        rw [set_app i2] at ed
        refine ⟨e1, trivial, [some (.int lo), some (.obj i)], μ2, [], true, μ2, [], rfl, rfl, fun hc => ?_, fun hc => nomatch hc⟩
        refine ⟨prD (v, lo), μ2.set i (penD a b c), [], ?_, ?_, by simpa using e1, rfl, by simpa using e1, e2.set hi, ⟨_, rfl⟩, lo + 1, n, qs ++ [(v, lo)], rfl, by omega, by omega, by simp, by simp; omega, fun q hq => ?_⟩
        · unfold E__law_sparse_by_10
          simp only [ev_tup, ev_args, ev_cons, ev_nil, ev_varS, ev_var0, ev_C, Out.bind_ok, ed, List.length_cons, List.length_nil, if_pos l2]
          rfl
        · rw [List.length_map]
          exact Nat.lt_of_lt_of_le (show qs.length < 1000 by omega) small1
        · rcases List.mem_append.mp hq with z | z
          · exact e10 q z
          · simp at z; subst z; exact ⟨v0, by omega, by omega, by omega, by dsimp only; omega⟩)
    (xs := rngD 1 (m - 1).toNat) (ys := []) (ρ := [none, some (.obj i)]) (μ1 := μ1) (s := [])
    ⟨rfl, rfl, h, ⟨_, rfl⟩, 1, _, [], rfl, by omega, by omega, rfl, by simp; omega, by simp⟩
  obtain ⟨ys', ρ', μ2, s', ⟨es, e1, e2, ⟨o, e4⟩, lo, n, qs, e5, e6, e7, e8, e9, e10⟩, run⟩ := run
  subst es e8
  exact ⟨qs, μ2, ⟨by omega, e10⟩, e2, e1, run⟩


noncomputable def W__law_sparse_by : MS := (sIf (cTB (cBin (dEq false) (cVar 1) (cC (.int 0)))) (sAsg (cComp (iVal (cVar 3)) [none, some 0] (gNameD 0) (T__law_sparse_by_4) (E__law_sparse_by_3)) (gNameD 5)) (sIf (cTB (cBin (dEq false) (cVar 1) (cC (.int 1)))) (sAsg (cComp (iVal (cVar 3)) [none, some 0] (gNameD 0) (T__law_sparse_by_6) (E__law_sparse_by_5)) (gNameD 5)) (sIf (cTB (cBin (dEq false) (cVar 1) (cC (.int 2)))) (sAsg (cBin dAdd (cComp (iRng rng1 (cCons (cBin dSub (cVar 2) (cC (.int 1))) (cNil))) [none] (gNameD 0) (cTrue) (E__law_sparse_by_7)) (cBin dMul (cLst (cCons (cTup (cCons (cC (.int 0)) (cCons (cBin dSub (cVar 2) (cC (.int 1))) (cNil)))) (cNil))) (cArgs dIntC (cCons (cBin (dCmp .Gt) (cVar 2) (cC (.int 2))) (cNil))))) (gNameD 5)) (sIf (cTB (cBin (dEq false) (cVar 1) (cC (.int 3)))) (sAsg (cComp (iRng rng1 (cCons (cBin dSub (cVar 2) (cC (.int 1))) (cNil))) [none] (gNameD 0) (cTrue) (E__law_sparse_by_8)) (gNameD 5)) (sIf (cTB (cBin (dEq false) (cVar 1) (cC (.int 4)))) (sAsg (cComp (iRng rng2 (cCons (cC (.int 1)) (cCons (cVar 2) (cNil)))) [none] (gNameD 0) (cTrue) (E__law_sparse_by_9)) (gNameD 5)) (sAsg (cComp (iRng rng2 (cCons (cC (.int 1)) (cCons (cVar 2) (cNil)))) [none, some 0] (gNameD 0) (cTrue) (E__law_sparse_by_10)) (gNameD 5)))))))
theorem sb_ways {μ0 μ1 : Sto} {i t : Nat} {m w : Int} {ps : List (Int × Int)} {o4 : Option D} (hi : i < μ0.length) (ht : μ0.length ≤ t) (h : Pn μ0 i μ1) (hl : μ1[t]? = some (.lst (ps.map prD))) (hps : Prs m ps) (m0 : 1 ≤ m) (m1 : m ≤ 6) :
    ∃ (o : Nat) (qs : List (Int × Int)) (μ2 : Sto), Prs m qs ∧ Pn μ0 i μ2 ∧ μ2[o]? = some (.lst (qs.map prD)) ∧ W__law_sparse_by [some (.obj i), some (.int w), some (.int m), some (.obj t), o4, none] μ1 = .next [some (.obj i), some (.int w), some (.int m), some (.obj t), o4, some (.obj o)] μ2 := by
  unfold W__law_sparse_by
  have r1 : ∀ n a, E__law_sparse_by_7 (some (.int n) :: []) (μ1 ++ [.lst a]) = .ok (prD (n, n + 1)) (μ1 ++ [.lst a]) := fun n a => by
    unfold E__law_sparse_by_7
    simp only [ev_tup, ev_cons, ev_nil, ev_bin, ev_var0, ev_C, Out.bind_ok, ev_addI, List.length_cons, List.length_nil, if_pos l2]
    rfl
  have r2 : ∀ n a, E__law_sparse_by_8 (some (.int n) :: []) (μ1 ++ [.lst a]) = .ok (prD (n, n + 1)) (μ1 ++ [.lst a]) := r1
  have r3 : ∀ n a, E__law_sparse_by_9 (some (.int n) :: []) (μ1 ++ [.lst a]) = .ok (prD (0, n)) (μ1 ++ [.lst a]) := fun n a => by
    unfold E__law_sparse_by_9
    simp only [ev_tup, ev_cons, ev_nil, ev_bin, ev_var0, ev_C, Out.bind_ok, ev_addI, List.length_cons, List.length_nil, if_pos l2]
    rfl
  have sb : dSub (.int m) (.int 1) μ1 = .ok (.int (m - 1)) μ1 := rfl
  have rn : (List.range (m - 1).toNat).length ≤ 5 := by rw [List.length_range]; omega
  have pth : ∀ p ∈ (List.range (m - 1).toNat).map (fun k : Nat => (((0 : Int) + (k : Int)), (0 : Int) + (k : Int) + 1)), 0 ≤ p.1 ∧ p.1 < m ∧ 0 ≤ p.2 ∧ p.2 < m ∧ p.1 ≠ p.2 := fun p hp => by
    obtain ⟨k, hk, rfl⟩ := List.mem_map.mp hp
    rw [List.mem_range] at hk
    dsimp only
    omega
  by_cases w0 : w = 0
  · subst w0
    obtain ⟨qs, μ2, q1, q2, q3, q4⟩ := comp_drawn (k := 2) hi ht h hl hps (by decide) (by decide)
    refine ⟨μ1.length, qs, μ2 ++ [.lst (qs.map prD)], q1, q2.app, by rw [← q3]; exact get_last, ?_⟩
    simp only [ev_sif, ev_TB, ev_bin, ev_varS, ev_var0, ev_C, Out.bind_ok, ev_eqI, beq_self_eq_true, ev_asB, Out.bindS_ok, Bool.false_eq_true, if_false, if_true, ev_asg, ev_comp, ev_iVal]
    rw [ev_srcL hl]
    simp only [Out.bind_ok, items_own]
    rw [show capD [none, some 0] [some (D.obj i), some (.int 0), some (.int m), some (.obj t), o4, none] = [none, some (.obj i)] from rfl]
    unfold T__law_sparse_by_4 E__law_sparse_by_3
    rw [q4]
    rfl
  have w0' : (w == 0) = false := by simpa using w0
  by_cases w1 : w = 1
  · subst w1
    obtain ⟨qs, μ2, q1, q2, q3, q4⟩ := comp_drawn (k := 3) hi ht h hl hps (by decide) (by decide)
    refine ⟨μ1.length, qs, μ2 ++ [.lst (qs.map prD)], q1, q2.app, by rw [← q3]; exact get_last, ?_⟩
    simp only [ev_sif, ev_TB, ev_bin, ev_varS, ev_var0, ev_C, Out.bind_ok, ev_eqI, w0', beq_self_eq_true, ev_asB, Out.bindS_ok, Bool.false_eq_true, if_false, if_true, ev_asg, ev_comp, ev_iVal]
    rw [ev_srcL hl]
    simp only [Out.bind_ok, items_own]
    rw [show capD [none, some 0] [some (D.obj i), some (.int 1), some (.int m), some (.obj t), o4, none] = [none, some (.obj i)] from rfl]
    unfold T__law_sparse_by_6 E__law_sparse_by_5
    rw [q4]
    rfl
  have w1' : (w == 1) = false := by simpa using w1
  by_cases w2 : w = 2
  · subst w2
    let ps1 : List (Int × Int) := (List.range (m - 1).toNat).map (fun k : Nat => (((0 : Int) + (k : Int)), (0 : Int) + (k : Int) + 1))
    let ps2 : List (Int × Int) := (List.replicate (if cmpI .Gt m 2 then (1 : Int) else 0).toNat [((0 : Int), m - 1)]).flatten
    have hb : ps2 = if cmpI .Gt m 2 then [((0 : Int), m - 1)] else [] := by
      simp only [ps2]
      cases cmpI .Gt m 2 <;> rfl
    have hb2 : ps2.length ≤ 1 ∧ ∀ p ∈ ps2, p = (0, m - 1) ∧ 2 < m := by
      rw [hb]
      by_cases z : cmpI .Gt m 2 = true
      · rw [if_pos z]
        have : 2 < m := by simpa [cmpI] using z
        simp [this]
      · rw [if_neg z]; simp
    refine ⟨_, ps1 ++ ps2, ((μ1 ++ [O.lst (ps1.map prD)] ++ [O.lst [prD (0, m - 1)]]) ++ [O.lst (ps2.map prD)]) ++ [O.lst ((ps1 ++ ps2).map prD)], ⟨?_, fun p hp => ?_⟩, ((h.app).app.app).app, get_last, ?_⟩
    · rw [List.length_append]
      have : ps1.length ≤ 5 := by simp only [ps1, List.length_map]; exact rn
      omega
    · rcases List.mem_append.mp hp with z | z
      · exact pth p z
      · obtain ⟨rfl, z2⟩ := hb2.2 p z
        dsimp only
        omega
    · simp only [ev_sif, ev_TB, ev_bin, ev_varS, ev_var0, ev_C, Out.bind_ok, ev_eqI, w0', w1', beq_self_eq_true, ev_asB, Out.bindS_ok, Bool.false_eq_true, if_false, if_true, ev_asg, ev_comp, ev_iRng, ev_cons, ev_nil, sb]
      rw [ev_rng1 (by omega) (by omega)]
      simp only [Out.bind_ok, items_fix]
      rw [show capD [none] _ = [none] from rfl, comp_rng (f := fun v => (v, v + 1)) (by omega) r1]
      have l1 : (1 : Nat) ≤ sizeLine := by decide
      have sb' : ∀ μ, dSub (.int m) (.int 1) μ = .ok (.int (m - 1)) μ := fun _ => rfl
      have ib : ∀ k : Bool, ∀ μ, dIntC [.bl k] μ = .ok (.int (if k then 1 else 0)) μ := fun _ _ => rfl
      simp only [Out.bind_ok, ev_lst, ev_tup, ev_cons, ev_nil, ev_bin, ev_varS, ev_var0, ev_C, sb', List.length_cons, List.length_nil, if_pos l2, if_pos l1, ev_args, ev_cmpI, ib]
      have mu : ∀ M : Sto, dMul (.obj M.length) (.int (if cmpI .Gt m 2 = true then 1 else 0)) (M ++ [O.lst [prD (0, m - 1)]]) = .ok (.obj (M ++ [O.lst [prD (0, m - 1)]]).length) ((M ++ [O.lst [prD (0, m - 1)]]) ++ [O.lst (ps2.map prD)]) := fun M => by
        unfold dMul
        dsimp only
        rw [get_last]
        dsimp only
        have : (List.replicate (if cmpI .Gt m 2 = true then (1 : Int) else 0).toNat [prD (0, m - 1)]).flatten = ps2.map prD := by
          simp only [ps2]
          cases cmpI .Gt m 2 <;> rfl
        rw [this, if_pos]
        have l1' : (1 : Nat) ≤ sizeLine := by decide
        cases cmpI .Gt m 2
        · exact ⟨by decide, by decide, Nat.zero_le _⟩
        · exact ⟨by decide, by decide, l1'⟩
      rw [show (D.tup [D.int 0, D.int (m - 1)]) = prD (0, m - 1) from rfl, mu]
      simp only [Out.bind_ok]
      have ad : dAdd (.obj μ1.length) (.obj (μ1 ++ [O.lst (ps1.map prD)] ++ [O.lst [prD (0, m - 1)]]).length) ((μ1 ++ [O.lst (ps1.map prD)] ++ [O.lst [prD (0, m - 1)]]) ++ [O.lst (ps2.map prD)]) = .ok (.obj ((μ1 ++ [O.lst (ps1.map prD)] ++ [O.lst [prD (0, m - 1)]]) ++ [O.lst (ps2.map prD)]).length) (((μ1 ++ [O.lst (ps1.map prD)] ++ [O.lst [prD (0, m - 1)]]) ++ [O.lst (ps2.map prD)]) ++ [O.lst ((ps1 ++ ps2).map prD)]) := by
        unfold dAdd
        dsimp only
        rw [get_last, get_app (get_app get_last)]
        dsimp only
        rw [if_pos, List.map_append]
        have e1 : ((List.range (m - 1).toNat).map (fun k : Nat => (((0 : Int) + (k : Int)), (0 : Int) + (k : Int) + 1))).length ≤ 5 := by rw [List.length_map]; exact rn
        have e2 : ((ps1.map prD).length : Nat) ≤ 5 := by rw [List.length_map]; exact e1
        have e3 : ((ps2.map prD).length : Nat) ≤ 1 := by rw [List.length_map]; exact hb2.1
        exact Nat.le_trans (show _ ≤ 1000 by omega) small1
      rw [ad]
      rfl
  have w2' : (w == 2) = false := by simpa using w2
  by_cases w3 : w = 3
  · subst w3
    refine ⟨μ1.length, (List.range (m - 1).toNat).map (fun k : Nat => (((0 : Int) + (k : Int)), (0 : Int) + (k : Int) + 1)), μ1 ++ [.lst _], ⟨by rw [List.length_map]; omega, pth⟩, h.app, get_last, ?_⟩
    simp only [ev_sif, ev_TB, ev_bin, ev_varS, ev_var0, ev_C, Out.bind_ok, ev_eqI, w0', w1', w2', beq_self_eq_true, ev_asB, Out.bindS_ok, Bool.false_eq_true, if_false, if_true, ev_asg, ev_comp, ev_iRng, ev_cons, ev_nil, sb]
    rw [ev_rng1 (by omega) (by omega)]
    simp only [Out.bind_ok, items_fix]
    rw [show capD [none] _ = [none] from rfl, comp_rng (f := fun v => (v, v + 1)) (by omega) r2]
    rfl
  have w3' : (w == 3) = false := by simpa using w3
  by_cases w4 : w = 4
  · subst w4
    refine ⟨μ1.length, (List.range (m - 1).toNat).map (fun k : Nat => ((0 : Int), (1 : Int) + (k : Int))), μ1 ++ [.lst _], ⟨by rw [List.length_map]; omega, fun p hp => ?_⟩, h.app, get_last, ?_⟩
    · obtain ⟨k, hk, rfl⟩ := List.mem_map.mp hp
      rw [List.mem_range] at hk
      dsimp only
      omega
    simp only [ev_sif, ev_TB, ev_bin, ev_varS, ev_var0, ev_C, Out.bind_ok, ev_eqI, w0', w1', w2', w3', beq_self_eq_true, ev_asB, Out.bindS_ok, Bool.false_eq_true, if_false, if_true, ev_asg, ev_comp, ev_iRng, ev_cons, ev_nil, sb]
    rw [ev_rng2 (by omega) (by omega) (by omega) (by omega)]
    simp only [Out.bind_ok, items_fix]
    rw [show capD [none] _ = [none] from rfl, comp_rng (f := fun v => (0, v)) (by omega) r3]
    rfl
  have w4' : (w == 4) = false := by simpa using w4
  obtain ⟨qs, μ2, q1, q2, q3, q4⟩ := comp_ahead hi h m0 m1
  refine ⟨μ1.length, qs, μ2 ++ [.lst (qs.map prD)], q1, q2.app, by rw [← q3]; exact get_last, ?_⟩
  simp only [ev_sif, ev_TB, ev_bin, ev_varS, ev_var0, ev_C, Out.bind_ok, ev_eqI, w0', w1', w2', w3', w4', ev_asB, Out.bindS_ok, Bool.false_eq_true, if_false, ev_asg, ev_comp, ev_iRng, ev_cons, ev_nil]
  rw [ev_rng2 (by omega) (by omega) (by omega) (by omega)]
  simp only [Out.bind_ok, items_fix]
  rw [show capD [none, some 0] [some (D.obj i), some (.int w), some (.int m), some (.obj t), o4, none] = [none, some (.obj i)] from rfl, q4]
  rfl

theorem good_low' {n : Nat} {d : D} {m : Int} {ks : List (List Int)} (h : GoodW d m ks) : d.low n := good_low h
theorem sp_sparse {μ : Sto} {i : Nat} {a b c : Int} (hp : μ[i]? = some (penD a b c)) : ∃ d m ks a' b' c', GoodW d m ks ∧ F__law_sparse_by [.obj i] μ = .ok d (μ.set i (penD a' b' c')) := by
  have hi : i < μ.length := (List.getElem?_eq_some_iff.mp hp).1
  have P0 : Pn μ i μ := Pn.self hp
  obtain ⟨w, a1, b1, c1, w0, w1, ew, P1⟩ := P0.draw (m := 7) hi (by decide) (by decide)
  generalize hM1 : μ.set i (penD a1 b1 c1) = M1 at ew P1
  obtain ⟨m', a2, b2, c2, m0, m1, em, P2⟩ := P1.draw (m := 6) hi (by decide) (by decide)
  generalize hM2 : M1.set i (penD a2 b2 c2) = M2 at em P2
  have run := for_run (src := .fix (rngD 0 (1 + m').toNat)) (g := gNameD 4) (fb := L__law_sparse_by_2)
    (fun xs ρ μ1 => ∃ (lo : Int) (n : Nat) (t : Nat) (ps : List (Int × Int)) (o4 : Option D), xs = rngD lo n ∧ 0 ≤ lo ∧ lo + n = 1 + m' ∧ ρ = [some (.obj i), some (.int w), some (.int (1 + m')), some (.obj t), o4, none] ∧ Pn μ i μ1 ∧ μ.length ≤ t ∧ μ1[t]? = some (.lst (ps.map prD)) ∧
      (ps.length : Int) ≤ 6 * lo ∧ (∀ p ∈ ps, 0 ≤ p.1 ∧ p.1 < p.2 ∧ p.2 < lo))
    (fun _ _ _ => trivial)
    (fun x r ρ μ1 ⟨lo, n, t, ps, o4, e1, e2, e3, e4, e5, e6, e7, e8, e9⟩ => by
      subst e4
      cases n with
      | zero => rw [rngD_zero] at e1; cases e1
      | succ n =>
        rw [rngD_succ] at e1
        injection e1 with ex er
        subst ex er
        let qs : List (Int × Int) := (List.range lo.toNat).map fun k : Nat => ((0 : Int) + (k : Int), lo)
        have hq : (qs.length : Int) = lo := by simp only [qs, List.length_map, List.length_range]; omega
        refine ⟨trivial, _, μ1, [some (.obj i), some (.int w), some (.int (1 + m')), some (.obj (μ1.length + 1)), some (.int lo), none], (μ1 ++ [O.lst (qs.map prD)]) ++ [O.lst ((ps ++ qs).map prD)], rfl, ?_, lo + 1, n, μ1.length + 1, ps ++ qs, some (.int lo), rfl, by omega, by omega, rfl, e5.app.app, ?_, ?_, ?_, fun p hp => ?_⟩
        · show L__law_sparse_by_2 [some (.obj i), some (.int w), some (.int (1 + m')), some (.obj t), some (.int lo), none] μ1 = _
          unfold L__law_sparse_by_2
          simp only [ev_asg, ev_bin, ev_varS, ev_var0, Out.bind_ok, ev_comp, ev_iRng, ev_cons, ev_nil]
          rw [ev_rng1 (by omega) (by omega)]
          simp only [Out.bind_ok, items_fix]
          rw [show capD [none, some 4] [some (D.obj i), some (.int w), some (.int (1 + m')), some (.obj t), some (.int lo), none] = [none, some (.int lo)] from rfl,
            comp_rng (f := fun v => (v, lo)) (by omega) (fun v a => by
              unfold E__law_sparse_by_1
              simp only [ev_tup, ev_cons, ev_nil, ev_varS, ev_var0, Out.bind_ok, List.length_cons, List.length_nil, if_pos l2]
              rfl)]
          simp only [Out.bind_ok]
          unfold dAdd
          dsimp only
          rw [get_app e7, get_last]
          dsimp only
          rw [if_pos (by
            rw [List.length_map, List.length_map]
            have : qs.length = ((List.range lo.toNat).map fun k : Nat => ((0 : Int) + (k : Int), lo)).length := rfl
            rw [← this]
            exact Nat.le_trans (show _ ≤ 1000 by omega) small1)]
          simp only [Out.bindS_ok, ev_gn]
          simp only [List.length_append, List.length_cons, List.length_nil, List.set_cons_succ, List.set_cons_zero, List.map_append]
          rfl
        · have := e5.len
          omega
        · have : μ1.length + 1 = (μ1 ++ [O.lst (qs.map prD)]).length := by simp
          rw [this]; exact get_last
        · rw [List.length_append]; push_cast; omega
        · rcases List.mem_append.mp hp with z | z
          · have := e9 p z; omega
          · simp only [qs] at z
            obtain ⟨k, hk, rfl⟩ := List.mem_map.mp z
            rw [List.mem_range] at hk
            dsimp only
            omega)
    (xs := rngD 0 (1 + m').toNat) (ρ := [some (.obj i), some (.int w), some (.int (1 + m')), some (.obj M2.length), none, none]) (μ := M2 ++ [.lst []])
    ⟨0, (1 + m').toNat, M2.length, [], none, rfl, by omega, by omega, rfl, P2.app, P2.len, get_last, by simp, by simp⟩
  obtain ⟨ρ', M3, ⟨lo, n, t, ps, o4, e1, e2, e3, e4, e5, e6, e7, e8, e9⟩, run⟩ := run
  subst e4
  have hn := rngD_nil e1.symm
  subst hn
  obtain ⟨o, qs, M4, q1, q2, q3, q4⟩ := sb_ways (m := 1 + m') (w := w) (o4 := o4) hi e6 e5 e7 ⟨by omega, fun p hp => by have := e9 p hp; omega⟩ (by omega) (by omega)
  obtain ⟨a5, b5, c5, hp4⟩ := q2.get hi
  obtain ⟨ns, a6, b6, c6, n1, n2, n3, n4⟩ := sp_names hp4 (m := 1 + m') (by omega) (by omega)
  obtain ⟨d, ks, g1, g2⟩ := sp_named (μ := M4.set i (penD a6 b6 c6)) (m := 1 + m') (by omega) (by omega) q1.2 (by have := q1.1; omega) n1 n2 n3
  obtain ⟨a7, b7, c7, hg⟩ := (q2.set (a := a6) (b := b6) (c := c6) hi).gc (good_low' g1)
  refine ⟨d, 1 + m', ks, a7, b7, c7, g1, ?_⟩
  unfold F__law_sparse_by
  rw [ev_fn1]
  simp only [B__law_sparse_by, ev_seq, ev_asg, ev_args, ev_cons, ev_nil, ev_var0, ev_C, Out.bind_ok, ew, Out.bindS_ok, ev_gn, so_next, List.replicate, List.set_cons_succ, List.set_cons_zero, ev_bin, hM1, em, hM2, ev_addI, ev_lst, List.length_nil, if_pos (Nat.zero_le sizeLine), ev_for, ev_iRng, ev_varS]
  rw [ev_rng1 (by omega) (by omega)]
  simp only [Out.bindS_ok, items_fix]
  rw [run]
  simp only [so_next, ev_seq]
  have hW := q4
  unfold W__law_sparse_by at hW
  rw [hW]
  simp only [so_next, ev_ret, ev_args, ev_cons, ev_nil, ev_varS, ev_var0, ev_tup, Out.bind_ok]
  rw [ev_tupL q3]
  simp only [Out.bind_ok, List.length_cons, List.length_nil, if_pos l2, n4, g2, Out.bindS_ok, out_ret]
  exact hg

theorem sp_steps {μ : Sto} {d : D} {m k : Int} {ks : List (List Int)} (h : GoodW d m ks) : ∃ d' ks', GoodW d' m ks' ∧ F__law_steps [d, .int k] μ = .ok d' μ := by
  have hd := h.1
  have hm : 1 ≤ m ∧ m ≤ 6 := ⟨h.2.1, h.2.2.1⟩
  subst hd
  obtain ⟨n, rfl⟩ : ∃ n : Nat, m = (n : Int) := ⟨m.toNat, by omega⟩
  obtain ⟨T, _, e⟩ := sp_stepsE (μ := μ) (k := k) h
  exact ⟨_, _, stK_good (by omega) (by omega), e⟩


theorem pairs_fit {m : Int} {ks : List (List Int)} (h : ∀ k ∈ ks, OkP m k) : fitP (.tuple (ks.map pairP)) = true := by
  have := pairs_lay h
  simp only [fitP, PyData.canLay0, this.1, PyData.depth, Bool.true_and]
  exact decide_eq_true (by omega)
theorem ne_none {μ : Sto} {m : Int} {ks : List (List Int)} (h : ∀ k ∈ ks, OkP m k) : dEq true (.tup (ks.map pairD)) (.tup []) μ = .ok (.bl (!ks.isEmpty)) μ := by
  have e1 : toL μ (.tup (ks.map pairD)) = some (.tuple (ks.map pairP)) := by
    simp only [toL, pairs_toL h, Option.map_some]
  have e2 : toL μ (.tup []) = some (.tuple []) := rfl
  unfold dEq
  rw [e1, e2]
  dsimp only
  rw [if_pos ⟨pairs_fit h, by decide⟩]
  congr 2
  cases ks with
  | nil => rfl
  | cons k ks => simp [PyData.eqv, PyData.eqvAll]
theorem good_sub {m : Int} {ks ks' : List (List Int)} {d : D} (h : GoodW d m ks) (hs : ks'.Sublist ks) : GoodW (.tup [.int m, .tup (ks'.map pairD)]) m ks' := by
  obtain ⟨_, h0, h1, hp, hk⟩ := h
  exact ⟨rfl, h0, h1, hp.sublist hs, fun k hk' => hk k (hs.subset hk')⟩
theorem cut_to {β : Type} {xs : List β} {r : Nat} (h : r ≤ xs.length) : cutL xs none (some (r : Int)) = xs.take r := by
  unfold cutL
  rw [HT.sIx_none, HT.sIx_nat]
  simp [Nat.min_eq_left h]
theorem cut_from {β : Type} {xs : List β} {r : Nat} (h : r ≤ xs.length) : cutL xs (some (r : Int)) none = xs.drop r := by
  unfold cutL
  rw [HT.sIx_none, HT.sIx_nat, Nat.min_eq_left h]
  exact List.take_of_length_le (by rw [List.length_drop]; exact Nat.le_refl _)
theorem sort2 {a b : Int} {μ : Sto} : dSorted [.tup [.int a, .int b]] μ = .ok (.obj μ.length) (μ ++ [.lst [.int (min a b), .int (max a b)]]) := by
  have e : [min a b, max a b] = sortI [a, b] := by
    refine sortI_of ?_ (by simp; omega)
    by_cases h : a ≤ b
    · rw [Int.min_eq_left h, Int.max_eq_right h]
    · rw [Int.min_eq_right (by omega), Int.max_eq_left (by omega)]
      exact List.Perm.swap a b []
  have e2 : intsD [.int a, .int b] = some [a, b] := rfl
  unfold dSorted
  dsimp only
  rw [e2]
  dsimp only
  rw [if_pos (show [a, b].length < 64 from (by decide : 2 < 64)), ← e]
  rfl
/-- the pair that is put in -/
theorem sp_webby {μ : Sto} {i : Nat} {a b c : Int} (hp : μ[i]? = some (penD a b c)) : ∃ d m ks a' b' c', GoodW d m ks ∧ F__law_web_by [.obj i] μ = .ok d (μ.set i (penD a' b' c')) := by
  have hi : i < μ.length := (List.getElem?_eq_some_iff.mp hp).1
  obtain ⟨d0, m, ks0, a0, b0, c0, g0, e0⟩ := sp_sparse hp
  have P0 : Pn μ i (μ.set i (penD a0 b0 c0)) := ⟨a0, b0, c0, [], by simp⟩
  generalize hM0 : μ.set i (penD a0 b0 c0) = M0 at e0 P0
  obtain ⟨w, a1, b1, c1, w0, w1, ew, P1⟩ := P0.draw (m := 6) hi (by decide) (by decide)
  generalize hM1 : M0.set i (penD a1 b1 c1) = M1 at ew P1
  have cmpw : cmpI .Lt w 3 = decide (w < 3) := rfl
  -- the web after the steps
  have st : ∃ d ks, GoodW d m ks ∧ sIf (cTB (cBin (dCmp .Lt) (cVar 2) (cC (.int 3)))) (sAsg (cArgs F__law_steps (cCons (cVar 1) (cCons (cC (.int 2)) (cNil)))) (gNameD 1)) (sNext) [some (.obj i), some d0, some (.int w), none, none, none] M1 = .next [some (.obj i), some d, some (.int w), none, none, none] M1 := by
    obtain ⟨d', ks', g', e'⟩ := sp_steps (μ := M1) (k := 2) g0
    by_cases hw : w < 3
    · refine ⟨d', ks', g', ?_⟩
      simp only [ev_sif, ev_TB, ev_bin, ev_varS, ev_var0, ev_C, Out.bind_ok, ev_cmpI, cmpw, decide_eq_true hw, ev_asB, Out.bindS_ok, if_true, ev_asg, ev_args, ev_cons, ev_nil, e', ev_gn, List.set_cons_succ, List.set_cons_zero]
    · refine ⟨d0, ks0, g0, ?_⟩
      simp only [ev_sif, ev_TB, ev_bin, ev_varS, ev_var0, ev_C, Out.bind_ok, ev_cmpI, cmpw, decide_eq_false hw, ev_asB, Out.bindS_ok, Bool.false_eq_true, if_false, ev_next]
  obtain ⟨d, ks, g, es⟩ := st
  have hlow := fun n => good_low' (n := n) g
  have hg := g
  obtain ⟨rfl, h0, h1, hpw, hk⟩ := hg
  unfold F__law_web_by
  rw [ev_fn1]
  have sub1 : ∀ x y : Int, ∀ μ, dSub (.int x) (.int y) μ = .ok (.int (x - y)) μ := fun _ _ _ => rfl
  by_cases z0 : w = 0 ∧ ks ≠ []
  · obtain ⟨rfl, hne⟩ := z0
    have hlen := good_len g
    have hpos : 0 < ks.length := List.length_pos_iff.mpr hne
    have hem : ks.isEmpty = false := by simpa using hne
    obtain ⟨r, a2, b2, c2, r0, r1, er, P2⟩ := P1.draw (m := (ks.length : Int)) hi (by omega) (by omega)
    generalize hM2 : M1.set i (penD a2 b2 c2) = M2 at er P2
    obtain ⟨rn, rfl⟩ : ∃ rn : Nat, r = (rn : Int) := ⟨r.toNat, by omega⟩
    have gs : GoodW (.tup [.int m, .tup ((ks.take rn ++ ks.drop (rn + 1)).map pairD)]) m (ks.take rn ++ ks.drop (rn + 1)) := by
      refine good_sub g ?_
      have := List.Sublist.append (List.Sublist.refl (ks.take rn)) (List.drop_sublist 1 (ks.drop rn))
      rwa [List.take_append_drop, List.drop_drop] at this
    obtain ⟨a7, b7, c7, hgc⟩ := P2.gc (good_low' gs)
    refine ⟨_, m, _, a7, b7, c7, gs, ?_⟩
    simp only [B__law_web_by, ev_seq, ev_asg, ev_args, ev_cons, ev_nil, ev_var0, ev_varS, ev_C, Out.bind_ok, e0, hM0, Out.bindS_ok, ev_gn, so_next, List.replicate, List.set_cons_succ, List.set_cons_zero, ew, hM1]
    rw [es]
    simp only [so_next, ev_seq, ev_sif, ev_andT, ev_TB, ev_bin, ev_varS, ev_var0, ev_C, Out.bind_ok, ev_eqI, beq_self_eq_true, Bool.false_eq_true, if_false, if_true, ev_asB, ev_ixT1, ev_tup, ev_nil, List.length_nil, if_pos (Nat.zero_le sizeLine), ne_none hk, hem, Bool.not_false, Out.bindS_ok, ev_asg, ev_args, ev_cons, ev_lenT, List.length_map, er, hM2, ev_gn, List.set_cons_succ, List.set_cons_zero, ev_ret, ev_ixT0, ev_sl, ev_oNo, ev_oSome, ev_asI, ev_addI]
    have s1 : ∀ μ, dSl (.tup (ks.map pairD)) none (some (rn : Int)) μ = .ok (.tup ((ks.map pairD).take rn)) μ := fun μ => by
      unfold dSl; dsimp only; rw [cut_to (by rw [List.length_map]; omega)]
    have s2 : ∀ μ, dSl (.tup (ks.map pairD)) (some ((rn : Int) + 1)) none μ = .ok (.tup ((ks.map pairD).drop (rn + 1))) μ := fun μ => by
      unfold dSl; dsimp only; rw [show ((rn : Int) + 1) = ((rn + 1 : Nat) : Int) by push_cast; rfl, cut_from (by rw [List.length_map]; omega)]
    simp only [s1, s2, Out.bind_ok]
    have s3 : ∀ μ, dAdd (.tup ((ks.map pairD).take rn)) (.tup ((ks.map pairD).drop (rn + 1))) μ = .ok (.tup ((ks.take rn ++ ks.drop (rn + 1)).map pairD)) μ := fun μ => by
      unfold dAdd
      dsimp only
      rw [if_pos, List.map_append, List.map_take, List.map_drop]
      rw [List.length_take, List.length_drop, List.length_map]
      exact Nat.le_trans (show _ ≤ 1000 by omega) small1
    simp only [s3, Out.bind_ok, List.length_cons, List.length_nil, if_pos l2, Out.bindS_ok, so_ret, out_ret]
    exact hgc
  · -- past the first
    have t0 : cAndT (cTB (cBin (dEq false) (cVar 2) (cC (.int 0)))) (cTB (cBin (dEq true) (cBin dIx (cVar 1) (cC (.int 1))) (cTup (cNil)))) [some (.obj i), some (.tup [.int m, .tup (ks.map pairD)]), some (.int w), none, none, none] M1 = .ok false M1 := by
      by_cases hw : w = 0
      · subst hw
        have hem : ks.isEmpty = true := by
          cases ks with
          | nil => rfl
          | cons x y => exact absurd ⟨rfl, by simp⟩ z0
        simp only [ev_andT, ev_TB, ev_bin, ev_varS, ev_var0, ev_C, Out.bind_ok, ev_eqI, beq_self_eq_true, Bool.false_eq_true, if_false, if_true, ev_asB, ev_ixT1, ev_tup, ev_nil, List.length_nil, if_pos (Nat.zero_le sizeLine), ne_none hk, hem, Bool.not_true]
      · have hw' : (w == 0) = false := by simpa using hw
        simp only [ev_andT, ev_TB, ev_bin, ev_varS, ev_var0, ev_C, Out.bind_ok, ev_eqI, hw', Bool.false_eq_true, if_false, ev_asB]
    by_cases z1 : w = 1 ∧ 1 < m
    · obtain ⟨rfl, hm⟩ := z1
      obtain ⟨u, a2, b2, c2, u0, u1, eu, P2⟩ := P1.draw (m := m) hi (by omega) (by omega)
      generalize hM2 : M1.set i (penD a2 b2 c2) = M2 at eu P2
      obtain ⟨v, a3, b3, c3, v0, v1, ev, P3⟩ := P2.draw (m := m - 1) hi (by omega) (by omega)
      generalize hM3 : M2.set i (penD a3 b3 c3) = M3 at ev P3
      have hx0 : 0 ≤ (u + 1 + v) % m := Int.emod_nonneg _ (by omega)
      have hx1 : (u + 1 + v) % m < m := Int.emod_lt_of_pos _ (by omega)
      have hxne : (u + 1 + v) % m ≠ u := by
        by_cases hh : u + 1 + v < m
        · rw [Int.emod_eq_of_lt (by omega) hh]; omega
        · rw [show u + 1 + v = (u + 1 + v - m) + m by omega, Int.add_emod_right, Int.emod_eq_of_lt (by omega) (by omega)]; omega
      have md : ∀ x μ, dMod (.int x) (.int m) μ = .ok (.int (x % m)) μ := fun x μ => ev_dIC (show (fun _ j => (0:Int) < j) x m by show 0 < m; omega)
      generalize hx : (u + 1 + v) % m = x at hx0 hx1 hxne
      have hks : ∀ k ∈ ks ++ [[min u x, max u x]], OkP m k := fun k hk' => by
        rcases List.mem_append.mp hk' with z | z
        · exact hk k z
        · simp at z; subst z; exact ⟨_, _, rfl, by omega, by omega, by omega⟩
      have gs := sorted_good h0 h1 hks
      have kd : keysD ((ks ++ [[min u x, max u x]]).map pairD) = some (ks ++ [[min u x, max u x]]) := keysD_of fun k hk => (hks k hk).prs h1
      obtain ⟨a7, b7, c7, hgc⟩ := (((P3.app (g := [.lst [.int (min u x), .int (max u x)]])).app (g := [.set (dedupK (ks ++ [[min u x, max u x]]))])).app (g := [.lst ((sortK (ks ++ [[min u x, max u x]])).map pairD)])).gc (good_low' gs)
      refine ⟨_, m, _, a7, b7, c7, gs, ?_⟩
      have cm : cmpI .Gt m 1 = true := by simpa [cmpI] using hm
      have l1 : (1 : Nat) ≤ sizeLine := by decide
      have s3 : ∀ μ, dAdd (.tup (ks.map pairD)) (.tup [.tup [.int (min u x), .int (max u x)]]) μ = .ok (.tup ((ks ++ [[min u x, max u x]]).map pairD)) μ := fun μ => by
        unfold dAdd
        dsimp only
        rw [if_pos, List.map_append]
        · rfl
        · have := good_len g
          rw [List.length_map]
          simp only [List.length_cons, List.length_nil]
          exact Nat.le_trans (show _ ≤ 1000 by omega) small1
      have s4 : ∀ μ, dSet [.tup ((ks ++ [[min u x, max u x]]).map pairD)] μ = .ok (.obj μ.length) (μ ++ [.set (dedupK (ks ++ [[min u x, max u x]]))]) := fun μ => by
        unfold dSet; dsimp only; rw [kd]
      have s5 : ∀ M : Sto, dSorted [.obj M.length] (M ++ [.set (dedupK (ks ++ [[min u x, max u x]]))]) = .ok (.obj (M ++ [O.set (dedupK (ks ++ [[min u x, max u x]]))]).length) ((M ++ [.set (dedupK (ks ++ [[min u x, max u x]]))]) ++ [.lst ((sortK (ks ++ [[min u x, max u x]])).map pairD)]) := fun M => by
        unfold dSorted; dsimp only; rw [get_last]; dsimp only; rw [sortK_dedup]
      simp only [B__law_web_by, ev_seq, ev_asg, ev_args, ev_cons, ev_nil, ev_var0, ev_varS, ev_C, Out.bind_ok, e0, hM0, Out.bindS_ok, ev_gn, so_next, List.replicate, List.set_cons_succ, List.set_cons_zero, ew, hM1]
      rw [es]
      simp only [so_next]
      rw [ev_seq, ev_sif, t0]
      simp only [Out.bindS_ok, Bool.false_eq_true, if_false, ev_next, so_next, ev_seq, ev_sif, ev_andT, ev_TB, ev_bin, ev_varS, ev_var0, ev_C, Out.bind_ok, ev_eqI, beq_self_eq_true, if_true, ev_asB, ev_ixT0, ev_cmpI, cm, ev_asg, ev_args, ev_cons, ev_nil, eu, hM2, ev_gn, List.set_cons_succ, List.set_cons_zero, ev_tup, sub1, ev, hM3, ev_addI, md, hx, List.length_cons, List.length_nil, if_pos l2, if_pos l1, sort2]
      rw [ev_tupL get_last]
      simp only [Out.bind_ok, Out.bindS_ok, ev_gn, List.set_cons_succ, List.set_cons_zero, so_next, ev_ret, ev_tup, ev_cons, ev_nil, ev_bin, ev_args, ev_varS, ev_var0, ev_C, ev_ixT0, ev_ixT1, List.length_cons, List.length_nil, if_pos l2, if_pos l1, s3, s4, s5]
      rw [ev_tupL get_last]
      simp only [Out.bind_ok, Out.bindS_ok, List.length_cons, List.length_nil, if_pos l2, so_ret, out_ret]
      exact hgc
    · have t1 : cAndT (cTB (cBin (dEq false) (cVar 2) (cC (.int 1)))) (cTB (cBin (dCmp .Gt) (cBin dIx (cVar 1) (cC (.int 0))) (cC (.int 1)))) [some (.obj i), some (.tup [.int m, .tup (ks.map pairD)]), some (.int w), none, none, none] M1 = .ok false M1 := by
        by_cases hw : w = 1
        · subst hw
          have cm : cmpI .Gt m 1 = false := by
            have : ¬ 1 < m := fun h => z1 ⟨rfl, h⟩
            simpa [cmpI] using this
          simp only [ev_andT, ev_TB, ev_bin, ev_varS, ev_var0, ev_C, Out.bind_ok, ev_eqI, beq_self_eq_true, Bool.false_eq_true, if_false, if_true, ev_asB, ev_ixT0, ev_cmpI, cm]
        · have hw' : (w == 1) = false := by simpa using hw
          simp only [ev_andT, ev_TB, ev_bin, ev_varS, ev_var0, ev_C, Out.bind_ok, ev_eqI, hw', Bool.false_eq_true, if_false, ev_asB]
      obtain ⟨a7, b7, c7, hgc⟩ := P1.gc (good_low' g)
      refine ⟨_, m, _, a7, b7, c7, g, ?_⟩
      simp only [B__law_web_by, ev_seq, ev_asg, ev_args, ev_cons, ev_nil, ev_var0, ev_varS, ev_C, Out.bind_ok, e0, hM0, Out.bindS_ok, ev_gn, so_next, List.replicate, List.set_cons_succ, List.set_cons_zero, ew, hM1]
      rw [es]
      simp only [so_next]
      rw [ev_seq, ev_sif, t0]
      simp only [Out.bindS_ok, Bool.false_eq_true, if_false, ev_next, so_next]
      rw [ev_seq, ev_sif, t1]
      simp only [Out.bindS_ok, Bool.false_eq_true, if_false, ev_next, so_next, ev_ret, ev_varS, ev_var0, out_ret]
      exact hgc
end Lw

set_option Elab.async false
set_option linter.all false
set_option maxRecDepth 100000
set_option maxHeartbeats 4000000
namespace Lw
open PySem L2 RS Lv

/-- the ties that a test by calls keeps -/
theorem keep_comp {F : List D → Sto → Out D} {e : ME} {t : MT} {μ : Sto} {m : Int} {w : D} {ks : List (List Int)} {P : List Int → Bool} (hk : ∀ k ∈ ks, OkP m k) (hl : ks.length ≤ 15) (hP : ∀ k, OkP m k → ∀ μ, F [w, pairD k] μ = .ok (.bl (P k)) μ) (he : e = cVar 0) (ht : t = cTru (cArgs F (cCons (cVar 1) (cCons (cVar 0) (cNil))))) :
    compLoop (.fix (ks.map pairD)) μ.length (gNameD 0) t e (ks.map pairD) [none, some w] (μ ++ [.lst []]) = .ok (.obj μ.length) (μ ++ [.lst ((ks.filter P).map pairD)]) := by
  subst he ht
  have := comp_pure (src := .fix (ks.map pairD)) (g := gNameD 0) (t := cTru (cArgs F (cCons (cVar 1) (cCons (cVar 0) (cNil))))) (e := cVar 0) (μ1 := μ) (q := fun z => match z with | .tup [.int a, .int b] => P [a, b] | _ => false)
    (h := fun z => z) (fun ρ => ∃ o, ρ = [o, some w]) (fun _ => trivial) (xs := ks.map pairD) (acc := []) (ρ := [none, some w]) ⟨none, rfl⟩
    (by rw [List.length_map, List.length_nil]; exact Nat.le_trans (by omega) small1)
    (fun z hz a ρ ⟨o, ho⟩ => by
      obtain ⟨k, hk', rfl⟩ := List.mem_map.mp hz
      have hok := hk k hk'
      obtain ⟨u, v, rfl, _⟩ := id hok
      subst ho
      refine ⟨[some (pairD [u, v]), some w], ⟨_, rfl⟩, rfl, ?_, fun _ => by rw [ev_var0]⟩
      simp only [ev_tru, ev_args, ev_cons, ev_nil, ev_varS, ev_var0, Out.bind_ok, hP _ hok, ev_truB]
      rfl)
  rw [this, List.nil_append, List.map_id', List.filter_map]
  congr 4
  congr 1
  apply List.filter_congr
  intro k hk'
  obtain ⟨u, v, rfl, _⟩ := hk k hk'
  rfl
open Classical in
/-- is it spare -/
noncomputable def spB (m : Nat) (ks : List (List Int)) (x : List Int) : Bool :=
  if h : GoodW (.tup [.int m, .tup (ks.map pairD)]) m ks ∧ OkP m x then (sp_spare h.1 h.2).choose else false
theorem spB_is {m : Nat} {ks : List (List Int)} {x : List Int} (h : GoodW (.tup [.int m, .tup (ks.map pairD)]) m ks) (hx : OkP m x) : (∀ μ, F_is_spare [.tup [.int m, .tup (ks.map pairD)], pairD x] μ = .ok (.bl (spB m ks x)) μ) ∧ ∀ μ, F__law_spare [.tup [.int m, .tup (ks.map pairD)], pairD x] μ = .ok (.bl (spB m ks x)) μ := by
  unfold spB
  rw [dif_pos ⟨h, hx⟩]
  exact (sp_spare h hx).choose_spec
theorem lows_pairs {n : Nat} {m : Int} {ks : List (List Int)} (hk : ∀ k ∈ ks, OkP m k) : D.lows n (ks.map pairD) := lows_iff.mpr fun x hx => by
  obtain ⟨k, hk', rfl⟩ := List.mem_map.mp hx
  obtain ⟨u, v, rfl, _⟩ := hk k hk'
  simp [pairD]
theorem sp_sties {μ : Sto} {m : Nat} {ks : List (List Int)} (h : GoodW (.tup [.int m, .tup (ks.map pairD)]) m ks) : F_spare_ties [.tup [.int m, .tup (ks.map pairD)]] μ = .ok (.tup ((ks.filter (spB m ks)).map pairD)) μ := by
  have hlen := good_len h
  have hk := h.2.2.2.2
  unfold F_spare_ties
  rw [ev_fn1]
  simp only [B_spare_ties, ev_ret, ev_args, ev_cons, ev_nil, ev_comp, ev_iVal, ev_bin, ev_var0, ev_C, Out.bind_ok, ev_ixT1, ev_srcT, items_fix]
  rw [show capD [none, some 0] _ = [none, some (.tup [.int m, .tup (ks.map pairD)])] from rfl, keep_comp (F := F_is_spare) (t := T_spare_ties_2) (e := E_spare_ties_1) hk hlen (fun k hk' => (spB_is h hk').1) rfl rfl]
  simp only [Out.bind_ok]
  rw [ev_tupL get_last]
  simp only [Out.bindS_ok, out_ret]
  exact gc_app (by simp only [low_tup]; exact lows_pairs (m := m) fun k hk' => hk k (List.mem_filter.mp hk').1)
/-- the web, thinned tie by tie -/
noncomputable def thin (m : Nat) (ks : List (List Int)) : List (List Int) → List (List Int)
  | [] => ks
  | x :: xs => thin m (if spB m ks x then ks.filter fun k => !decide (k = x) else ks) xs
theorem sp_thinned {μ : Sto} {m : Nat} {ks : List (List Int)} (h : GoodW (.tup [.int m, .tup (ks.map pairD)]) m ks) : F_thinned [.tup [.int m, .tup (ks.map pairD)]] μ = .ok (.tup [.int m, .tup ((thin m ks ks).map pairD)]) μ := by
  have hk := h.2.2.2.2
  obtain ⟨ρ', μ', ⟨zs, ls, o2, e1, e2, e3, e4, e5, e6⟩, run⟩ := for_run (src := .fix (ks.map pairD)) (g := gNameD 2) (fb := L_thinned_1)
    (fun xs ρ μ1 => ∃ (zs ls : List (List Int)) (o2 : Option D), xs = zs.map pairD ∧ (∀ k ∈ zs, OkP m k) ∧ μ1 = μ ∧ GoodW (.tup [.int m, .tup (ls.map pairD)]) m ls ∧ thin m ls zs = thin m ks ks ∧ ρ = [some (.tup [.int m, .tup (ks.map pairD)]), some (.tup [.int m, .tup (ls.map pairD)]), o2])
    (fun _ _ _ => trivial)
    (fun x xs ρ μ1 ⟨zs, ls, o2, e1, e2, e3, e4, e5, e6⟩ => by
      subst e3 e6
      cases zs with
      | nil => cases e1
      | cons z zs =>
        injection e1 with h1 h2
        subst h1 h2
        have hz := e2 z List.mem_cons_self
        have sp := (spB_is e4 hz).1
        refine ⟨trivial, _, μ1, [some (.tup [.int m, .tup (ks.map pairD)]), some (.tup [.int m, .tup ((if spB m ls z then ls.filter fun k => !decide (k = z) else ls).map pairD)]), some (pairD z)], μ1, rfl, ?_, zs, if spB m ls z then ls.filter fun k => !decide (k = z) else ls, some (pairD z), rfl, fun k hk' => e2 k (List.mem_cons_of_mem _ hk'), rfl, ?_, by rw [← e5]; rfl, rfl⟩
        · show L_thinned_1 [some (.tup [.int m, .tup (ks.map pairD)]), some (.tup [.int m, .tup (ls.map pairD)]), some (pairD z)] μ1 = _
          unfold L_thinned_1
          simp only [ev_sif, ev_tru, ev_args, ev_cons, ev_nil, ev_varS, ev_var0, Out.bind_ok, sp, ev_truB, Out.bindS_ok]
          cases spB m ls z with
          | false => simp only [Bool.false_eq_true, if_false, ev_next]
          | true => simp only [if_true, ev_asg, ev_args, ev_cons, ev_nil, ev_varS, ev_var0, Out.bind_ok, sp_without e4 hz, Out.bindS_ok, ev_gn, List.set_cons_succ, List.set_cons_zero]
        · split
          · exact good_less e4
          · exact e4)
    (xs := ks.map pairD) (ρ := [some (.tup [.int m, .tup (ks.map pairD)]), some (.tup [.int m, .tup (ks.map pairD)]), none]) (μ := μ)
    ⟨ks, ks, none, rfl, hk, rfl, h, rfl, rfl⟩
  have hz : zs = [] := by cases zs with
    | nil => rfl
    | cons => cases e1
  subst hz e3 e6
  have e5' : ls = thin m ks ks := e5
  subst e5'
  unfold F_thinned
  rw [ev_fn1]
  simp only [B_thinned, List.replicate, ev_seq, ev_asg, ev_var0, Out.bindS_ok, ev_gn, List.set_cons_succ, List.set_cons_zero, so_next, ev_for, ev_iVal, ev_bin, ev_C, Out.bind_ok, ev_ixT1, ev_srcT, items_fix]
  rw [run]
  simp only [so_next, ev_ret, ev_varS, ev_var0, Out.bindS_ok, out_ret]
  exact gc_same (good_low e4)
end Lw

set_option Elab.async false
set_option linter.all false
set_option maxRecDepth 100000
set_option maxHeartbeats 4000000
namespace Lw
open PySem L2 RS Lv

/-! ### what can be shown -/
theorem small_int {a : Int} (h0 : 0 ≤ a) (h1 : a < 7) : PyData.showable (.int a) = true ∧ PyData.leavesShort 8 (.int a) = true ∧ PyData.weight (.int a) ≤ 3 := by
  have : a = 0 ∨ a = 1 ∨ a = 2 ∨ a = 3 ∨ a = 4 ∨ a = 5 ∨ a = 6 := by omega
  rcases this with rfl | rfl | rfl | rfl | rfl | rfl | rfl <;> decide +kernel
theorem pairs_show {m : Int} (hm : m ≤ 6) : ∀ {ks : List (List Int)}, (∀ k ∈ ks, OkP m k) → PyData.showableAll (ks.map pairP) = true ∧ PyData.leavesShortAll 8 (ks.map pairP) = true ∧ PyData.weightAll (ks.map pairP) ≤ 9 * ks.length
  | [], _ => by simp [PyData.showableAll, PyData.leavesShortAll, PyData.weightAll]
  | k :: ks, h => by
    obtain ⟨a, b, rfl, a0, ab, bm⟩ := h k List.mem_cons_self
    have ih := pairs_show hm fun x hx => h x (List.mem_cons_of_mem _ hx)
    have ha := small_int (a := a) a0 (by omega)
    have hb := small_int (a := b) (by omega) (by omega)
    simp only [List.map_cons, List.map_nil, pairP, PyData.showableAll, PyData.leavesShortAll, PyData.weightAll, PyData.showable, PyData.leavesShort, PyData.weight] at ih ha hb ⊢
    refine ⟨by simp only [ha.1, hb.1, ih.1, Bool.and_self], by simp only [ha.2.1, hb.2.1, ih.2.1, Bool.and_self], ?_⟩
    simp only [List.length_cons]
    omega
theorem okShow_of {d : PyData} (h1 : d.showable = true) (h2 : d.canLay0 = true) (h3 : d.depth ≤ 60) (h4 : d.leavesShort 8 = true) (h5 : d.weight ≤ 1000) : okShow d = true := by
  have hs := PyData.shown_le 8 (Nat.le_refl _) d h4
  have hz : (10008 : Nat) ≤ sizeLine := by decide
  unfold okShow
  rw [h1, PyData.hasDict_of_canLay d h2, decide_eq_true h3, decide_eq_true (show d.shown.length ≤ sizeLine by omega)]
  rfl
theorem repr_pairs {μ : Sto} {m : Int} (hm : m ≤ 6) {ks : List (List Int)} (hk : ∀ k ∈ ks, OkP m k) (hl : ks.length ≤ 15) : dRepr [.tup (ks.map pairD)] μ = .ok (.str (PyData.tuple (ks.map pairP)).shown) μ := by
  have e : toL μ (.tup (ks.map pairD)) = some (.tuple (ks.map pairP)) := by
    simp only [toL, pairs_toL hk, Option.map_some]
  have s := pairs_show hm hk
  have l := pairs_lay hk
  unfold dRepr
  dsimp only
  rw [e]
  dsimp only
  rw [if_pos ⟨rfl, okShow_of (by simp only [PyData.showable]; exact s.1) (by simp only [PyData.canLay0]; exact l.1) (by simp only [PyData.depth]; have := l.2; omega) (by simp only [PyData.leavesShort]; exact s.2.1) (by simp only [PyData.weight]; have := s.2.2; omega)⟩]
theorem repr_web {μ : Sto} {d : D} {m : Int} {ks : List (List Int)} (h : GoodW d m ks) : dRepr [d] μ = .ok (.str (webP m ks).shown) μ := by
  have e := web_toL (μ := μ) h
  have hl := good_len h
  have hr : isRefD d = true := by rw [h.1]; rfl
  obtain ⟨_, h0, h1, _, hk⟩ := h
  have s := pairs_show h1 hk
  have l := pairs_lay hk
  have si := small_int (a := m) (by omega) (by omega)
  unfold dRepr
  dsimp only
  rw [e]
  dsimp only
  rw [if_pos ⟨hr, okShow_of (by simp only [webP, PyData.showable, PyData.showableAll] at si ⊢; simp only [si.1, s.1, Bool.and_self]) (by simp only [webP, PyData.canLay0, PyData.canLayAll0, l.1, Bool.and_self]) (by simp only [webP, PyData.depth, PyData.depthAll]; have := l.2; omega) (by simp only [webP, PyData.leavesShort, PyData.leavesShortAll] at si ⊢; simp only [si.2.1, s.2.1, Bool.and_self]) (by simp only [webP, PyData.weight, PyData.weightAll] at si ⊢; have := s.2.2; omega)⟩]
theorem eqS {μ : Sto} {neg : Bool} {x : Str} : dEqS neg (.str x) (.str x) μ = .ok (.bl (!neg)) μ := by
  unfold dEqS
  dsimp only
  rw [decide_eq_true rfl]
  cases neg <;> rfl
theorem sp_right {μ : Sto} {m : Nat} {ks : List (List Int)} (h : GoodW (.tup [.int m, .tup (ks.map pairD)]) m ks) : F__law_right [.tup [.int m, .tup (ks.map pairD)]] μ = .ok (.bl true) μ := by
  have hlen := good_len h
  have hk := h.2.2.2.2
  have hm6 := h.2.2.1
  have hfk : ∀ k ∈ ks.filter (spB m ks), OkP m k := fun k hk' => hk k (List.mem_filter.mp hk').1
  have hfl : (ks.filter (spB m ks)).length ≤ 15 := Nat.le_trans (List.length_filter_le _ _) hlen
  have l0 : ∀ M : Sto, M ++ [] = M := fun M => List.append_nil M
  obtain ⟨ρ', μ', ⟨zs, ls, g, o2, e1, e2, e3, e4, e5, e6⟩, run⟩ := for_run (src := .fix (ks.map pairD)) (g := gNameD 2) (fb := L__law_right_5)
    (fun xs ρ μ1 => ∃ (zs ls : List (List Int)) (g : Sto) (o2 : Option D), xs = zs.map pairD ∧ (∀ k ∈ zs, OkP m k) ∧ μ1 = μ ++ g ∧ GoodW (.tup [.int m, .tup (ls.map pairD)]) m ls ∧ thin m ls zs = thin m ks ks ∧ ρ = [some (.tup [.int m, .tup (ks.map pairD)]), some (.tup [.int m, .tup (ls.map pairD)]), o2])
    (fun _ _ _ => trivial)
    (fun x xs ρ μ1 ⟨zs, ls, g, o2, e1, e2, e3, e4, e5, e6⟩ => by
      subst e3 e6
      cases zs with
      | nil => cases e1
      | cons z zs =>
        injection e1 with h1 h2
        subst h1 h2
        have hz := e2 z List.mem_cons_self
        have sp := (spB_is e4 hz).2
        have hll := good_len e4
        have hlk := e4.2.2.2.2
        have body : ∃ g', L__law_right_5 [some (.tup [.int m, .tup (ks.map pairD)]), some (.tup [.int m, .tup (ls.map pairD)]), some (pairD z)] (μ ++ g) = .next [some (.tup [.int m, .tup (ks.map pairD)]), some (.tup [.int m, .tup ((if spB m ls z then ls.filter fun k => !decide (k = z) else ls).map pairD)]), some (pairD z)] ((μ ++ g) ++ g') := by
          unfold L__law_right_5
          simp only [ev_sif, ev_tru, ev_args, ev_cons, ev_nil, ev_varS, ev_var0, Out.bind_ok, sp, ev_truB, Out.bindS_ok]
          cases spB m ls z with
          | false => exact ⟨[], by simp only [Bool.false_eq_true, if_false, ev_next, List.append_nil]⟩
          | true =>
            refine ⟨[.lst ((ls.filter fun k => !decide (k = z)).map pairD)], ?_⟩
            simp only [if_true, ev_asg, ev_tup, ev_args, ev_cons, ev_nil, ev_bin, ev_varS, ev_var0, ev_C, Out.bind_ok, ev_ixT0, ev_ixT1, ev_comp, ev_iVal, ev_srcT, items_fix]
            rw [show capD [none, some 2] _ = [none, some (pairD z)] from rfl, less_comp (t := T__law_right_4) (e := E__law_right_3) hlk hz hll rfl rfl]
            simp only [Out.bind_ok]
            rw [ev_tupL get_last]
            simp only [Out.bind_ok, List.length_cons, List.length_nil, if_pos l2, Out.bindS_ok, ev_gn, List.set_cons_succ, List.set_cons_zero]
        obtain ⟨g', eb⟩ := body
        refine ⟨trivial, _, μ ++ g, _, (μ ++ g) ++ g', rfl, eb, zs, if spB m ls z then ls.filter fun k => !decide (k = z) else ls, g ++ g', some (pairD z), rfl, fun k hk' => e2 k (List.mem_cons_of_mem _ hk'), by rw [List.append_assoc], ?_, by rw [← e5]; rfl, rfl⟩
        split
        · exact good_less e4
        · exact e4)
    (xs := ks.map pairD) (ρ := [some (.tup [.int m, .tup (ks.map pairD)]), some (.tup [.int m, .tup (ks.map pairD)]), none]) (μ := μ ++ [.lst ((ks.filter (spB m ks)).map pairD)])
    ⟨ks, ks, _, none, rfl, hk, rfl, h, rfl, rfl⟩
  have hz : zs = [] := by cases zs with
    | nil => rfl
    | cons => cases e1
  subst hz e3 e6
  have e5' : ls = thin m ks ks := e5
  subst e5'
  unfold F__law_right
  rw [ev_fn1]
  unfold B__law_right
  simp only [List.replicate]
  rw [ev_seq, ev_sif, ev_TB, ev_bin, ev_args]
  simp only [ev_cons, ev_nil, ev_args, ev_var0, Out.bind_ok, sp_sties h, repr_pairs hm6 hfk hfl, ev_comp, ev_iVal, ev_bin, ev_C, ev_ixT1, ev_srcT, items_fix]
  rw [show capD [none, some 0] _ = [none, some (.tup [.int m, .tup (ks.map pairD)])] from rfl, keep_comp (F := F__law_spare) (t := T__law_right_2) (e := E__law_right_1) hk hlen (fun k hk' => (spB_is h hk').2) rfl rfl]
  simp only [Out.bind_ok]
  rw [ev_tupL get_last]
  simp only [Out.bind_ok, repr_pairs hm6 hfk hfl, eqS, Bool.not_true, ev_asB, Out.bindS_ok, Bool.false_eq_true, if_false, ev_next, so_next, ev_seq, ev_asg, ev_var0, ev_gn, List.set_cons_succ, List.set_cons_zero, ev_for, ev_iVal, ev_bin, ev_C, ev_ixT1, ev_srcT, items_fix]
  rw [run]
  simp only [so_next, ev_ret, ev_bin, ev_args, ev_cons, ev_nil, ev_varS, ev_var0, Out.bind_ok, sp_thinned h, repr_web e4, eqS, Out.bindS_ok, out_ret]
  exact gc_app (by simp)
end Lw

set_option Elab.async false
set_option linter.all false
set_option maxRecDepth 100000
set_option maxHeartbeats 4000000
namespace Lw
open PySem L2 RS Lv

theorem sp_cell {μ : Sto} {ns : List Int} : ∃ x : Int, F__law_cell_at [.frz (ns.map D.int), .int 0] μ = .ok (.int x) μ := by
  unfold F__law_cell_at
  rw [ev_fn2]
  cases ns with
  | nil =>
    refine ⟨0, ?_⟩
    simp only [B__law_cell_at, List.map_nil, List.replicate, ev_seq, ev_sif, ev_TB, ev_bin, ev_varS, ev_var0, ev_args, ev_cons, ev_nil, ev_lenF, List.length_nil, Out.bind_ok, ev_cmpI]
    rw [show cmpI .Lt 0 ((0 : Nat) : Int) = false from rfl]
    simp only [ev_asB, Out.bindS_ok, Bool.false_eq_true, if_false, ev_next, so_next, ev_ret, ev_C, out_ret]
    exact gc_same (by simp)
  | cons x r =>
    refine ⟨x, ?_⟩
    simp only [B__law_cell_at, List.map_cons, List.replicate, ev_seq, ev_sif, ev_TB, ev_bin, ev_varS, ev_var0, ev_args, ev_cons, ev_nil, ev_lenF, List.length_cons, Out.bind_ok, ev_cmpI]
    rw [show cmpI .Lt 0 (((r.map D.int).length + 1 : Nat) : Int) = true from decide_eq_true (by omega)]
    simp only [ev_asB, Out.bindS_ok, if_true, ev_ret, ev_bin, ev_varS, ev_var0, Out.bind_ok]
    rw [ev_ixF atI_0]
    simp only [Out.bindS_ok, so_ret, out_ret]
    exact gc_same (by simp)
theorem good_of {d : D} {m : Int} {ks : List (List Int)} (h : GoodW d m ks) : ∃ n : Nat, m = (n : Int) ∧ d = .tup [.int n, .tup (ks.map pairD)] ∧ GoodW (.tup [.int n, .tup (ks.map pairD)]) n ks := by
  obtain ⟨n, rfl⟩ : ∃ n : Nat, m = (n : Int) := ⟨m.toNat, by have := h.2.1; omega⟩
  have hd := h.1
  subst hd
  exact ⟨n, rfl, rfl, h⟩
theorem rightW {d : D} {m : Int} {ks : List (List Int)} {μ : Sto} (h : GoodW d m ks) : F__law_right [d] μ = .ok (.bl true) μ := by
  obtain ⟨n, rfl, rfl, h'⟩ := good_of h
  exact sp_right h'
/-- one cell -/
theorem lw_cell {M : Sto} {x : Int} {o0 o1 o2 o4 : Option D} : ∃ M' a b c o4', L_law_3 [o0, o1, o2, some (.int x), o4] M = .next [o0, o1, o2, some (.int x), o4'] M' ∧ M' = M ++ [penD a b c] := by
  obtain ⟨a, b, c, ep⟩ := sp_pen (μ := M) x
  have hp : (M ++ [penD a b c])[M.length]? = some (penD a b c) := get_last
  obtain ⟨d, m, ks, a', b', c', g, ew⟩ := sp_webby hp
  have hs : (M ++ [penD a b c]).set M.length (penD a' b' c') = M ++ [penD a' b' c'] := set_last
  rw [hs] at ew
  have hp' : (M ++ [penD a' b' c'])[M.length]? = some (penD a' b' c') := get_last
  obtain ⟨d2, m2, ks2, a2, b2, c2, g2, ew2⟩ := sp_sparse hp'
  have hs2 : (M ++ [penD a' b' c']).set M.length (penD a2 b2 c2) = M ++ [penD a2 b2 c2] := set_last
  rw [hs2] at ew2
  obtain ⟨d3, ks3, g3, es⟩ := sp_steps (μ := M ++ [penD a2 b2 c2]) (k := 2) g2
  refine ⟨_, a2, b2, c2, some (.obj M.length), ?_, rfl⟩
  unfold L_law_3
  simp only [ev_seq, ev_asg, ev_args, ev_cons, ev_nil, ev_varS, ev_var0, Out.bind_ok, ep, Out.bindS_ok, ev_gn, List.set_cons_succ, List.set_cons_zero, so_next, ev_sif, ev_orT, ev_notT, ev_tru, ew]
  rw [rightW g]
  simp only [Out.bind_ok, ev_truB, Bool.not_true, Bool.false_eq_true, if_false, ew2, es, ev_C]
  rw [rightW g3]
  simp only [Out.bind_ok, ev_truB, Bool.not_true, Bool.false_eq_true, if_false, Out.bindS_ok, ev_next]
end Lw

set_option Elab.async false
set_option linter.all false
set_option maxRecDepth 100000
set_option maxHeartbeats 4000000
namespace Lw
open PySem L2 RS Lv

def T0 : Int → Int → Option Nat := fun _ _ => some 0
theorem row0 {p lo : Int} {c : Nat} : (rowK T0 0 p lo c).map pairD = ((List.range c).map fun k : Nat => (p, lo + (k : Int))).map prD := by
  unfold rowK
  rw [List.filter_eq_self.mpr (fun _ _ => by show okd 0 (some 0) = true; decide), List.map_map, List.map_map, List.map_map]
  rfl
theorem lw_one (ns : List Int) : ∃ (t : Nat) (o2 : Option D) (M1 : Sto), M1[t]? = some (.lst ((stK 6 T0 0).map pairD)) ∧ forD (.fix (rngD 0 (6 : Int).toNat)) (gNameD 2) L_law_2 (rngD 0 (6 : Int).toNat) [some (.frz (ns.map D.int)), some (.obj 0), none, none, none] [.lst []] = .next [some (.frz (ns.map D.int)), some (.obj t), o2, none, none] M1 := by
  obtain ⟨ρ1, M1, ⟨n, c, t, o2, e1, e3, e4, e5⟩, run1⟩ := for_run (src := .fix (rngD 0 (6 : Int).toNat)) (g := gNameD 2) (fb := L_law_2)
    (fun xs ρ μ => ∃ (n c t : Nat) (o2 : Option D), xs = rngD n c ∧ n + c = 6 ∧ ρ = [some (.frz (ns.map D.int)), some (.obj t), o2, none, none] ∧ μ[t]? = some (.lst (((List.range n).flatMap fun p : Nat => rowK T0 0 p ((p : Int) + 1) (6 - (p + 1))).map pairD)))
    (fun _ _ _ => trivial)
    (fun x r ρ μ1 ⟨n, c, t, o2, e1, e3, e4, e5⟩ => by
      subst e4
      cases c with
      | zero => rw [rngD_zero] at e1; cases e1
      | succ c =>
        rw [rngD_succ] at e1
        injection e1 with ex er
        subst ex er
        have hlen := flat_len (T := T0) (k := 0) (m := 6) (by decide) n
        have hrl := rowK_len (T := T0) (k := 0) (p := n) (lo := (n : Int) + 1) (c := 6 - (n + 1))
        refine ⟨trivial, _, μ1, [some (.frz (ns.map D.int)), some (.obj (μ1.length + 1)), some (.int n), none, none], (μ1 ++ [O.lst ((rowK T0 0 n ((n : Int) + 1) (6 - (n + 1))).map pairD)]) ++ [O.lst (((List.range (n + 1)).flatMap fun p : Nat => rowK T0 0 p ((p : Int) + 1) (6 - (p + 1))).map pairD)], rfl, ?_, n + 1, c, μ1.length + 1, some (.int n), by push_cast; rfl, by omega, rfl, ?_⟩
        · show L_law_2 [some (.frz (ns.map D.int)), some (.obj t), some (.int n), none, none] μ1 = _
          unfold L_law_2
          simp only [ev_asg, ev_bin, ev_varS, ev_var0, Out.bind_ok, ev_comp, ev_iRng, ev_cons, ev_nil, ev_C, ev_addI]
          rw [ev_rng2 (by omega) (by omega) (by omega) (by omega)]
          simp only [Out.bind_ok, items_fix]
          rw [show capD [none, some 2] [some (D.frz (ns.map D.int)), some (.obj t), some (.int n), none, none] = [none, some (.int n)] from rfl,
            comp_rng (f := fun v => ((n : Int), v)) (by omega) (fun v a => by
              unfold E_law_1
              simp only [ev_tup, ev_cons, ev_nil, ev_varS, ev_var0, Out.bind_ok, List.length_cons, List.length_nil, if_pos l2]
              rfl)]
          rw [show ((6 : Int) - ((n : Int) + 1)).toNat = 6 - (n + 1) by omega, ← row0]
          simp only [Out.bind_ok]
          unfold dAdd
          dsimp only
          rw [get_app e5, get_last]
          dsimp only
          rw [if_pos (by
            rw [List.length_map, List.length_map]
            exact Nat.le_trans (show _ ≤ 1000 by omega) small1)]
          simp only [Out.bindS_ok, ev_gn]
          simp only [List.length_append, List.length_cons, List.length_nil, List.set_cons_succ, List.set_cons_zero, List.range_succ, List.flatMap_append, List.map_append, List.flatMap_cons, List.flatMap_nil, List.append_nil]
        · have : μ1.length + 1 = (μ1 ++ [O.lst ((rowK T0 0 n ((n : Int) + 1) (6 - (n + 1))).map pairD)]).length := by simp
          rw [this]; exact get_last)
    (xs := rngD 0 (6 : Int).toNat) (ρ := [some (.frz (ns.map D.int)), some (.obj 0), none, none, none]) (μ := [.lst []])
    ⟨0, 6, 0, none, rfl, rfl, rfl, rfl⟩
  subst e4
  have hz := rngD_nil e1.symm
  subst hz
  have hn6 : n = 6 := by omega
  subst hn6
  exact ⟨t, o2, M1, e5, run1⟩
end Lw

set_option Elab.async false
set_option linter.all false
set_option maxRecDepth 100000
set_option maxHeartbeats 4000000
namespace Lw
open PySem L2 RS Lv
theorem lw_three (T : Nat) (y0 : Int) (ys : List Int) (M5 : Sto) (h5 : M5[T]? = some (.lst (D.int y0 :: ys.map D.int))) (q0 q1 q2 q3 q4 : Option D) :
    ∃ ρ3 M6, forD (.own T (D.int y0 :: ys.map D.int)) (gNameD 3) L_law_3 (D.int y0 :: ys.map D.int) [q0, q1, q2, q3, q4] M5 = .next ρ3 M6 := by
  obtain ⟨L, hL⟩ : ∃ L, L = D.int y0 :: ys.map D.int := ⟨_, rfl⟩
  rw [← hL] at h5 ⊢
  obtain ⟨ρ3, M6, _, run3⟩ := for_run (src := .own T L) (g := gNameD 3) (fb := L_law_3)
    (fun zs ρ μ => μ[T]? = some (.lst L) ∧ (∃ rs : List Int, zs = rs.map D.int) ∧ ∃ o0 o1 o2 o3 o4, ρ = [o0, o1, o2, o3, o4])
    (fun ρ μ ⟨e, _⟩ => e)
    (fun x r ρ μ ⟨e, ⟨rs, er⟩, o0, o1, o2, o3, o4, eρ⟩ => by
      subst eρ
      cases rs with
      | nil => cases er
      | cons y rs =>
        injection er with ex er
        subst ex er
        obtain ⟨M', a, b, c, o4', e1, e3⟩ := lw_cell (M := μ) (x := y) (o0 := o0) (o1 := o1) (o2 := o2) (o4 := o4)
        refine ⟨e, _, μ, _, M', rfl, e1, ?_, ⟨rs, rfl⟩, _, _, _, _, _, rfl⟩
        rw [e3]; exact get_app e)
    (xs := L) (ρ := [q0, q1, q2, q3, q4]) (μ := M5)
    ⟨h5, ⟨y0 :: ys, hL⟩, _, _, _, _, _, rfl⟩
  exact ⟨ρ3, M6, run3⟩
end Lw

set_option Elab.async false
set_option linter.all false
set_option maxRecDepth 100000
set_option maxHeartbeats 4000000
namespace Lw
open PySem L2 RS Lv
theorem sp_law (ns : List Int) : ∃ μ', F_law [.frz (ns.map D.int)] [] = .ok (.bl true) μ' := by
  obtain ⟨t, o2, M1, e5, run1⟩ := lw_one ns
  have hg1 : GoodW (.tup [.int ((1 : Nat) : Int), .tup (([] : List (List Int)).map pairD)]) ((1 : Nat) : Int) [] := ⟨rfl, by decide, by decide, List.Pairwise.nil, by simp⟩
  obtain ⟨L6, hL6⟩ : ∃ L, L = stK 6 T0 0 := ⟨_, rfl⟩
  have hg6 : GoodW (.tup [.int ((6 : Nat) : Int), .tup (L6.map pairD)]) ((6 : Nat) : Int) L6 := by
    rw [hL6]; exact stK_good (by decide) (by decide)
  have e6 : M1[t]? = some (.lst (L6.map pairD)) := by
    rw [hL6]; exact e5
  clear e5
  obtain ⟨x0, ex0⟩ := sp_cell (μ := M1) (ns := ns)
  obtain ⟨xs, hxs, hxl⟩ : ∃ xs : List Int, cutL (ns.map D.int) (some 1) (some 6) = xs.map D.int ∧ xs.length ≤ 6 := by
    refine ⟨(ns.drop (HT.sIx ns.length 0 (some 1))).take (HT.sIx ns.length ns.length (some 6) - HT.sIx ns.length 0 (some 1)), ?_, ?_⟩
    · unfold cutL
      rw [List.length_map, List.map_take, List.map_drop]
    · rw [List.length_take]
      have h6 : HT.sIx ns.length ns.length (some 6) = min 6 ns.length := HT.sIx_nat _ _ 6
      omega
  let L : List D := [.int x0] ++ xs.map D.int
  let M5 : Sto := ((M1 ++ [O.lst [.int x0]]) ++ [O.lst (xs.map D.int)]) ++ [O.lst L]
  let T : Nat := ((M1 ++ [O.lst [.int x0]]) ++ [O.lst (xs.map D.int)]).length
  obtain ⟨ρ3, M6, run3⟩ := lw_three T x0 xs M5 get_last (some (.frz (ns.map D.int))) (some (.obj t)) o2 none none
  have hend : ∃ μ', gcD [] (.ok (.bl true) M6) = .ok (.bl true) μ' := by
    rcases gc_any (μ := []) (d := .bl true) (μ' := M6) with e | ⟨e, _⟩ <;> exact ⟨_, e⟩
  obtain ⟨μ', hend⟩ := hend
  refine ⟨μ', ?_⟩
  unfold F_law
  rw [ev_fn1]
  unfold B_law
  simp only [List.replicate]
  have s0 : sAsg (cLst cNil) (gNameD 1) [some (.frz (ns.map D.int)), none, none, none, none] [] = .next [some (.frz (ns.map D.int)), some (.obj 0), none, none, none] [.lst []] := by
    simp only [ev_asg, ev_lst, ev_nil, Out.bind_ok, List.length_nil, if_pos (Nat.zero_le sizeLine), Out.bindS_ok, ev_gn, List.set_cons_succ, List.set_cons_zero]
    rfl
  have s1 : sFor (iRng rng1 (cCons (cC (.int 6)) (cNil))) (gNameD 2) L_law_2 [some (.frz (ns.map D.int)), some (.obj 0), none, none, none] [.lst []] = .next [some (.frz (ns.map D.int)), some (.obj t), o2, none, none] M1 := by
    simp only [ev_for, ev_iRng, ev_cons, ev_nil, ev_C, Out.bind_ok]
    rw [ev_rng1 (by decide) (by decide)]
    simp only [Out.bindS_ok, items_fix]
    exact run1
  have r1 : ∀ μ, F__law_right [.tup [.int 1, .tup []]] μ = .ok (.bl true) μ := fun μ => by
    have h := sp_right (μ := μ) (m := 1) (ks := []) hg1
    rw [show ((1 : Nat) : Int) = 1 from rfl, List.map_nil] at h
    exact h
  have r6 : ∀ μ, F__law_right [.tup [.int 6, .tup (L6.map pairD)]] μ = .ok (.bl true) μ := fun μ => by
    have h := sp_right (μ := μ) (m := 6) (ks := L6) hg6
    rw [show ((6 : Nat) : Int) = 6 from rfl] at h
    exact h
  clear hL6 hg6 hg1
  rw [seq_next51 s0, seq_next51 s1]
  rw [ev_seq, ev_sif, ev_orT, ev_notT, ev_tru, ev_args]
  simp only [ev_cons, ev_nil, ev_tup, ev_C, Out.bind_ok, List.length_nil, if_pos (Nat.zero_le sizeLine), List.length_cons, if_pos l2, r1, ev_truB, Bool.not_true, Bool.false_eq_true, if_false, ev_notT, ev_tru, ev_args, ev_varS, ev_var0]
  rw [ev_tupL e6]
  simp only [Out.bind_ok, List.length_cons, List.length_nil, if_pos l2]
  rw [r6]
  simp only [Out.bind_ok, ev_truB, Bool.not_true, Out.bindS_ok, Bool.false_eq_true, if_false, ev_next, so_next]
  rw [ev_seq, ev_for, ev_iVal, ev_bin, ev_lst, ev_cons, ev_args, ev_cons, ev_var0, Out.bind_ok, ev_cons, ev_C, Out.bind_ok, ev_nil, Out.bind_ok, Out.bind_ok, Out.bind_ok, ex0, Out.bind_ok, ev_nil, Out.bind_ok, Out.bind_ok]
  simp only [List.length_cons, List.length_nil, if_pos l1, Out.bind_ok, ev_sl, ev_var0, ev_oSome, ev_C, ev_asI]
  have sl : ∀ μ, dSl (.frz (ns.map D.int)) (some 1) (some 6) μ = .ok (.obj μ.length) (μ ++ [.lst (xs.map D.int)]) := fun μ => by
    unfold dSl; dsimp only; rw [hxs]
  rw [sl, Out.bind_ok]
  have ad : dAdd (.obj M1.length) (.obj (M1 ++ [O.lst [.int x0]]).length) ((M1 ++ [O.lst [.int x0]]) ++ [O.lst (xs.map D.int)]) = .ok (.obj T) M5 := by
    unfold dAdd
    dsimp only
    rw [get_last, get_app get_last]
    dsimp only
    rw [if_pos]
    rw [List.length_map]
    exact Nat.le_trans (show _ ≤ 1000 by simp only [List.length_cons, List.length_nil]; omega) small1
  rw [ad, Out.bind_ok, ev_srcL (show M5[T]? = some (.lst L) from get_last), Out.bindS_ok, items_own, show forD (Src.own T L) (gNameD 3) L_law_3 L [some (D.frz (ns.map D.int)), some (D.obj t), o2, none, none] M5 = .next ρ3 M6 from run3, so_next, ev_ret, ev_C, Out.bindS_ok, out_ret]
  exact hend
end Lw

set_option Elab.async false
set_option linter.all false
set_option maxRecDepth 100000
set_option maxHeartbeats 4000000
namespace Lw
open PySem PySem.Spec PyProof.Rows L2 RS
theorem all_mk {l : PySem.W.OpenLaw} {w : World} {K : PySem.W.Frag} {h : Heap} {mg : Str → Option Value} {fa f0 f1 f2 f3 f4 f5 f6 f7 f8 f9 f10 f11 f12 f13 f14 f15 f16 f17 f18 f19 f20 f21 f22 : Addr} (X : K.In h) (G : h.Ns mainGlobals mg) (hfa : mg "law" = some (.ref fa))
    {od0 an0 od1 an1 od2 an2 od3 an3 od4 an4 od5 an5 od6 an6 od7 an7 od8 an8 od9 an9 od10 an10 od11 an11 od12 an12 od13 an13 od14 an14 od15 an15 od16 an16 od17 an17 od18 an18 od19 an19 od20 an20 od21 an21 od22 an22 : Option Addr} {sl0 sl1 sl2 sl3 sl4 sl5 sl6 sl7 sl8 sl9 sl10 sl11 sl12 sl13 sl14 sl15 sl16 sl17 sl18 sl19 sl20 sl21 sl22 : Array (Option Value)} {oc0 kV0 dc0 pm0 cd0 ct0 oc1 kV1 dc1 pm1 cd1 ct1 oc2 kV2 dc2 pm2 cd2 ct2 oc3 kV3 dc3 pm3 cd3 ct3 oc4 kV4 dc4 pm4 cd4 ct4 oc5 kV5 dc5 pm5 cd5 ct5 oc6 kV6 dc6 pm6 cd6 ct6 oc7 kV7 dc7 pm7 cd7 ct7 oc8 kV8 dc8 pm8 cd8 ct8 oc9 kV9 dc9 pm9 cd9 ct9 oc10 kV10 dc10 pm10 cd10 ct10 oc11 kV11 dc11 pm11 cd11 ct11 oc12 kV12 dc12 pm12 cd12 ct12 oc13 kV13 dc13 pm13 cd13 ct13 oc14 kV14 dc14 pm14 cd14 ct14 oc15 kV15 dc15 pm15 cd15 ct15 oc16 kV16 dc16 pm16 cd16 ct16 oc17 kV17 dc17 pm17 cd17 ct17 oc18 kV18 dc18 pm18 cd18 ct18 oc19 kV19 dc19 pm19 cd19 ct19 oc20 kV20 dc20 pm20 cd20 ct20 oc21 kV21 dc21 pm21 cd21 ct21 oc22 kV22 dc22 pm22 cd22 ct22 : Value}
    {t_c_MOST_STEPS : Tok}
    (a0 : PySem.W.nsIn K mainGlobals "is_whole" = some (some (.ref f0))) (l0 : K.lookup f0 = some ⟨oc0, od0, .func (PySem.W.fnOf "is_whole" "is_whole" (defArgs st_is_whole) (defBody st_is_whole) (defScope st_is_whole) .none kV0 dc0 pm0 an0 cd0 ct0), sl0⟩) (c0 : PySem.W.codeIn K cd0 "is_whole" = true) (k0 : PySem.W.keepIn K (.ref f0) = true)
    (a1 : PySem.W.nsIn K mainGlobals "is_whole_from" = some (some (.ref f1))) (l1 : K.lookup f1 = some ⟨oc1, od1, .func (PySem.W.fnOf "is_whole_from" "is_whole_from" (defArgs st_is_whole_from) (defBody st_is_whole_from) (defScope st_is_whole_from) .none kV1 dc1 pm1 an1 cd1 ct1), sl1⟩) (c1 : PySem.W.codeIn K cd1 "is_whole_from" = true) (k1 : PySem.W.keepIn K (.ref f1) = true)
    (a2 : PySem.W.nsIn K mainGlobals "next_places" = some (some (.ref f2))) (l2 : K.lookup f2 = some ⟨oc2, od2, .func (PySem.W.fnOf "next_places" "next_places" (defArgs st_next_places) (defBody st_next_places) (defScope st_next_places) .none kV2 dc2 pm2 an2 cd2 ct2), sl2⟩) (c2 : PySem.W.codeIn K cd2 "next_places" = true) (k2 : PySem.W.keepIn K (.ref f2) = true)
    (a3 : PySem.W.nsIn K mainGlobals "fars_from" = some (some (.ref f3))) (l3 : K.lookup f3 = some ⟨oc3, od3, .func (PySem.W.fnOf "fars_from" "fars_from" (defArgs st_fars_from) (defBody st_fars_from) (defScope st_fars_from) .none kV3 dc3 pm3 an3 cd3 ct3), sl3⟩) (c3 : PySem.W.codeIn K cd3 "fars_from" = true) (k3 : PySem.W.keepIn K (.ref f3) = true)
    (a4 : PySem.W.nsIn K mainGlobals "steps_web" = some (some (.ref f4))) (l4 : K.lookup f4 = some ⟨oc4, od4, .func (PySem.W.fnOf "steps_web" "steps_web" (defArgs st_steps_web) (defBody st_steps_web) (defScope st_steps_web) .none kV4 dc4 pm4 an4 cd4 ct4), sl4⟩) (c4 : PySem.W.codeIn K cd4 "steps_web" = true) (k4 : PySem.W.keepIn K (.ref f4) = true)
    (a5 : PySem.W.nsIn K mainGlobals "two_step" = some (some (.ref f5))) (l5 : K.lookup f5 = some ⟨oc5, od5, .func (PySem.W.fnOf "two_step" "two_step" (defArgs st_two_step) (defBody st_two_step) (defScope st_two_step) .none kV5 dc5 pm5 an5 cd5 ct5), sl5⟩) (c5 : PySem.W.codeIn K cd5 "two_step" = true) (k5 : PySem.W.keepIn K (.ref f5) = true)
    (a6 : PySem.W.nsIn K mainGlobals "without" = some (some (.ref f6))) (l6 : K.lookup f6 = some ⟨oc6, od6, .func (PySem.W.fnOf "without" "without" (defArgs st_without) (defBody st_without) (defScope st_without) .none kV6 dc6 pm6 an6 cd6 ct6), sl6⟩) (c6 : PySem.W.codeIn K cd6 "without" = true) (k6 : PySem.W.keepIn K (.ref f6) = true)
    (a7 : PySem.W.nsIn K mainGlobals "is_spare" = some (some (.ref f7))) (l7 : K.lookup f7 = some ⟨oc7, od7, .func (PySem.W.fnOf "is_spare" "is_spare" (defArgs st_is_spare) (defBody st_is_spare) (defScope st_is_spare) .none kV7 dc7 pm7 an7 cd7 ct7), sl7⟩) (c7 : PySem.W.codeIn K cd7 "is_spare" = true) (k7 : PySem.W.keepIn K (.ref f7) = true)
    (a8 : PySem.W.nsIn K mainGlobals "spare_ties" = some (some (.ref f8))) (l8 : K.lookup f8 = some ⟨oc8, od8, .func (PySem.W.fnOf "spare_ties" "spare_ties" (defArgs st_spare_ties) (defBody st_spare_ties) (defScope st_spare_ties) .none kV8 dc8 pm8 an8 cd8 ct8), sl8⟩) (c8 : PySem.W.codeIn K cd8 "spare_ties" = true) (k8 : PySem.W.keepIn K (.ref f8) = true)
    (a9 : PySem.W.nsIn K mainGlobals "thinned" = some (some (.ref f9))) (l9 : K.lookup f9 = some ⟨oc9, od9, .func (PySem.W.fnOf "thinned" "thinned" (defArgs st_thinned) (defBody st_thinned) (defScope st_thinned) .none kV9 dc9 pm9 an9 cd9 ct9), sl9⟩) (c9 : PySem.W.codeIn K cd9 "thinned" = true) (k9 : PySem.W.keepIn K (.ref f9) = true)
    (a10 : PySem.W.nsIn K mainGlobals "_law_cell_at" = some (some (.ref f10))) (l10 : K.lookup f10 = some ⟨oc10, od10, .func (PySem.W.fnOf "_law_cell_at" "_law_cell_at" (defArgs st__law_cell_at) (defBody st__law_cell_at) (defScope st__law_cell_at) .none kV10 dc10 pm10 an10 cd10 ct10), sl10⟩) (c10 : PySem.W.codeIn K cd10 "_law_cell_at" = true) (k10 : PySem.W.keepIn K (.ref f10) = true)
    (a11 : PySem.W.nsIn K mainGlobals "_law_next" = some (some (.ref f11))) (l11 : K.lookup f11 = some ⟨oc11, od11, .func (PySem.W.fnOf "_law_next" "_law_next" (defArgs st__law_next) (defBody st__law_next) (defScope st__law_next) .none kV11 dc11 pm11 an11 cd11 ct11), sl11⟩) (c11 : PySem.W.codeIn K cd11 "_law_next" = true) (k11 : PySem.W.keepIn K (.ref f11) = true)
    (a12 : PySem.W.nsIn K mainGlobals "_law_pen_of" = some (some (.ref f12))) (l12 : K.lookup f12 = some ⟨oc12, od12, .func (PySem.W.fnOf "_law_pen_of" "_law_pen_of" (defArgs st__law_pen_of) (defBody st__law_pen_of) (defScope st__law_pen_of) .none kV12 dc12 pm12 an12 cd12 ct12), sl12⟩) (c12 : PySem.W.codeIn K cd12 "_law_pen_of" = true) (k12 : PySem.W.keepIn K (.ref f12) = true)
    (a13 : PySem.W.nsIn K mainGlobals "_law_draw" = some (some (.ref f13))) (l13 : K.lookup f13 = some ⟨oc13, od13, .func (PySem.W.fnOf "_law_draw" "_law_draw" (defArgs st__law_draw) (defBody st__law_draw) (defScope st__law_draw) .none kV13 dc13 pm13 an13 cd13 ct13), sl13⟩) (c13 : PySem.W.codeIn K cd13 "_law_draw" = true) (k13 : PySem.W.keepIn K (.ref f13) = true)
    (a14 : PySem.W.nsIn K mainGlobals "_law_named" = some (some (.ref f14))) (l14 : K.lookup f14 = some ⟨oc14, od14, .func (PySem.W.fnOf "_law_named" "_law_named" (defArgs st__law_named) (defBody st__law_named) (defScope st__law_named) .none kV14 dc14 pm14 an14 cd14 ct14), sl14⟩) (c14 : PySem.W.codeIn K cd14 "_law_named" = true) (k14 : PySem.W.keepIn K (.ref f14) = true)
    (a15 : PySem.W.nsIn K mainGlobals "_law_names_by" = some (some (.ref f15))) (l15 : K.lookup f15 = some ⟨oc15, od15, .func (PySem.W.fnOf "_law_names_by" "_law_names_by" (defArgs st__law_names_by) (defBody st__law_names_by) (defScope st__law_names_by) .none kV15 dc15 pm15 an15 cd15 ct15), sl15⟩) (c15 : PySem.W.codeIn K cd15 "_law_names_by" = true) (k15 : PySem.W.keepIn K (.ref f15) = true)
    (a16 : PySem.W.nsIn K mainGlobals "_law_far" = some (some (.ref f16))) (l16 : K.lookup f16 = some ⟨oc16, od16, .func (PySem.W.fnOf "_law_far" "_law_far" (defArgs st__law_far) (defBody st__law_far) (defScope st__law_far) .none kV16 dc16 pm16 an16 cd16 ct16), sl16⟩) (c16 : PySem.W.codeIn K cd16 "_law_far" = true) (k16 : PySem.W.keepIn K (.ref f16) = true)
    (a17 : PySem.W.nsIn K mainGlobals "_law_steps" = some (some (.ref f17))) (l17 : K.lookup f17 = some ⟨oc17, od17, .func (PySem.W.fnOf "_law_steps" "_law_steps" (defArgs st__law_steps) (defBody st__law_steps) (defScope st__law_steps) .none kV17 dc17 pm17 an17 cd17 ct17), sl17⟩) (c17 : PySem.W.codeIn K cd17 "_law_steps" = true) (k17 : PySem.W.keepIn K (.ref f17) = true)
    (a18 : PySem.W.nsIn K mainGlobals "_law_sparse_by" = some (some (.ref f18))) (l18 : K.lookup f18 = some ⟨oc18, od18, .func (PySem.W.fnOf "_law_sparse_by" "_law_sparse_by" (defArgs st__law_sparse_by) (defBody st__law_sparse_by) (defScope st__law_sparse_by) .none kV18 dc18 pm18 an18 cd18 ct18), sl18⟩) (c18 : PySem.W.codeIn K cd18 "_law_sparse_by" = true) (k18 : PySem.W.keepIn K (.ref f18) = true)
    (a19 : PySem.W.nsIn K mainGlobals "_law_web_by" = some (some (.ref f19))) (l19 : K.lookup f19 = some ⟨oc19, od19, .func (PySem.W.fnOf "_law_web_by" "_law_web_by" (defArgs st__law_web_by) (defBody st__law_web_by) (defScope st__law_web_by) .none kV19 dc19 pm19 an19 cd19 ct19), sl19⟩) (c19 : PySem.W.codeIn K cd19 "_law_web_by" = true) (k19 : PySem.W.keepIn K (.ref f19) = true)
    (a20 : PySem.W.nsIn K mainGlobals "_law_spare" = some (some (.ref f20))) (l20 : K.lookup f20 = some ⟨oc20, od20, .func (PySem.W.fnOf "_law_spare" "_law_spare" (defArgs st__law_spare) (defBody st__law_spare) (defScope st__law_spare) .none kV20 dc20 pm20 an20 cd20 ct20), sl20⟩) (c20 : PySem.W.codeIn K cd20 "_law_spare" = true) (k20 : PySem.W.keepIn K (.ref f20) = true)
    (a21 : PySem.W.nsIn K mainGlobals "_law_right" = some (some (.ref f21))) (l21 : K.lookup f21 = some ⟨oc21, od21, .func (PySem.W.fnOf "_law_right" "_law_right" (defArgs st__law_right) (defBody st__law_right) (defScope st__law_right) .none kV21 dc21 pm21 an21 cd21 ct21), sl21⟩) (c21 : PySem.W.codeIn K cd21 "_law_right" = true) (k21 : PySem.W.keepIn K (.ref f21) = true)
    (a22 : PySem.W.nsIn K mainGlobals "law" = some (some (.ref f22))) (l22 : K.lookup f22 = some ⟨oc22, od22, .func (PySem.W.fnOf "law" "law" (defArgs st_law) (defBody st_law) (defScope st_law) .none kV22 dc22 pm22 an22 cd22 ct22), sl22⟩) (c22 : PySem.W.codeIn K cd22 "law" = true) (k22 : PySem.W.keepIn K (.ref f22) = true)
    (z_bool : PySem.W.nsIn K mainGlobals "bool" = some none)
    (z_int : PySem.W.nsIn K mainGlobals "int" = some none)
    (z_isinstance : PySem.W.nsIn K mainGlobals "isinstance" = some none)
    (z_len : PySem.W.nsIn K mainGlobals "len" = some none)
    (z_list : PySem.W.nsIn K mainGlobals "list" = some none)
    (z_max : PySem.W.nsIn K mainGlobals "max" = some none)
    (z_min : PySem.W.nsIn K mainGlobals "min" = some none)
    (z_range : PySem.W.nsIn K mainGlobals "range" = some none)
    (z_repr : PySem.W.nsIn K mainGlobals "repr" = some none)
    (z_set : PySem.W.nsIn K mainGlobals "set" = some none)
    (z_sorted : PySem.W.nsIn K mainGlobals "sorted" = some none)
    (z_tuple : PySem.W.nsIn K mainGlobals "tuple" = some none)
    (g_c_MOST_STEPS : PySem.W.nsIn K mainGlobals "MOST_STEPS" = some (some (.int 6 t_c_MOST_STEPS)))
    : ∃ fd : FuncData, (∀ (s : Shared) (v : Value), BindsTo s fd ⟨[v], []⟩ [("_law_script", v)]) ∧ ∀ base : Heap, K.In base → base.Ns mainGlobals mg → FnOk l.prog w K mg base CX0 8 fa fd ["_law_script"] (spD (pa0 K w) 1 F_law) := by
  have e := hfa.symm.trans (PySem.W.mg_of X G a22)
  cases e
  have nm : Nm mg := ⟨PySem.W.mg_none_of X G z_bool, PySem.W.mg_none_of X G z_int, PySem.W.mg_none_of X G z_isinstance, PySem.W.mg_none_of X G z_len, PySem.W.mg_none_of X G z_list, PySem.W.mg_none_of X G z_max, PySem.W.mg_none_of X G z_min, PySem.W.mg_none_of X G z_range, PySem.W.mg_none_of X G z_repr, PySem.W.mg_none_of X G z_set, PySem.W.mg_none_of X G z_sorted, PySem.W.mg_none_of X G z_tuple⟩
  have c_MOST_STEPS := PySem.W.mg_of X G g_c_MOST_STEPS
  refine ⟨PySem.W.fnOf "law" "law" (defArgs st_law) (defBody st_law) (defScope st_law) .none kV22 dc22 pm22 an22 cd22 ct22, fun s v => .of_eq rfl, fun base _ _ => ?_⟩
  have d_is_whole := ok_is_whole (P := l.prog) (w := w) (base := base) nm (fun_mk (st := st_is_whole) l0 c0 k0) (PySem.W.mg_of X G a0) 
  have d_is_whole_from := ok_is_whole_from (P := l.prog) (w := w) (base := base) nm (fun_mk (st := st_is_whole_from) l1 c1 k1) (PySem.W.mg_of X G a1) d_is_whole
  have d_next_places := ok_next_places (P := l.prog) (w := w) (base := base) nm (fun_mk (st := st_next_places) l2 c2 k2) (PySem.W.mg_of X G a2) 
  have d_fars_from := ok_fars_from (P := l.prog) (w := w) (base := base) nm (fun_mk (st := st_fars_from) l3 c3 k3) (PySem.W.mg_of X G a3) d_next_places
  have d_steps_web := ok_steps_web (P := l.prog) (w := w) (base := base) nm (fun_mk (st := st_steps_web) l4 c4 k4) (PySem.W.mg_of X G a4) ⟨_, c_MOST_STEPS⟩ d_is_whole_from d_fars_from
  have d_two_step := ok_two_step (P := l.prog) (w := w) (base := base) nm (fun_mk (st := st_two_step) l5 c5 k5) (PySem.W.mg_of X G a5) d_steps_web
  have d_without := ok_without (P := l.prog) (w := w) (base := base) nm (fun_mk (st := st_without) l6 c6 k6) (PySem.W.mg_of X G a6) 
  have d_is_spare := ok_is_spare (P := l.prog) (w := w) (base := base) nm (fun_mk (st := st_is_spare) l7 c7 k7) (PySem.W.mg_of X G a7) d_two_step d_without
  have d_spare_ties := ok_spare_ties (P := l.prog) (w := w) (base := base) nm (fun_mk (st := st_spare_ties) l8 c8 k8) (PySem.W.mg_of X G a8) d_is_spare
  have d_thinned := ok_thinned (P := l.prog) (w := w) (base := base) nm (fun_mk (st := st_thinned) l9 c9 k9) (PySem.W.mg_of X G a9) d_is_spare d_without
  have d__law_cell_at := ok__law_cell_at (P := l.prog) (w := w) (base := base) nm (fun_mk (st := st__law_cell_at) l10 c10 k10) (PySem.W.mg_of X G a10) 
  have d__law_next := ok__law_next (P := l.prog) (w := w) (base := base) nm (fun_mk (st := st__law_next) l11 c11 k11) (PySem.W.mg_of X G a11) 
  have d__law_pen_of := ok__law_pen_of (P := l.prog) (w := w) (base := base) nm (fun_mk (st := st__law_pen_of) l12 c12 k12) (PySem.W.mg_of X G a12) 
  have d__law_draw := ok__law_draw (P := l.prog) (w := w) (base := base) nm (fun_mk (st := st__law_draw) l13 c13 k13) (PySem.W.mg_of X G a13) d__law_next
  have d__law_named := ok__law_named (P := l.prog) (w := w) (base := base) nm (fun_mk (st := st__law_named) l14 c14 k14) (PySem.W.mg_of X G a14) 
  have d__law_names_by := ok__law_names_by (P := l.prog) (w := w) (base := base) nm (fun_mk (st := st__law_names_by) l15 c15 k15) (PySem.W.mg_of X G a15) d__law_draw
  have d__law_far := ok__law_far (P := l.prog) (w := w) (base := base) nm (fun_mk (st := st__law_far) l16 c16 k16) (PySem.W.mg_of X G a16) 
  have d__law_steps := ok__law_steps (P := l.prog) (w := w) (base := base) nm (fun_mk (st := st__law_steps) l17 c17 k17) (PySem.W.mg_of X G a17) d__law_far
  have d__law_sparse_by := ok__law_sparse_by (P := l.prog) (w := w) (base := base) nm (fun_mk (st := st__law_sparse_by) l18 c18 k18) (PySem.W.mg_of X G a18) d__law_draw d__law_named d__law_names_by
  have d__law_web_by := ok__law_web_by (P := l.prog) (w := w) (base := base) nm (fun_mk (st := st__law_web_by) l19 c19 k19) (PySem.W.mg_of X G a19) d__law_sparse_by d__law_draw d__law_steps
  have d__law_spare := ok__law_spare (P := l.prog) (w := w) (base := base) nm (fun_mk (st := st__law_spare) l20 c20 k20) (PySem.W.mg_of X G a20) d__law_steps
  have d__law_right := ok__law_right (P := l.prog) (w := w) (base := base) nm (fun_mk (st := st__law_right) l21 c21 k21) (PySem.W.mg_of X G a21) d_spare_ties d__law_spare d_thinned
  exact fn_law nm (fun_mk (st := st_law) l22 c22 k22) d__law_right d__law_cell_at d__law_pen_of d__law_web_by d__law_steps d__law_sparse_by
theorem walk {l : PySem.W.OpenLaw} {q : Program} {loose : List Str} {XP : (Str → Option Value) → Heap → Prop} {YP : World → Heap → Prop} {d : DefRec} {K : Params → PySem.W.Frag} (hn : l.most = some 63) (hdf : d.params.defaults = [])
    (hY : ∀ (w : World) (h : Heap), YP w h → (K w.params).In h)
    (F : ∀ (w : World) (mg : Str → Option Value) (fa : Addr) (h : Heap), (K w.params).In h → h.Ns mainGlobals mg → mg d.name = some (.ref fa) →
      ∃ fd : FuncData, (∀ (s : Shared) (u : Value), BindsTo s fd ⟨[u], []⟩ [("_law_script", u)]) ∧ ∀ base : Heap, (K w.params).In base → base.Ns mainGlobals mg → FnOk l.prog w (K w.params) mg base CX0 8 fa fd ["_law_script"] (spD (pa0 (K w.params) w) 1 F_law)) :
    PySem.W.WalkO q loose XP YP l.row.toRowW d [] (fun f vs => PySem.call f vs) :=
  L2.walk_of (n := 63) (k := 8) (x := "_law_script") (CX := fun _ => CX0) (sp := fun w => spD (pa0 (K w.params) w) 1 F_law) hn (by decide) hdf ⟨rfl, by decide, by decide, rfl⟩ hY F (fun w H a ns hl hO hS => law_says (sp_law ns) hO hS) fun _ _ _ _ _ z => z
end Lw
open PySem PySem.W PyProof.Rows
set_option maxRecDepth 100000 in
set_option maxHeartbeats 0 in
theorem PySem.Challenge.cw_rootwebs_k51_spare_ties_holds : PySem.Challenge.rw_rootwebs_k51_spare_ties.Holds := by
  w_on; o_law; k_head; (case hw => w_witness2)
  k_fill
  refine Lw.walk (l := PySem.Challenge.rw_rootwebs_k51_spare_ties) rfl rfl (fun w h Y => PySem.W.kIn_of Y) ?F
  case F =>
    intro w mg fa h KX G hmg
    refine' Lw.all_mk KX G hmg ?a0 ?l0 ?c0 ?k0 ?a1 ?l1 ?c1 ?k1 ?a2 ?l2 ?c2 ?k2 ?a3 ?l3 ?c3 ?k3 ?a4 ?l4 ?c4 ?k4 ?a5 ?l5 ?c5 ?k5 ?a6 ?l6 ?c6 ?k6 ?a7 ?l7 ?c7 ?k7 ?a8 ?l8 ?c8 ?k8 ?a9 ?l9 ?c9 ?k9 ?a10 ?l10 ?c10 ?k10 ?a11 ?l11 ?c11 ?k11 ?a12 ?l12 ?c12 ?k12 ?a13 ?l13 ?c13 ?k13 ?a14 ?l14 ?c14 ?k14 ?a15 ?l15 ?c15 ?k15 ?a16 ?l16 ?c16 ?k16 ?a17 ?l17 ?c17 ?k17 ?a18 ?l18 ?c18 ?k18 ?a19 ?l19 ?c19 ?k19 ?a20 ?l20 ?c20 ?k20 ?a21 ?l21 ?c21 ?k21 ?a22 ?l22 ?c22 ?k22 ?z_bool ?z_int ?z_isinstance ?z_len ?z_list ?z_max ?z_min ?z_range ?z_repr ?z_set ?z_sorted ?z_tuple ?g_c_MOST_STEPS
    (case a0 => k_is); (case l0 => k_is); (case c0 => k_is); (case k0 => k_is); (case a1 => k_is); (case l1 => k_is)
    (case c1 => k_is); (case k1 => k_is); (case a2 => k_is); (case l2 => k_is); (case c2 => k_is); (case k2 => k_is)
    (case a3 => k_is); (case l3 => k_is); (case c3 => k_is); (case k3 => k_is); (case a4 => k_is); (case l4 => k_is)
    (case c4 => k_is); (case k4 => k_is); (case a5 => k_is); (case l5 => k_is); (case c5 => k_is); (case k5 => k_is)
    (case a6 => k_is); (case l6 => k_is); (case c6 => k_is); (case k6 => k_is); (case a7 => k_is); (case l7 => k_is)
    (case c7 => k_is); (case k7 => k_is); (case a8 => k_is); (case l8 => k_is); (case c8 => k_is); (case k8 => k_is)
    (case a9 => k_is); (case l9 => k_is); (case c9 => k_is); (case k9 => k_is); (case a10 => k_is); (case l10 => k_is)
    (case c10 => k_is); (case k10 => k_is); (case a11 => k_is); (case l11 => k_is); (case c11 => k_is); (case k11 => k_is)
    (case a12 => k_is); (case l12 => k_is); (case c12 => k_is); (case k12 => k_is); (case a13 => k_is); (case l13 => k_is)
    (case c13 => k_is); (case k13 => k_is); (case a14 => k_is); (case l14 => k_is); (case c14 => k_is); (case k14 => k_is)
    (case a15 => k_is); (case l15 => k_is); (case c15 => k_is); (case k15 => k_is); (case a16 => k_is); (case l16 => k_is)
    (case c16 => k_is); (case k16 => k_is); (case a17 => k_is); (case l17 => k_is); (case c17 => k_is); (case k17 => k_is)
    (case a18 => k_is); (case l18 => k_is); (case c18 => k_is); (case k18 => k_is); (case a19 => k_is); (case l19 => k_is)
    (case c19 => k_is); (case k19 => k_is); (case a20 => k_is); (case l20 => k_is); (case c20 => k_is); (case k20 => k_is)
    (case a21 => k_is); (case l21 => k_is); (case c21 => k_is); (case k21 => k_is); (case a22 => k_is); (case l22 => k_is)
    (case c22 => k_is); (case k22 => k_is); (case z_bool => k_is); (case z_int => k_is); (case z_isinstance => k_is); (case z_len => k_is)
    (case z_list => k_is); (case z_max => k_is); (case z_min => k_is); (case z_range => k_is); (case z_repr => k_is); (case z_set => k_is)
    (case z_sorted => k_is); (case z_tuple => k_is); (case g_c_MOST_STEPS => k_is)

