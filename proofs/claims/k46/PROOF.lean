import PyProof.Rows.All
import Wide.All
import OpenK.AllK
import Wide.FinOn
import Lean
import PyProof.EqAt
import PyProof.EqKinds
import PyProof.TupleCall
import PyProof.ExcBaseAll.ValueError
import PyProof.EnumMake
import PyProof.Rows.EnumRows
import PyProof.TupleIter
import PyProof.DictValues
import PyProof.CollectStr
import PySem.Builtin.Int.W1All
import PyProof.DictRoadsH
import PyProof.DictKinds
import PyProof.FactsAll.NoneType
import KE.KRevIter
import PyProof.FactsAll.list_3
import KE.KDictList
import PyProof.DictIter
import PyProof.DictWalks
import PyProof.Rows.SumAny
import PyProof.Rows.SeqCalls
import PySem.Challenge.RW_wormyard_k46_posted
set_option Elab.async false
set_option linter.all false
set_option maxRecDepth 100000
set_option maxHeartbeats 4000000
/-! THE HAND LAYER, for ints, bools, texts, own classes, LISTS and tuples (index, slices, in, append, pop ..), calls, loops. Paste it whole ahead of your own text; what your proof does not reach may be deleted. -/
namespace L2
open PySem PySem.Spec PyProof.Rows

/-- a key: an int or a str -/
abbrev Key := Sum Int Str
def keyIs : Key → Value → Bool
  | .inl k, v => Value.isInt k v
  | .inr x, v => Value.isStrOf x v
def keyH (w : World) : Key → Int
  | .inl k => hashInt k
  | .inr x => hashStr w x
theorem keyIs_shape : ∀ {k : Key} {v : Value}, keyIs k v = true → (∃ i t, k = Sum.inl i ∧ v = Value.int i t) ∨ (∃ x t, k = Sum.inr x ∧ v = Value.str x t)
  | .inl i, v, h => by
    obtain ⟨t, e⟩ := Value.isInt_shape (k := i) (v := v) h
    exact .inl ⟨i, t, rfl, e⟩
  | .inr x, v, h => by
    obtain ⟨t, e⟩ := Value.isStrOf_shape (x := x) (v := v) h
    exact .inr ⟨x, t, rfl, e⟩
theorem keyIs_int (i : Int) (t : Tok) : keyIs (.inl i) (.int i t) = true := by simp [keyIs, Value.isInt]
theorem keyIs_str (x : Str) (t : Tok) : keyIs (.inr x) (.str x t) = true := by simp [keyIs, Value.isStrOf]
theorem key_ll (a b : Int) : decide ((Sum.inl a : Key) = Sum.inl b) = (a == b) := by
  by_cases e : a = b
  · subst e; simp
  · have h : ¬ (Sum.inl a : Key) = Sum.inl b := fun q => e (Sum.inl.inj q)
    rw [decide_eq_false h]
    exact (beq_eq_false_iff_ne.mpr e).symm
theorem key_rr (a b : Str) : decide ((Sum.inr a : Key) = Sum.inr b) = decide (a = b) := by
  by_cases e : a = b
  · subst e; simp
  · have h : ¬ (Sum.inr a : Key) = Sum.inr b := fun q => e (Sum.inr.inj q)
    rw [decide_eq_false h, decide_eq_false e]
theorem key_lr (a : Int) (b : Str) : decide ((Sum.inl a : Key) = Sum.inr b) = false := decide_eq_false (fun q => nomatch q)
theorem key_rl (a : Str) (b : Int) : decide ((Sum.inr a : Key) = Sum.inl b) = false := decide_eq_false (fun q => nomatch q)

def mixKind (prog : Program) (w : World) : PySem.KeyKind prog w Key where
  is := keyIs
  hash := keyH w
  inj := fun v a b ha hb => by
    rcases keyIs_shape ha with ⟨i, t, rfl, rfl⟩ | ⟨x, t, rfl, rfl⟩
    · rcases keyIs_shape hb with ⟨j, u, rfl, e⟩ | ⟨y, u, rfl, e⟩
      · injection e with e1 _; rw [e1]
      · exact nomatch e
    · rcases keyIs_shape hb with ⟨j, u, rfl, e⟩ | ⟨y, u, rfl, e⟩
      · exact nomatch e
      · injection e with e1 _; rw [e1]
  byValue := fun k v h => by
    rcases keyIs_shape h with ⟨i, t, rfl, rfl⟩ | ⟨x, t, rfl, rfl⟩ <;> rfl
  pyHash := fun hv h => by
    rcases keyIs_shape hv with ⟨i, t, rfl, rfl⟩ | ⟨x, t, rfl, rfl⟩
    · exact wpAny_pyHash_int h
    · exact wpAny_pyHash_str h
  eqBool := fun hu hv h => by
    rcases keyIs_shape hu with ⟨i, t, rfl, rfl⟩ | ⟨x, t, rfl, rfl⟩
    · rcases keyIs_shape hv with ⟨j, u, rfl, rfl⟩ | ⟨y, u, rfl, rfl⟩
      · rw [key_ll] at h; exact wpAny_eqBool_int h
      · rw [key_lr] at h; exact SeqAt.EqAt.int_str i t y u _ _ _ _ h
    · rcases keyIs_shape hv with ⟨j, u, rfl, rfl⟩ | ⟨y, u, rfl, rfl⟩
      · rw [key_rl] at h; exact SeqAt.EqAt.str_int x t j u _ _ _ _ h
      · rw [key_rr] at h; exact wpAny_eqBool_str h
  «strs» := fun k x t v h => by
    rcases keyIs_shape h with ⟨i, u, rfl, e⟩ | ⟨y, u, rfl, e⟩
    · exact nomatch e
    · injection e with e1 _
      subst e1
      cases v <;> rfl

theorem mixKind_int (prog : Program) (w : World) (i : Int) (t : Tok) : (mixKind prog w).is (.inl i) (.int i t) = true := keyIs_int i t
theorem mixKind_str (prog : Program) (w : World) (x : Str) (t : Tok) : (mixKind prog w).is (.inr x) (.str x t) = true := keyIs_str x t
end L2

namespace L2
open PySem PySem.Spec PyProof.Rows

/-- a value, without the heap -/
inductive V where
  | non | bl (b : Bool) | int (i : Int) | str (x : Str) | byt (b : Array UInt8) | flt (b : UInt64) | ref (a : Addr) | ty (n : String)
  deriving DecidableEq

def RelV : V → Value → Prop
  | .non, u => u = Value.none
  | .bl b, u => u = Value.bool b
  | .int i, u => ∃ t, u = Value.int i t
  | .str x, u => ∃ t, u = Value.str x t
  | .byt b, u => ∃ t, u = Value.bytes b t
  | .flt b, u => ∃ t, u = Value.float b t
  | .ref a, u => u = Value.ref a
  | .ty n, u => u = Value.type n

abbrev Vals : List V → List Value → Prop := Paired RelV
theorem Vals.length {xs : List V} {us : List Value} (r : Vals xs us) : xs.length = us.length := Paired.length r
theorem Vals.get : ∀ {xs : List V} {us : List Value} {i : Nat} {x : V}, Vals xs us → xs[i]? = some x → ∃ u, us[i]? = some u ∧ RelV x u
  | _, _, _, _, .nil, e => by simp at e
  | _, _, 0, _, .cons r _, e => by simp at e; subst e; exact ⟨_, rfl, r⟩
  | _, _, i + 1, x, .cons _ t, e => by
    obtain ⟨u, h1, h2⟩ := Vals.get (i := i) (x := x) t (by simpa using e)
    exact ⟨u, by simpa using h1, h2⟩
theorem Vals.append : ∀ {xs ys : List V} {us ws : List Value}, Vals xs us → Vals ys ws → Vals (xs ++ ys) (us ++ ws)
  | _, _, _, _, .nil, s => s
  | _, _, _, _, .cons r t, s => .cons r (Vals.append t s)
theorem Vals.take : ∀ {xs : List V} {us : List Value} (n : Nat), Vals xs us → Vals (xs.take n) (us.take n)
  | _, _, 0, _ => .nil
  | _, _, _ + 1, .nil => .nil
  | _, _, n + 1, .cons r t => .cons r (Vals.take n t)
theorem Vals.drop : ∀ {xs : List V} {us : List Value} (n : Nat), Vals xs us → Vals (xs.drop n) (us.drop n)
  | _, _, 0, r => r
  | _, _, _ + 1, .nil => .nil
  | _, _, n + 1, .cons _ t => Vals.drop n t

def RelO : Option V → Option Value → Prop
  | some v, some u => RelV v u
  | none, none => True
  | _, _ => False
def KV {κ : Type} : List (κ × V) → List (κ × Value) → Prop := Paired fun (p : κ × V) (q : κ × Value) => p.1 = q.1 ∧ RelV p.2 q.2

/-- a key of a dict (00_mix): an int or a text -/
def kV : Key → V
  | .inl i => .int i
  | .inr x => .str x

/-- what stands at a tracked address -/
inductive HO where
  /-- a list -/
  | lst (xs : List V)
  /-- a tuple (never changes) -/
  | tup (xs : List V)
  /-- a dict whose keys are ints and texts; one whose keys are tuples of ints and texts (the empty one is both) -/
  | dK (kvs : List (Key × V)) | dT (kvs : List (List Key × V))
  /-- a set of ints: its members, its size -/
  | set (S : Int → Bool) (n : Nat)
  /-- an instance of the class at C, its dict at dx, its attributes -/
  | ins (C dx : Addr) (fs : List (Str × V))
  /-- the dict of the instance at x -/
  | own (x : Addr)
  /-- the dict of an exception -/
  | xd (fs : List (Str × V))
  /-- a bound method, f of x -/
  | met (f x : Addr)
  /-- a range object lo, lo + 1, .. below hi -/
  | rng (lo hi : Int)
  /-- a thing that is known to the object (the script; a dict while a loop walks it): read, never written while it is so -/
  | frz (o : Obj) (u : HO)
  /-- a code object's table -/
  | tbl (ps : Array Value)
  /-- any other thing, by what is true of its one object (a def of one's own: SetO a S n := HO.ext fun h => ..) -/
  | ext (φ : Heap → Prop)

abbrev Hp := Addr → Option HO
def upd (H : Hp) (a : Addr) (o : HO) : Hp := fun b => if b = a then some o else H b
theorem upd_same {H : Hp} {a : Addr} {o : HO} : upd H a o a = some o := by unfold upd; rw [if_pos rfl]
theorem upd_ne {H : Hp} {a b : Addr} {o : HO} (h : b ≠ a) : upd H a o b = H b := by unfold upd; rw [if_neg h]
/-- two objects of different content stand apart -/
theorem ne_of {H : Hp} {a b : Addr} {o u : HO} (h : H a = some o) (h' : H b = some u) (d : o ≠ u) : a ≠ b := by
  intro e; subst e; rw [h] at h'; exact d (Option.some.inj h')
theorem ne_of_none {H : Hp} {a b : Addr} {o : HO} (h : H a = some o) (h' : H b = none) : a ≠ b := by
  intro e; subst e; rw [h] at h'; cases h'

/-- a tuple without a dict of its own -/
def IsTupN (h : Heap) (a : Addr) (items : Array Value) : Prop := ∃ o, h.get? a = some o ∧ (o.cls = .type "tuple" ∧ ∃ n, o.data = .seq items n) ∧ o.dict = none
theorem IsTupN.isTup {h : Heap} {a : Addr} {items : Array Value} : IsTupN h a items → IsTup h a items := fun ⟨o, e, c, _⟩ => ⟨o, e, c⟩
theorem IsTupN.new (h : Heap) (items : Array Value) : IsTupN (h.push { cls := .type "tuple", data := .seq items }) h.objs.size items := ⟨_, Heap.get?_push_size _ rfl, ⟨rfl, _, rfl⟩, rfl⟩
section
variable (P : Program) (w : World)
def ObjOk (H : Hp) (h : Heap) (a : Addr) : HO → Prop
  | .lst xs => xs.length ≤ sizeLine ∧ ∃ (its : List Value) (n : Nat), Vals xs its ∧ h.get? a = some { cls := .type "list", data := .seq its.toArray n }
  | .tup xs => xs.length ≤ sizeLine ∧ ∃ its : List Value, Vals xs its ∧ IsTupN h a its.toArray
  | .dK kvs => kvs.length ≤ sizeLine ∧ (a == sysModules) = false ∧ ∃ vs, KV kvs vs ∧ h.DictOf (mixKind P w) a vs
  | .dT kvs => kvs.length ≤ sizeLine ∧ (a == sysModules) = false ∧ ∃ xs : List (List Key × Addr × Value),
      Paired (fun (p : List Key × V) (q : List Key × Addr × Value) => p.1 = q.1 ∧ H q.2.1 = some (.tup (p.1.map kV)) ∧ RelV p.2 q.2.2) kvs xs ∧
      ∃ o es ep, h.get? a = some o ∧ o.ExactDict ∧ o.data = .dict es ep ∧ es.toList = xs.map (entryOfKey (tupleKind (mixKind P w))) ∧ (xs.map (·.1)).Nodup
  | .set S n => h.SetOf (intKind P w) a S n
  | .ins C dx fs => H dx = some (.own a) ∧ fs.length ≤ 1000 ∧ dx ≠ a ∧ h.get? a = some (PySem.W.instObj C dx) ∧
      ∃ mA, h.Ns1 dx mA ∧ (∀ f, RelO (fs.lookup f) (mA f)) ∧ PySem.Within mA (fs.map (·.1))
  | .own _ => ∃ o, h.get? a = some o
  | .xd fs => ∃ mA, h.Ns1 a mA ∧ ∀ f, RelO (fs.lookup f) (mA f)
  | .rng lo hi => ∃ t u v, h.get? a = some { cls := .type "range", data := .fields #[.int lo t, .int hi u, .int 1 v] }
  | .frz o u => h.get? a = some o ∧ ObjOk H h a u
  | .tbl ps => h.get? a = some { cls := .none, data := .fields ps }
  | .met f x => h.get? a = some (PySem.W.methodObj (.ref f) (.ref x))
  | .ext φ => φ h ∧ (∃ o, h.get? a = some o) ∧ ∀ h1 h2 : Heap, φ h1 → (∀ o, h1.get? a = some o → h2.get? a = some o) → φ h2
/-- the abstract heap is held -/
def HOk (H : Hp) (h : Heap) : Prop := ∀ a o, H a = some o → ObjOk P w H h a o
end

section
variable {P : Program} {w : World} {H H' : Hp} {h h' : Heap} {a : Addr} {o : HO}
theorem ObjOk.lt (x : ObjOk P w H h a o) : a < h.objs.size := by
  cases o with
  | lst xs => obtain ⟨_, _, _, _, e⟩ := x; exact Heap.lt_size e
  | tup xs => obtain ⟨_, _, _, p⟩ := x; exact p.isTup.lt
  | dK kvs => obtain ⟨_, _, _, _, o, _, _, e, _⟩ := x; exact Heap.lt_size e
  | dT kvs => obtain ⟨_, _, _, _, o, _, _, e, _⟩ := x; exact Heap.lt_size e
  | set S n => obtain ⟨o, _, _, _, e, _⟩ := x; exact Heap.lt_size e
  | ins C dx fs => obtain ⟨_, _, _, e, _⟩ := x; exact Heap.lt_size e
  | own y => obtain ⟨_, e⟩ := x; exact Heap.lt_size e
  | xd fs => obtain ⟨_, ⟨_, _, _, e, _⟩, _⟩ := x; exact Heap.lt_size e
  | rng lo hi => obtain ⟨_, _, _, e⟩ := x; exact Heap.lt_size e
  | frz ob u => obtain ⟨e, _⟩ := x; exact Heap.lt_size e
  | tbl ps => exact Heap.lt_size (show h.get? a = some _ from x)
  | met f y => exact Heap.lt_size (show h.get? a = some _ from x)
  | ext φ => obtain ⟨_, ⟨_, e⟩, _⟩ := x; exact Heap.lt_size e
theorem Paired.mapP {α β : Type} {F G : α → β → Prop} : ∀ {l₁ : List α} {l₂ : List β}, Paired F l₁ l₂ → (∀ a b, F a b → G a b) → Paired G l₁ l₂
  | _, _, .nil, _ => .nil
  | _, _, .cons r t, f => .cons (f _ _ r) (Paired.mapP t f)
/-- what an object's description leans on: its own object, its own dict, the tuples -/
theorem ObjOk.stay (x : ObjOk P w H h a o) (k : ∀ b u, (b = a ∨ H b = some (.own a)) → h.get? b = some u → h'.get? b = some u)
    (ho : ∀ b, H b = some (.own a) → H' b = some (.own a)) (ht : ∀ b xs, H b = some (.tup xs) → H' b = some (.tup xs)) : ObjOk P w H' h' a o := by
  induction o with
  | lst xs => obtain ⟨z, its, n, r, e⟩ := x; exact ⟨z, its, n, r, k _ _ (.inl rfl) e⟩
  | tup xs => obtain ⟨z, its, r, ob, e, c⟩ := x; exact ⟨z, its, r, ob, k _ _ (.inl rfl) e, c⟩
  | dK kvs => obtain ⟨z, y, vs, r, ob, es, ep, e, c⟩ := x; exact ⟨z, y, vs, r, ob, es, ep, k _ _ (.inl rfl) e, c⟩
  | dT kvs =>
    obtain ⟨z, y, xs, r, ob, es, ep, e, c⟩ := x
    exact ⟨z, y, xs, Paired.mapP r fun p q z => ⟨z.1, ht _ _ z.2.1, z.2.2⟩, ob, es, ep, k _ _ (.inl rfl) e, c⟩
  | set S n => obtain ⟨ob, es, ep, t, e, c⟩ := x; exact ⟨ob, es, ep, t, k _ _ (.inl rfl) e, c⟩
  | ins C dx fs =>
    obtain ⟨d, z, ne, e, mA, ⟨od, es, ep, e2, c⟩, r⟩ := x
    exact ⟨ho _ d, z, ne, k _ _ (.inl rfl) e, mA, ⟨od, es, ep, k _ _ (.inr d) e2, c⟩, r⟩
  | own y => obtain ⟨ob, e⟩ := x; exact ⟨ob, k _ _ (.inl rfl) e⟩
  | xd fs => obtain ⟨mA, ⟨od, es, ep, e, c⟩, r⟩ := x; exact ⟨mA, ⟨od, es, ep, k _ _ (.inl rfl) e, c⟩, r⟩
  | rng lo hi => obtain ⟨t, u, v, e⟩ := x; exact ⟨t, u, v, k _ _ (.inl rfl) e⟩
  | frz ob u ih => obtain ⟨e, q⟩ := x; exact ⟨k _ _ (.inl rfl) e, ih q⟩
  | tbl ps =>
    have e : h.get? a = some { cls := .none, data := .fields ps } := x
    show h'.get? a = some { cls := .none, data := .fields ps }
    exact k a _ (.inl rfl) e
  | met f y =>
    have e : h.get? a = some (PySem.W.methodObj (.ref f) (.ref y)) := x
    show h'.get? a = some (PySem.W.methodObj (.ref f) (.ref y))
    exact k a _ (.inl rfl) e
  | ext φ => obtain ⟨p, ⟨o, e⟩, st⟩ := x; exact ⟨st _ _ p fun o q => k _ _ (.inl rfl) q, ⟨o, k _ _ (.inl rfl) e⟩, st⟩
theorem HOk.lt (x : HOk P w H h) (e : H a = some o) : a < h.objs.size := (x a o e).lt
theorem HOk.fresh (x : HOk P w H h) (e : h.objs.size ≤ a) : H a = none := by
  cases q : H a with
  | none => rfl
  | some u => exact absurd (Nat.lt_of_lt_of_le (x.lt q) e) (Nat.lt_irrefl _)
/-- every object of the heap is kept -/
theorem HOk.kept (x : HOk P w H h) (k : ∀ b u, h.get? b = some u → h'.get? b = some u) : HOk P w H h' := fun a o e =>
  (x a o e).stay (fun b u _ q => k b u q) (fun _ q => q) fun _ _ q => q
/-- a new object is laid and tracked -/
theorem HOk.laid (x : HOk P w H h) (k : ∀ b u, h.get? b = some u → h'.get? b = some u) (hp : h.objs.size ≤ a) (new : ObjOk P w (upd H a o) h' a o) : HOk P w (upd H a o) h' := fun b u e => by
  have hn := x.fresh hp
  by_cases hb : b = a
  · subst hb; rw [upd_same] at e; cases e; exact new
  · rw [upd_ne hb] at e
    exact (x b u e).stay (fun c v _ q => k c v q) (fun c q => by rw [upd_ne (ne_of_none q hn)]; exact q) fun c xs q => by rw [upd_ne (ne_of_none q hn)]; exact q
end

/-- what may be read as u: it is u, or a known u -/
def Rd (H : Hp) (a : Addr) (u : HO) : Prop := H a = some u ∨ ∃ o, H a = some (.frz o u)
theorem Rd.ok {P : Program} {w : World} {H : Hp} {h : Heap} {a : Addr} {u : HO} (r : Rd H a u) (x : HOk P w H h) : ObjOk P w H h a u := by
  rcases r with r | ⟨o, r⟩
  · exact x a u r
  · obtain ⟨_, q⟩ := x a _ r
    exact q
/-- what may be written -/
def Mut : Option HO → Prop
  | some (.lst _) => True
  | some (.dK _) => True
  | some (.dT _) => True
  | some (.set _ _) => True
  | some (.ins _ _ _) => True
  | some (.ext _) => True
  | _ => False
section
variable {P : Program} {w : World} {H : Hp} {h h' : Heap} {x e : Addr} {o' : HO}
/-- the object at e is changed: x itself, or the dict of the instance x -/
theorem HOk.write (ok : HOk P w H h) (mu : Mut (H x)) (he : e = x ∨ H e = some (.own x)) (k : ∀ b u, b ≠ e → h.get? b = some u → h'.get? b = some u) (heo : ∃ u, h'.get? e = some u)
    (new : ObjOk P w (upd H x o') h' x o') : HOk P w (upd H x o') h' := fun b u q => by
  have nown : ∀ c y, H c = some (.own y) → c ≠ x := fun c y r z => by subst z; rw [r] at mu; exact mu
  have ntup : ∀ c xs, H c = some (.tup xs) → c ≠ x := fun c xs r z => by subst z; rw [r] at mu; exact mu
  by_cases hb : b = x
  · subst hb; rw [upd_same] at q; cases q; exact new
  · rw [upd_ne hb] at q
    by_cases hbe : b = e
    · have q' : H b = some (.own x) := by
        rcases he with z | z
        · exact absurd (hbe.trans z) hb
        · rw [hbe]; exact z
      rw [q] at q'; cases q'
      obtain ⟨v, hv⟩ := heo
      exact ⟨v, by rw [hbe]; exact hv⟩
    · refine (ok b u q).stay (fun c v hc r => k c v ?_ r) (fun c r => by rw [upd_ne (nown c b r)]; exact r) fun c xs r => by rw [upd_ne (ntup c xs r)]; exact r
      rcases hc with rfl | hc
      · exact hbe
      · rintro rfl
        rcases he with z | z
        · exact nown c b hc z
        · rw [hc] at z; cases z; exact hb rfl
end

/-! ### kept unless tracked; of the frames at fs (the callers') the slots may change (an exception that passes writes there); of the records at ex (iterators) nothing is said -/
structure Un (fs ex : List Addr) (H H' : Hp) (h h' : Heap) : Prop where
  keep : ∀ b o, h.get? b = some o → H b = none → b ∉ fs → b ∉ ex → h'.get? b = some o
  slot : ∀ b o, h.get? b = some o → H b = none → b ∈ fs → b ∉ ex → ∃ sl, h'.get? b = some { o with slots := sl }
  free : ∀ b o, h.get? b = some o → H b = none → b ∉ ex → H' b = none
  there : ∀ b o, h.get? b = some o → b ∉ ex → ∃ o', h'.get? b = some o'
  tups : ∀ b xs, H b = some (.tup xs) → H' b = some (.tup xs)
  frzs : ∀ b o u, H b = some (.frz o u) → H' b = some (.frz o u)
  tbls : ∀ b ps, H b = some (.tbl ps) → ∃ more, H' b = some (.tbl (ps ++ more))
section
variable {fs fs' ex ex' : List Addr} {H H1 H2 : Hp} {h h1 h2 h' : Heap} {a x e : Addr} {o : HO}
theorem Un.any (u : Un fs ex H H1 h h1) {b : Addr} {ob : Obj} (q : h.get? b = some ob) (n : H b = none) (hx : b ∉ ex) : ∃ sl, h1.get? b = some { ob with slots := sl } := by
  by_cases hb : b ∈ fs
  · exact u.slot b ob q n hb hx
  · exact ⟨ob.slots, u.keep b ob q n hb hx⟩
theorem Un.kept (k : ∀ b u, h.get? b = some u → h'.get? b = some u) : Un fs ex H H h h' :=
  ⟨fun b ob q _ _ _ => k b ob q, fun b ob q _ _ _ => ⟨ob.slots, k b ob q⟩, fun _ _ _ n _ => n, fun b ob q _ => ⟨ob, k b ob q⟩, fun _ _ q => q, fun _ _ _ q => q, fun _ ps q => ⟨#[], by rw [q]; simp⟩⟩
theorem Un.refl : Un fs ex H H h h := Un.kept fun _ _ q => q
theorem Un.laid (k : ∀ b u, h.get? b = some u → h'.get? b = some u) (hp : h.objs.size ≤ a) (hn : H a = none) : Un fs ex H (upd H a o) h h' where
  keep := fun b u q _ _ _ => k b u q
  slot := fun b u q _ _ _ => ⟨u.slots, k b u q⟩
  free := fun b u q n _ => by rw [upd_ne (Nat.ne_of_lt (Nat.lt_of_lt_of_le (Heap.lt_size q) hp))]; exact n
  there := fun b u q _ => ⟨u, k b u q⟩
  tups := fun b xs q => by rw [upd_ne (ne_of_none q hn)]; exact q
  frzs := fun b u xs q => by rw [upd_ne (ne_of_none q hn)]; exact q
  tbls := fun b ps q => ⟨#[], by rw [upd_ne (ne_of_none q hn), q]; simp⟩
theorem Un.write (mu : Mut (H x)) (he : e = x ∨ H e = some (.own x)) (k : ∀ b u, b ≠ e → h.get? b = some u → h'.get? b = some u) (heo : ∃ u, h'.get? e = some u) : Un fs ex H (upd H x o) h h' := by
  have hx : ∀ b, H b = none → b ≠ x := fun b n z => by subst z; rw [n] at mu; exact mu
  have hb : ∀ b, H b = none → b ≠ e := fun b n z => by
    subst z
    rcases he with r | r
    · exact hx b n r
    · rw [n] at r; cases r
  have hm : ∀ b u, H b = some u → ¬ Mut (some u) → b ≠ x := fun b u q nm z => by subst z; rw [q] at mu; exact nm mu
  refine ⟨fun b u q n _ _ => k b u (hb b n) q, fun b u q n _ _ => ⟨u.slots, k b u (hb b n) q⟩, fun b u q n _ => by rw [upd_ne (hx b n)]; exact n, fun b u q _ => ?_,
    fun b xs q => by rw [upd_ne (hm b _ q fun z => z)]; exact q, fun b u xs q => by rw [upd_ne (hm b _ q fun z => z)]; exact q, fun b ps q => ⟨#[], by rw [upd_ne (hm b _ q fun z => z), q]; simp⟩⟩
  by_cases hbe : b = e
  · subst hbe; exact heo
  · exact ⟨u, k b u hbe q⟩
end

/-! ### the heap without what is tracked -/
def trk (h : Heap) (H : Hp) : List Addr := (List.range h.objs.size).filter fun a => (H a).isSome
def hidT (h : Heap) (H : Hp) : Heap := PySem.W.hideAll h (trk h H)
theorem hidT_size (h : Heap) (H : Hp) : (hidT h H).objs.size = h.objs.size := PySem.W.hideAll_size _ _
theorem hidT_get {h : Heap} {H : Hp} {b : Addr} {o : Obj} (e : h.get? b = some o) (n : H b = none) : (hidT h H).get? b = some o :=
  PySem.W.hideAll_get _ e fun hm => by
    have q : (H b).isSome = true := (List.mem_filter.mp hm).2
    rw [n] at q; simp at q
theorem of_hidT {h : Heap} {H : Hp} {b : Addr} {o : Obj} (e : (hidT h H).get? b = some o) : h.get? b = some o ∧ H b = none := by
  have e' : h.get? b = some o := PySem.W.of_hideAll (trk h H) e
  refine ⟨e', ?_⟩
  cases q : H b with
  | none => rfl
  | some x =>
    have hm : b ∈ trk h H := List.mem_filter.mpr ⟨List.mem_range.mpr (Heap.lt_size e'), by simp [q]⟩
    have z : (hidT h H).get? b = none := PySem.W.hideAll_none (trk h H) hm
    rw [z] at e; cases e

/-! ### OpenK's ledger, filled with every new object but one -/
def allNews (g h : Heap) (L : Addr) : List (Addr × Obj) := (List.range h.objs.size).filterMap fun a => if a = L ∨ (g.get? a).isSome = true then none else (h.get? a).map fun o => (a, o)
def rest (g h : Heap) (L d : Addr) : List (Addr × Obj) := (allNews g h L).filter fun p => decide (p.1 ≠ d)
end L2

namespace L2
open PySem PySem.Spec PyProof.Rows

/-- the module's facts, over the base: the heap at the law's entry without what is tracked there -/
structure Mod (K : PySem.W.Frag) (mg : Str → Option Value) (base : Heap) : Prop where
  kin : K.In base
  glob : base.Ns mainGlobals mg
  blt : ∃ mb, base.Ns builtinsNs mb ∧ ∀ x : Str, x ≠ "__name__" → mb x = bootBuiltins x
  nolimit : base.NoLimit

/-- the context: a def's body (or a comprehension's block) running. base: fixed through the whole law; s₀, H₀: the entry; outer: the frames whose slots others may change (a def's callers); stack: all frames that run;
   ex: iterators that were made ahead of the entry and are walked here (a comprehension's); fn: the names whose cells were made at the entry (a def: all; a comprehension's block: its own); calm: not within an except suite; pn: pins that every state bears; xe: what is wanted of an exception that leaves the code -/
structure Cx where
  prog : Program
  w : World
  K : PySem.W.Frag
  mg : Str → Option Value
  base : Heap
  A : Around
  N : List Str
  s₀ : Shared
  H₀ : Hp
  env : Env
  outer : List Env
  stack : List Env
  ex : List Addr
  fn : Str → Bool
  calm : Bool
  pn : List (Addr × Obj)
  xe : Value → Shared → Prop
/-- the callers' frames -/
def frs (l : List Env) : List Addr := l.filterMap (·.frame)
abbrev Cx.fs (X : Cx) : List Addr := frs X.outer

def Vis (sc : Scope) (x : Str) : Prop := sc.names.lookup x = some .local ∨ sc.names.lookup x = some .cell ∨ sc.names.lookup x = some .free
def Loc (sc : Scope) (x : Str) : Prop := sc.names.lookup x = some .local ∨ sc.names.lookup x = some .cell
def Look (env : Env) (h : Heap) (m : Str → Option Value) (x : Str) (u : Value) : Prop :=
  (env.kindOf x = some .local ∧ m x = some u) ∨ ((env.kindOf x = some .cell ∨ env.kindOf x = some .free) ∧ ∃ c, env.cells.lookup x = some c ∧ h.IsCell c (some u))

structure Cx.Ok (X : Cx) : Prop where
  mod : Mod X.K X.mg X.base
  kind : X.env.scope.kind = .function
  glob : X.env.globals = mainGlobals
  blt : X.env.builtins = builtinsNs
  above : X.s₀.heap.objs.size ≤ X.env.locals
  inj : ∀ x y c, X.env.cells.lookup x = some c → X.env.cells.lookup y = some c → x = y
  has : ∀ x, (X.env.kindOf x = some .cell ∨ X.env.kindOf x = some .free) → ∃ c, X.env.cells.lookup x = some c
  cab : ∀ x c, X.fn x = true → X.env.cells.lookup x = some c → X.s₀.heap.objs.size ≤ c
  hd : X.calm = true → X.A.handled = none
  frames : X.A.frames = some X.stack
  stk : X.stack = X.outer ∨ (X.stack = X.env :: X.outer ∧ X.env.frame = some X.env.locals)
  exf : ∀ b ∈ X.ex, b ≠ X.env.locals ∧ ∀ x c, X.env.cells.lookup x = some c → c ≠ b
  bs : ∀ b o, X.base.get? b = some o → X.s₀.heap.get? b = some o ∧ X.H₀ b = none
  bsz : X.base.objs.size ≤ X.s₀.heap.objs.size
  noex : ∀ b o, X.base.get? b = some o → b ∉ X.ex
  exfs : ∀ b ∈ X.ex, b ∉ X.fs
  funs : X.s₀.heap.FunFrames X.base X.outer
  frf : ∀ b ∈ X.fs, X.H₀ b = none

structure Inv (X : Cx) (pins : List (Addr × Obj)) (σ : List (Option V)) (H : Hp) (s : Shared) : Prop where
  ok : X.Ok
  os : s.os = X.s₀.os
  bare : AllBare s.gens
  base : Un X.fs X.ex X.H₀ H X.s₀.heap s.heap
  loc : ∃ m, s.heap.Ns X.env.locals m ∧ ∀ (i : Nat) (x : Str) (v : V), X.N[i]? = some x → σ[i]? = some (some v) → Vis X.env.scope x → ∃ u, RelV v u ∧ Look X.env s.heap m x u
  cell : ∀ x c, X.env.cells.lookup x = some c → ∃ v, s.heap.IsCell c v
  free : H X.env.locals = none
  freeC : ∀ x c, X.env.cells.lookup x = some c → H c = none
  pin : ∀ p ∈ X.pn ++ pins, s.heap.get? p.1 = some p.2 ∧ H p.1 = none ∧ p.1 ≠ X.env.locals ∧ p.1 ∉ X.fs ∧ ∀ v, p.2.data ≠ .cell v
  hok : HOk X.prog X.w H s.heap
  len : σ.length = X.N.length

section
variable {X : Cx} {pins : List (Addr × Obj)} {σ : List (Option V)} {H H' : Hp} {s : Shared} {h' : Heap}

theorem Cx.Ok.nofr (ok : X.Ok) {b : Addr} {o : Obj} (e : X.base.get? b = some o) : b ∉ X.fs := fun hb => by
  have := (ok.funs.mem hb).1
  rw [e] at this; cases this
theorem Inv.bs (I : Inv X pins σ H s) : ∀ b o, X.base.get? b = some o → s.heap.get? b = some o ∧ H b = none := fun b o e =>
  ⟨I.base.keep b o (I.ok.bs b o e).1 (I.ok.bs b o e).2 (I.ok.nofr e) (I.ok.noex b o e), I.base.free b o (I.ok.bs b o e).1 (I.ok.bs b o e).2 (I.ok.noex b o e)⟩
theorem Inv.bk (I : Inv X pins σ H s) : ∀ b o, X.base.get? b = some o → s.heap.get? b = some o := fun b o e => (I.bs b o e).1
theorem Inv.mod (I : Inv X pins σ H s) : Mod X.K X.mg X.base := I.ok.mod
theorem Inv.kIn (I : Inv X pins σ H s) : X.K.In s.heap := I.ok.mod.kin.keeps I.bk
theorem Inv.lt (I : Inv X pins σ H s) : X.env.locals < s.heap.objs.size := let ⟨_, hn, _⟩ := I.loc; hn.lt
theorem Inv.sz (I : Inv X pins σ H s) : X.s₀.heap.objs.size ≤ s.heap.objs.size := Nat.le_trans I.ok.above (Nat.le_of_lt I.lt)
theorem Inv.nofs (I : Inv X pins σ H s) {a : Addr} (h : s.heap.objs.size ≤ a) : a ∉ X.fs := fun hb => by
  obtain ⟨_, o, ho, _⟩ := I.ok.funs.mem hb
  exact absurd (Nat.lt_of_lt_of_le (Heap.lt_size ho) (Nat.le_trans I.sz h)) (Nat.lt_irrefl _)
theorem Inv.cne (I : Inv X pins σ H s) : ∀ x c, X.env.cells.lookup x = some c → c ≠ X.env.locals := fun x c e z => by
  obtain ⟨v, o, ho, hd⟩ := I.cell x c e
  obtain ⟨m, ⟨o', es, ep, ho', hd', _⟩, _⟩ := I.loc
  rw [z, ho'] at ho; cases ho; rw [hd'] at hd; cases hd
theorem Inv.funs (I : Inv X pins σ H s) : s.heap.FunFrames X.base X.outer := by
  have all : ∀ (l : List Env), (∀ b ∈ frs l, b ∈ X.fs) → X.s₀.heap.FunFrames X.base l → s.heap.FunFrames X.base l := by
    intro l
    induction l with
    | nil => intro _ _; trivial
    | cons env r ih =>
      intro hs hl
      obtain ⟨hk, ⟨L, o, hf, hn, ho, hd⟩, hr⟩ := hl
      have hL : L ∈ X.fs := hs L (by unfold frs; rw [List.filterMap_cons, hf]; exact List.mem_cons_self)
      obtain ⟨sl, e⟩ := I.base.slot L o ho (I.ok.frf L hL) hL fun z => I.ok.exfs L z hL
      exact ⟨hk, ⟨L, _, hf, hn, e, hd⟩, ih (fun b hb => hs b (by unfold frs; rw [List.filterMap_cons, hf]; exact List.mem_cons_of_mem _ hb)) hr⟩
  exact all X.outer (fun _ hb => hb) I.ok.funs

/-- the frames that run, for a call -/
theorem Inv.stack (I : Inv X pins σ H s) : s.heap.FunFrames X.base X.stack := by
  rcases I.ok.stk with e | ⟨e, hf⟩
  · rw [e]; exact I.funs
  · rw [e]
    obtain ⟨m, hn, _⟩ := I.loc
    refine .cons (by rw [I.ok.kind]; decide) hf hn ?_ I.funs
    exact Heap.get?_none_of_le (Nat.le_trans I.ok.bsz I.ok.above)
theorem Inv.stkSub (I : Inv X pins σ H s) : ∀ b ∈ frs X.stack, b ∈ X.env.locals :: X.fs := fun b hb => by
  rcases I.ok.stk with e | ⟨e, hf⟩
  · rw [e] at hb; exact List.mem_cons_of_mem _ hb
  · rw [e] at hb
    unfold frs at hb
    rw [List.filterMap_cons, hf] at hb
    exact hb
theorem Inv.stkFree (I : Inv X pins σ H s) : ∀ b ∈ frs X.stack, H b = none := fun b hb => by
  rcases List.mem_cons.mp (I.stkSub b hb) with e | hb
  · rw [e]; exact I.free
  · obtain ⟨_, o, ho, _⟩ := I.ok.funs.mem hb
    exact I.base.free b o ho (I.ok.frf b hb) fun z => I.ok.exfs b z hb

/-- THE STEP: the untracked objects but the frame and the records at ch are kept (the callers' frames up to slots), the frame's map is kept, the new abstract heap is held -/
theorem Inv.step {g' : Array GenState} {t' : Nat} {d' : Drawn} {ch : List Addr} (I : Inv X pins σ H s)
    (hch : ∀ b ∈ ch, (b ∈ X.ex ∨ X.s₀.heap.objs.size ≤ b) ∧ b ≠ X.env.locals ∧ (∀ x c, X.env.cells.lookup x = some c → c ≠ b) ∧ ∀ p ∈ X.pn ++ pins, p.1 ≠ b)
    (keep : ∀ b o, b ≠ X.env.locals → b ∉ X.fs → b ∉ ch → s.heap.get? b = some o → H b = none → h'.get? b = some o)
    (slot : ∀ b o, b ≠ X.env.locals → b ∈ X.fs → b ∉ ch → s.heap.get? b = some o → H b = none → ∃ sl, h'.get? b = some { o with slots := sl }) (free : ∀ b o, b ∉ ch → s.heap.get? b = some o → H b = none → H' b = none)
    (there : ∀ b o, b ∉ ch → s.heap.get? b = some o → ∃ o', h'.get? b = some o')
    (tups : ∀ b xs, H b = some (.tup xs) → H' b = some (.tup xs)) (frzs : ∀ b o u, H b = some (.frz o u) → H' b = some (.frz o u)) (tbls : ∀ b ps, H b = some (.tbl ps) → ∃ more, H' b = some (.tbl (ps ++ more)))
    (ns : ∀ m, s.heap.Ns X.env.locals m → h'.Ns X.env.locals m) (hok : HOk X.prog X.w H' h') (hg : AllBare g') :
    Inv X pins σ H' { s with heap := h', gens := g', drawn := d', toks := t' } := by
  have neL : ∀ b o, X.s₀.heap.get? b = some o → b ≠ X.env.locals := fun b o e => Nat.ne_of_lt (Nat.lt_of_lt_of_le (Heap.lt_size e) I.ok.above)
  have neC : ∀ b o, X.s₀.heap.get? b = some o → b ∉ X.ex → b ∉ ch := fun b o e hx hb => by
    rcases (hch b hb).1 with z | z
    · exact hx z
    · exact absurd (Nat.lt_of_lt_of_le (Heap.lt_size e) z) (Nat.lt_irrefl _)
  have cellK : ∀ x c, X.env.cells.lookup x = some c → ∀ v, s.heap.IsCell c v → h'.IsCell c v := fun x c e v ⟨o, ho, hd⟩ => by
    have nch : c ∉ ch := fun z => (hch c z).2.2.1 x c e rfl
    by_cases hc : c ∈ X.fs
    · obtain ⟨sl, q⟩ := slot c o (I.cne x c e) hc nch ho (I.freeC x c e)
      exact ⟨_, q, hd⟩
    · exact ⟨o, keep c o (I.cne x c e) hc nch ho (I.freeC x c e), hd⟩
  refine ⟨I.ok, I.os, hg, ⟨fun b o e n hb hx => ?_, fun b o e n hb hx => ?_, fun b o e n hx => ?_, fun b o e hx => ?_, fun b xs e => tups b xs (I.base.tups b xs e), fun b o xs e => frzs b o xs (I.base.frzs b o xs e), fun b ps e => ?_⟩, ?_, fun x c e => ?_, ?_, fun x c e => ?_, fun p hp => ?_, hok, I.len⟩
  · exact keep b o (neL b o e) hb (neC b o e hx) (I.base.keep b o e n hb hx) (I.base.free b o e n hx)
  · obtain ⟨sl, e1⟩ := I.base.slot b o e n hb hx
    obtain ⟨sl', e2⟩ := slot b _ (neL b o e) hb (neC b o e hx) e1 (I.base.free b o e n hx)
    exact ⟨sl', e2⟩
  · obtain ⟨o', e1⟩ := I.base.there b o e hx
    exact free b o' (neC b o e hx) e1 (I.base.free b o e n hx)
  · obtain ⟨o', e1⟩ := I.base.there b o e hx
    exact there b o' (neC b o e hx) e1
  · obtain ⟨m1, e1⟩ := I.base.tbls b ps e
    obtain ⟨m2, e2⟩ := tbls b _ e1
    exact ⟨m1 ++ m2, by rw [e2, Array.append_assoc]⟩
  · obtain ⟨m, hn, hl⟩ := I.loc
    refine ⟨m, ns m hn, fun i x v e1 e2 e3 => ?_⟩
    obtain ⟨u, r, l⟩ := hl i x v e1 e2 e3
    refine ⟨u, r, ?_⟩
    rcases l with l | ⟨k, c, e, z⟩
    · exact .inl l
    · exact .inr ⟨k, c, e, cellK x c e _ z⟩
  · obtain ⟨v, z⟩ := I.cell x c e
    exact ⟨v, cellK x c e v z⟩
  · obtain ⟨m, ⟨o, _, _, ho, _⟩, _⟩ := I.loc
    exact free _ o (fun z => (hch _ z).2.1 rfl) ho I.free
  · obtain ⟨v, o, ho, hd⟩ := I.cell x c e
    exact free c o (fun z => (hch c z).2.2.1 x c e rfl) ho (I.freeC x c e)
  · obtain ⟨e, n, ne, nf, d⟩ := I.pin p hp
    have nch : p.1 ∉ ch := fun z => (hch p.1 z).2.2.2 p hp rfl
    exact ⟨keep p.1 p.2 ne nf nch e n, free p.1 p.2 nch e n, ne, nf, d⟩
/-- .. where the frame's own object is kept too -/
theorem Inv.un {t' : Nat} (I : Inv X pins σ H s) (u : Un X.fs [] H H' s.heap h') (hok : HOk X.prog X.w H' h') : Inv X pins σ H' { s with heap := h', toks := t' } := by
  obtain ⟨m, ⟨o, es, ep, ho, r⟩, _⟩ := id I.loc
  obtain ⟨sl, hL⟩ := u.any ho I.free (by simp)
  exact I.step (g' := s.gens) (d' := s.drawn) (ch := []) (fun _ z => nomatch z) (fun b o _ hb _ e n => u.keep b o e n hb (by simp)) (fun b o _ hb _ e n => u.slot b o e n hb (by simp)) (fun b o _ e n => u.free b o e n (by simp)) (fun b o _ e => u.there b o e (by simp)) u.tups u.frzs u.tbls (fun m' hm => by
    obtain ⟨o', es', ep', ho', r'⟩ := hm
    rw [ho] at ho'; cases ho'
    exact ⟨_, es', ep', hL, r'⟩) hok I.bare
/-- behind a call (or a comprehension's block): the slots of this frame may have changed too, the records at ch may have turned -/
theorem Inv.call {g' : Array GenState} {t' : Nat} {d' : Drawn} {ch : List Addr} (I : Inv X pins σ H s) (u : Un (frs X.stack) ch H H' s.heap h') (hok : HOk X.prog X.w H' h') (hg : AllBare g')
    (hch : ∀ b ∈ ch, (b ∈ X.ex ∨ X.s₀.heap.objs.size ≤ b) ∧ b ≠ X.env.locals ∧ (∀ x c, X.env.cells.lookup x = some c → c ≠ b) ∧ ∀ p ∈ X.pn ++ pins, p.1 ≠ b) :
    Inv X pins σ H' { s with heap := h', gens := g', drawn := d', toks := t' } := by
  obtain ⟨m, ⟨o, es, ep, ho, r⟩, _⟩ := id I.loc
  obtain ⟨sl, hL⟩ := u.any ho I.free fun z => (hch _ z).2.1 rfl
  exact I.step (ch := ch) hch (fun b o hL hb hc e n => u.keep b o e n (fun z => (List.mem_cons.mp (I.stkSub b z)).elim hL hb) hc) (fun b o _ _ hc e n => u.any e n hc) (fun b o hc e n => u.free b o e n hc) (fun b o hc e => u.there b o e hc) u.tups u.frzs u.tbls (fun m' hm => by
    obtain ⟨o', es', ep', ho', r'⟩ := hm
    rw [ho] at ho'; cases ho'
    exact ⟨_, es', ep', hL, r'⟩) hok hg
/-- an untracked record of ours (an iterator) has turned -/
theorem Inv.turned {t' : Nat} {it : Addr} (I : Inv X pins σ H s) (k : ∀ b o, b ≠ it → s.heap.get? b = some o → h'.get? b = some o) (hn : H it = none) (hL : it ≠ X.env.locals)
    (h1 : it ∈ X.ex ∨ X.s₀.heap.objs.size ≤ it) (h2 : ∀ x c, X.env.cells.lookup x = some c → c ≠ it) (h3 : ∀ p ∈ X.pn ++ pins, p.1 ≠ it) : Inv X pins σ H { s with heap := h', toks := t' } := by
  have nit : ∀ b u, H b = some u → b ≠ it := fun b u e z => by rw [z, hn] at e; cases e
  refine I.step (g' := s.gens) (d' := s.drawn) (ch := [it]) (fun b hb => ?_) (fun b o _ _ hc e _ => k b o (fun z => hc (by simp [z])) e) (fun b o _ _ hc e _ => ⟨o.slots, k b o (fun z => hc (by simp [z])) e⟩) (fun _ _ _ _ n => n)
    (fun b o hc e => ⟨o, k b o (fun z => hc (by simp [z])) e⟩) (fun _ _ e => e) (fun _ _ _ e => e) (fun b ps e => ⟨#[], by rw [e]; simp⟩) (fun m hm => ?_) (fun b u e => ?_) I.bare
  · have e : b = it := by simpa using hb
    subst e
    exact ⟨h1, hL, h2, h3⟩
  · obtain ⟨o, es, ep, ho, r⟩ := hm
    exact ⟨o, es, ep, k _ o (Ne.symm hL) ho, r⟩
  · refine (I.hok b u e).stay (fun c v hc q => k c v ?_ q) (fun _ q => q) fun _ _ q => q
    rcases hc with z | z
    · rw [z]; exact nit b u e
    · exact nit c _ z
theorem Inv.tok (I : Inv X pins σ H s) (t : Nat) : Inv X pins σ H { s with toks := t } := I.un (h' := s.heap) (t' := t) Un.refl I.hok
/-- all objects kept -/
theorem Inv.kept {t' : Nat} (I : Inv X pins σ H s) (k : ∀ b u, s.heap.get? b = some u → h'.get? b = some u) : Inv X pins σ H { s with heap := h', toks := t' } := I.un (Un.kept k) (I.hok.kept k)
/-- a new object laid and tracked -/
theorem Inv.laid {a : Addr} {o : HO} {t' : Nat} (I : Inv X pins σ H s) (k : ∀ b u, s.heap.get? b = some u → h'.get? b = some u) (hp : s.heap.objs.size ≤ a) (new : ObjOk X.prog X.w (upd H a o) h' a o) :
    Inv X pins σ (upd H a o) { s with heap := h', toks := t' } := I.un (Un.laid k hp (I.hok.fresh hp)) (I.hok.laid k hp new)
/-- an object written -/
theorem Inv.write {x e : Addr} {o : HO} {t' : Nat} (I : Inv X pins σ H s) (mu : Mut (H x)) (he : e = x ∨ H e = some (.own x)) (k : ∀ b u, b ≠ e → s.heap.get? b = some u → h'.get? b = some u) (heo : ∃ u, h'.get? e = some u)
    (new : ObjOk X.prog X.w (upd H x o) h' x o) : Inv X pins σ (upd H x o) { s with heap := h', toks := t' } := I.un (Un.write mu he k heo) (I.hok.write mu he k heo new)
theorem Inv.pins_of {pins' : List (Addr × Obj)} (I : Inv X pins σ H s) (h : ∀ p ∈ pins', s.heap.get? p.1 = some p.2 ∧ H p.1 = none ∧ p.1 ≠ X.env.locals ∧ p.1 ∉ X.fs ∧ ∀ v, p.2.data ≠ .cell v) : Inv X pins' σ H s :=
  ⟨I.ok, I.os, I.bare, I.base, I.loc, I.cell, I.free, I.freeC, fun p hp => (List.mem_append.mp hp).elim (fun z => I.pin p (List.mem_append_left _ z)) (h p), I.hok, I.len⟩

theorem nodup_ix {N : List Str} (hN : N.Nodup) {i j : Nat} {x : Str} (a : N[i]? = some x) (b : N[j]? = some x) : i = j := by
  obtain ⟨h1, e1⟩ := List.getElem?_eq_some_iff.mp a
  obtain ⟨h2, e2⟩ := List.getElem?_eq_some_iff.mp b
  exact (List.getElem_inj hN).mp (e1.trans e2.symm)

/-- a name is stored; what changed -/
theorem store_ok2 {M : Model} {A : Around} {E : Value → Shared → Prop} {i : Nat} {x : Str} {v : V} {u : Value} {Q : Unit → Shared → Prop} (I : Inv X pins σ H s) (hN : X.N.Nodup) (hi : X.N[i]? = some x) (hx : Loc X.env.scope x) (r : RelV v u)
    (h : ∀ s', Inv X pins (σ.set i (some v)) H s' → (∃ a, Heap.SameBut a s.heap s'.heap ∧ (a = X.env.locals ∨ X.env.cells.lookup x = some a)) → Q () s') (hf : X.fn x = true ∨ X.env.scope.names.lookup x = some .local := by first | exact .inl rfl | exact .inr rfl | assumption) : wpAny M A (storeName X.env x u) Q E s := by
  obtain ⟨m, hn, hl⟩ := id I.loc
  have hcls : (X.env.scope.kind == .class || (X.env.scope.kind == .module && X.env.locals != X.env.globals)) = false := by rw [I.ok.kind]; rfl
  have hiσ : i < σ.length := by rw [I.len]; exact (List.getElem?_eq_some_iff.mp hi).1
  have cne := I.cne
  have tracked : ∀ {a : Addr} {h' : Heap}, (∃ o, s.heap.get? a = some o ∧ H a = none) → Heap.SameBut a s.heap h' → HOk X.prog X.w H h' := fun {a h'} ha hs b ob e => by
    obtain ⟨_, _, hfree⟩ := ha
    refine (I.hok b ob e).stay (fun c w' hc q => (hs.2 c ?_).trans q) (fun _ q => q) fun _ _ q => q
    rintro rfl
    rcases hc with rfl | hc
    · rw [hfree] at e; cases e
    · rw [hfree] at hc; cases hc
  rcases hx with hk | hk
  · refine wpAny_storeName_local hk hn (fun h' hn' hs => ?_) hcls
    obtain ⟨oL, _, _, hoL, _⟩ := id hn
    refine h _ ⟨I.ok, I.os, I.bare, ⟨fun b o e n hb hx => ?_, fun b o e n hb hx => ?_, I.base.free, fun b o e hx => ?_, I.base.tups, I.base.frzs, I.base.tbls⟩, ⟨_, hn', fun j y v' e1 e2 e3 => ?_⟩, fun y c e => ?_, I.free, I.freeC, fun p hp => ?_, tracked ⟨oL, hoL, I.free⟩ hs, by simpa using I.len⟩ ⟨_, hs, .inl rfl⟩
    · exact (hs.2 b (Nat.ne_of_lt (Nat.lt_of_lt_of_le (Heap.lt_size e) I.ok.above))).trans (I.base.keep b o e n hb hx)
    · obtain ⟨sl, e1⟩ := I.base.slot b o e n hb hx
      exact ⟨sl, (hs.2 b (Nat.ne_of_lt (Nat.lt_of_lt_of_le (Heap.lt_size e) I.ok.above))).trans e1⟩
    · obtain ⟨o', e1⟩ := I.base.there b o e hx
      exact ⟨o', (hs.2 b (Nat.ne_of_lt (Nat.lt_of_lt_of_le (Heap.lt_size e) I.ok.above))).trans e1⟩
    · by_cases hj : j = i
      · subst hj
        rw [hi] at e1; cases e1
        rw [List.getElem?_set_self hiσ] at e2
        cases e2
        exact ⟨u, r, .inl ⟨hk, by simp⟩⟩
      · rw [List.getElem?_set_ne (Ne.symm hj)] at e2
        obtain ⟨u', r', q⟩ := hl j y v' e1 e2 e3
        refine ⟨u', r', ?_⟩
        rcases q with ⟨k, e⟩ | ⟨k, c, e, z⟩
        · refine .inl ⟨k, ?_⟩
          have : y ≠ x := fun e => hj (nodup_ix hN e1 (e ▸ hi))
          simp [this, e]
        · exact .inr ⟨k, c, e, z.sameBut hs (cne y c e)⟩
    · obtain ⟨w', z⟩ := I.cell y c e
      exact ⟨w', z.sameBut hs (cne y c e)⟩
    · obtain ⟨e, n, ne, nf, d⟩ := I.pin p hp
      exact ⟨(hs.2 p.1 ne).trans e, n, ne, nf, d⟩
  · have hfn : X.fn x = true := by
      rcases hf with z | z
      · exact z
      · rw [z] at hk; cases hk
    obtain ⟨c, hc⟩ := I.ok.has x (.inl hk)
    obtain ⟨w', z⟩ := I.cell x c hc
    refine wpAny_storeName_cell I.ok.kind hk hc z (fun h' hc' hs => ?_)
    obtain ⟨oc, hoc, hocd⟩ := id z
    refine h { s with heap := h' } ⟨I.ok, I.os, I.bare, ⟨fun b o e n hb hx => ?_, fun b o e n hb hx => ?_, I.base.free, fun b o e hx => ?_, I.base.tups, I.base.frzs, I.base.tbls⟩, ⟨m, hn.sameBut hs (Ne.symm (cne x c hc)), fun j y v' e1 e2 e3 => ?_⟩, fun y c' e => ?_, I.free, I.freeC, fun p hp => ?_, tracked ⟨oc, hoc, I.freeC x c hc⟩ hs, by simpa using I.len⟩ ⟨c, hs, .inr hc⟩
    · exact (hs.2 b (Nat.ne_of_lt (Nat.lt_of_lt_of_le (Heap.lt_size e) (I.ok.cab x c hfn hc)))).trans (I.base.keep b o e n hb hx)
    · obtain ⟨sl, e1⟩ := I.base.slot b o e n hb hx
      exact ⟨sl, (hs.2 b (Nat.ne_of_lt (Nat.lt_of_lt_of_le (Heap.lt_size e) (I.ok.cab x c hfn hc)))).trans e1⟩
    · obtain ⟨o', e1⟩ := I.base.there b o e hx
      exact ⟨o', (hs.2 b (Nat.ne_of_lt (Nat.lt_of_lt_of_le (Heap.lt_size e) (I.ok.cab x c hfn hc)))).trans e1⟩
    · by_cases hj : j = i
      · subst hj
        rw [hi] at e1; cases e1
        rw [List.getElem?_set_self hiσ] at e2
        cases e2
        exact ⟨u, r, .inr ⟨.inl hk, c, hc, hc'⟩⟩
      · rw [List.getElem?_set_ne (Ne.symm hj)] at e2
        obtain ⟨u', r', q⟩ := hl j y v' e1 e2 e3
        refine ⟨u', r', ?_⟩
        rcases q with q | ⟨k, c', e, z'⟩
        · exact .inl q
        · refine .inr ⟨k, c', e, z'.sameBut hs ?_⟩
          rintro rfl
          exact hj (nodup_ix hN e1 (I.ok.inj _ _ _ e hc ▸ hi))
    · by_cases hcc : c' = c
      · subst hcc; exact ⟨_, hc'⟩
      · obtain ⟨w2, z2⟩ := I.cell y c' e
        exact ⟨w2, z2.sameBut hs hcc⟩
    · obtain ⟨e, n, ne, nf, d⟩ := I.pin p hp
      refine ⟨(hs.2 p.1 ?_).trans e, n, ne, nf, d⟩
      intro q
      rw [q, hoc] at e
      have q' : oc = p.2 := Option.some.inj e
      exact d w' (by rw [← q']; exact hocd)
theorem store_ok {M : Model} {A : Around} {E : Value → Shared → Prop} {i : Nat} {x : Str} {v : V} {u : Value} {Q : Unit → Shared → Prop} (I : Inv X pins σ H s) (hN : X.N.Nodup) (hi : X.N[i]? = some x) (hx : Loc X.env.scope x) (r : RelV v u)
    (h : ∀ s', Inv X pins (σ.set i (some v)) H s' → Q () s') (hf : X.fn x = true ∨ X.env.scope.names.lookup x = some .local := by first | exact .inl rfl | exact .inr rfl | assumption) : wpAny M A (storeName X.env x u) Q E s :=
  store_ok2 I hN hi hx r (fun s' I' _ => h s' I') hf
/-- behind a call or a block, the state as it is -/
theorem Inv.call' {s' : Shared} {ch : List Addr} (I : Inv X pins σ H s) (ho : s'.os = s.os) (u : Un (frs X.stack) ch H H' s.heap s'.heap) (hok : HOk X.prog X.w H' s'.heap) (hg : AllBare s'.gens)
    (hch : ∀ b ∈ ch, (b ∈ X.ex ∨ X.s₀.heap.objs.size ≤ b) ∧ b ≠ X.env.locals ∧ (∀ x c, X.env.cells.lookup x = some c → c ≠ b) ∧ ∀ p ∈ X.pn ++ pins, p.1 ≠ b) : Inv X pins σ H' s' := by
  obtain ⟨h', g', d', t', o'⟩ := s'
  have e : o' = s.os := ho
  subst e
  exact I.call (g' := g') (t' := t') (d' := d') u hok hg hch
end

/-! ### the judgements -/
/-- an exception: its class, its own dict's address (where it has one), the abstract heap behind it -/
abbrev XK := Value → Option Addr → Hp → Prop
abbrev St := List (Option V)
abbrev VK := V → Hp → Prop
/-- an expression's reading; a test's; an argument list's -/
abbrev TE := St → Hp → VK → Prop
abbrev TT := St → Hp → (Bool → Hp → Prop) → Prop
abbrev TA := St → Hp → (List V → Hp → Prop) → Prop
/-- what is wanted behind a statement -/
structure Ends where
  nx : St → Hp → Prop
  rt : VK
  bk : St → Hp → Prop := fun _ _ => False
  ct : St → Hp → Prop := fun _ _ => False
abbrev TS := Ends → St → Hp → Prop

def EP (X : Cx) (pins : List (Addr × Obj)) (σ : St) (Q : VK) (u : Value) (s' : Shared) : Prop := ∃ v H', Inv X pins σ H' s' ∧ RelV v u ∧ Q v H'
def TP (X : Cx) (pins : List (Addr × Obj)) (σ : St) (Q : Bool → Hp → Prop) (b : Bool) (s' : Shared) : Prop := ∃ H', Inv X pins σ H' s' ∧ Q b H'
def AP (X : Cx) (pins : List (Addr × Obj)) (σ : St) (Q : List V → Hp → Prop) (us : List Value) (s' : Shared) : Prop := ∃ vs H', Inv X pins σ H' s' ∧ Vals vs us ∧ Q vs H'
def SP (X : Cx) (pins : List (Addr × Obj)) (D : Ends) (f : Flow) (s' : Shared) : Prop :=
  match f with
  | .next => ∃ σ' H', Inv X pins σ' H' s' ∧ D.nx σ' H'
  | .brk => ∃ σ' H', Inv X pins σ' H' s' ∧ D.bk σ' H'
  | .cont => ∃ σ' H', Inv X pins σ' H' s' ∧ D.ct σ' H'
  | .ret u => ∃ v σ' H', Inv X pins σ' H' s' ∧ RelV v u ∧ D.rt v H'

def PE (X : Cx) (e : Expr) (t : TE) : Prop :=
  ∀ (pins : List (Addr × Obj)) (s : Shared) (σ : St) (H : Hp) (Q : VK), Inv X pins σ H s → t σ H Q → wpAny (model X.prog X.w) X.A (eval e X.env) (EP X pins σ Q) X.xe s
def PT (X : Cx) (e : Expr) (t : TT) : Prop :=
  ∀ (pins : List (Addr × Obj)) (s : Shared) (σ : St) (H : Hp) (Q : Bool → Hp → Prop), Inv X pins σ H s → t σ H Q → wpAny (model X.prog X.w) X.A (isTrue e X.env (eval e X.env)) (TP X pins σ Q) X.xe s
/-- a test whatever its 'whole' is (and, or) -/
def PW (X : Cx) (e : Expr) (t : TT) : Prop :=
  ∀ (whole : Sem Value) (pins : List (Addr × Obj)) (s : Shared) (σ : St) (H : Hp) (Q : Bool → Hp → Prop), Inv X pins σ H s → t σ H Q → wpAny (model X.prog X.w) X.A (isTrue e X.env whole) (TP X pins σ Q) X.xe s
theorem PW.pt {X : Cx} {e : Expr} {t : TT} (h : PW X e t) : PT X e t := h _
/-- an argument list (no star), from the left -/
def PA (X : Cx) (es : List Expr) (t : TA) : Prop :=
  ∀ (pos : Pos) (pins : List (Addr × Obj)) (s : Shared) (σ : St) (H : Hp) (Q : List V → Hp → Prop), Inv X pins σ H s → t σ H Q → wpAny (model X.prog X.w) X.A (spliced (backTo pos (starEach es X.env))) (AP X pins σ Q) X.xe s
def PS (X : Cx) (st : Stmt) (t : TS) : Prop :=
  ∀ (pins : List (Addr × Obj)) (s : Shared) (σ : St) (H : Hp) (D : Ends), Inv X pins σ H s → t D σ H → wpAny (model X.prog X.w) X.A (exec st X.env) (SP X pins D) X.xe s
def PSs (X : Cx) (st : List Stmt) (t : TS) : Prop :=
  ∀ (pins : List (Addr × Obj)) (s : Shared) (σ : St) (H : Hp) (D : Ends), Inv X pins σ H s → t D σ H → wpAny (model X.prog X.w) X.A (execs st X.env) (SP X pins D) X.xe s
/-- weaken the end -/
theorem thn {α : Type} {t : Sem α} {Q Q' : α → Shared → Prop} {M : Model} {A : Around} {E : Value → Shared → Prop} {s : Shared} (h : wpAny M A t Q E s) (hQ : ∀ a s, Q a s → Q' a s) : wpAny M A t Q' E s := wpAny_mono h hQ fun _ _ x => x
end L2

namespace L2
open PySem PySem.Spec PyProof.Rows
section
variable {X : Cx}

/-- two expressions in a row -/
theorem bin {a b : Expr} {ta tb : TE} (ha : PE X a ta) (hb : PE X b tb) {pins : List (Addr × Obj)} {s : Shared} {σ : St} {H : Hp} {R : V → V → Hp → Prop} (I : Inv X pins σ H s) (h : ta σ H fun x H1 => tb σ H1 fun y H2 => R x y H2)
    {α : Type} {Q : α → Shared → Prop} {f : Value → Value → Sem α}
    (hf : ∀ v u s2 x y H2, Inv X pins σ H2 s2 → RelV x v → RelV y u → R x y H2 → wpAny (model X.prog X.w) X.A (f v u) Q X.xe s2) :
    wpAny (model X.prog X.w) X.A (eval a X.env) (fun v s₁ => wpAny (model X.prog X.w) X.A (eval b X.env) (fun u s₂ => wpAny (model X.prog X.w) X.A (f v u) Q X.xe s₂) X.xe s₁) X.xe s := by
  refine thn (ha pins s σ H _ I h) fun v s1 ⟨x, H1, I1, r1, q1⟩ => ?_
  refine thn (hb pins s1 σ H1 _ I1 q1) fun u s2 ⟨y, H2, I2, r2, q2⟩ => ?_
  exact hf v u s2 x y H2 I2 r1 r2 q2

/-! ### names and constants -/
def tVar (i : Nat) : TE := fun σ H Q => ∃ v, σ[i]? = some (some v) ∧ Q v H
def tC (v : V) : TE := fun _ H Q => Q v H
theorem pe_var {i : Nat} {x : Str} {pos : Pos} (hN : X.N[i]? = some x) (hv : Vis X.env.scope x) (hd : (x == ("__debug__" : Str)) = false := by decide) (hcd : (x == ("__classdict__" : Str)) = false := by decide) : PE X (.Name x pos) (tVar i) := by
  intro pins s σ H Q I h
  obtain ⟨v, e, h⟩ := h
  obtain ⟨m, hn, hl⟩ := I.loc
  obtain ⟨u, r, l⟩ := hl i x v hN e hv
  have fin : EP X pins σ Q u s := ⟨v, H, I, r, h⟩
  rcases l with ⟨hk, hm⟩ | ⟨hk, c, hc, hcell⟩
  · exact wpAny_Name (wpAny_loadName_local I.ok.kind hk hn hm fin) hd
  · rcases hk with hk | hk
    · exact wpAny_Name (wpAny_loadName_cell I.ok.kind hk hc hcell fin) hd
    · exact wpAny_Name (wpAny_loadName_free I.ok.kind hk hc hcell fin hcd) hd
theorem pe_int {i j pos} : PE X (.Constant (.int i) j pos) (tC (.int i)) := fun _ _ _ H _ I h => wpAny_Constant_int ⟨.int i, H, I.tok _, ⟨_, rfl⟩, h⟩
theorem pe_bl {b j pos} : PE X (.Constant (.bool b) j pos) (tC (.bl b)) := fun _ _ _ H _ I h => Constant_bool ⟨.bl b, H, I, rfl, h⟩
theorem pe_non {j pos} : PE X (.Constant .none j pos) (tC .non) := fun _ _ _ H _ I h => Constant_none ⟨.non, H, I, rfl, h⟩
theorem pe_str {x j pos} : PE X (.Constant (.str x) j pos) (tC (.str x)) := fun _ _ _ H _ I h => Calls.Constant_str ⟨.str x, H, I.tok _, ⟨_, rfl⟩, h⟩

/-- a global name of the def -/
def Gl (X : Cx) (x : Str) : Prop := X.env.kindOf x = some .globalImplicit
theorem ld_glob {E : Value → Shared → Prop} {pins : List (Addr × Obj)} {s : Shared} {σ : St} {H : Hp} {x : Str} {u : Value} {pos : Pos} {Q : Value → Shared → Prop} (I : Inv X pins σ H s) (hg : Gl X x) (hm : X.mg x = some u) (h : Q u s)
    (hd : (x == ("__debug__" : Str)) = false := by decide) : wpAny (model X.prog X.w) X.A (eval (.Name x pos) X.env) Q E s :=
  Calls.Name_function_global I.ok.kind hg (Calls.loadGlobal_global (by rw [I.ok.glob]; exact I.mod.glob.keeps I.bk) hm h) hd
theorem ld_blt {E : Value → Shared → Prop} {pins : List (Addr × Obj)} {s : Shared} {σ : St} {H : Hp} {x : Str} {u : Value} {pos : Pos} {Q : Value → Shared → Prop} (I : Inv X pins σ H s) (hg : Gl X x) (hm : X.mg x = none) (hv : bootBuiltins x = some u) (h : Q u s)
    (hn : x ≠ "__name__" := by decide) (hd : (x == ("__debug__" : Str)) = false := by decide) : wpAny (model X.prog X.w) X.A (eval (.Name x pos) X.env) Q E s := by
  obtain ⟨mb, h1, h2⟩ := I.mod.blt
  exact Calls.Name_function_global I.ok.kind hg (Calls.loadGlobal_builtin (by rw [I.ok.glob]; exact I.mod.glob.keeps I.bk) hm (by rw [I.ok.blt]; exact h1.keeps I.bk) ((h2 x hn).trans hv) h) hd
/-- a module's constant, a class, a function, as a value -/
theorem pe_glob {x : Str} {v : V} {u : Value} {pos : Pos} (hg : Gl X x) (hm : X.mg x = some u) (r : RelV v u) (hd : (x == ("__debug__" : Str)) = false := by decide) : PE X (.Name x pos) (tC v) :=
  fun _ _ _ H _ I h => ld_glob I hg hm ⟨v, H, I, r, h⟩ hd
theorem pe_bltn {x : Str} {v : V} {u : Value} {pos : Pos} (hg : Gl X x) (hm : X.mg x = none) (hv : bootBuiltins x = some u) (r : RelV v u) (hn : x ≠ "__name__" := by decide) (hd : (x == ("__debug__" : Str)) = false := by decide) : PE X (.Name x pos) (tC v) :=
  fun _ _ _ H _ I h => ld_blt I hg hm hv ⟨v, H, I, r, h⟩ hn hd

/-! ### arithmetic -/
/-- two ints -/
def t2I (ta tb : TE) (k : Int → Int → Hp → Prop) : St → Hp → Prop := fun σ H => ta σ H fun x H1 => tb σ H1 fun y H2 => ∃ i j, x = .int i ∧ y = .int j ∧ k i j H2
def tAdd (ta tb : TE) : TE := fun σ H Q => t2I ta tb (fun i j H2 => Q (.int (i + j)) H2) σ H
def tSub (ta tb : TE) : TE := fun σ H Q => t2I ta tb (fun i j H2 => Q (.int (i - j)) H2) σ H
/-- the left factor below 2^64 -/
def tMul (ta tb : TE) : TE := fun σ H Q => t2I ta tb (fun i j H2 => (-(2 ^ 64) < i ∧ i < 2 ^ 64) ∧ Q (.int (i * j)) H2) σ H
variable {a b : Expr} {ta tb : TE} {pos : Pos}

/-! ### comparisons -/
def PC (X : Cx) (op : CmpOp) (a b : Expr) (t : TE) : Prop :=
  ∀ (pins : List (Addr × Obj)) (s : Shared) (σ : St) (H : Hp) (Q : VK), Inv X pins σ H s → t σ H Q →
    wpAny (model X.prog X.w) X.A (eval a X.env) (fun v s₁ => wpAny (model X.prog X.w) X.A (eval b X.env) (fun u s₂ => wpAny (model X.prog X.w) X.A (compareOp op v u) (EP X pins σ Q) X.xe s₂) X.xe s₁) X.xe s
def tCmp (p : Int → Int → Bool) (ta tb : TE) : TE := fun σ H Q => t2I ta tb (fun i j H2 => Q (.bl (p i j)) H2) σ H
abbrev tLt : TE → TE → TE := tCmp fun i j => decide (i < j)
abbrev tLe : TE → TE → TE := tCmp fun i j => decide (i ≤ j)
abbrev tGt : TE → TE → TE := tCmp fun i j => decide (j < i)
abbrev tGe : TE → TE → TE := tCmp fun i j => decide (j ≤ i)
abbrev tEqI : TE → TE → TE := tCmp fun i j => decide (i = j)
abbrev tNeI : TE → TE → TE := tCmp fun i j => !decide (i = j)
/-- is None -/
def tIsN (ta : TE) : TE := fun σ H Q => ta σ H fun x H1 => Q (.bl (decide (x = .non))) H1
def tNotN (ta : TE) : TE := fun σ H Q => ta σ H fun x H1 => Q (.bl (!decide (x = .non))) H1
/-- a comparison as a value, as a test -/
def tB (t : TE) : TT := fun σ H Q => t σ H fun x H1 => ∃ c, x = .bl c ∧ Q c H1
theorem pt_cmp {op : CmpOp} {t : TE} (h : PC X op a b t) (h1 : behindInMarks op b = false := by first | exact nobehind _ (by decide) (by decide) | rfl) : PT X (.Compare a [op] [b] pos) (tB t) := by
  intro pins s σ H Q I hw
  refine wpAny_isTrue_Compare1 (thn (h pins s σ H _ I hw) fun v s1 h1 => thn h1 fun u s2 h2 => thn h2 fun c s3 ⟨x, H1, I1, r1, q1⟩ => ?_) h1
  obtain ⟨d, rfl, q⟩ := q1
  cases r1
  exact wpAny_truthy_bool ⟨H1, I1, q⟩
/-- an expression whose value is a bool, as a test -/
theorem pt_val {e : Expr} {t : TE} (h : PE X e t) (he : ∀ whole, isTrue e X.env whole = (do let v ← whole; standAt e.pos; holding [v] (truthy v)) := by intro _; rfl) : PT X e (tB t) := by
  intro pins s σ H Q I hw
  refine isTrue_plain (thn (h pins s σ H _ I hw) fun v s1 ⟨x, H1, I1, r1, q1⟩ => ?_) (he _)
  obtain ⟨d, rfl, q⟩ := q1
  cases r1
  exact wpAny_truthy_bool ⟨H1, I1, q⟩

/-! ### and, or, not -/
variable {tA tB' : TT} {rest : List Expr}
def tAnd (t u : TT) : TT := fun σ H Q => t σ H fun c H1 => if c = true then u σ H1 Q else Q false H1
def tOr (t u : TT) : TT := fun σ H Q => t σ H fun c H1 => if c = true then Q true H1 else u σ H1 Q
def tNot (t : TT) : TT := fun σ H Q => t σ H fun c H1 => Q (!c) H1
theorem pw_or1 (ha : PT X a tA) : PW X (.BoolOp .Or [a] pos) tA := by
  intro wh pins s σ H Q I h
  refine isTrue_or (thn (ha pins s σ H Q I h) fun c s1 e => ?_)
  cases c with
  | false => exact isTrue_or_nil e
  | true => exact e
theorem pw_or (ha : PT X a tA) (hb : PW X (.BoolOp .Or (b :: rest) pos) tB') : PW X (.BoolOp .Or (a :: b :: rest) pos) (tOr tA tB') := by
  intro wh pins s σ H Q I h
  refine isTrue_or (thn (ha pins s σ H _ I h) fun c s1 ⟨H1, I1, q1⟩ => ?_)
  cases c with
  | true => exact ⟨H1, I1, q1⟩
  | false => exact hb wh pins s1 σ H1 Q I1 q1
theorem pt_not (ha : PT X a tA) : PT X (.UnaryOp .Not a pos) (tNot tA) := by
  intro pins s σ H Q I h
  exact isTrue_not (ha pins s σ H (fun c H1 => Q (!c) H1) I h)
/-- .. as values (bools) -/
def tAndV (ta tb : TE) : TE := fun σ H Q => ta σ H fun x H1 => ∃ c, x = .bl c ∧ if c = true then tb σ H1 Q else Q (.bl false) H1
def tOrV (ta tb : TE) : TE := fun σ H Q => ta σ H fun x H1 => ∃ c, x = .bl c ∧ if c = true then Q (.bl true) H1 else tb σ H1 Q
def tNotV (ta : TE) : TE := fun σ H Q => ta σ H fun x H1 => ∃ c, x = .bl c ∧ Q (.bl (!c)) H1
theorem pe_one {op} {t : TE} (h : PE X a t) : PE X (.BoolOp op [a] pos) t := fun pins s σ H Q I hw => BoolOp_one (h pins s σ H Q I hw)
theorem pe_and (ha : PE X a ta) (hb : PE X (.BoolOp .And (b :: rest) pos) tb) : PE X (.BoolOp .And (a :: b :: rest) pos) (tAndV ta tb) := by
  intro pins s σ H Q I h
  refine BoolOp_and (thn (ha pins s σ H _ I h) fun v s1 ⟨x, H1, I1, r1, q1⟩ => ?_)
  obtain ⟨c, rfl, q1⟩ := q1
  cases r1
  refine wpAny_truthy_bool ?_
  cases c with
  | true => exact hb pins s1 σ H1 Q I1 q1
  | false => exact ⟨.bl false, H1, I1, rfl, q1⟩
theorem pe_not (ha : PE X a ta) : PE X (.UnaryOp .Not a pos) (tNotV ta) := by
  intro pins s σ H Q I h
  refine UnaryOp_ (thn (ha pins s σ H _ I h) fun v s1 ⟨x, H1, I1, r1, q1⟩ => ?_)
  obtain ⟨c, rfl, q1⟩ := q1
  cases r1
  exact not_of (wpAny_truthy_bool ⟨.bl (!c), H1, I1, rfl, q1⟩)
/-- a if t else b -/
def tIf (t : TT) (ta tb : TE) : TE := fun σ H Q => t σ H fun c H1 => if c = true then ta σ H1 Q else tb σ H1 Q
end
end L2

namespace L2
open PySem PySem.Spec PyProof.Rows

/-! ### a list, a tuple that is read: tracked, frozen, or an object of the module -/
def SqL (K : PySem.W.Frag) (H : Hp) (a : Addr) (xs : List V) : Prop :=
  Rd H a (.lst xs) ∨
    ∃ (o : Obj) (its : Array Value) (n : Nat), K.lookup a = some o ∧ o.cls = .type "list" ∧ o.dict = none ∧ o.data = .seq its n ∧ its.size ≤ sizeLine ∧ Vals xs its.toList
def SqT (K : PySem.W.Frag) (H : Hp) (a : Addr) (xs : List V) : Prop :=
  Rd H a (.tup xs) ∨
    ∃ (o : Obj) (its : Array Value) (n : Nat), K.lookup a = some o ∧ o.cls = .type "tuple" ∧ o.data = .seq its n ∧ its.size ≤ sizeLine ∧ Vals xs its.toList
def absV : Value → Option V
  | .none => some .non
  | .bool b => some (.bl b)
  | .int i _ => some (.int i)
  | .str x _ => some (.str x)
  | .bytes b _ => some (.byt b)
  | .float b _ => some (.flt b)
  | .ref a => some (.ref a)
  | .type n => some (.ty n)
  | _ => none
theorem RelV.abs {x : V} {u : Value} (r : RelV x u) : absV u = some x := by
  cases x with
  | non => cases r; rfl
  | bl _ => cases r; rfl
  | int _ => obtain ⟨t, rfl⟩ := r; rfl
  | str _ => obtain ⟨t, rfl⟩ := r; rfl
  | byt _ => obtain ⟨t, rfl⟩ := r; rfl
  | flt _ => obtain ⟨t, rfl⟩ := r; rfl
  | ref _ => cases r; rfl
  | ty _ => cases r; rfl
theorem RelV.inj {x y : V} {u : Value} (r : RelV x u) (q : RelV y u) : x = y := Option.some.inj (r.abs.symm.trans q.abs)
theorem Vals.inj : ∀ {xs ys : List V} {us : List Value}, Vals xs us → Vals ys us → xs = ys
  | _, _, _, .nil, .nil => rfl
  | _, _, _, .cons r t, .cons r' t' => by rw [r.inj r', Vals.inj t t']
section
variable {X : Cx} {pins : List (Addr × Obj)} {σ : St} {H : Hp} {s : Shared} {a : Addr} {xs ys : List V}
theorem SqL.of {K : PySem.W.Frag} (h : H a = some (.lst xs)) : SqL K H a xs := .inl (.inl h)
theorem SqT.of {K : PySem.W.Frag} (h : H a = some (.tup xs)) : SqT K H a xs := .inl (.inl h)
theorem Inv.list (I : Inv X pins σ H s) (h : SqL X.K H a xs) : ∃ its : List Value, Vals xs its ∧ PlainL s.heap a its.toArray ∧ xs.length ≤ sizeLine := by
  rcases h with h | ⟨o, its, n, hk, hc, hd, hs, hz, r⟩
  · obtain ⟨z, its, n, r, e⟩ := h.ok I.hok
    exact ⟨its, r, ⟨_, n, e, rfl, rfl, rfl⟩, z⟩
  · refine ⟨its.toList, r, ⟨o, n, I.kIn a o hk, hc, hd, by simpa using hs⟩, ?_⟩
    have e := r.length
    simp only [Array.length_toList] at e
    omega
theorem Inv.tuple (I : Inv X pins σ H s) (h : SqT X.K H a xs) : ∃ its : List Value, Vals xs its ∧ IsTup s.heap a its.toArray ∧ xs.length ≤ sizeLine := by
  rcases h with h | ⟨o, its, n, hk, hc, hs, hz, r⟩
  · obtain ⟨z, its, r, p⟩ := h.ok I.hok
    exact ⟨its, r, p.isTup, z⟩
  · refine ⟨its.toList, r, ⟨o, I.kIn a o hk, hc, n, by simpa using hs⟩, ?_⟩
    have e := r.length
    simp only [Array.length_toList] at e
    omega
theorem Inv.list_inj (I : Inv X pins σ H s) (h : SqL X.K H a xs) (h' : SqL X.K H a ys) : xs = ys := by
  obtain ⟨its, r, ⟨o, n, e, _, _, d⟩, _⟩ := I.list h
  obtain ⟨its', r', ⟨o', n', e', _, _, d'⟩, _⟩ := I.list h'
  rw [e] at e'; cases e'
  rw [d] at d'
  injection d' with d1 _
  have : its = its' := by simpa using congrArg Array.toList d1
  subst this
  exact r.inj r'
theorem Inv.tuple_inj (I : Inv X pins σ H s) (h : SqT X.K H a xs) (h' : SqT X.K H a ys) : xs = ys := by
  obtain ⟨its, r, ⟨o, e, _, n, d⟩, _⟩ := I.tuple h
  obtain ⟨its', r', ⟨o', e', _, n', d'⟩, _⟩ := I.tuple h'
  rw [e] at e'; cases e'
  rw [d] at d'
  injection d' with d1 _
  have : its = its' := by simpa using congrArg Array.toList d1
  subst this
  exact r.inj r'
end

/-! ### another wish about exceptions -/
abbrev Cx.wish (X : Cx) (E : Value → Shared → Prop) : Cx := { X with xe := E }
/-- no exception leaves -/
abbrev Cx.nox (X : Cx) : Cx := X.wish fun _ _ => False
theorem Cx.Ok.wish {X : Cx} (ok : X.Ok) (E : Value → Shared → Prop) : (X.wish E).Ok :=
  ⟨ok.mod, ok.kind, ok.glob, ok.blt, ok.above, ok.inj, ok.has, ok.cab, ok.hd, ok.frames, ok.stk, ok.exf, ok.bs, ok.bsz, ok.noex, ok.exfs, ok.funs, ok.frf⟩
theorem Cx.Ok.unwish {X : Cx} {E : Value → Shared → Prop} (ok : (X.wish E).Ok) : X.Ok :=
  ⟨ok.mod, ok.kind, ok.glob, ok.blt, ok.above, ok.inj, ok.has, ok.cab, ok.hd, ok.frames, ok.stk, ok.exf, ok.bs, ok.bsz, ok.noex, ok.exfs, ok.funs, ok.frf⟩
section
variable {X : Cx} {pins : List (Addr × Obj)} {σ : St} {H : Hp} {s : Shared} {E : Value → Shared → Prop}
theorem Inv.wish (I : Inv X pins σ H s) (E : Value → Shared → Prop) : Inv (X.wish E) pins σ H s := ⟨I.ok.wish E, I.os, I.bare, I.base, I.loc, I.cell, I.free, I.freeC, I.pin, I.hok, I.len⟩
theorem Inv.unwish (I : Inv (X.wish E) pins σ H s) : Inv X pins σ H s := ⟨I.ok.unwish, I.os, I.bare, I.base, I.loc, I.cell, I.free, I.freeC, I.pin, I.hok, I.len⟩
theorem SP.unwish {D : Ends} {f : Flow} {s' : Shared} (h : SP (X.wish E) pins D f s') : SP X pins D f s' := by
  cases f with
  | next => obtain ⟨σ', H', I, q⟩ := h; exact ⟨σ', H', I.unwish, q⟩
  | brk => obtain ⟨σ', H', I, q⟩ := h; exact ⟨σ', H', I.unwish, q⟩
  | cont => obtain ⟨σ', H', I, q⟩ := h; exact ⟨σ', H', I.unwish, q⟩
  | ret u => obtain ⟨v, σ', H', I, r, q⟩ := h; exact ⟨v, σ', H', I.unwish, r, q⟩
theorem PSs.nox {st : List Stmt} {t : TS} (h : PSs X.nox st t) : PSs X st t := fun pins s σ H D I hw =>
  wpAny_mono (h pins s σ H D (I.wish _) hw) (fun _ _ q => q.unwish) fun _ _ z => False.elim z
end

/-! ### blocks and small statements -/
section
variable {X : Cx} {st : Stmt} {rest : List Stmt} {t u : TS} {e : Expr} {te : TE} {pos : Pos}
def tNext : TS := fun D σ H => D.nx σ H
def tSeq (t u : TS) : TS := fun D σ H => t { D with nx := u D } σ H
theorem pss_nil : PSs X [] tNext := fun _ _ σ H _ I h => wpAny_execs_nil ⟨σ, H, I, h⟩
theorem pss_cons (h1 : PS X st t) (h2 : PSs X rest u) : PSs X (st :: rest) (tSeq t u) := by
  intro pins s σ H D I h
  refine wpAny_execs_cons (thn (h1 pins s σ H { D with nx := u D } I h) fun f s1 q => ?_)
  cases f with
  | next =>
    obtain ⟨σ', H', I', q⟩ := q
    exact h2 pins s1 σ' H' D I' q
  | ret v => exact q
  | brk => exact q
  | cont => exact q
theorem pss_one (h1 : PS X st t) : PSs X [st] t := by
  intro pins s σ H D I h
  refine wpAny_execs_cons (thn (h1 pins s σ H D I h) fun f s1 q => ?_)
  cases f with
  | next => exact wpAny_execs_nil q
  | ret v => exact q
  | brk => exact q
  | cont => exact q
def tBreak : TS := fun D σ H => D.bk σ H
def tCont : TS := fun D σ H => D.ct σ H
/-- in a def's body nothing is shown -/
theorem Inv.quiet {pins : List (Addr × Obj)} {σ : St} {H : Hp} {s : Shared} (I : Inv X pins σ H s) : interactive X.env = false := by simp [interactive, I.ok.kind]
/-- an expression whose value is dropped -/
def tDrop (te : TE) : TS := fun D σ H => te σ H fun _ H1 => D.nx σ H1
theorem ps_expr (he : PE X e te) (hs : swapsWith e none pos.line X.env = pure false := by rfl) : PS X (.Expr e pos) (tDrop te) := by
  intro pins s σ H D I h
  exact wpAny_Expr_any (thn (he pins s σ H _ I h) fun v s1 ⟨x, H1, I1, r1, q1⟩ => ⟨σ, H1, I1, q1⟩) I.quiet hs
def tRet (te : TE) : TS := fun D σ H => te σ H D.rt
theorem ps_ret (he : PE X e te) : PS X (.Return (some e) pos) (tRet te) := by
  intro pins s σ H D I h
  exact wpAny_Return_some (thn (he pins s σ H _ I h) fun v s1 ⟨x, H1, I1, r1, q1⟩ => ⟨x, σ, H1, I1, r1, q1⟩)
def tRetN : TS := fun D _ H => D.rt .non H
def tIfS (c : TT) (t u : TS) : TS := fun D σ H => c σ H fun b H1 => if b = true then t D σ H1 else u D σ H1
theorem ps_if {c : Expr} {a b : List Stmt} {tc : TT} (hc : PT X c tc) (ha : PSs X a t) (hb : PSs X b u) : PS X (.If c a b pos) (tIfS tc t u) := by
  intro pins s σ H D I h
  refine wpAny_If (thn (hc pins s σ H _ I h) fun d s1 ⟨H1, I1, q1⟩ => ?_)
  cases d with
  | true => exact ha pins s1 σ H1 D I1 q1
  | false => exact hb pins s1 σ H1 D I1 q1
/-- code that the proof never comes to -/
def tNever : TS := fun _ _ _ => False
end

/-! ### targets -/
abbrev TG := V → St → Hp → (St → Hp → Prop) → Prop
abbrev TGs := List V → St → Hp → (St → Hp → Prop) → Prop
def PG (X : Cx) (target : Expr) (t : TG) : Prop :=
  ∀ (pins : List (Addr × Obj)) (s : Shared) (σ : St) (H : Hp) (v : V) (u : Value) (Q : St → Hp → Prop), Inv X pins σ H s → RelV v u → t v σ H Q →
    wpAny (model X.prog X.w) X.A (assign target X.env u) (fun _ s' => ∃ σ' H', Inv X pins σ' H' s' ∧ Q σ' H') X.xe s
/-- several targets, one after another -/
def PGs (X : Cx) (ts : List Expr) (t : TGs) : Prop :=
  ∀ (pins : List (Addr × Obj)) (s : Shared) (σ : St) (H : Hp) (vs : List V) (us : List Value) (Q : St → Hp → Prop), Inv X pins σ H s → Vals vs us → t vs σ H Q →
    wpAny (model X.prog X.w) X.A (assignInOrder ((assignEach ts X.env).map (·.2)) us) (fun _ s' => ∃ σ' H', Inv X pins σ' H' s' ∧ Q σ' H') X.xe s
/-- o[i] = v, by values -/
abbrev TSet := V → V → V → Hp → (Hp → Prop) → Prop
def PSet (X : Cx) (t : TSet) : Prop :=
  ∀ (pins : List (Addr × Obj)) (s : Shared) (σ : St) (H : Hp) (o i v : V) (ov iv u : Value) (Q : Hp → Prop), Inv X pins σ H s → RelV o ov → RelV i iv → RelV v u → t o i v H Q →
    wpAny (model X.prog X.w) X.A (setItem ov iv u) (fun _ s' => ∃ H', Inv X pins σ H' s' ∧ Q H') X.xe s
/-- a op= b, by values -/
abbrev TIp := V → V → Hp → VK → Prop
def PIp (X : Cx) (op : Operator) (t : TIp) : Prop :=
  ∀ (pins : List (Addr × Obj)) (s : Shared) (σ : St) (H : Hp) (x y : V) (v u : Value) (Q : VK), Inv X pins σ H s → RelV x v → RelV y u → t x y H Q →
    wpAny (model X.prog X.w) X.A (inplaceOp op v u) (EP X pins σ Q) X.xe s
section
variable {X : Cx} {pos : Pos}
def gName (i : Nat) : TG := fun v σ H Q => Q (σ.set i (some v)) H
theorem pg_name {i : Nat} {x : Str} (hN : X.N.Nodup) (hi : X.N[i]? = some x) (hx : Loc X.env.scope x) (hf : X.fn x = true ∨ X.env.scope.names.lookup x = some .local := by first | exact .inl rfl | exact .inr rfl | assumption) : PG X (.Name x pos) (gName i) := by
  intro pins s σ H v u Q I r h
  exact wpAny_assign_Name (store_ok I hN hi hx r (fun s' I' => ⟨_, H, I', h⟩) hf)
def gNil : TGs := fun vs σ H Q => vs = [] ∧ Q σ H
def gCons (t : TG) (u : TGs) : TGs := fun vs σ H Q => ∃ v r, vs = v :: r ∧ t v σ H fun σ' H' => u r σ' H' Q
theorem pgs_nil : PGs X [] gNil := by
  intro pins s σ H vs us Q I r h
  obtain ⟨e, h⟩ := h
  subst e
  cases r
  exact assignInOrder_nil ⟨σ, H, I, h⟩
theorem pgs_cons {e : Expr} {es : List Expr} {t : TG} {u : TGs} (h1 : PG X e t) (h2 : PGs X es u)
    (hs : (assignEach (e :: es) X.env).map (·.2) = assign e X.env :: (assignEach es X.env).map (·.2) := by rfl) : PGs X (e :: es) (gCons t u) := by
  intro pins s σ H vs us Q I r h
  obtain ⟨v, vr, e1, h⟩ := h
  subst e1
  cases r with
  | cons r rr =>
    rw [hs]
    refine assignInOrder_cons (thn (h1 pins s σ H _ _ _ I r h) fun _ s1 ⟨σ1, H1, I1, q1⟩ => ?_)
    exact h2 pins s1 σ1 H1 _ _ Q I1 rr q1
/-- (a, b, ..) = a tuple of that length -/
def gTup (K : PySem.W.Frag) (n : Nat) (t : TGs) : TG := fun v σ H Q => ∃ a xs, v = .ref a ∧ SqT K H a xs ∧ xs.length = n ∧ t xs σ H Q
theorem pg_tup {es : List Expr} {k : Nat} {t : TGs} {n : Nat} (hc : X.calm = true) (h : PGs X es t)
    (hn : (assignEach es X.env).length = n := by rfl) (hst : (assignEach es X.env).findIdx? (·.1) = none := by rfl) : PG X (.Tuple es k pos) (gTup X.K n t) := by
  intro pins s σ H v u Q I r hw
  obtain ⟨a, xs, e1, hq, hl, hw⟩ := hw
  subst e1
  cases r
  obtain ⟨its, rv, ht, hz⟩ := I.tuple hq
  refine assign_Tuple_tuple (I.ok.hd hc) ht (by simp [hn, ← hl, rv.length]) hst fun h' hx => ?_
  have I1 : Inv X pins σ H { s with heap := h' } := I.kept (t' := s.toks) fun b o e => hx b o (Nat.ne_of_lt (Heap.lt_size e)) e
  exact h pins _ σ H xs _ Q I1 (by simpa using rv) hw
/-- o[i] = .. -/
def gSub (to ti : TE) (t : TSet) : TG := fun v σ H Q => to σ H fun o H1 => ti σ H1 fun i H2 => t o i v H2 fun H3 => Q σ H3
/-- target = value -/
def tAsg (te : TE) (g : TG) : TS := fun D σ H => te σ H fun x H1 => g x σ H1 D.nx
/-- name = value -/
theorem ps_set {i : Nat} {x : Str} {e : Expr} {te : TE} {pos' : Pos} (hN : X.N.Nodup) (hi : X.N[i]? = some x) (hx : Loc X.env.scope x) (he : PE X e te) (hs : swapsWith e (some (.Name x pos')) pos.line X.env = pure false := by rfl) (hf : X.fn x = true ∨ X.env.scope.names.lookup x = some .local := by first | exact .inl rfl | exact .inr rfl | assumption) :
    PS X (.Assign [.Name x pos'] e pos) (tAsg te (gName i)) := by
  intro pins s σ H D I h
  refine wpAny_Assign_Name (thn (he pins s σ H _ I h) fun v s1 ⟨y, H1, I1, r1, q1⟩ => ?_) hs
  exact store_ok I1 hN hi hx r1 (fun s2 I2 => ⟨_, H1, I2, q1⟩) hf
/-- a, b = x, y with plain local names: stored from the right; the pair itself is not tracked (the opening rows as in PyProof/Rows/TupAssign.lean:23) -/
def tPar (i j : Nat) (ta : TA) : TS := fun D σ H => ta σ H fun vs H1 => ∃ v w, vs = [v, w] ∧ D.nx ((σ.set i (some v)).set j (some w)) H1
/-- name op= e -/
def tAug (i : Nat) (te : TE) (ti : TIp) : TS := fun D σ H => ∃ x, σ[i]? = some (some x) ∧ te σ H fun y H1 => ti x y H1 fun z H2 => D.nx (σ.set i (some z)) H2
theorem ps_aug {i : Nat} {x : Str} {e : Expr} {te : TE} {op : Operator} {ti : TIp} {pos' : Pos} (hN : X.N.Nodup) (hi : X.N[i]? = some x) (hx : Loc X.env.scope x) (he : PE X e te) (ho : PIp X op ti) (hf : X.fn x = true ∨ X.env.scope.names.lookup x = some .local := by first | exact .inl rfl | exact .inr rfl | assumption) :
    PS X (.AugAssign (.Name x pos') op e pos) (tAug i te ti) := by
  intro pins s σ H D I h
  obtain ⟨v, e1, h⟩ := h
  obtain ⟨m, hn, hl⟩ := I.loc
  have vis : Vis X.env.scope x := by rcases hx with k | k; exact .inl k; exact .inr (.inl k)
  obtain ⟨u, r, l⟩ := hl i x v hi e1 vis
  refine wpAny_AugAssign_Name ?_
  have go : wpAny (model X.prog X.w) X.A (eval e X.env) (fun w s₂ => wpAny (model X.prog X.w) X.A (inplaceOp op u w) (fun r s₃ => wpAny (model X.prog X.w) X.A (storeName X.env x r) (fun _ => SP X pins D .next) X.xe s₃) X.xe s₂) X.xe s := by
    refine thn (he pins s σ H _ I h) fun w s1 ⟨y, H1, I1, r1, q1⟩ => ?_
    refine thn (ho pins s1 σ H1 v y u w _ I1 r r1 q1) fun z s2 ⟨zv, H2, I2, r2, q2⟩ => ?_
    exact store_ok I2 hN hi hx r2 (fun s3 I3 => ⟨_, H2, I3, q2⟩) hf
  rcases l with ⟨hk, hm⟩ | ⟨hk, c, hc, hcell⟩
  · exact wpAny_loadName_local I.ok.kind hk hn hm go
  · rcases hk with hk | hk
    · exact wpAny_loadName_cell I.ok.kind hk hc hcell go
    · rcases hx with k | k
      · have : X.env.scope.names.lookup x = some .free := hk
        rw [k] at this; cases this
      · have : X.env.scope.names.lookup x = some .free := hk
        rw [k] at this; cases this
/-- o[i] op= e -/
def tAugS (to ti te : TE) (tget : V → V → Hp → VK → Prop) (tip : TIp) (tset : TSet) : TS := fun D σ H => to σ H fun o H1 => ti σ H1 fun i H2 => tget o i H2 fun x H3 => te σ H3 fun y H4 => tip x y H4 fun z H5 => tset o i z H5 fun H6 => D.nx σ H6
/-- o[i], by values -/
def PGet (X : Cx) (t : V → V → Hp → VK → Prop) : Prop :=
  ∀ (pins : List (Addr × Obj)) (s : Shared) (σ : St) (H : Hp) (o i : V) (ov iv : Value) (Q : VK), Inv X pins σ H s → RelV o ov → RelV i iv → t o i H Q →
    wpAny (model X.prog X.w) X.A (getItem ov iv) (EP X pins σ Q) X.xe s
/-- ints -/
def ipI (f : Int → Int → Int) : TIp := fun x y H Q => ∃ i j, x = .int i ∧ y = .int j ∧ Q (.int (f i j)) H
theorem ip_add : PIp X .Add (ipI fun i j => i + j) := by
  intro pins s σ H x y v u Q I r1 r2 h
  obtain ⟨i, j, e1, e2, q⟩ := h
  subst e1; subst e2
  obtain ⟨t, rfl⟩ := r1
  obtain ⟨t', rfl⟩ := r2
  exact iadd_int ⟨.int _, H, I.tok _, ⟨_, rfl⟩, q⟩
end

/-! ### while -/
section
variable {X : Cx} {pos : Pos}
/-- the invariant W with its measure -/
def tWhile (c : TT) (tb : TS) : TS := fun D σ H => ∃ W : Nat → St → Hp → Prop, (∃ m, W m σ H) ∧ ∀ m σ H, W m σ H →
  c σ H fun b H1 => if b = true then ∃ N : St → Hp → Prop, (∀ σ' H', N σ' H' → ∃ m', m' < m ∧ W m' σ' H') ∧ tb { D with nx := N, ct := N, bk := D.nx } σ H1 else D.nx σ H1
theorem ps_while {c : Expr} {body : List Stmt} {tc : TT} {tb : TS} (hp : PassesOwn (model X.prog X.w) X.A X.env X.xe) (hc : PT X c tc) (hb : PSs X body tb) : PS X (.While c body [] pos) (tWhile tc tb) := by
  intro pins s σ H D I h
  obtain ⟨W, ⟨m0, w0⟩, turn⟩ := h
  refine wpAny_While (codeAny_whileLoop (fun n s' => ∃ σ' H', Inv X pins σ' H' s' ∧ W n σ' H') ?_ m0 ⟨σ, H, I, w0⟩)
  rintro n s1 ⟨σ1, H1, I1, w1⟩
  refine wpAny_passesOwn hp (thn (hc pins s1 σ1 H1 _ I1 (turn n σ1 H1 w1)) fun b s2 ⟨H2, I2, q2⟩ => ?_)
  cases b with
  | true =>
    obtain ⟨N, hN, q2⟩ := q2
    rw [if_pos rfl]
    refine wpAny_passesOwn hp (thn (hb pins s2 σ1 H2 _ I2 q2) fun f s3 q3 => ?_)
    cases f with
    | next =>
      obtain ⟨σ3, H3, I3, n3⟩ := q3
      obtain ⟨m', hm, w3⟩ := hN σ3 H3 n3
      exact ⟨m', hm, σ3, H3, I3, w3⟩
    | cont =>
      obtain ⟨σ3, H3, I3, n3⟩ := q3
      obtain ⟨m', hm, w3⟩ := hN σ3 H3 n3
      exact ⟨m', hm, σ3, H3, I3, w3⟩
    | brk => exact q3
    | ret v => exact q3
  | false =>
    rw [if_neg Bool.false_ne_true]
    exact wpAny_execs_nil ⟨σ1, H2, I2, q2⟩
end

/-! ### what a loop or a comprehension walks -/
/-- at turn i: it yields x (the heap may grow), or it stops -/
structure It where
  go : Nat → Hp → Prop
  yld : Nat → Hp → V → Hp → Prop
  stop : Nat → Hp → Prop
/-- the iterator's own objects may turn: they are not the frame's, not pinned, younger than the entry (or a comprehension's own) -/
def FpOk (X : Cx) (pins : List (Addr × Obj)) (H : Hp) (b : Addr) : Prop :=
  H b = none ∧ b ≠ X.env.locals ∧ b ∉ X.fs ∧ (b ∈ X.ex ∨ X.s₀.heap.objs.size ≤ b) ∧ (∀ x c, X.env.cells.lookup x = some c → c ≠ b) ∧ ∀ p ∈ X.pn ++ pins, p.1 ≠ b
theorem Inv.fpOk {X : Cx} {pins : List (Addr × Obj)} {σ : St} {H H' : Hp} {s : Shared} {b : Addr} (I : Inv X pins σ H s) (hb : s.heap.objs.size ≤ b) (hn : H' b = none) : FpOk X pins H' b := by
  refine ⟨hn, Nat.ne_of_gt (Nat.lt_of_lt_of_le I.lt hb), I.nofs hb, .inr (Nat.le_trans I.sz hb), fun x c e z => ?_, fun p hp z => ?_⟩
  · obtain ⟨v, q⟩ := I.cell x c e
    exact absurd (Nat.lt_of_lt_of_le q.lt (by rw [z]; exact hb)) (Nat.lt_irrefl _)
  · exact absurd (Nat.lt_of_lt_of_le (Heap.lt_size (I.pin p hp).1) (by rw [z]; exact hb)) (Nat.lt_irrefl _)
structure Turn (P : Program) (w : World) (K : PySem.W.Frag) (tg : Expr) (J : It) (fp : List Addr) (it : Addr) (tn : Nat → Heap → Prop) : Prop where
  mem : it ∈ fp
  obj : ∀ i h, tn i h → ∀ b ∈ fp, ∃ o, h.get? b = some o ∧ ∀ v, o.data ≠ .cell v
  keep : ∀ i h h', tn i h → (∀ b ∈ fp, ∀ o, h.get? b = some o → h'.get? b = some o) → tn i h'
  item : ∀ (X : Cx), X.prog = P → X.w = w → X.K = K → X.calm = true → ∀ (i : Nat) (pins : List (Addr × Obj)) (s : Shared) (σ : St) (H : Hp) (E : Value → Shared → Prop), Inv X pins σ H s → (∀ b ∈ fp, FpOk X pins H b) → tn i s.heap → J.go i H →
    wpAny (model P w) X.A (pyNext (.ref it)) (fun r s1 => ∃ u, r = some u ∧
      wpAny (model P w) X.A (letOwnedTupleGo tg (.ref it) u) (fun _ s2 => ∃ x H', Inv X pins σ H' s2 ∧ RelV x u ∧ J.yld i H x H' ∧ tn (i + 1) s2.heap ∧ ∀ b ∈ fp, H' b = none) E s1) E s
  done : ∀ (X : Cx), X.prog = P → X.w = w → X.K = K → X.calm = true → ∀ (i : Nat) (pins : List (Addr × Obj)) (s : Shared) (σ : St) (H : Hp) (E : Value → Shared → Prop), Inv X pins σ H s → (∀ b ∈ fp, FpOk X pins H b) → tn i s.heap → J.stop i H →
    wpAny (model P w) X.A (pyNext (.ref it)) (fun r s1 => r = none ∧ Inv X pins σ H s1) E s
  self : ∀ (A : Around) (i : Nat) (s : Shared) (Q : Value → Shared → Prop) (E : Value → Shared → Prop), tn i s.heap → Q (.ref it) s → wpAny (model P w) A (pyIter (.ref it)) Q E s
abbrev TI := St → Hp → (It → Hp → Prop) → Prop
/-- an iterator has come -/
def PIE (X : Cx) (pins : List (Addr × Obj)) (σ : St) (tg : Expr) (R : It → Hp → Prop) (itv : Value) (s2 : Shared) : Prop :=
  ∃ (it : Addr) (fp : List Addr) (tn : Nat → Heap → Prop) (J : It) (H' : Hp), itv = .ref it ∧ Inv X pins σ H' s2 ∧ Turn X.prog X.w X.K tg J fp it tn ∧ tn 0 s2.heap ∧ (∀ b ∈ fp, FpOk X pins H' b) ∧ R J H'
def PI (X : Cx) (tg iter : Expr) (wi : TI) : Prop :=
  ∀ (pins : List (Addr × Obj)) (s : Shared) (σ : St) (H : Hp) (R : It → Hp → Prop), Inv X pins σ H s → wi σ H R →
    wpAny (model X.prog X.w) X.A (eval iter X.env) (fun v s1 => wpAny (model X.prog X.w) X.A (pyIter v) (PIE X pins σ tg R) X.xe s1) X.xe s

/-- the step ahead of the store is nothing for an iterator that keeps no tuple -/
theorem go_of {M : Model} {A : Around} {E : Value → Shared → Prop} {s : Shared} {tg : Expr} {it : Addr} {u : Value} {o : Obj} {n : String} {vs : Array Value} {Q : Unit → Shared → Prop} (ho : s.heap.get? it = some o) (hc : o.cls = .type n) (hd : o.data = .fields vs)
    (hn : ["enumerate", "zip", "dict_itemiterator", "dict_reverseitemiterator", "odict_iterator", "itertools.zip_longest", "itertools.pairwise"].contains n = false) (hQ : Q () s) : wpAny M A (letOwnedTupleGo tg (.ref it) u) Q E s := by
  unfold letOwnedTupleGo
  cases tg <;> first
    | exact wpAny_pure hQ
    | (cases u <;> first
        | exact wpAny_pure hQ
        | (refine wpAny_bind (wpAny_load ho ?_)
           rw [hc, hd]
           show wpAny M A (if (["enumerate", "zip", "dict_itemiterator", "dict_reverseitemiterator", "odict_iterator", "itertools.zip_longest", "itertools.pairwise"].contains n && vs[0]? == some (rawInt _)) = true then _ else _) Q E s
           rw [if_neg (by intro h; rw [hn, Bool.false_and] at h; cases h)]
           exact wpAny_pure hQ))

/-- the list at a, as it stands at each turn (a loop may append to it) -/
def Itl (K : PySem.W.Frag) (a : Addr) : It :=
  ⟨fun i H => ∃ xs x, SqL K H a xs ∧ xs[i]? = some x, fun i H x H' => H' = H ∧ ∀ xs, SqL K H a xs → xs[i]? = some x, fun i H => ∃ xs, SqL K H a xs ∧ xs.length ≤ i⟩
def Itt (K : PySem.W.Frag) (a : Addr) : It :=
  ⟨fun i H => ∃ xs x, SqT K H a xs ∧ xs[i]? = some x, fun i H x H' => H' = H ∧ ∀ xs, SqT K H a xs → xs[i]? = some x, fun i H => ∃ xs, SqT K H a xs ∧ xs.length ≤ i⟩
/-- lo, lo + 1, .. (n of them) -/
def Itr (lo : Int) (n : Nat) : It := ⟨fun i _ => i < n, fun i H x H' => H' = H ∧ x = .int (lo + i), fun i _ => n ≤ i⟩
theorem turn_list {P : Program} {w : World} {K : PySem.W.Frag} {tg : Expr} (a it : Addr) : Turn P w K tg (Itl K a) [it] it (fun i h => h.IsListIter it a i) where
  mem := by simp
  obj := fun i h st b hb => by
    have e : b = it := by simpa using hb
    subst e
    obtain ⟨o, e, c, d⟩ := st
    exact ⟨o, e, fun v z => by rw [d] at z; cases z⟩
  keep := fun i h h' st k => st.at fun o e => k it (by simp) o e
  item := by
    intro X hP hw hK hc i pins s σ H E I hf st hg
    subst hP hw hK
    obtain ⟨xs, x, hq, hx⟩ := hg
    obtain ⟨its, rv, p, hz⟩ := I.list hq
    obtain ⟨u, hu, ru⟩ := rv.get hx
    obtain ⟨f0, f1, f2, f3, f4, f5⟩ := hf it (by simp)
    refine wpAny_pyNext_list_item st p.isList (x := u) (by simpa using hu) fun h' st' sb => ?_
    have I1 : Inv X pins σ H { s with heap := h' } := I.turned (t' := s.toks) (fun b o hb e => (sb.2 b hb).trans e) f0 f1 f3 f4 f5
    obtain ⟨o, e, c, d⟩ := id st'
    exact ⟨u, rfl, go_of (s := { s with heap := h' }) e c d (by decide) ⟨x, H, I1, ru, ⟨rfl, fun ys hy => by rw [I.list_inj hy hq]; exact hx⟩, st', fun b hb => (hf b hb).1⟩⟩
  done := by
    intro X hP hw hK hc i pins s σ H E I hf st hg
    subst hP hw hK
    obtain ⟨xs, hq, hx⟩ := hg
    obtain ⟨its, rv, p, hz⟩ := I.list hq
    obtain ⟨f0, f1, f2, f3, f4, f5⟩ := hf it (by simp)
    have hl := rv.length
    exact wpAny_pyNext_list_end (I.ok.hd hc) st p.isList (by simp; omega) fun h' eb => ⟨rfl, I.turned (t' := s.toks) (fun b o hb e => eb b o hb e) f0 f1 f3 f4 f5⟩
  self := fun _ _ _ _ _ st h => wpAny_pyIter_listiter st h
theorem turn_tuple {P : Program} {w : World} {K : PySem.W.Frag} {tg : Expr} (a it : Addr) : Turn P w K tg (Itt K a) [it] it (fun i h => h.IsTupleIter it a i) where
  mem := by simp
  obj := fun i h st b hb => by
    have e : b = it := by simpa using hb
    subst e
    obtain ⟨o, e, c, d⟩ := st
    exact ⟨o, e, fun v z => by rw [d] at z; cases z⟩
  keep := fun i h h' st k => st.at fun o e => k it (by simp) o e
  item := by
    intro X hP hw hK hc i pins s σ H E I hf st hg
    subst hP hw hK
    obtain ⟨xs, x, hq, hx⟩ := hg
    obtain ⟨its, rv, p, hz⟩ := I.tuple hq
    obtain ⟨u, hu, ru⟩ := rv.get hx
    obtain ⟨f0, f1, f2, f3, f4, f5⟩ := hf it (by simp)
    refine wpAny_pyNext_tuple_item st (show s.heap.IsTuple a its.toArray from p) (x := u) (by simpa using hu) fun h' st' sb => ?_
    have I1 : Inv X pins σ H { s with heap := h' } := I.turned (t' := s.toks) (fun b o hb e => (sb.2 b hb).trans e) f0 f1 f3 f4 f5
    obtain ⟨o, e, c, d⟩ := id st'
    exact ⟨u, rfl, go_of (s := { s with heap := h' }) e c d (by decide) ⟨x, H, I1, ru, ⟨rfl, fun ys hy => by rw [I.tuple_inj hy hq]; exact hx⟩, st', fun b hb => (hf b hb).1⟩⟩
  done := by
    intro X hP hw hK hc i pins s σ H E I hf st hg
    subst hP hw hK
    obtain ⟨xs, hq, hx⟩ := hg
    obtain ⟨its, rv, p, hz⟩ := I.tuple hq
    obtain ⟨f0, f1, f2, f3, f4, f5⟩ := hf it (by simp)
    have hl := rv.length
    exact wpAny_pyNext_tuple_end (I.ok.hd hc) st (show s.heap.IsTuple a its.toArray from p) (by simp; omega) fun h' eb => ⟨rfl, I.turned (t' := s.toks) (fun b o hb e => eb b o hb e) f0 f1 f3 f4 f5⟩
  self := fun _ _ _ _ _ st h => wpAny_pyIter_tupleiter st h
theorem turn_range {P : Program} {w : World} {K : PySem.W.Frag} {tg : Expr} (it : Addr) (lo : Int) (n : Nat) : Turn P w K tg (Itr lo n) [it] it (fun i h => IsRangeIter h it (lo + (i : Nat) * 1) ((n : Int) - (i : Nat)) 1) where
  mem := by simp
  obj := fun i h st b hb => by
    have e : b = it := by simpa using hb
    subst e
    exact ⟨_, st, fun v z => by
      have z' : Data.fields _ = Data.cell v := z
      cases z'⟩
  keep := fun i h h' st k => k it (by simp) _ st
  item := by
    intro X hP hw hK hc i pins s σ H E I hf st hg
    subst hP hw hK
    obtain ⟨f0, f1, f2, f3, f4, f5⟩ := hf it (by simp)
    have W := Walks.range (prog := X.prog) (w := X.w) (I.ok.hd hc) it lo 1 n
    refine W.item i s _ _ hg st fun v h' tk hv st' kk => ?_
    obtain ⟨t, rfl⟩ := hv
    have I1 : Inv X pins σ H { s with heap := h', toks := tk } := I.turned (fun b o hb e => kk b o (by simpa using hb) e) f0 f1 f3 f4 f5
    refine ⟨_, rfl, go_of (s := { s with heap := h', toks := tk }) (n := "range_iterator") st' rfl rfl (by decide) ⟨.int (lo + i), H, I1, ⟨t, ?_⟩, ⟨rfl, rfl⟩, st', fun b hb => (hf b hb).1⟩⟩
    rw [Int.mul_one]
  done := by
    intro X hP hw hK hc i pins s σ H E I hf st hg
    subst hP hw hK
    obtain ⟨f0, f1, f2, f3, f4, f5⟩ := hf it (by simp)
    exact wpAny_pyNext_range_end (I.ok.hd hc) st (by have : n ≤ i := hg; omega) fun h' eb => ⟨rfl, I.turned (t' := s.toks) (fun b o hb e => eb b o hb e) f0 f1 f3 f4 f5⟩
  self := fun _ _ _ _ _ st h => wpAny_pyIter_rangeiter st h
end L2

namespace L2
open PySem PySem.Spec PyProof.Rows
section
variable {X : Cx} {tg : Expr}
def iList (K : PySem.W.Frag) (tl : TE) : TI := fun σ H R => tl σ H fun x H1 => ∃ a, x = .ref a ∧ (∃ xs, SqL K H1 a xs) ∧ R (Itl K a) H1
def iTup (K : PySem.W.Frag) (tl : TE) : TI := fun σ H R => tl σ H fun x H1 => ∃ a, x = .ref a ∧ (∃ xs, SqT K H1 a xs) ∧ R (Itt K a) H1
theorem pi_list {l : Expr} {tl : TE} (hl : PE X l tl) : PI X tg l (iList X.K tl) := by
  intro pins s σ H R I h
  refine thn (hl pins s σ H _ I h) fun v s1 ⟨x, H1, I1, r1, q1⟩ => ?_
  obtain ⟨a, e, ⟨xs, hq⟩, q⟩ := q1
  subst e
  cases r1
  obtain ⟨its, rv, p, hz⟩ := I1.list hq
  refine wpAny_pyIter_list p.isList ?_
  refine ⟨s1.heap.objs.size, [s1.heap.objs.size], _, _, H1, rfl, I1.kept (t' := s1.toks) fun b o e => Heap.get?_push_of_some _ e, turn_list a _, ⟨_, Heap.get?_push_size _ rfl, rfl, rfl⟩, fun b hb => ?_, q⟩
  have e : b = s1.heap.objs.size := by simpa using hb
  subst e
  exact I1.fpOk (Nat.le_refl _) (I1.hok.fresh (Nat.le_refl _))
theorem pi_tup {l : Expr} {tl : TE} (hl : PE X l tl) : PI X tg l (iTup X.K tl) := by
  intro pins s σ H R I h
  refine thn (hl pins s σ H _ I h) fun v s1 ⟨x, H1, I1, r1, q1⟩ => ?_
  obtain ⟨a, e, ⟨xs, hq⟩, q⟩ := q1
  subst e
  cases r1
  obtain ⟨its, rv, p, hz⟩ := I1.tuple hq
  refine wpAny_pyIter_tuple (show s1.heap.IsTuple a its.toArray from p) ?_
  refine ⟨s1.heap.objs.size, [s1.heap.objs.size], _, _, H1, rfl, I1.kept (t' := s1.toks) fun b o e => Heap.get?_push_of_some _ e, turn_tuple a _, ⟨_, Heap.get?_push_size _ rfl, rfl, rfl⟩, fun b hb => ?_, q⟩
  have e : b = s1.heap.objs.size := by simpa using hb
  subst e
  exact I1.fpOk (Nat.le_refl _) (I1.hok.fresh (Nat.le_refl _))
/-- a range object just made, walked -/
theorem range_it {pins : List (Addr × Obj)} {σ : St} {H : Hp} {s : Shared} {R : It → Hp → Prop} {E : Value → Shared → Prop} {lo hi : Int} {t u v : Tok} {tk : Nat} (I : Inv X pins σ H s) (h1 : -(2 ^ 62) ≤ lo) (h2 : lo < 2 ^ 62) (h3 : -(2 ^ 62) ≤ hi) (h4 : hi < 2 ^ 62)
    (q : R (Itr lo (hi - lo).toNat) H) : wpAny (model X.prog X.w) X.A (pyIter (.ref s.heap.objs.size)) (PIE X pins σ tg R) E { s with heap := s.heap.push { cls := .type "range", data := .fields #[.int lo t, .int hi u, .int 1 v] }, toks := tk } := by
  refine wpAny_pyIter_range (IsRange.new ..) (small_one h1 h2 h3 h4) ?_
  have I1 : Inv X pins σ H { s with heap := s.heap.push { cls := .type "range", data := .fields #[.int lo t, .int hi u, .int 1 v] }, toks := tk } := I.kept fun b o e => Heap.get?_push_of_some _ e
  refine ⟨(s.heap.push { cls := .type "range", data := .fields #[.int lo t, .int hi u, .int 1 v] }).objs.size, [(s.heap.push { cls := .type "range", data := .fields #[.int lo t, .int hi u, .int 1 v] }).objs.size], _, _, H, rfl,
    I1.kept (t' := tk) fun b o e => Heap.get?_push_of_some _ e, turn_range _ lo (hi - lo).toNat, ?_, fun b hb => ?_, q⟩
  · have e1 : lo + ((0 : Nat) : Int) * 1 = lo := by simp
    have e2 : (((hi - lo).toNat : Nat) : Int) - ((0 : Nat) : Int) = Builtin.Range.rangeSize lo hi 1 := by rw [rangeSize_one]; split <;> omega
    show IsRangeIter _ _ (lo + ((0 : Nat) : Int) * 1) ((((hi - lo).toNat : Nat) : Int) - ((0 : Nat) : Int)) 1
    rw [e1, e2]
    exact Heap.get?_push_size _ rfl
  · have e : b = (s.heap.push { cls := .type "range", data := .fields #[.int lo t, .int hi u, .int 1 v] }).objs.size := by simpa using hb
    subst e
    exact I1.fpOk (Nat.le_refl _) (I1.hok.fresh (Nat.le_refl _))
def iRng1 (ta : TA) : TI := fun σ H R => ta σ H fun vs H1 => ∃ j : Int, vs = [.int j] ∧ -(2 ^ 62) ≤ j ∧ j < 2 ^ 62 ∧ R (Itr 0 j.toNat) H1
def iRng2 (ta : TA) : TI := fun σ H R => ta σ H fun vs H1 => ∃ i j : Int, vs = [.int i, .int j] ∧ (-(2 ^ 62) ≤ i ∧ i < 2 ^ 62 ∧ -(2 ^ 62) ≤ j ∧ j < 2 ^ 62) ∧ R (Itr i (j - i).toNat) H1
theorem pi_range1 {a : Expr} {ta : TA} {p pos : Pos} (hg : Gl X "range") (hm : X.mg "range" = none) (ha : PA X [a] ta) (hs : starEach [a] X.env = [(false, eval a X.env)] := by rfl) : PI X tg (.Call (.Name "range" p) [a] [] pos) (iRng1 ta) := by
  intro pins s σ H R I h
  refine Call_ (ld_blt I hg hm boot_range (PyProof.Rows.callWith_type1 (thn (ha pos pins s σ H _ I h) fun us s1 ⟨vs, H1, I1, r1, q1⟩ => ?_) hs rfl))
  obtain ⟨j, e, q1, q2, q⟩ := q1
  subst e
  cases r1 with
  | cons r rr =>
    cases rr
    obtain ⟨t, rfl⟩ := r
    exact call_range_1 (range_it I1 (by omega) (by omega) q1 q2 (by simpa using q))

/-! ### for -/
/-- W: the invariant by the turn and a measure; N: what the body is to reach -/
def tFor (wi : TI) (g : TG) (tb : TS) : TS := fun D σ H => wi σ H fun J H1 => ∃ W : Nat → Nat → St → Hp → Prop, (∃ m, W 0 m σ H1) ∧ ∀ i m σ H, W i m σ H →
  (J.stop i H ∧ D.nx σ H) ∨ (J.go i H ∧ ∃ N : St → Hp → Prop, (∀ σ' H', N σ' H' → ∃ m', m' < m ∧ W (i + 1) m' σ' H') ∧ ∀ x H', J.yld i H x H' → g x σ H' fun σ2 H2 => tb { D with nx := N, ct := N, bk := D.nx } σ2 H2)
/-- the records at fp as they stand -/
def pinsAt (fp : List Addr) (h : Heap) : List (Addr × Obj) := fp.filterMap fun b => (h.get? b).map fun o => (b, o)
theorem mem_pinsAt {fp : List Addr} {h : Heap} {b : Addr} {o : Obj} (hb : b ∈ fp) (e : h.get? b = some o) : (b, o) ∈ pinsAt fp h := List.mem_filterMap.mpr ⟨b, hb, by rw [e]; rfl⟩
theorem of_pinsAt {fp : List Addr} {h : Heap} {p : Addr × Obj} (hp : p ∈ pinsAt fp h) : p.1 ∈ fp ∧ h.get? p.1 = some p.2 := by
  obtain ⟨b, hb, e⟩ := List.mem_filterMap.mp hp
  cases q : h.get? b with
  | none => rw [q] at e; cases e
  | some o =>
    rw [q] at e
    have e' : (b, o) = p := Option.some.inj e
    subst e'
    exact ⟨hb, q⟩
theorem Inv.pinned {pins : List (Addr × Obj)} {σ : St} {H : Hp} {s : Shared} {fp : List Addr} (I : Inv X pins σ H s) (hf : ∀ b ∈ fp, FpOk X pins H b) (ho : ∀ b ∈ fp, ∃ o, s.heap.get? b = some o ∧ ∀ v, o.data ≠ .cell v) : Inv X (pins ++ pinsAt fp s.heap) σ H s :=
  I.pins_of fun p hp => (List.mem_append.mp hp).elim (fun z => I.pin p (List.mem_append_right _ z)) fun z => by
    obtain ⟨hb, e⟩ := of_pinsAt z
    obtain ⟨f0, f1, f2, _⟩ := hf p.1 hb
    obtain ⟨o, e', d⟩ := ho p.1 hb
    rw [e] at e'; cases e'
    exact ⟨e, f0, f1, f2, d⟩
theorem Inv.unpinned {pins pl : List (Addr × Obj)} {σ : St} {H : Hp} {s : Shared} (I : Inv X (pins ++ pl) σ H s) : Inv X pins σ H s := I.pins_of fun p hp => I.pin p (List.mem_append_right _ (List.mem_append_left _ hp))
theorem ps_for {iter : Expr} {body : List Stmt} {wi : TI} {g : TG} {tb : TS} {pos : Pos} (hp : PassesOwn (model X.prog X.w) X.A X.env X.xe) (hc : X.calm = true) (hi : PI X tg iter wi) (hg : PG X tg g) (hb : PSs X body tb)
    (hs : ∀ x, foldedSetIterable iter X.env x = pure x := by intro _; rfl) : PS X (.For tg iter body [] pos) (tFor wi g tb) := by
  intro pins s σ H D I h
  refine wpAny_For (thn (hi pins s σ H _ I h) fun v s1 h1 => thn h1 fun itv s2 h2 => ?_) hs
  obtain ⟨it, fp, tn, J, H2, e, I2, T, st2, f2, W, ⟨m0, w0⟩, turn⟩ := h2
  subst e
  -- what stays true of the iterator's objects through the loop
  have stat : ∀ {H' : Hp}, (∀ b ∈ fp, H' b = none) → ∀ b ∈ fp, FpOk X pins H' b := fun hn b hb => ⟨hn b hb, (f2 b hb).2⟩
  refine codeAny_forLoop_any (fun n s' => ∃ i σ' H', Inv X pins σ' H' s' ∧ tn i s'.heap ∧ (∀ b ∈ fp, H' b = none) ∧ W i n σ' H') ?_ m0 ⟨0, σ, H2, I2, st2, fun b hb => (f2 b hb).1, w0⟩
  rintro n s3 ⟨i, σ3, H3, I3, st3, fr3, w3⟩
  rcases turn i n σ3 H3 w3 with ⟨stop, qn⟩ | ⟨go, N, hN, step⟩
  · refine wpAny_passesOwn hp (thn (T.done X rfl rfl rfl hc i pins s3 σ3 H3 X.xe I3 (stat fr3) st3 stop) fun r s4 ⟨hr, I4⟩ => ?_)
    subst hr
    exact wpAny_execs_nil ⟨σ3, H3, I4, qn⟩
  · refine wpAny_passesOwn hp (thn (T.item X rfl rfl rfl hc i pins s3 σ3 H3 X.xe I3 (stat fr3) st3 go) fun r s4 ⟨u, hr, h4⟩ => ?_)
    subst hr
    refine wpAny_passesOwn hp (thn h4 fun _ s5 ⟨x, H5, I5, r5, y5, st5, fr5⟩ => ?_)
    have I5' := I5.pinned (stat fr5) (T.obj _ _ st5)
    refine wpAny_passesOwn hp (thn (hg _ s5 σ3 H5 x u _ I5' r5 (step x H5 y5)) fun _ s6 ⟨σ6, H6, I6, q6⟩ => ?_)
    refine wpAny_passesOwn hp (thn (hb _ s6 σ6 H6 _ I6 q6) fun f s7 q7 => ?_)
    have again : ∀ {σ7 : St} {H7 : Hp}, Inv X (pins ++ pinsAt fp s5.heap) σ7 H7 s7 → N σ7 H7 → ∃ m, m < n ∧ ∃ i σ' H', Inv X pins σ' H' s7 ∧ tn i s7.heap ∧ (∀ b ∈ fp, H' b = none) ∧ W i m σ' H' := fun {σ7 H7} I7 n7 => by
      obtain ⟨m', hm, w7⟩ := hN σ7 H7 n7
      refine ⟨m', hm, i + 1, σ7, H7, I7.unpinned, T.keep _ _ _ st5 fun b hb o e => (I7.pin (b, o) (List.mem_append_right _ (List.mem_append_right _ (mem_pinsAt hb e)))).1, fun b hb => ?_, w7⟩
      obtain ⟨o, e, d⟩ := T.obj _ _ st5 b hb
      exact (I7.pin (b, o) (List.mem_append_right _ (List.mem_append_right _ (mem_pinsAt hb e)))).2.1
    cases f with
    | next => obtain ⟨σ7, H7, I7, n7⟩ := q7; exact again I7 n7
    | cont => obtain ⟨σ7, H7, I7, n7⟩ := q7; exact again I7 n7
    | brk => obtain ⟨σ7, H7, I7, q7⟩ := q7; exact ⟨σ7, H7, I7.unpinned, q7⟩
    | ret v => obtain ⟨x7, σ7, H7, I7, r7, q7⟩ := q7; exact ⟨x7, σ7, H7, I7.unpinned, r7, q7⟩
end

/-! ### the forms one uses -/
/-- over a list that the body leaves as it is -/
theorem for_list {K : PySem.W.Frag} {a : Addr} {xs : List V} {g : TG} {tb : TS} {D : Ends} {σ : St} {H : Hp} (Pv : Nat → St → Hp → Prop) (h0 : Pv 0 σ H) (hl : ∀ i σ H, i ≤ xs.length → Pv i σ H → SqL K H a xs)
    (hs : ∀ i x σ H, xs[i]? = some x → Pv i σ H → g x σ H fun σ2 H2 => tb { D with nx := Pv (i + 1), ct := Pv (i + 1), bk := D.nx } σ2 H2) (hd : ∀ σ H, Pv xs.length σ H → D.nx σ H) :
    ∃ W : Nat → Nat → St → Hp → Prop, (∃ m, W 0 m σ H) ∧ ∀ i m σ H, W i m σ H →
      ((Itl K a).stop i H ∧ D.nx σ H) ∨ ((Itl K a).go i H ∧ ∃ N : St → Hp → Prop, (∀ σ' H', N σ' H' → ∃ m', m' < m ∧ W (i + 1) m' σ' H') ∧ ∀ x H', (Itl K a).yld i H x H' → g x σ H' fun σ2 H2 => tb { D with nx := N, ct := N, bk := D.nx } σ2 H2) := by
  refine ⟨fun i m σ H => m = xs.length - i ∧ i ≤ xs.length ∧ Pv i σ H, ⟨xs.length, by simp, Nat.zero_le _, h0⟩, ?_⟩
  rintro i m σ H ⟨rfl, hi, p⟩
  have q := hl i σ H hi p
  by_cases hlt : i < xs.length
  · refine .inr ⟨⟨xs, xs[i], q, by simp [hlt]⟩, Pv (i + 1), fun σ' H' p' => ⟨xs.length - (i + 1), by omega, rfl, hlt, p'⟩, fun x H' y => ?_⟩
    obtain ⟨e, y⟩ := y
    subst e
    exact hs i x σ _ (y xs q) p
  · have e : i = xs.length := by omega
    subst e
    exact .inl ⟨⟨xs, q, Nat.le_refl _⟩, hd σ H p⟩
theorem for_range {lo : Int} {n : Nat} {g : TG} {tb : TS} {D : Ends} {σ : St} {H : Hp} (Pv : Nat → St → Hp → Prop) (h0 : Pv 0 σ H)
    (hs : ∀ i σ H, i < n → Pv i σ H → g (.int (lo + i)) σ H fun σ2 H2 => tb { D with nx := Pv (i + 1), ct := Pv (i + 1), bk := D.nx } σ2 H2) (hd : ∀ σ H, Pv n σ H → D.nx σ H) :
    ∃ W : Nat → Nat → St → Hp → Prop, (∃ m, W 0 m σ H) ∧ ∀ i m σ H, W i m σ H →
      ((Itr lo n).stop i H ∧ D.nx σ H) ∨ ((Itr lo n).go i H ∧ ∃ N : St → Hp → Prop, (∀ σ' H', N σ' H' → ∃ m', m' < m ∧ W (i + 1) m' σ' H') ∧ ∀ x H', (Itr lo n).yld i H x H' → g x σ H' fun σ2 H2 => tb { D with nx := N, ct := N, bk := D.nx } σ2 H2) := by
  refine ⟨fun i m σ H => m = n - i ∧ i ≤ n ∧ Pv i σ H, ⟨n, by simp, Nat.zero_le _, h0⟩, ?_⟩
  rintro i m σ H ⟨rfl, hi, p⟩
  by_cases hlt : i < n
  · refine .inr ⟨hlt, Pv (i + 1), fun σ' H' p' => ⟨n - (i + 1), by omega, rfl, hlt, p'⟩, fun x H' y => ?_⟩
    obtain ⟨e, y⟩ := y
    subst e y
    exact hs i σ _ hlt p
  · have e : i = n := by omega
    subst e
    exact .inl ⟨Nat.le_refl _, hd σ H p⟩
end L2

namespace L2
open PySem PySem.Spec PyProof.Rows

abbrev R2 := V → V → Hp → VK → Prop
/-- a two-place operation on values: f is binaryOp op, inplaceOp op or compareOp op -/
def OpR (X : Cx) (f : Value → Value → Sem Value) (r : R2) : Prop :=
  ∀ (pins : List (Addr × Obj)) (s : Shared) (σ : St) (H : Hp) (x y : V) (v u : Value) (Q : VK), Inv X pins σ H s → RelV x v → RelV y u → r x y H Q →
    wpAny (model X.prog X.w) X.A (f v u) (EP X pins σ Q) X.xe s
/-- a one-place operation -/
def UnR (X : Cx) (f : Value → Sem Value) (r : V → Hp → VK → Prop) : Prop :=
  ∀ (pins : List (Addr × Obj)) (s : Shared) (σ : St) (H : Hp) (x : V) (v : Value) (Q : VK), Inv X pins σ H s → RelV x v → r x H Q →
    wpAny (model X.prog X.w) X.A (f v) (EP X pins σ Q) X.xe s
/-- a call of a value that is known (a builtin, a type) with values -/
def CallR (X : Cx) (f : Value) (r : List V → Hp → VK → Prop) : Prop :=
  ∀ (pins : List (Addr × Obj)) (s : Shared) (σ : St) (H : Hp) (xs : List V) (us : List Value) (Q : VK), Inv X pins σ H s → Vals xs us → r xs H Q →
    wpAny (model X.prog X.w) X.A (call f us) (EP X pins σ Q) X.xe s
/-- a value's truth -/
def TruR (X : Cx) (r : V → Hp → (Bool → Hp → Prop) → Prop) : Prop :=
  ∀ (pins : List (Addr × Obj)) (s : Shared) (σ : St) (H : Hp) (x : V) (v : Value) (Q : Bool → Hp → Prop), Inv X pins σ H s → RelV x v → r x H Q →
    wpAny (model X.prog X.w) X.A (truthy v) (TP X pins σ Q) X.xe s

def tOp (r : R2) (ta tb : TE) : TE := fun σ H Q => ta σ H fun x H1 => tb σ H1 fun y H2 => r x y H2 Q
def tUn (r : V → Hp → VK → Prop) (ta : TE) : TE := fun σ H Q => ta σ H fun x H1 => r x H1 Q
/-- ints in, under C, and a value out -/
def rI (C : Int → Int → Prop) (g : Int → Int → V) : R2 := fun x y H Q => ∃ i j, x = .int i ∧ y = .int j ∧ C i j ∧ Q (g i j) H
def rI0 (g : Int → Int → V) : R2 := fun x y H Q => ∃ i j, x = .int i ∧ y = .int j ∧ Q (g i j) H
def rU (g : Int → V) : V → Hp → VK → Prop := fun x H Q => ∃ i, x = .int i ∧ Q (g i) H

section
variable {X : Cx} {a b c : Expr} {ta tb tc : TE} {pos : Pos}

theorem binT (ha : PE X a ta) (hb : PE X b tb) {pins : List (Addr × Obj)} {s : Shared} {σ : St} {H : Hp} {R : V → V → Hp → Prop} (I : Inv X pins σ H s)
    (h : ta σ H fun x H1 => tb σ H1 fun y H2 => R x y H2) {Q : Value → Shared → Prop} {f : Value → Value → Sem Value}
    (hf : ∀ v u s2 x y H2, Inv X pins σ H2 s2 → RelV x v → RelV y u → R x y H2 → wpAny (model X.prog X.w) X.A (f v u) Q X.xe s2) :
    wpAny (model X.prog X.w) X.A (eval a X.env) (fun v s₁ => wpAny (model X.prog X.w) X.A (eval b X.env) (fun u s₂ => wpAny (model X.prog X.w) X.A (f v u) Q X.xe s₂) X.xe s₁) X.xe s := by
  refine thn (ha pins s σ H _ I h) fun v s1 ⟨x, H1, I1, r1, q1⟩ => ?_
  refine thn (hb pins s1 σ H1 _ I1 q1) fun u s2 ⟨y, H2, I2, r2, q2⟩ => ?_
  exact hf v u s2 x y H2 I2 r1 r2 q2

theorem pe_op {op : Operator} {r : R2} (ho : OpR X (binaryOp op) r) (ha : PE X a ta) (hb : PE X b tb) : PE X (.BinOp a op b pos) (tOp r ta tb) := by
  intro pins s σ H Q I h
  exact wpAny_BinOp (binT ha hb I h fun v u s2 x y H2 I2 rx ry q => ho pins s2 σ H2 x y v u Q I2 rx ry q)
theorem pe_un {op : UnaryOp} {r : V → Hp → VK → Prop} (ho : UnR X (unaryOp op) r) (ha : PE X a ta) : PE X (.UnaryOp op a pos) (tUn r ta) := by
  intro pins s σ H Q I h
  exact UnaryOp_ (thn (ha pins s σ H _ I h) fun v s1 ⟨x, H1, I1, r1, q1⟩ => ho pins s1 σ H1 x v Q I1 r1 q1)

/-! ### ints -/
theorem opI {f : Value → Value → Sem Value} {C : Int → Int → Prop} {g : Int → Int → Int}
    (rule : ∀ (i j : Int) (t u : Tok) (s : Shared) (Q : Value → Shared → Prop) (E : Value → Shared → Prop), C i j → Q (.int (g i j) s.toks) { s with toks := s.toks + 1 } → wpAny (model X.prog X.w) X.A (f (.int i t) (.int j u)) Q E s) :
    OpR X f (rI C fun i j => .int (g i j)) := by
  intro pins s σ H x y v u Q I rx ry h
  obtain ⟨i, j, rfl, rfl, hc, q⟩ := h
  obtain ⟨t, rfl⟩ := rx
  obtain ⟨t', rfl⟩ := ry
  exact rule i j t t' s _ _ hc ⟨.int (g i j), H, I.tok _, ⟨_, rfl⟩, q⟩
theorem opI0 {f : Value → Value → Sem Value} {g : Int → Int → Int}
    (rule : ∀ (i j : Int) (t u : Tok) (s : Shared) (Q : Value → Shared → Prop) (E : Value → Shared → Prop), Q (.int (g i j) s.toks) { s with toks := s.toks + 1 } → wpAny (model X.prog X.w) X.A (f (.int i t) (.int j u)) Q E s) :
    OpR X f (rI0 fun i j => .int (g i j)) := by
  intro pins s σ H x y v u Q I rx ry h
  obtain ⟨i, j, rfl, rfl, q⟩ := h
  obtain ⟨t, rfl⟩ := rx
  obtain ⟨t', rfl⟩ := ry
  exact rule i j t t' s _ _ ⟨.int (g i j), H, I.tok _, ⟨_, rfl⟩, q⟩
theorem opB0 {f : Value → Value → Sem Value} {g : Int → Int → Bool}
    (rule : ∀ (i j : Int) (t u : Tok) (s : Shared) (Q : Value → Shared → Prop) (E : Value → Shared → Prop), Q (.bool (g i j)) s → wpAny (model X.prog X.w) X.A (f (.int i t) (.int j u)) Q E s) :
    OpR X f (rI0 fun i j => .bl (g i j)) := by
  intro pins s σ H x y v u Q I rx ry h
  obtain ⟨i, j, rfl, rfl, q⟩ := h
  obtain ⟨t, rfl⟩ := rx
  obtain ⟨t', rfl⟩ := ry
  exact rule i j t t' s _ _ ⟨.bl (g i j), H, I, rfl, q⟩

def CDiv (i j : Int) : Prop := 0 < j ∧ j < 1073741824
def CDivN (i j : Int) : Prop := j ≠ 0 ∧ j.natAbs < 1073741824
def CPow (i j : Int) : Prop := 0 ≤ j ∧ j ≤ 1000000 ∧ i.natAbs < 2 ^ 64
def CMul (i j : Int) : Prop := (-(2 ^ 64) < i ∧ i < 2 ^ 64) ∨ (-(2 ^ 64) < j ∧ j < 2 ^ 64)
theorem CMul.ok {i j : Int} (h : CMul i j) : IntMulOk i j := by
  rcases h with ⟨h1, h2⟩ | ⟨h1, h2⟩
  · exact .of_left (intBits_le_64 h1 h2)
  · exact .of_right (intBits_le_64 h1 h2)
theorem two_pow_nn (k : Nat) : (0 : Int) ≤ 2 ^ k := by
  rw [two_pow_cast]
  exact Int.natCast_nonneg _

theorem op_add : OpR X (binaryOp .Add) (rI0 fun i j => .int (i + j)) := opI0 fun _ _ _ _ _ _ _ q => add_int q
theorem op_sub : OpR X (binaryOp .Sub) (rI0 fun i j => .int (i - j)) := opI0 fun _ _ _ _ _ _ _ q => sub_int q
theorem op_mul : OpR X (binaryOp .Mult) (rI CMul fun i j => .int (i * j)) := opI fun _ _ _ _ _ _ _ hc q => mul_int q hc.ok
/-- // by a positive divisor -/
theorem op_fdiv : OpR X (binaryOp .FloorDiv) (rI CDiv fun i j => .int (i / j)) := opI fun i j _ _ _ _ _ hc q => by
  have h1 : (0 : Int) < j := hc.1
  have h2 : j < 1073741824 := hc.2
  exact floordiv_int (by omega) (by rw [Int.fdiv_eq_ediv_of_nonneg i (by omega)]; exact q) (.inl (PyProof.noPylong_small (by omega)))
/-- % by a positive divisor of any size -/
theorem op_mod : OpR X (binaryOp .Mod) (rI (fun _ j => 0 < j) fun i j => .int (i % j)) := opI fun i j _ _ _ _ _ hc q => by
  have h1 : (0 : Int) < j := hc
  exact mod_int' (by omega) (by rw [Int.fmod_eq_emod_of_nonneg i (by omega)]; exact q)
theorem op_pow : OpR X (binaryOp .Pow) (rI CPow fun i j => .int (i ^ j.toNat)) := opI fun _ _ _ _ _ _ _ hc q => pow_int_small hc.1 hc.2.1 hc.2.2 q
theorem op_shl : OpR X (binaryOp .LShift) (rI CPow fun i j => .int (i * 2 ^ j.toNat)) := opI fun _ _ _ _ _ _ _ hc q => lshift_int_small hc.1 hc.2.1 hc.2.2 q
theorem op_shr : OpR X (binaryOp .RShift) (rI (fun _ j => 0 ≤ j) fun i j => .int (i / 2 ^ j.toNat)) := opI fun i j _ _ _ _ _ hc q =>
  rshift_int hc (by rw [Int.fdiv_eq_ediv_of_nonneg i (two_pow_nn _)]; exact q)
theorem op_and : OpR X (binaryOp .BitAnd) (rI0 fun i j => .int (Builtin.bitAnd i j)) := opI0 fun _ _ _ _ _ _ _ q => and_int q
theorem op_or : OpR X (binaryOp .BitOr) (rI0 fun i j => .int (Builtin.bitOr i j)) := opI0 fun _ _ _ _ _ _ _ q => or_int q


theorem unI {f : Value → Sem Value} {g : Int → Int}
    (rule : ∀ (i : Int) (t : Tok) (s : Shared) (Q : Value → Shared → Prop) (E : Value → Shared → Prop), Q (.int (g i) s.toks) { s with toks := s.toks + 1 } → wpAny (model X.prog X.w) X.A (f (.int i t)) Q E s) :
    UnR X f (rU fun i => .int (g i)) := by
  intro pins s σ H x v Q I rx h
  obtain ⟨i, rfl, q⟩ := h
  obtain ⟨t, rfl⟩ := rx
  exact rule i t s _ _ ⟨.int (g i), H, I.tok _, ⟨_, rfl⟩, q⟩
theorem un_neg : UnR X (unaryOp .USub) (rU fun i => .int (-i)) := unI fun _ _ _ _ _ q => neg_int q

/-! ### bools among ints: n += (a < b) -/
end

/-! ### comparisons -/
/-- the scalars that == tells apart as data does -/
def scal : V → V → Bool
  | .non, .non => true | .non, .int _ => true | .int _, .non => true | .non, .bl _ => true | .bl _, .non => true | .non, .str _ => true | .str _, .non => true
  | .int _, .int _ => true | .bl _, .bl _ => true | .str _, .str _ => true | .byt _, .byt _ => true
  | .int _, .str _ => true | .str _, .int _ => true | .bl _, .str _ => true | .str _, .bl _ => true
  | _, _ => false
def rEq : R2 := fun x y H Q => scal x y = true ∧ Q (.bl (decide (x = y))) H
def rNe : R2 := fun x y H Q => scal x y = true ∧ Q (.bl (!decide (x = y))) H

theorem dec_int {i j : Int} : decide (V.int i = V.int j) = (i == j) := by
  rw [Bool.eq_iff_iff]
  simp
theorem dec_bl {i j : Bool} : decide (V.bl i = V.bl j) = (i == j) := by
  rw [Bool.eq_iff_iff]
  simp
theorem dec_str {i j : Str} : decide (V.str i = V.str j) = (i == j) := by
  rw [Bool.eq_iff_iff]
  simp
theorem dec_byt {i j : Array UInt8} : decide (V.byt i = V.byt j) = (i.toList == j.toList) := by
  rw [Bool.eq_iff_iff]
  cases i
  cases j
  simp

section
variable {X : Cx} {a b c : Expr} {ta tb tc : TE} {pos : Pos}
theorem fin_bl {pins : List (Addr × Obj)} {σ : St} {H : Hp} {s : Shared} {Q : VK} {k k' : Bool} (I : Inv X pins σ H s) (q : Q (.bl k) H) (e : k = k') : EP X pins σ Q (.bool k') s := by
  subst e
  exact ⟨.bl k, H, I, rfl, q⟩
theorem op_eq : OpR X (compareOp .Eq) rEq := by
  intro pins s σ H x y v u Q I rx ry h
  obtain ⟨hs, q⟩ := h
  cases x with
  | non =>
    cases rx
    cases y with
    | non => cases ry; exact PySem.EqNone.eq_none_none (fin_bl I q (by simp))
    | bl j => cases ry; exact PySem.EqNone.eq_none_bool (fin_bl I q (by simp))
    | int j => obtain ⟨t', rfl⟩ := ry; exact PySem.EqNone.eq_none_int (fin_bl I q (by simp))
    | str j => obtain ⟨t', rfl⟩ := ry; exact PySem.EqNone.eq_none_str (fin_bl I q (by simp))
    | _ => exact absurd (show false = true from hs) Bool.false_ne_true
  | bl i =>
    cases rx
    cases y with
    | non => cases ry; exact PySem.EqNone.eq_bool_none (fin_bl I q (by simp))
    | bl j => cases ry; exact eq_bool (fin_bl I q dec_bl)
    | str j => obtain ⟨t', rfl⟩ := ry; exact PySem.EqMixed.eq_bool_str (fin_bl I q (by simp))
    | _ => exact absurd (show false = true from hs) Bool.false_ne_true
  | int i =>
    obtain ⟨t, rfl⟩ := rx
    cases y with
    | non => cases ry; exact PySem.EqNone.eq_int_none (fin_bl I q (by simp))
    | int j => obtain ⟨t', rfl⟩ := ry; exact eq_int (fin_bl I q dec_int)
    | str j => obtain ⟨t', rfl⟩ := ry; exact PySem.EqMixed.eq_int_str (fin_bl I q (by simp))
    | _ => exact absurd (show false = true from hs) Bool.false_ne_true
  | str i =>
    obtain ⟨t, rfl⟩ := rx
    cases y with
    | non => cases ry; exact PySem.EqNone.eq_str_none (fin_bl I q (by simp))
    | bl j => cases ry; exact PySem.EqMixed.eq_str_bool (fin_bl I q (by simp))
    | int j => obtain ⟨t', rfl⟩ := ry; exact PySem.EqMixed.eq_str_int (fin_bl I q (by simp))
    | str j => obtain ⟨t', rfl⟩ := ry; exact eq_str (fin_bl I q dec_str)
    | _ => exact absurd (show false = true from hs) Bool.false_ne_true
  | byt i =>
    obtain ⟨t, rfl⟩ := rx
    cases y with
    | byt j => obtain ⟨t', rfl⟩ := ry; exact PySem.W.eq_bytes (fin_bl I q dec_byt)
    | _ => exact absurd (show false = true from hs) Bool.false_ne_true
  | _ => cases y <;> exact absurd (show false = true from hs) Bool.false_ne_true
theorem op_ne : OpR X (compareOp .NotEq) rNe := by
  intro pins s σ H x y v u Q I rx ry h
  obtain ⟨hs, q⟩ := h
  cases x with
  | non =>
    cases rx
    cases y with
    | non => cases ry; exact PySem.EqNone.ne_none_none (fin_bl I q (by simp))
    | bl j => cases ry; exact PySem.EqNone.ne_none_bool (fin_bl I q (by simp))
    | int j => obtain ⟨t', rfl⟩ := ry; exact PySem.EqNone.ne_none_int (fin_bl I q (by simp))
    | str j => obtain ⟨t', rfl⟩ := ry; exact PySem.EqNone.ne_none_str (fin_bl I q (by simp))
    | _ => exact absurd (show false = true from hs) Bool.false_ne_true
  | bl i =>
    cases rx
    cases y with
    | non => cases ry; exact PySem.EqNone.ne_bool_none (fin_bl I q (by simp))
    | bl j => cases ry; exact ne_bool (fin_bl I q (congrArg not dec_bl))
    | str j => obtain ⟨t', rfl⟩ := ry; exact PySem.EqMixed.ne_bool_str (fin_bl I q (by simp))
    | _ => exact absurd (show false = true from hs) Bool.false_ne_true
  | int i =>
    obtain ⟨t, rfl⟩ := rx
    cases y with
    | non => cases ry; exact PySem.EqNone.ne_int_none (fin_bl I q (by simp))
    | int j => obtain ⟨t', rfl⟩ := ry; exact ne_int (fin_bl I q (congrArg not dec_int))
    | str j => obtain ⟨t', rfl⟩ := ry; exact PySem.EqMixed.ne_int_str (fin_bl I q (by simp))
    | _ => exact absurd (show false = true from hs) Bool.false_ne_true
  | str i =>
    obtain ⟨t, rfl⟩ := rx
    cases y with
    | non => cases ry; exact PySem.EqNone.ne_str_none (fin_bl I q (by simp))
    | bl j => cases ry; exact PySem.EqMixed.ne_str_bool (fin_bl I q (by simp))
    | int j => obtain ⟨t', rfl⟩ := ry; exact PySem.EqMixed.ne_str_int (fin_bl I q (by simp))
    | str j => obtain ⟨t', rfl⟩ := ry; exact ne_str (fin_bl I q (congrArg not dec_str))
    | _ => exact absurd (show false = true from hs) Bool.false_ne_true
  | byt i =>
    obtain ⟨t, rfl⟩ := rx
    cases y with
    | byt j => obtain ⟨t', rfl⟩ := ry; exact PySem.W.ne_bytes (fin_bl I q (congrArg not dec_byt))
    | _ => exact absurd (show false = true from hs) Bool.false_ne_true
  | _ => cases y <;> exact absurd (show false = true from hs) Bool.false_ne_true

theorem op_lt : OpR X (compareOp .Lt) (rI0 fun i j => .bl (decide (i < j))) := opB0 fun _ _ _ _ _ _ _ q => lt_int q
theorem op_le : OpR X (compareOp .LtE) (rI0 fun i j => .bl (decide (i ≤ j))) := opB0 fun _ _ _ _ _ _ _ q => le_int q
theorem op_gt : OpR X (compareOp .Gt) (rI0 fun i j => .bl (decide (j < i))) := opB0 fun _ _ _ _ _ _ _ q => gt_int q
theorem op_ge : OpR X (compareOp .GtE) (rI0 fun i j => .bl (decide (j ≤ i))) := opB0 fun _ _ _ _ _ _ _ q => ge_int q

/-- is None, is not None: the right side a value none -/
theorem op_isN : OpR X (compareOp .Is) (fun x y H Q => y = .non ∧ Q (.bl (decide (x = .non))) H) := by
  intro pins s σ H x y v u Q I rx ry h
  obtain ⟨rfl, q⟩ := h
  cases ry
  refine is_none_gen (fin_bl I q ?_)
  cases x <;> first
    | (cases rx; rfl)
    | (obtain ⟨t, rfl⟩ := rx; rfl)

/-- is, is not of two objects that are tracked lists or instances -/
def isObj : HO → Bool
  | .lst _ => true
  | .ins _ _ _ => true
  | _ => false


theorem nomark (b : Expr) {op : CmpOp} (h : op ≠ .In := by decide) (h2 : op ≠ .NotIn := by decide) : behindInMarks op b = false := by
  have e1 : (op == CmpOp.In) = false := by cases op <;> first | rfl | exact absurd rfl h
  have e2 : (op == CmpOp.NotIn) = false := by cases op <;> first | rfl | exact absurd rfl h2
  cases b <;> simp [behindInMarks, e1, e2]
/-- a comparison as a value; hm: nomark b, or (for in, not in) by with_unfolding_all rfl -/
theorem pe_cmpR {op : CmpOp} {r : R2} (ho : OpR X (compareOp op) r) (ha : PE X a ta) (hb : PE X b tb) (hm : behindInMarks op b = false) : PE X (.Compare a [op] [b] pos) (tOp r ta tb) := by
  intro pins s σ H Q I h
  exact wpAny_Compare1 (binT ha hb I h fun v u s2 x y H2 I2 rx ry q => ho pins s2 σ H2 x y v u Q I2 rx ry q) hm
/-- a reading of a value as a test -/
def tTest (t : TE) : TT := fun σ H Q => t σ H fun x H' => ∃ k, x = .bl k ∧ Q k H'
theorem pt_cmpR {op : CmpOp} {r : R2} (ho : OpR X (compareOp op) r) (ha : PE X a ta) (hb : PE X b tb) (hm : behindInMarks op b = false) : PT X (.Compare a [op] [b] pos) (tTest (tOp r ta tb)) := by
  intro pins s σ H Q I h
  refine wpAny_isTrue_Compare1 (thn (ha pins s σ H _ I h) fun v s1 ⟨x, H1, I1, r1, q1⟩ => thn (hb pins s1 σ H1 _ I1 q1) fun u s2 ⟨y, H2, I2, r2, q2⟩ =>
    thn (ho pins s2 σ H2 x y v u _ I2 r1 r2 q2) fun c s3 ⟨z, H3, I3, r3, k, e, q3⟩ => ?_) hm
  subst e
  cases r3
  exact wpAny_truthy_bool ⟨H3, I3, q3⟩
/-- a op1 b op2 c -/
def tChain (r r' : R2) (ta tb tc : TE) : TE := fun σ H Q => ta σ H fun x H1 => tb σ H1 fun y H2 => r x y H2 fun z H3 => ∃ k, z = .bl k ∧
  (if k = true then tc σ H3 fun w' H4 => r' y w' H4 Q else Q (.bl false) H3)
theorem pe_chain {op op' : CmpOp} {r r' : R2} (ho : OpR X (compareOp op) r) (ho' : OpR X (compareOp op') r') (ha : PE X a ta) (hb : PE X b tb) (hc : PE X c tc)
    (hm : lastMarks [op, op'] [b, c] = false := by with_unfolding_all rfl) : PE X (.Compare a [op, op'] [b, c] pos) (tChain r r' ta tb tc) := by
  intro pins s σ H Q I h
  refine Compare_chain (thn (ha pins s σ H _ I h) fun v s1 ⟨x, H1, I1, r1, q1⟩ => chain_link (thn (hb pins s1 σ H1 _ I1 q1) fun u s2 ⟨y, H2, I2, r2, q2⟩ =>
    thn (ho pins s2 σ H2 x y v u _ I2 r1 r2 q2) fun d s3 ⟨z, H3, I3, r3, k, e, q3⟩ => ?_)) hm
  subst e
  cases r3
  refine wpAny_truthy_bool ?_
  cases k with
  | false => exact ite_ff ⟨.bl false, H3, I3, rfl, q3⟩
  | true => exact ite_tt (chain_last (thn (hc pins s3 σ H3 _ I3 q3) fun w' s4 ⟨z', H4, I4, r4, q4⟩ => ho' pins s4 σ H4 y z' u w' Q I4 r2 r4 q4))

/-! ### truth -/
/-- a value's truth by the abstract heap -/
def TruV (K : PySem.W.Frag) (x : V) (H : Hp) (k : Bool) : Prop :=
  match x with
  | .non => k = false
  | .bl b => k = b
  | .int i => k = (i != 0)
  | .str y => y.length ≤ sizeLine ∧ k = ((y.length : Int) != 0)
  | .byt y => y.size ≤ sizeLine ∧ k = ((y.size : Int) != 0)
  | .ref p => (∃ xs, SqL K H p xs ∧ k = !xs.isEmpty) ∨ (∃ xs, SqT K H p xs ∧ k = !xs.isEmpty) ∨ ∃ kvs, H p = some (.dK kvs) ∧ k = !kvs.isEmpty
  | _ => False
theorem isEmpty_kv {κ : Type} {kvs : List (κ × V)} {vs : List (κ × Value)} (r : KV kvs vs) : (!vs.isEmpty) = !kvs.isEmpty := by
  cases r <;> rfl
theorem isEmpty_of {xs : List V} {its : List Value} (r : Vals xs its) : (!its.toArray.isEmpty) = !xs.isEmpty := by
  cases r <;> simp
theorem line63 : (sizeLine : Nat) < 2 ^ 63 := by rw [sizeLine_eq]; decide
theorem tru_ok : TruR X (fun x H Q => ∃ k, TruV X.K x H k ∧ Q k H) := by
  intro pins s σ H x v Q I rx h
  obtain ⟨k, e, q⟩ := h
  have hl := line63
  have hs : sizeLine = 16777216 := sizeLine_eq
  cases x with
  | non =>
    cases rx
    have e' : k = false := e
    subst e'
    exact truthy_none ⟨H, I, q⟩
  | bl b =>
    cases rx
    have e' : k = b := e
    subst e'
    exact wpAny_truthy_bool ⟨H, I, q⟩
  | int i =>
    obtain ⟨t, rfl⟩ := rx
    have e' : k = (i != 0) := e
    subst e'
    exact PySem.P.truthy_int ⟨H, I, q⟩
  | str y =>
    obtain ⟨t, rfl⟩ := rx
    obtain ⟨hy, e'⟩ : y.length ≤ sizeLine ∧ k = ((y.length : Int) != 0) := e
    subst e'
    exact PySem.P.truthy_str (by omega) ⟨H, I.tok _, q⟩
  | byt y =>
    obtain ⟨t, rfl⟩ := rx
    obtain ⟨hy, e'⟩ : y.size ≤ sizeLine ∧ k = ((y.size : Int) != 0) := e
    subst e'
    exact PySem.W.truthy_bytes (by omega) ⟨H, I.tok _, q⟩
  | ref p =>
    cases rx
    have e' : (∃ xs, SqL X.K H p xs ∧ k = !xs.isEmpty) ∨ (∃ xs, SqT X.K H p xs ∧ k = !xs.isEmpty) ∨ ∃ kvs, H p = some (.dK kvs) ∧ k = !kvs.isEmpty := e
    rcases e' with ⟨xs, hx, e'⟩ | ⟨xs, hx, e'⟩ | ⟨kvs, hx, e'⟩
    · subst e'
      obtain ⟨its, r, pl, hz⟩ := I.list hx
      have hlen := r.length
      exact wpAny_truthy_list pl.isList (by simp only [List.size_toArray]; omega) ⟨H, I.tok _, by rw [isEmpty_of r]; exact q⟩
    · subst e'
      obtain ⟨its, r, pl, hz⟩ := I.tuple hx
      have hlen := r.length
      exact truthy_tuple pl (by simp only [List.size_toArray]; omega) ⟨H, I.tok _, by rw [isEmpty_of r]; exact q⟩
    · subst e'
      obtain ⟨hz, hS, vs, r, m⟩ : kvs.length ≤ sizeLine ∧ (p == sysModules) = false ∧ ∃ vs, KV kvs vs ∧ s.heap.DictOf (mixKind X.prog X.w) p vs := I.hok p _ hx
      have hlen : kvs.length = vs.length := Paired.length r
      exact wpAny_truthy_dict hS m (by omega) ⟨H, I.tok _, by rw [isEmpty_kv r]; exact q⟩
  | _ => exact (show False from e).elim
/-- any expression whose test is its value's truth (a name, a call, a subscript, a field ..: he by fun _ => rfl) -/
theorem pt_truth (ha : PE X a ta) (he : ∀ whole, isTrue a X.env whole = (do let v ← whole; standAt a.pos; holding [v] (truthy v))) :
    PT X a (fun σ H Q => ta σ H fun x H' => ∃ k, TruV X.K x H' k ∧ Q k H') := by
  intro pins s σ H Q I h
  exact isTrue_plain (thn (ha pins s σ H _ I h) fun v s1 ⟨x, H1, I1, r1, q1⟩ => tru_ok pins s1 σ H1 x v Q I1 r1 q1) (he _)

/-! ### strs and bytes -/

def PlainIxT (b : Expr) : Prop := ∀ o i, subscripted b false o i = operate [o, i] (getItem o i)

/-! ### scalar builtins, by CallR -/
theorem vals1 {x : V} {us : List Value} (r : Vals [x] us) : ∃ u, us = [u] ∧ RelV x u := by
  cases r with
  | cons r1 r2 => cases r2; exact ⟨_, rfl, r1⟩
theorem call_abs : CallR X (.builtin "abs") (fun xs H Q => ∃ i, xs = [.int i] ∧ Q (.int (if i < 0 then -i else i)) H) := by
  intro pins s σ H xs us Q I r h
  obtain ⟨i, rfl, q⟩ := h
  obtain ⟨u, rfl, t, rfl⟩ := vals1 r
  exact call_abs_int fun u tk => ⟨.int (if i < 0 then -i else i), H, I.tok _, ⟨_, rfl⟩, q⟩
/-- len of a str, a bytes, a list, a tuple -/
def LenV (K : PySem.W.Frag) (x : V) (H : Hp) (n : Nat) : Prop :=
  match x with
  | .str y => y.length ≤ sizeLine ∧ n = y.length
  | .byt y => y.size ≤ sizeLine ∧ n = y.size
  | .ref p => (∃ xs, SqL K H p xs ∧ n = xs.length) ∨ ∃ xs, SqT K H p xs ∧ n = xs.length
  | _ => False
end
end L2

namespace L2
open PySem PySem.Spec PyProof.Rows

/-! ### an instance, its attributes a map -/
structure ObjM (h : Heap) (x dx C : Addr) (mA : Str → Option Value) : Prop where
  obj : h.get? x = some (PySem.W.instObj C dx)
  ns : h.Ns1 dx mA
  ne : dx ≠ x

theorem lookIn_ns {h : Heap} {dx : Addr} {mA : Str → Option Value} (n : h.Ns1 dx mA) : ∃ od, h.get? dx = some od ∧ ∀ name, PySem.W.lookIn name od = some (mA name) := by
  obtain ⟨o, es, ep, ho, hd, hk, _, hm⟩ := n
  refine ⟨o, ho, fun name => ?_⟩
  have e := hm name
  unfold nsFind findBy at e
  rw [← Array.find?_toList] at e
  unfold PySem.W.lookIn
  rw [hd]
  dsimp only
  split
  · rename_i y q
    rw [q] at e
    exact congrArg some e
  · rename_i q
    rw [q] at e
    have a : es.toList.any (·.refKey) = false := by
      rw [List.any_eq_false]
      intro y hy
      obtain ⟨z, t, hkey⟩ := hk y (Array.mem_toList_iff.mp hy)
      simp [DictEntry.refKey, hkey]
    have a' : ¬ es.toList.any (·.refKey) = true := by rw [a]; exact Bool.false_ne_true
    rw [if_neg a']
    exact congrArg some e

theorem ObjM.look {h : Heap} {x dx C : Addr} {mA : Str → Option Value} (I : ObjM h x dx C mA) : ∃ od, PySem.W.InstAt h x (PySem.W.instObj C dx) C (some od) ∧ ∀ name, PySem.W.lookIn name od = some (mA name) :=
  let ⟨od, ho, hl⟩ := lookIn_ns I.ns
  ⟨od, ⟨I.obj, rfl, rfl, ho⟩, hl⟩

section
variable {prog : Program} {w : World} {A : Around} {E : Value → Shared → Prop} {s : Shared} {K : PySem.W.Frag} {x dx C f : Addr} {mA : Str → Option Value} {name : Str} {v : Value}

theorem get_map {expr : Bool} {Q : Value → Shared → Prop} (X : K.In s.heap) (I : ObjM s.heap x dx C mA) (hg : PySem.W.plainGet K C name = true) (hh : PySem.W.hasDictIn K C = true)
    (ha : PySem.W.findIn K (.ref C) name = some none) (hv : mA name = some v) (hv' : PySem.W.handedIn v = true) (h : Q v { s with toks := s.toks + 1 }) :
    wpAny (model prog w) A (getAttr (.ref x) name expr) Q E s := by
  obtain ⟨od, J, hl⟩ := I.look
  exact PySem.W.get_value X J (PySem.W.plainGet_of hg).1 (PySem.W.findObj_own hh ha rfl (by rw [hl, hv])) hv' h


theorem get_meth {pl : Sem Bool} {Q : Value × List Value → Shared → Prop} (X : K.In s.heap) (I : ObjM s.heap x dx C mA) (hg : PySem.W.plainGet K C name = true)
    (hf : PySem.W.findIn K (.ref C) name = some (some (.ref f))) (ht : PySem.W.isFn K (.ref f) = true) (hv : mA name = none) (h : Q (.ref f, [.ref x]) s) :
    wpAny (model prog w) A (getMethod (.ref x) name pl) Q E s := by
  obtain ⟨od, J, hl⟩ := I.look
  exact PySem.W.method_fn X J (PySem.W.plainGet_of hg).1 (PySem.W.plainGet_of hg).2 hf (beq_iff_eq.mp ht) (by show (PySem.W.lookIn name od).map (·.isSome) = some false; rw [hl, hv]; rfl) h

theorem set_map {ns : List Str} {Q : Unit → Shared → Prop} (X : K.In s.heap) (I : ObjM s.heap x dx C mA)
    (hs : PySem.W.findIn K (.ref C) "__setattr__" = some (some (.builtin "object.__setattr__"))) (hp : PySem.W.plainOver K C = true) (ht : PySem.W.takerIn K C name = some none) (hh : PySem.W.hasDictIn K C = true)
    (hw : PySem.Within mA ns) (hsz : ns.length ≤ sizeLine)
    (h : ∀ h', ObjM h' x dx C (fun y => if y = name then some v else mA y) → Heap.SameBut dx s.heap h' → Q () { s with heap := h', toks := s.toks + 2 }) :
    wpAny (model prog w) A (setAttr (.ref x) name v) Q E s := by
  obtain ⟨od, J, hl⟩ := I.look
  refine PySem.W.set_plain X J hs (PySem.W.osa_open (s := { s with toks := s.toks + 1 }) (r := none) X J hp ht fun b => ?_)
  obtain ⟨cd, hc, hd'⟩ := PySem.W.any_some hh
  have hx : s.heap.get? x = some ⟨.ref C, some dx, .plain, #[]⟩ := I.obj
  refine wpAny_bind (wpAny_pure (wpAny_bind (wpAny_bind (wpAny_loadPart hx (wpAny_bind (PySem.W.Looks.here (s := { s with toks := s.toks + 1 }) (PySem.W.looks_clsIn X hc) ?_))))))
  rw [hd']
  refine wpAny_pure (a := some dx) (wpAny_bind (wpAny_pure (wpAny_bind ?_)))
  refine wpAny_nsSet1 (s := { s with toks := s.toks + 1 }) I.ns fun h' hn2 hs2 => ?_
  obtain ⟨oD, esD, epD, hoD, hdD, hcD⟩ := hn2.count (PySem.Within.cons name v hw)
  refine wpAny_bind (wpAny_lookBehind hoD (by rw [hdD]; exact pastItsLine_dict (Nat.le_trans hcD (by rw [List.length_cons]; omega))) ?_)
  exact wpAny_pure (h _ ⟨(hs2.2 _ (Ne.symm I.ne)).trans I.obj, hn2, I.ne⟩ hs2)

/-- C(..): the dict at the heap's end, the instance behind it; then its __init__ -/
theorem make_map {R : Result → Shared → Prop} {vs : List Value} {kw : List (Str × Value)} (X : K.In s.heap) (hm : PySem.W.makesIn K C = true)
    (hi : PySem.W.findIn K (.ref C) "__init__" = some (some (.ref f))) (hf : PySem.W.typeIn K (.ref f) = some (.type "function"))
    (h : codeAny (model prog w) (A.under (.builtin "type.__call__" ⟨.ref C :: vs, kw⟩)) (.call (.ref f) ⟨.ref (s.heap.objs.size + 1) :: vs, kw⟩) (PySem.W.InitBack (s.heap.objs.size + 1) R)
      { s with heap := (s.heap.push PySem.W.emptyDict).push (PySem.W.instObj C s.heap.objs.size) }) :
    codeAny (model prog w) A (.call (.ref C) ⟨vs, kw⟩) R s := by
  obtain ⟨hh, g, d, t, os⟩ := s
  exact PySem.W.make_core (PySem.W.makes_of X hm) (PySem.W.looks_findIn X hi) (fun self => PySem.W.bind_fn X self hf) (.inl rfl) h
end

/-! ### the attributes as a list of pairs -/
def putF (f : Str) (v : V) : List (Str × V) → List (Str × V)
  | [] => [(f, v)]
  | (g, x) :: r => if g = f then (g, v) :: r else (g, x) :: putF f v r
theorem lookup_putF (f g : Str) (v : V) : ∀ fs : List (Str × V), (putF f v fs).lookup g = if g = f then some v else fs.lookup g
  | [] => by
    show List.lookup g [(f, v)] = _
    by_cases h : g = f
    · have hb : (g == f) = true := beq_iff_eq.mpr h
      simp only [List.lookup, hb, if_pos h]
    · have hb : (g == f) = false := beq_eq_false_iff_ne.mpr h
      simp only [List.lookup, hb, if_neg h]
  | (k, x) :: r => by
    have ih := lookup_putF f g v r
    rw [show putF f v ((k, x) :: r) = (if k = f then (k, v) :: r else (k, x) :: putF f v r) from rfl]
    by_cases hk : k = f
    · rw [if_pos hk]
      by_cases h : g = k
      · have hb : (g == k) = true := beq_iff_eq.mpr h
        simp only [List.lookup, hb, if_pos (h.trans hk)]
      · have hb : (g == k) = false := beq_eq_false_iff_ne.mpr h
        simp only [List.lookup, hb, if_neg (fun e : g = f => h (e.trans hk.symm))]
    · rw [if_neg hk]
      by_cases h : g = k
      · have hb : (g == k) = true := beq_iff_eq.mpr h
        simp only [List.lookup, hb, if_neg (fun e : g = f => hk (h.symm.trans e))]
      · have hb : (g == k) = false := beq_eq_false_iff_ne.mpr h
        simp only [List.lookup, hb]
        exact ih
theorem keys_putF (f : Str) (v : V) : ∀ fs : List (Str × V), f ∈ (putF f v fs).map (·.1) ∧ ∀ g, g ∈ fs.map (·.1) → g ∈ (putF f v fs).map (·.1)
  | [] => ⟨by simp [putF], fun g h => by simp at h⟩
  | (k, x) :: r => by
    obtain ⟨i1, i2⟩ := keys_putF f v r
    rw [show putF f v ((k, x) :: r) = (if k = f then (k, v) :: r else (k, x) :: putF f v r) from rfl]
    by_cases hk : k = f
    · rw [if_pos hk]
      subst hk
      exact ⟨by simp, fun g h => by simpa using h⟩
    · rw [if_neg hk]
      refine ⟨?_, fun g h => ?_⟩
      · rw [List.map_cons]
        exact List.mem_cons_of_mem _ i1
      · rw [List.map_cons] at h ⊢
        rcases List.mem_cons.mp h with e | e
        · exact List.mem_cons.mpr (.inl e)
        · exact List.mem_cons_of_mem _ (i2 g e)
theorem length_putF (f : Str) (v : V) : ∀ fs : List (Str × V), (putF f v fs).length ≤ fs.length + 1
  | [] => by simp [putF]
  | (k, x) :: r => by
    have ih := length_putF f v r
    rw [show putF f v ((k, x) :: r) = (if k = f then (k, v) :: r else (k, x) :: putF f v r) from rfl]
    by_cases hk : k = f
    · rw [if_pos hk, List.length_cons, List.length_cons]; omega
    · rw [if_neg hk, List.length_cons, List.length_cons]; omega

theorem RelO.some_of {v : V} {o : Option Value} (r : RelO (some v) o) : ∃ u, o = some u ∧ RelV v u := by
  cases o with
  | none => exact (show False from r).elim
  | some u => exact ⟨u, rfl, r⟩
theorem RelO.none_of {o : Option Value} (r : RelO none o) : o = none := by
  cases o with
  | none => rfl
  | some u => exact (show False from r).elim
theorem handed_of {v : V} {u : Value} (r : RelV v u) : PySem.W.handedIn u = true := by
  cases v with
  | non => cases (show u = Value.none from r); rfl
  | bl b => cases (show u = Value.bool b from r); rfl
  | int i => obtain ⟨t, e⟩ := (show ∃ t, u = Value.int i t from r); cases e; rfl
  | str x => obtain ⟨t, e⟩ := (show ∃ t, u = Value.str x t from r); cases e; rfl
  | byt b => obtain ⟨t, e⟩ := (show ∃ t, u = Value.bytes b t from r); cases e; rfl
  | flt b => obtain ⟨t, e⟩ := (show ∃ t, u = Value.float b t from r); cases e; rfl
  | ref a => cases (show u = Value.ref a from r); rfl
  | ty n => cases (show u = Value.type n from r); rfl

section
variable {P : Program} {w : World} {H H' : Hp} {h h' : Heap} {a C dx : Addr} {fs fs' : List (Str × V)}
theorem ins_get (hok : HOk P w H h) (e : H a = some (.ins C dx fs)) : ∃ mA, ObjM h a dx C mA ∧ (∀ f, RelO (fs.lookup f) (mA f)) ∧ PySem.Within mA (fs.map (·.1)) ∧ fs.length ≤ 1000 ∧ H dx = some (.own a) := by
  obtain ⟨d, z, ne, ob, mA, n, r, q⟩ := (show ObjOk P w H h a (.ins C dx fs) from hok a _ e)
  exact ⟨mA, ⟨ob, n, ne⟩, r, q, z, d⟩
end

/-! ### what of the text a class must have -/
structure Cls (K : PySem.W.Frag) (C : Addr) : Prop where
  pg : PySem.W.plainGet K C Str.empty = true
  hd : PySem.W.hasDictIn K C = true
  po : PySem.W.plainOver K C = true
  sa : PySem.W.findIn K (.ref C) "__setattr__" = some (some (.builtin "object.__setattr__"))
theorem Cls.get {K : PySem.W.Frag} {C : Addr} (c : Cls K C) (f : Str) : PySem.W.plainGet K C f = true := c.pg
/-- no class of it has the name -/
def NoAttr (K : PySem.W.Frag) (C : Addr) (f : Str) : Prop := PySem.W.findIn K (.ref C) f = some none
theorem NoAttr.taker {K : PySem.W.Frag} {C : Addr} {f : Str} (n : NoAttr K C f) : PySem.W.takerIn K C f = some none := by
  unfold PySem.W.takerIn
  rw [show PySem.W.findIn K (.ref C) f = some none from n]
  rfl
/-- a constant of the class -/
structure Con (K : PySem.W.Frag) (C : Addr) (f : Str) (v : V) (u : Value) : Prop where
  at_ : PySem.W.findIn K (.ref C) f = some (some u)
  rel : RelV v u
  get : PySem.W.specialIn K u "__get__" = some none
  cp : PySem.W.copiedNames.contains f = false
/-- a method: a plain def of the class or of one above it -/
structure Meth (K : PySem.W.Frag) (C : Addr) (m : Str) (f : Addr) : Prop where
  at_ : PySem.W.findIn K (.ref C) m = some (some (.ref f))
  fn : PySem.W.isFn K (.ref f) = true
  kp : PySem.W.keepIn K (.ref f) = true

section
variable {X : Cx} {pins : List (Addr × Obj)} {σ : St} {H : Hp} {s : Shared} {a C dx : Addr} {fs : List (Str × V)} {f : Str} {v : V} {A : Around} {E : Value → Shared → Prop}

theorem getattr_ok {b : Bool} {Q : Value → Shared → Prop} (I : Inv X pins σ H s) (e : H a = some (.ins C dx fs)) (c : Cls X.K C) (n : NoAttr X.K C f) (l : fs.lookup f = some v)
    (h : ∀ u s', Inv X pins σ H s' → RelV v u → Q u s') : wpAny (model X.prog X.w) A (getAttr (.ref a) f b) Q E s := by
  obtain ⟨mA, O, r, _, _, _⟩ := ins_get I.hok e
  obtain ⟨u, hu, ru⟩ := RelO.some_of (v := v) (o := mA f) (by rw [← l]; exact r f)
  exact get_map I.kIn O (c.get f) c.hd n hu (handed_of ru) (h u _ (I.tok _) ru)


theorem getmeth_ok {m : Str} {g : Addr} {pl : Sem Bool} {Q : Value × List Value → Shared → Prop} (I : Inv X pins σ H s) (e : H a = some (.ins C dx fs)) (c : Cls X.K C) (k : Meth X.K C m g) (l : fs.lookup m = none)
    (h : Q (.ref g, [.ref a]) s) : wpAny (model X.prog X.w) A (getMethod (.ref a) m pl) Q E s := by
  obtain ⟨mA, O, r, _, _, _⟩ := ins_get I.hok e
  have hn : mA m = none := RelO.none_of (by rw [← l]; exact r m)
  exact get_meth I.kIn O (c.get m) k.at_ k.fn hn h

theorem setattr_ok {y : V} {u : Value} {Q : Unit → Shared → Prop} (I : Inv X pins σ H s) (e : H a = some (.ins C dx fs)) (c : Cls X.K C) (n : NoAttr X.K C f) (hl : fs.length < 1000) (ry : RelV y u)
    (h : ∀ s', Inv X pins σ (upd H a (.ins C dx (putF f y fs))) s' → Q () s') : wpAny (model X.prog X.w) A (setAttr (.ref a) f u) Q E s := by
  obtain ⟨mA, O, r, wi, _, ho⟩ := ins_get I.hok e
  have hz : (fs.map (·.1)).length ≤ sizeLine := by rw [List.length_map, sizeLine_eq]; omega
  refine set_map I.kIn O c.sa c.po n.taker c.hd wi hz fun h' O' sb => h _ ?_
  have hd : ∃ o, h'.get? dx = some o := let ⟨o, _, _, e', _⟩ := O'.ns; ⟨o, e'⟩
  refine I.write (x := a) (e := dx) (by rw [e]; exact True.intro) (.inr ho) (fun b q hb z => (sb.2 b hb).trans z) hd ?_
  refine ⟨by rw [upd_ne O.ne]; exact ho, ?_, O.ne, O'.obj, _, O'.ns, fun g => ?_, fun g hg => ?_⟩
  · have := length_putF f y fs; omega
  · show RelO ((putF f y fs).lookup g) (if g = f then some u else mA g)
    rw [lookup_putF]
    by_cases q : g = f
    · rw [if_pos q, if_pos q]; exact ry
    · rw [if_neg q, if_neg q]; exact r g
  · by_cases q : g = f
    · rw [q]; exact (keys_putF f y fs).1
    · refine (keys_putF f y fs).2 g (wi g fun z => hg ?_)
      show (if g = f then some u else mA g) = none
      rw [if_neg q]; exact z

/-- a new instance, tracked, without attributes -/
theorem Inv.made (I : Inv X pins σ H s) : Inv X pins σ (upd (upd H s.heap.objs.size (.own (s.heap.objs.size + 1))) (s.heap.objs.size + 1) (.ins C s.heap.objs.size []))
    { s with heap := (s.heap.push PySem.W.emptyDict).push (PySem.W.instObj C s.heap.objs.size) } := by
  have e1 : (s.heap.push PySem.W.emptyDict).get? s.heap.objs.size = some PySem.W.emptyDict := Heap.get?_push_size s.heap rfl
  have e2 : ((s.heap.push PySem.W.emptyDict).push (PySem.W.instObj C s.heap.objs.size)).get? (s.heap.objs.size + 1) = some (PySem.W.instObj C s.heap.objs.size) := by
    have := Heap.get?_push_size (s.heap.push PySem.W.emptyDict) (o := PySem.W.instObj C s.heap.objs.size) rfl
    rwa [Heap.size_push] at this
  have e3 : (s.heap.push PySem.W.emptyDict).Ns s.heap.objs.size (fun _ => none) := ⟨PySem.W.emptyDict, #[], _, e1, rfl, (fun e he => absurd he (by simp)), fun _ => rfl⟩
  have I1 := I.laid (a := s.heap.objs.size) (o := .own (s.heap.objs.size + 1)) (h' := s.heap.push PySem.W.emptyDict) (t' := s.toks) (fun b u q => Heap.get?_push_of_some _ q) (Nat.le_refl _) ⟨_, e1⟩
  refine I1.laid (a := s.heap.objs.size + 1) (o := .ins C s.heap.objs.size []) (t' := s.toks) (fun b u q => Heap.get?_push_of_some _ q) (Nat.le_of_eq (Heap.size_push _ _)) ?_
  have ne : s.heap.objs.size ≠ s.heap.objs.size + 1 := Nat.ne_of_lt (Nat.lt_succ_self _)
  refine ⟨by rw [upd_ne ne, upd_same], Nat.zero_le _, ne, e2, fun _ => none, (Heap.Ns1.of_empty e3).at fun o q => Heap.get?_push_of_some _ q, fun _ => True.intro, fun y hy => absurd rfl hy⟩

/-- e.f where nothing but the object is asked: through attributeBase (super) and the last hold -/
theorem attr_of {prog : Program} {w : World} {env : Env} {e : Expr} {f : Str} {pos : Pos} {s : Shared} {Q : Value → Shared → Prop} (hb : attributeBase e f env (eval e env) = eval e env)
    (h : wpAny (model prog w) A (eval e env) (fun o s₁ => wpAny (model prog w) A (getAttr o f true) Q E s₁) E s) : wpAny (model prog w) A (eval (.Attribute e f pos) env) Q E s :=
  Attribute_any_ h (by rw [arm_eval_Attribute, hb])
end

/-! ### readings and rules -/
/-- e.f, an attribute of the instance -/
def tFld (K : PySem.W.Frag) (ta : TE) (f : Str) : TE := fun σ H Q => ta σ H fun x H1 => ∃ a C dx fs v, x = .ref a ∧ H1 a = some (.ins C dx fs) ∧ Cls K C ∧ NoAttr K C f ∧ fs.lookup f = some v ∧ Q v H1
/-- e.f, a constant of the class -/
def tCon (K : PySem.W.Frag) (ta : TE) (f : Str) : TE := fun σ H Q => ta σ H fun x H1 => ∃ a C dx fs v u, x = .ref a ∧ H1 a = some (.ins C dx fs) ∧ Cls K C ∧ Con K C f v u ∧ fs.lookup f = none ∧ Q v H1
/-- e.f = value -/
def sFld (K : PySem.W.Frag) (ta tv : TE) (f : Str) : TS := fun D σ H => tv σ H fun y H1 => ta σ H1 fun x H2 => ∃ a C dx fs, x = .ref a ∧ H2 a = some (.ins C dx fs) ∧ Cls K C ∧ NoAttr K C f ∧ fs.length < 1000 ∧
  D.nx σ (upd H2 a (.ins C dx (putF f y fs)))
/-- an augmented operator on two values -/
def InOp (X : Cx) (op : Operator) (rd : V → V → Hp → VK → Prop) : Prop :=
  ∀ (pins : List (Addr × Obj)) (s : Shared) (σ : St) (H : Hp) (x y : V) (u v : Value) (Q : VK), Inv X pins σ H s → RelV x u → RelV y v → rd x y H Q → wpAny (model X.prog X.w) X.A (inplaceOp op u v) (EP X pins σ Q) X.xe s
/-- e.f op= value -/
def sFldAug (K : PySem.W.Frag) (ta tv : TE) (rd : V → V → Hp → VK → Prop) (f : Str) : TS := fun D σ H => ta σ H fun x H1 => ∃ a C dx fs v, x = .ref a ∧ H1 a = some (.ins C dx fs) ∧ Cls K C ∧ NoAttr K C f ∧ fs.lookup f = some v ∧
  tv σ H1 fun y H2 => rd v y H2 fun z H3 => ∃ dx' fs', H3 a = some (.ins C dx' fs') ∧ fs'.length < 1000 ∧ D.nx σ (upd H3 a (.ins C dx' (putF f z fs')))

section
variable {X : Cx} {o e value : Expr} {f : Str} {pos pos' tpos : Pos} {ta tv : TE}
theorem pe_fld (he : PE X e ta) (hb : attributeBase e f X.env (eval e X.env) = eval e X.env) : PE X (.Attribute e f pos) (tFld X.K ta f) := by
  intro pins s σ H Q I h
  refine attr_of hb (thn (he pins s σ H _ I h) fun u s1 ⟨x, H1, I1, rx, a, C, dx, fs, v, ex, ea, c, n, l, q⟩ => ?_)
  subst ex
  obtain rfl : u = Value.ref a := rx
  exact getattr_ok I1 ea c n l fun u' s2 I2 ru => ⟨v, H1, I2, ru, q⟩
theorem ps_fld (ha : PE X o ta) (hv : PE X value tv) (hs : swapsWith value (some (.Attribute o f pos')) pos.line X.env = pure false) : PS X (.Assign [.Attribute o f pos'] value pos) (sFld X.K ta tv f) := by
  intro pins s σ H D I h
  refine plainObj_wpAny_Assign_Attribute (thn (hv pins s σ H _ I h) fun u s1 ⟨y, H1, I1, ry, q⟩ => thn (ha pins s1 σ H1 _ I1 q) fun ov s2 ⟨x, H2, I2, rx, a, C, dx, fs, ex, ea, c, n, l, q2⟩ => ?_) hs
  subst ex
  obtain rfl : ov = Value.ref a := rx
  exact setattr_ok I2 ea c n l ry fun s3 I3 => ⟨σ, _, I3, q2⟩
def rAdd : V → V → Hp → VK → Prop := fun x y H Q => ∃ i j, x = .int i ∧ y = .int j ∧ Q (.int (i + j)) H
def rSub : V → V → Hp → VK → Prop := fun x y H Q => ∃ i j, x = .int i ∧ y = .int j ∧ Q (.int (i - j)) H

/-- what is between an instance and its method: the tree of a method call -/
theorem methcall_of {pl : Sem Bool} {m : Str} {apos : Pos} {args : List Expr} {pins : List (Addr × Obj)} {s : Shared} {σ : St} {H : Hp} {Q : Value → Shared → Prop} {te : TE} (he : PE X e te) (I : Inv X pins σ H s)
    (h : te σ H fun x H1 => ∃ a C dx fs g, x = .ref a ∧ H1 a = some (.ins C dx fs) ∧ Cls X.K C ∧ Meth X.K C m g ∧ fs.lookup m = none ∧
      ∀ s1, Inv X pins σ H1 s1 → wpAny (model X.prog X.w) X.A (callWith pos (.ref g) [.ref a] (backTo pos (starEach args X.env)) (backToKw pos (keywordEach [] X.env))) Q X.xe s1)
    (ht : eval (.Call (.Attribute e m apos) args [] pos) X.env = (do
      let ov ← eval e X.env
      standAt apos.atName
      let (f, first) ← holding [ov] (getMethod ov m pl)
      callWith pos f first (backTo pos (starEach args X.env)) (backToKw pos (keywordEach [] X.env)))) :
    wpAny (model X.prog X.w) X.A (eval (.Call (.Attribute e m apos) args [] pos) X.env) Q X.xe s := by
  refine PySem.W.methodCall_KW (pl := pl) (thn (he pins s σ H _ I h) fun u s1 ⟨x, H1, I1, rx, a, C, dx, fs, g, ex, ea, c, k, l, q⟩ => ?_) ht
  subst ex
  obtain rfl : u = Value.ref a := rx
  exact getmeth_ok I1 ea c k l (q s1 I1)
end

/-! ### isinstance -/
section
variable {X : Cx} {pins : List (Addr × Obj)} {σ : St} {H : Hp} {s : Shared} {A : Around} {E : Value → Shared → Prop} {Q : Value → Shared → Prop} {c : Value} {b : Bool}
/-- the type of a value, as the fragment's deciders take it; for an instance its class -/
inductive TyOf (K : PySem.W.Frag) (H : Hp) : V → Value → Prop where
  | non : TyOf K H .non (.type "NoneType")
  | bl (x : Bool) : TyOf K H (.bl x) (.type "bool")
  | int (i : Int) : TyOf K H (.int i) (.type "int")
  | str (x : Str) : TyOf K H (.str x) (.type "str")
  | flt (x : UInt64) : TyOf K H (.flt x) (.type "float")
  | lst {a : Addr} {xs : List V} (e : H a = some (.lst xs)) : TyOf K H (.ref a) (.type "list")
  | frz {a : Addr} {o : Obj} {xs : List V} (e : H a = some (.frz o (.lst xs))) : TyOf K H (.ref a) (.type "list")
  | tup {a : Addr} {xs : List V} (e : H a = some (.tup xs)) : TyOf K H (.ref a) (.type "tuple")
  | dK {a : Addr} {kvs : List (Key × V)} (e : H a = some (.dK kvs)) : TyOf K H (.ref a) (.type "dict")
  | dT {a : Addr} {kvs : List (List Key × V)} (e : H a = some (.dT kvs)) : TyOf K H (.ref a) (.type "dict")
  | ins {a C dx : Addr} {fs : List (Str × V)} (e : H a = some (.ins C dx fs)) (cl : Cls K C) (ha : PySem.W.findIn K (.ref C) "__class__" = some (some (.builtin "object.__class__")))
      (hn : PySem.W.specialIn K (.builtin "object.__class__") "__get__" = some (some (.builtin "getset_descriptor.__get__"))) (htk : PySem.W.takesIn K (.builtin "object.__class__") = some true)
      (hm : PySem.W.mroIn K C (.type "object") = some true) : TyOf K H (.ref a) (.ref C)
/-- isinstance(x, c) for one class c, a built-in or an own one: kitOne's answer -/
theorem isinst_ok {x : V} {u t : Value} (I : Inv X pins σ H s) (rx : RelV x u) (ty : TyOf X.K H x t) (e : PySem.W.kitOne X.K t c = some b) (h : ∀ tk, Q (.bool b) { s with toks := tk }) :
    wpAny (model X.prog X.w) A (call (.builtin "isinstance") [u, c]) Q E s := by
  cases ty with
  | non => cases (show u = Value.none from rx); exact PySem.W.kia_one PySem.W.kitx_none I.kIn True.intro e (fun z => nomatch z) h
  | bl y => cases (show u = Value.bool y from rx); exact PySem.W.kia_one PySem.W.kitx_bool I.kIn True.intro e (fun z => nomatch z) h
  | int i => obtain ⟨t, q⟩ := (show ∃ t, u = Value.int i t from rx); cases q; exact PySem.W.kia_one PySem.W.kitx_int I.kIn True.intro e (fun z => nomatch z) h
  | str y => obtain ⟨t, q⟩ := (show ∃ t, u = Value.str y t from rx); cases q; exact PySem.W.kia_one PySem.W.kitx_str I.kIn True.intro e (fun z => nomatch z) h
  | flt y => obtain ⟨t, q⟩ := (show ∃ t, u = Value.float y t from rx); cases q; exact PySem.W.kia_one PySem.W.kitx_float I.kIn True.intro e (fun z => nomatch z) h
  | @lst a xs ea =>
    cases (show u = Value.ref a from rx)
    obtain ⟨_, _, n, _, h1⟩ := (show ObjOk X.prog X.w H s.heap a (.lst xs) from I.hok a _ ea)
    exact PySem.W.kia_one PySem.W.kitx_list I.kIn ⟨_, h1, rfl⟩ e (fun z => nomatch z) h
  | @frz a ob xs ea =>
    cases (show u = Value.ref a from rx)
    obtain ⟨_, _, _, n, _, h1⟩ := (show ObjOk X.prog X.w H s.heap a (.frz ob (.lst xs)) from I.hok a _ ea)
    exact PySem.W.kia_one PySem.W.kitx_list I.kIn ⟨_, h1, rfl⟩ e (fun z => nomatch z) h
  | @tup a xs ea =>
    cases (show u = Value.ref a from rx)
    obtain ⟨_, _, _, p⟩ := (show ObjOk X.prog X.w H s.heap a (.tup xs) from I.hok a _ ea)
    obtain ⟨o, h1, ⟨h2, _⟩, _⟩ := p
    exact PySem.W.kia_one PySem.W.kitx_tuple I.kIn ⟨o, h1, h2⟩ e (fun z => nomatch z) h
  | @dK a kvs ea =>
    cases (show u = Value.ref a from rx)
    obtain ⟨_, _, vs, _, p⟩ := (show ObjOk X.prog X.w H s.heap a (.dK kvs) from I.hok a _ ea)
    obtain ⟨o, es, ep, h1, h2, _⟩ := p
    exact PySem.W.kia_one PySem.W.kitx_dict I.kIn ⟨o, h1, h2.1⟩ e (fun z => nomatch z) h
  | @dT a kvs ea =>
    cases (show u = Value.ref a from rx)
    obtain ⟨_, _, xs, _, o, es, ep, h1, h2, _⟩ := (show ObjOk X.prog X.w H s.heap a (.dT kvs) from I.hok a _ ea)
    exact PySem.W.kia_one PySem.W.kitx_dict I.kIn ⟨o, h1, h2.1⟩ e (fun z => nomatch z) h
  | @ins a C dx fs ea cl ha hn htk hm =>
    cases (show u = Value.ref a from rx)
    obtain ⟨mA, O, _⟩ := ins_get I.hok ea
    obtain ⟨od, J, _⟩ := O.look
    exact PySem.W.kia_one (PySem.W.kitx_own (cl.get _) cl.hd ha hn htk hm) I.kIn J e (fun z => nomatch z) h
end
end L2

namespace L2
open PySem PySem.Spec PyProof.Rows

/-! ### room -/
structure Room (k : Nat) (A : Around) : Prop where
  hd : A.handled = none
  dp : A.depth + 3 * k + 5 < recursionLimit
  un : A.units + 16 * k + 200 < cLine
theorem Room.mono {j k : Nat} {A : Around} (r : Room k A) (h : j ≤ k) : Room j A := ⟨r.hd, by have := r.dp; omega, by have := r.un; omega⟩
theorem Room.deeper {k : Nat} {A : Around} (r : Room (k + 1) A) (env : Env) : Room k (A.deeper env) :=
  ⟨r.hd, by have := r.dp; show A.depth + 1 + 3 * k + 5 < _; omega, by have := r.un; show A.units + 3 + 16 * k + 200 < _; omega⟩
theorem make_depth {A : Around} {C : Addr} {us : List Value} {kw : List (Str × Value)} : (A.under (.builtin "type.__call__" ⟨.ref C :: us, kw⟩)).depth = A.depth + 1 := by
  first | rfl | simp [Around.under, Code.weight, Code.isCreation, Code.isGuard, Code.isCaller, Code.frames, Code.isFrame, guardIds]
theorem make_units {A : Around} {C : Addr} {us : List Value} {kw : List (Str × Value)} : (A.under (.builtin "type.__call__" ⟨.ref C :: us, kw⟩)).units = A.units + 1 := by
  first | rfl | simp [Around.under, Code.cUnits, Code.frames, Code.isFrame]
theorem Room.make {k : Nat} {A : Around} (r : Room (k + 1) A) (C : Addr) (us : List Value) (kw : List (Str × Value)) : Room k (A.under (.builtin "type.__call__" ⟨.ref C :: us, kw⟩)) :=
  ⟨r.hd, by have := r.dp; rw [make_depth]; omega, by have := r.un; rw [make_units]; omega⟩
theorem Room.depth {k : Nat} {A : Around} (r : Room k A) : A.depth < recursionLimit := by have := r.dp; omega
theorem Room.units {k : Nat} {A : Around} (r : Room k A) : A.units + 64 < cLine := by have := r.un; omega

/-! ### argument lists and displays -/
def tNil : TA := fun _ H Q => Q [] H
def tCons (ta : TE) (tr : TA) : TA := fun σ H Q => ta σ H fun x H1 => tr σ H1 fun xs H2 => Q (x :: xs) H2
section
variable {X : Cx} {e : Expr} {es : List Expr} {te : TE} {t : TA} {pos : Pos}
theorem pa_nil : PA X [] tNil := fun _ _ _ _ H Q I h => Calls.spliced_nil ⟨[], H, I, .nil, h⟩
theorem pa_cons (ha : PE X e te) (hr : PA X es t) (hs : starEach (e :: es) X.env = (false, eval e X.env) :: starEach es X.env := by rfl) : PA X (e :: es) (tCons te t) := by
  intro pos pins s σ H Q I h
  rw [hs]
  show wpAny _ _ (spliced ((false, eval e X.env) :: backTo pos (starEach es X.env))) _ _ s
  refine Calls.spliced_cons (thn (ha pins s σ H _ I h) fun u s1 ⟨x, H1, I1, r1, q1⟩ => ?_)
  exact thn (hr pos pins s1 σ H1 _ I1 q1) fun us s2 ⟨xs, H2, I2, r2, q2⟩ => ⟨x :: xs, H2, I2, .cons r1 r2, q2⟩

/-- a tuple, a list of written items -/
def tTup (t : TA) : TE := fun σ H Q => t σ H fun xs H1 => xs.length ≤ sizeLine ∧ ∀ p, H1 p = none → Q (.ref p) (upd H1 p (.tup xs))
def tLst (t : TA) : TE := fun σ H Q => t σ H fun xs H1 => xs.length ≤ sizeLine ∧ ∀ p, H1 p = none → Q (.ref p) (upd H1 p (.lst xs))
theorem pe_tup {x1} (h : PA X es t) : PE X (.Tuple es x1 pos) (tTup t) := by
  intro pins s σ H Q I hq
  refine wpAny_Tuple_spliced (thn (h pos pins s σ H _ I hq) fun us s1 ⟨xs, H1, I1, r, z, q⟩ => ⟨by rw [← r.length]; exact z, ?_⟩)
  have hf : H1 s1.heap.objs.size = none := I1.hok.fresh (Nat.le_refl _)
  refine ⟨.ref s1.heap.objs.size, upd H1 s1.heap.objs.size (.tup xs), I1.laid (t' := s1.toks) (fun b u e => Heap.get?_push_of_some _ e) (Nat.le_refl _) ?_, rfl, q _ hf⟩
  exact ⟨z, us, r, ⟨_, Heap.get?_push_size _ rfl, ⟨rfl, _, rfl⟩, rfl⟩⟩
theorem pe_lst (h : PA X es t) : PE X (.List es pos) (tLst t) := by
  intro pins s σ H Q I hq
  refine wpAny_List_spliced (thn (h pos pins s σ H _ I hq) fun us s1 ⟨xs, H1, I1, r, z, q⟩ => ⟨by rw [← r.length]; exact z, ?_⟩)
  have hf : H1 s1.heap.objs.size = none := I1.hok.fresh (Nat.le_refl _)
  refine ⟨.ref s1.heap.objs.size, upd H1 s1.heap.objs.size (.lst xs), I1.laid (t' := s1.toks) (fun b u e => Heap.get?_push_of_some _ e) (Nat.le_refl _) ?_, rfl, q _ hf⟩
  exact ⟨z, us, 0, r, Heap.get?_push_size _ rfl⟩
end

/-! ### what a def promises -/
/-- a def's promise: the bound arguments in the parameters' order, the heap, the wanted end, the wanted exception -/
abbrev Sp := List V → Hp → VK → XK → Prop
/-- how an exception lies behind a call (file 08 gives it): the callers' frames, abstract heap and state ahead of the call, the wish, the exception, the state -/
abbrev CXT := List Env → Hp → Shared → XK → Value → Shared → Prop

/-- the state at a call -/
structure Env0 (P : Program) (w : World) (K : PySem.W.Frag) (mg : Str → Option Value) (base : Heap) (A : Around) (outer : List Env) (s : Shared) (H : Hp) : Prop where
  frames : A.frames = some outer
  mod : Mod K mg base
  bs : ∀ b o, base.get? b = some o → s.heap.get? b = some o ∧ H b = none
  bsz : base.objs.size ≤ s.heap.objs.size
  funs : s.heap.FunFrames base outer
  frf : ∀ b ∈ frs outer, H b = none
  hok : HOk P w H s.heap
  bare : AllBare s.gens
/-- a call's end -/
def CE (outer : List Env) (P : Program) (w : World) (H : Hp) (s : Shared) (Q : VK) (u : Value) (s' : Shared) : Prop :=
  ∃ v H', s'.os = s.os ∧ AllBare s'.gens ∧ Un (frs outer) [] H H' s.heap s'.heap ∧ HOk P w H' s'.heap ∧ RelV v u ∧ Q v H'
def CR (CX : CXT) (outer : List Env) (P : Program) (w : World) (H : Hp) (s : Shared) (Q : VK) (E : XK) (r : Result) (s' : Shared) : Prop :=
  match r with
  | .ok (.ret u) => CE outer P w H s Q u s'
  | .ok _ => False
  | .error e => CX outer H s E e s'
structure FnOk (P : Program) (w : World) (K : PySem.W.Frag) (mg : Str → Option Value) (base : Heap) (CX : CXT) (k : Nat) (f : Addr) (fd : FuncData) (ps : List Str) (sp : Sp) : Prop where
  len : ∀ vs H Q E, sp vs H Q E → vs.length = ps.length
  run : ∀ (A : Around) (outer : List Env) (s : Shared) (H : Hp) (args : Args) (us : List Value) (vs : List V) (Q : VK) (E : XK), Room k A → Env0 P w K mg base A outer s H → BindsTo s fd args (ps.zip us) → Vals vs us → sp vs H Q E →
    codeAny (model P w) A (.call (.ref f) args) (CR CX outer P w H s Q E) s

theorem Env0.make {P : Program} {w : World} {K : PySem.W.Frag} {mg : Str → Option Value} {base : Heap} {A : Around} {outer : List Env} {s : Shared} {H : Hp} (e : Env0 P w K mg base A outer s H) (C : Addr) (us : List Value) (kw : List (Str × Value)) :
    Env0 P w K mg base (A.under (.builtin "type.__call__" ⟨.ref C :: us, kw⟩)) outer s H := ⟨by first | exact e.frames | (simpa [Around.under, Code.envs, Code.isFrame, pushEnvs] using e.frames), e.mod, e.bs, e.bsz, e.funs, e.frf, e.hok, e.bare⟩

section
variable {X : Cx} {pins : List (Addr × Obj)} {σ : St} {H : Hp} {s s' : Shared}
/-- from a body: what a callee wants -/
theorem Inv.env0 (I : Inv X pins σ H s) : Env0 X.prog X.w X.K X.mg X.base X.A X.stack s H :=
  ⟨I.ok.frames, I.ok.mod, I.bs, Nat.le_trans I.ok.bsz I.sz, I.stack, I.stkFree, I.hok, I.bare⟩
/-- behind a call -/
theorem Inv.after {Q : VK} {u : Value} (I : Inv X pins σ H s) (h : CE X.stack X.prog X.w H s Q u s') : EP X pins σ Q u s' := by
  obtain ⟨v, H', os, bare, un, hok, r, q⟩ := h
  obtain ⟨hh, g, d, t, os'⟩ := s'
  obtain rfl : os' = s.os := os
  exact ⟨v, H', I.call (h' := hh) (g' := g) (d' := d) (t' := t) (ch := []) un hok bare (fun b z => absurd z (by simp)), r, q⟩
end

/-! ### calls -/
/-- f(..): the written arguments, then the defaults dvs; E: what is wanted of an exception -/
def tCall (sp : Sp) (dvs : List V) (E : XK) (t : TA) : TE := fun σ H Q => t σ H fun vs H1 => sp (vs ++ dvs) H1 Q E
/-- o.m(..) of an instance of the class at C -/
def tMeth (C : Addr) (m : Str) (sp : Sp) (dvs : List V) (E : XK) (ta : TE) (t : TA) : TE := fun σ H Q => ta σ H fun x H1 => ∃ a dx fs, x = .ref a ∧ H1 a = some (.ins C dx fs) ∧ fs.lookup m = none ∧
  t σ H1 fun vs H2 => sp (x :: (vs ++ dvs)) H2 Q E
/-- C(..): a new instance and its dict, then __init__ -/
def tMake (C : Addr) (sp : Sp) (dvs : List V) (E : XK) (t : TA) : TE := fun σ H Q => t σ H fun vs H1 => ∀ x dx, H1 x = none → H1 dx = none → dx ≠ x →
  sp (.ref x :: (vs ++ dvs)) (upd (upd H1 dx (.own x)) x (.ins C dx [])) (fun v H2 => v = .non ∧ Q (.ref x) H2) E

/-- how the parameters are bound: us the positional arguments, kw the keywords' values by name, ds the defaults that fill up -/
def Binds (K : PySem.W.Frag) (fd : FuncData) (ps : List Str) (ds : List Value) : Prop :=
  ∀ (s : Shared) (us : List Value), K.In s.heap → (us ++ ds).length = ps.length → BindsTo s fd ⟨us, []⟩ (ps.zip (us ++ ds))
/-- every parameter is given -/
theorem Binds.all {K : PySem.W.Frag} {fd : FuncData} {ps : List Str} (h : ∀ us : List Value, us.length = ps.length → bindArgs fd ⟨us, []⟩ = pure (ps.zip us)) : Binds K fd ps [] := fun s us _ hl => by
  rw [List.append_nil] at hl ⊢
  exact .of_eq (h us hl)

/-- an exception of a callee reaches what this body wants of exceptions -/
def Passes (CX : CXT) (X : Cx) (E : XK) : Prop := ∀ (pins : List (Addr × Obj)) (σ : St) (H : Hp) (s : Shared) (e : Value) (s' : Shared), Inv X pins σ H s → CX X.stack H s E e s' → X.xe e s'

section
variable {X : Cx} {CX : CXT} {k : Nat} {f C : Addr} {fd : FuncData} {ps : List Str} {sp : Sp} {dvs : List V} {ds : List Value} {E : XK} {x m : Str} {p pos apos : Pos} {e o : Expr} {es : List Expr} {ta : TE} {t : TA}

/-- the callee runs -/
theorem run_fn {pins : List (Addr × Obj)} {σ : St} {H : Hp} {s : Shared} {Q : VK} {us : List Value} {vs : List V} (F : FnOk X.prog X.w X.K X.mg X.base CX k f fd ps sp) (hr : Room k X.A) (hb : Binds X.K fd ps ds) (hd : Vals dvs ds) (hx : Passes CX X E)
    (I : Inv X pins σ H s) (r : Vals vs us) (h : sp (vs ++ dvs) H Q E) : wpAny (model X.prog X.w) X.A (call (.ref f) us) (EP X pins σ Q) X.xe s := by
  have r2 : Vals (vs ++ dvs) (us ++ ds) := r.append hd
  have hl : (us ++ ds).length = ps.length := by rw [← r2.length]; exact F.len _ _ _ _ h
  refine wpAny_call (codeAny_mono (F.run X.A X.stack s H ⟨us, []⟩ (us ++ ds) (vs ++ dvs) Q E hr I.env0 (hb s us I.kIn hl) r2 h) fun r s' hq => ?_)
  cases r with
  | error e => exact hx pins σ H s e s' I hq
  | ok fl =>
    cases fl with
    | ret u => exact I.after hq
    | next => exact False.elim hq
    | brk => exact False.elim hq
    | cont => exact False.elim hq

theorem pe_call (F : FnOk X.prog X.w X.K X.mg X.base CX k f fd ps sp) (hr : Room k X.A) (hg : Gl X x) (hm : X.mg x = some (.ref f)) (hk : PySem.W.keepIn X.K (.ref f) = true) (hb : Binds X.K fd ps ds) (hd : Vals dvs ds) (hx : Passes CX X E)
    (ha : PA X (e :: es) t) (hdb : (x == ("__debug__" : Str)) = false := by decide) (he : starEach (e :: es) X.env = (false, eval e X.env) :: starEach es X.env := by rfl) (hpl : (backTo pos (starEach es X.env)).any (·.1) = false := by rfl) :
    PE X (.Call (.Name x p) (e :: es) [] pos) (tCall sp dvs E t) := by
  intro pins s σ H Q I h
  refine wpAny_Call_Name_kw (ld_glob I hg hm ?_ hdb)
  refine PySem.W.callWith_K (h₀ := X.base) I.ok.mod.kin hk (thn (ha pos pins s σ H _ I h) fun us s1 ⟨vs, H1, I1, r, q⟩ => ⟨I1.kIn, ?_⟩) he hpl
  exact run_fn F hr hb hd hx I1 r q

/-- o.m(e, ..) -/
theorem pe_meth {pl : Sem Bool} (he : PE X o ta) (c : Cls X.K C) (hm : Meth X.K C m f) (F : FnOk X.prog X.w X.K X.mg X.base CX k f fd ps sp) (hr : Room k X.A) (hb : Binds X.K fd ps ds) (hd : Vals dvs ds) (hx : Passes CX X E) (ha : PA X (e :: es) t)
    (hst : starEach (e :: es) X.env = (false, eval e X.env) :: starEach es X.env := by rfl) (hpl : (backTo pos (starEach es X.env)).any (·.1) = false := by rfl)
    (ht : eval (.Call (.Attribute o m apos) (e :: es) [] pos) X.env = (do
      let ov ← eval o X.env
      standAt apos.atName
      let (f, first) ← holding [ov] (getMethod ov m pl)
      callWith pos f first (backTo pos (starEach (e :: es) X.env)) (backToKw pos (keywordEach [] X.env))) := by rfl) :
    PE X (.Call (.Attribute o m apos) (e :: es) [] pos) (tMeth C m sp dvs E ta t) := by
  intro pins s σ H Q I h
  refine PySem.W.methodCall_KW (pl := pl) (thn (he pins s σ H _ I h) fun u s1 ⟨x, H1, I1, rx, a, dx, fs, ex, ea, l, q⟩ => ?_) ht
  subst ex
  obtain rfl : u = Value.ref a := rx
  refine getmeth_ok I1 ea c hm l ?_
  refine PySem.W.callWith_K (first := [.ref a]) (h₀ := X.base) I.ok.mod.kin hm.kp (thn (ha pos pins s1 σ H1 _ I1 q) fun us s2 ⟨vs, H2, I2, r, q2⟩ => ⟨I2.kIn, ?_⟩) hst hpl
  exact run_fn (us := .ref a :: us) (vs := .ref a :: vs) F hr hb hd hx I2 (.cons rfl r) q2
/-- o.m() -/
theorem pe_meth0 {pl : Sem Bool} (he : PE X o ta) (c : Cls X.K C) (hm : Meth X.K C m f) (F : FnOk X.prog X.w X.K X.mg X.base CX k f fd ps sp) (hr : Room k X.A) (hb : Binds X.K fd ps ds) (hd : Vals dvs ds) (hx : Passes CX X E)
    (ht : eval (.Call (.Attribute o m apos) [] [] pos) X.env = (do
      let ov ← eval o X.env
      standAt apos.atName
      let (f, first) ← holding [ov] (getMethod ov m pl)
      callWith pos f first (backTo pos (starEach [] X.env)) (backToKw pos (keywordEach [] X.env))) := by rfl) :
    PE X (.Call (.Attribute o m apos) [] [] pos) (tMeth C m sp dvs E ta tNil) := by
  intro pins s σ H Q I h
  refine PySem.W.methodCall_KW (pl := pl) (thn (he pins s σ H _ I h) fun u s1 ⟨x, H1, I1, rx, a, dx, fs, ex, ea, l, q⟩ => ?_) ht
  subst ex
  obtain rfl : u = Value.ref a := rx
  refine getmeth_ok I1 ea c hm l ?_
  exact PySem.W.callWith_K0 (first := [.ref a]) I1.kIn hm.kp (run_fn (us := [.ref a]) (vs := [.ref a]) F hr hb hd hx I1 (.cons rfl .nil) q)

/-- what a class must have to be made -/
structure Mk (K : PySem.W.Frag) (C f : Addr) : Prop where
  makes : PySem.W.makesIn K C = true
  init : PySem.W.findIn K (.ref C) "__init__" = some (some (.ref f))
  fn : PySem.W.isFn K (.ref f) = true
  kp : PySem.W.keepIn K (.ref C) = true

theorem run_make {pins : List (Addr × Obj)} {σ : St} {H : Hp} {s : Shared} {Q : VK} {us : List Value} {vs : List V} (M : Mk X.K C f) (F : FnOk X.prog X.w X.K X.mg X.base CX k f fd ps sp) (hr : Room (k + 1) X.A) (hb : Binds X.K fd ps ds) (hd : Vals dvs ds)
    (hx : Passes CX X E) (I : Inv X pins σ H s) (r : Vals vs us)
    (h : ∀ x dx, H x = none → H dx = none → dx ≠ x → sp (.ref x :: (vs ++ dvs)) (upd (upd H dx (.own x)) x (.ins C dx [])) (fun v H2 => v = .non ∧ Q (.ref x) H2) E) :
    wpAny (model X.prog X.w) X.A (call (.ref C) us) (EP X pins σ Q) X.xe s := by
  have hq := h (s.heap.objs.size + 1) s.heap.objs.size (I.hok.fresh (Nat.le_succ _)) (I.hok.fresh (Nat.le_refl _)) (Nat.ne_of_lt (Nat.lt_succ_self _))
  have I2 := Inv.made (C := C) I
  have r2 : Vals (V.ref (s.heap.objs.size + 1) :: (vs ++ dvs)) (Value.ref (s.heap.objs.size + 1) :: (us ++ ds)) := .cons rfl (r.append hd)
  have hl : (Value.ref (s.heap.objs.size + 1) :: us ++ ds).length = ps.length := by
    have e := r2.length
    rw [F.len _ _ _ _ hq] at e
    exact e.symm
  refine wpAny_call (make_map (f := f) I.kIn M.makes M.init (beq_iff_eq.mp M.fn) (codeAny_mono (F.run _ X.stack _ _ ⟨Value.ref (s.heap.objs.size + 1) :: us, []⟩ (Value.ref (s.heap.objs.size + 1) :: (us ++ ds)) _ _ E (hr.make C us [])
    (I2.env0.make C us []) (hb _ (Value.ref (s.heap.objs.size + 1) :: us) I2.kIn hl) r2 hq) fun r s' hq' => ?_))
  cases r with
  | error e => exact hx pins σ _ _ e s' I2 hq'
  | ok fl =>
    cases fl with
    | ret u =>
      obtain ⟨v, H', I3, rv, ev, q3⟩ := I2.after hq'
      subst ev
      exact ⟨rv, ⟨V.ref (s.heap.objs.size + 1), H', I3, rfl, q3⟩⟩
    | next => exact False.elim hq'
    | brk => exact False.elim hq'
    | cont => exact False.elim hq'
theorem pe_make (M : Mk X.K C f) (F : FnOk X.prog X.w X.K X.mg X.base CX k f fd ps sp) (hr : Room (k + 1) X.A) (hg : Gl X x) (hm : X.mg x = some (.ref C)) (hb : Binds X.K fd ps ds) (hd : Vals dvs ds) (hx : Passes CX X E)
    (ha : PA X (e :: es) t) (hdb : (x == ("__debug__" : Str)) = false := by decide) (he : starEach (e :: es) X.env = (false, eval e X.env) :: starEach es X.env := by rfl) (hpl : (backTo pos (starEach es X.env)).any (·.1) = false := by rfl) :
    PE X (.Call (.Name x p) (e :: es) [] pos) (tMake C sp dvs E t) := by
  intro pins s σ H Q I h
  refine wpAny_Call_Name_kw (ld_glob I hg hm ?_ hdb)
  refine PySem.W.callWith_K (h₀ := X.base) I.ok.mod.kin M.kp (thn (ha pos pins s σ H _ I h) fun us s1 ⟨vs, H1, I1, r, q⟩ => ⟨I1.kIn, ?_⟩) he hpl
  exact run_make M F hr hb hd hx I1 r q
end

/-! ### keywords -/
/-- the values of the keywords, from the left -/
def PK (X : Cx) (kws : List Keyword) (t : TA) : Prop :=
  ∀ (pos : Pos) (pins : List (Addr × Obj)) (s : Shared) (σ : St) (H : Hp) (Q : List V → Hp → Prop), Inv X pins σ H s → t σ H Q → wpAny (model X.prog X.w) X.A (evalAll ((backToKw pos (keywordEach kws X.env)).map (·.2))) (AP X pins σ Q) X.xe s
section
variable {X : Cx} {CX : CXT} {k : Nat} {f C : Addr} {fd : FuncData} {ps ks : List Str} {sp : Sp} {E : XK} {x m : Str} {p pos apos kpos : Pos} {e o : Expr} {es : List Expr} {kws : List Keyword} {te ta : TE} {t tk : TA} {nm : Option Str}

/-- how a call with keywords binds: g puts the positional values us and the keywords' values ws (names ks) in the parameters' order, defaults among them -/
structure KBinds (K : PySem.W.Frag) (fd : FuncData) (ps ks : List Str) (g : List Value → List Value → List Value) (gV : List V → List V → List V) : Prop where
  to : ∀ (s : Shared) (us ws : List Value), K.In s.heap → (g us ws).length = ps.length → BindsTo s fd ⟨us, ks.zip ws⟩ (ps.zip (g us ws))
  rel : ∀ {vs : List V} {us : List Value} {zs : List V} {ws : List Value}, Vals vs us → Vals zs ws → Vals (gV vs zs) (g us ws)
def tCallK (sp : Sp) (gV : List V → List V → List V) (E : XK) (t tk : TA) : TE := fun σ H Q => t σ H fun vs H1 => tk σ H1 fun zs H2 => sp (gV vs zs) H2 Q E
variable {g : List Value → List Value → List Value} {gV : List V → List V → List V}
end

/-! ### a def's body keeps its promise -/
/-- names: the parameters first -/
structure FnScope (N P : List Str) (sc : Scope) : Prop where
  kind : sc.kind = .function
  co : sc.isCoroutine = false
  gen : sc.isGenerator = false
  nd : N.Nodup
  pre : N.take P.length = P
  par : ∀ x ∈ P, sc.names.lookup x = some .local ∨ sc.names.lookup x = some .cell
  nofree : ∀ y ∈ sc.names, y.2 ≠ .free

theorem bindL_out {kindOf : Str → Option NameKind} {x : Str} : ∀ {binds : List (Str × Value)} {m : Str → Option Value}, (∀ v, (x, v) ∉ binds) → bindL kindOf binds m x = m x
  | [], _, _ => rfl
  | (n, v) :: r, m, h => by
    unfold bindL
    rw [bindL_out fun w hw => h w (List.mem_cons_of_mem _ hw)]
    split
    · have : x ≠ n := by rintro rfl; exact h v List.mem_cons_self
      simp [this]
    · rfl
theorem bindC_out {kindOf : Str → Option NameKind} {x : Str} : ∀ {binds : List (Str × Value)} {m : Str → Option Value}, (∀ v, (x, v) ∉ binds) → bindC kindOf binds m x = m x
  | [], _, _ => rfl
  | (n, v) :: r, m, h => by
    unfold bindC
    rw [bindC_out fun w hw => h w (List.mem_cons_of_mem _ hw)]
    split
    · rfl
    · have : x ≠ n := by rintro rfl; exact h v List.mem_cons_self
      simp [this]
theorem bindL_get {kindOf : Str → Option NameKind} {x : Str} {v : Value} : ∀ {P : List Str} {vs : List Value} {i : Nat} {m : Str → Option Value}, P.Nodup → P[i]? = some x → vs[i]? = some v → kindOf x = some .local →
    bindL kindOf (P.zip vs) m x = some v
  | [], _, _, _, _, h, _, _ => by simp at h
  | _ :: _, [], _, _, _, _, h, _ => by simp at h
  | p :: P, w :: vs, 0, m, nd, h1, h2, hk => by
    simp at h1 h2; subst h1; subst h2
    show bindL kindOf ((p, w) :: P.zip vs) m p = _
    unfold bindL
    rw [bindL_out fun v hv => (List.nodup_cons.mp nd).1 (List.of_mem_zip hv).1, if_pos hk]
    simp
  | p :: P, w :: vs, i + 1, m, nd, h1, h2, hk => by
    show bindL kindOf ((p, w) :: P.zip vs) m x = _
    unfold bindL
    exact bindL_get (i := i) (List.nodup_cons.mp nd).2 (by simpa using h1) (by simpa using h2) hk
theorem bindC_get {kindOf : Str → Option NameKind} {x : Str} {v : Value} : ∀ {P : List Str} {vs : List Value} {i : Nat} {m : Str → Option Value}, P.Nodup → P[i]? = some x → vs[i]? = some v → kindOf x ≠ some .local →
    bindC kindOf (P.zip vs) m x = some v
  | [], _, _, _, _, h, _, _ => by simp at h
  | _ :: _, [], _, _, _, _, h, _ => by simp at h
  | p :: P, w :: vs, 0, m, nd, h1, h2, hk => by
    simp at h1 h2; subst h1; subst h2
    show bindC kindOf ((p, w) :: P.zip vs) m p = _
    unfold bindC
    rw [bindC_out fun v hv => (List.nodup_cons.mp nd).1 (List.of_mem_zip hv).1, if_neg hk]
    simp
  | p :: P, w :: vs, i + 1, m, nd, h1, h2, hk => by
    show bindC kindOf ((p, w) :: P.zip vs) m x = _
    unfold bindC
    exact bindC_get (i := i) (List.nodup_cons.mp nd).2 (by simpa using h1) (by simpa using h2) hk

/-- the names' values at the entry -/
def start (N : List Str) (vs : List V) : St := vs.map some ++ List.replicate (N.length - vs.length) none

/-- the context of a def's body, at its entry; an exception leaves the frame, then lies as CX says -/
def cxOf (CX : CXT) (P : Program) (w : World) (K : PySem.W.Frag) (mg : Str → Option Value) (base : Heap) (N : List Str) (qual : Str) (scope : Scope) (f : Addr) (cd : Value) (A : Around) (outer : List Env) (s : Shared) (H : Hp) (E : XK) : Cx where
  prog := P
  w := w
  K := K
  mg := mg
  base := base
  A := A.deeper (envOfC qual scope s.heap.objs.size f cd)
  N := N
  s₀ := s
  H₀ := H
  env := envOfC qual scope s.heap.objs.size f cd
  outer := outer
  stack := envOfC qual scope s.heap.objs.size f cd :: outer
  ex := []
  calm := true
  fn := fun _ => true
  pn := []
  xe := fun e s' => wpAny (model P w) (A.deeper (envOfC qual scope s.heap.objs.size f cd)) (leaving (envOfC qual scope s.heap.objs.size f cd) e) (fun _ s'' => CX outer H s E e s'') (fun e' s'' => CX outer H s E e' s'') s'

theorem cell_has {sc : Scope} {n : Nat} {x : Str} (h : sc.names.lookup x = some .cell) : ∃ c, (cellsFrom n sc.names []).lookup x = some c := by
  have q := PySem.W.cellsFrom_some sc.names n [] (.inl h)
  exact Option.isSome_iff_exists.mp q

theorem inv_start {CX : CXT} {P : Program} {w : World} {K : PySem.W.Frag} {mg : Str → Option Value} {base : Heap} {N ps : List Str} {qual : Str} {scope : Scope} {f : Addr} {cd : Value} {A : Around} {outer : List Env} {s s1 : Shared} {H : Hp} {E : XK} {us : List Value} {vs : List V}
    (S : FnScope N ps scope) (hd : A.handled = none) (e0 : Env0 P w K mg base A outer s H) (hl : vs.length = ps.length) (r : Vals vs us)
    (x : InCallC s s.heap.objs.size (bindL (envOfC qual scope s.heap.objs.size f cd).kindOf (ps.zip us) fun _ => none) (cellsFrom (s.heap.objs.size + 1) scope.names []) (bindC (envOfC qual scope s.heap.objs.size f cd).kindOf (ps.zip us) fun _ => none) s1) :
    Inv (cxOf CX P w K mg base N qual scope f cd A outer s H E) [] (start N vs) H s1 := by
  have hpl : ps.length ≤ N.length := by have := congrArg List.length S.pre; rw [List.length_take] at this; omega
  obtain ⟨h1, tk, rfl, hk⟩ := x.done
  have noA : ∀ b : Addr, b ∉ (cxOf CX P w K mg base N qual scope f cd A outer s H E).ex := fun b z => absurd (show b ∈ ([] : List Addr) from z) (by simp)
  refine ⟨⟨e0.mod, S.kind, rfl, rfl, Nat.le_refl _, fun y z c h1 h2 => ?_, fun y hy => ?_, fun y c _ h => ?_, fun _ => hd, Around.frames_deeper e0.frames, .inr ⟨rfl, rfl⟩, fun b z => absurd z (noA b), e0.bs, e0.bsz, fun b _ _ => noA b, fun b z => absurd z (noA b), e0.funs, e0.frf⟩,
    rfl, e0.bare, Un.kept hk, ⟨_, x.toInCall.ns, fun i y v h1 h2 h3 => ?_⟩, fun y c h => ⟨_, x.cell y c h⟩, e0.hok.fresh (Nat.le_refl _), fun y c h => ?_, fun p hp => absurd (show p ∈ ([] : List (Addr × Obj)) from hp) (by simp), e0.hok.kept hk, ?_⟩
  · exact name_of_addr x.apart (PySem.mem_of_lookup h1) (PySem.mem_of_lookup h2)
  · have hy : scope.names.lookup y = some .cell ∨ scope.names.lookup y = some .free := hy
    rcases hy with hy | hy
    · exact cell_has hy
    · exact absurd rfl (S.nofree _ (PySem.mem_of_lookup hy))
  · exact Nat.le_of_lt (x.above y c (PySem.mem_of_lookup h))
  · have hi : i < vs.length := by
      unfold start at h2
      by_cases hi : i < vs.length
      · exact hi
      · rw [List.getElem?_append_right (by simpa using hi)] at h2
        rw [List.getElem?_replicate] at h2
        split at h2 <;> cases h2
    have ha : vs[i]? = some v := by
      unfold start at h2
      rw [List.getElem?_append_left (by simpa using hi), List.getElem?_map] at h2
      cases e : vs[i]? with
      | none => rw [e] at h2; cases h2
      | some a => rw [e] at h2; cases h2; rfl
    obtain ⟨u, hu, rv⟩ := r.get ha
    have hp : ps[i]? = some y := by
      rw [← S.pre, List.getElem?_take_of_lt (by omega)]; exact h1
    have ndP : ps.Nodup := by rw [← S.pre]; exact S.nd.sublist (List.take_sublist _ _)
    refine ⟨u, rv, ?_⟩
    rcases S.par y (List.mem_of_getElem? hp) with k | k
    · exact .inl ⟨k, bindL_get ndP hp hu k⟩
    · obtain ⟨c, e⟩ := cell_has (n := s.heap.objs.size + 1) k
      refine .inr ⟨.inl k, c, e, ?_⟩
      have q := x.cell y c e
      rw [bindC_get ndP hp hu (by show scope.names.lookup y ≠ _; rw [k]; decide)] at q
      exact q
  · exact e0.hok.fresh (Nat.le_of_lt (x.above y c (PySem.mem_of_lookup h)))
  · unfold start
    show _ = N.length
    rw [List.length_append, List.length_map, List.length_replicate]
    omega

/-- THE RULE: a def (or a method) of the text, by its body. The body's reading t is chosen for each entry; it is run at the parameters' values -/
theorem fn_of {CX : CXT} {P : Program} {w : World} {K : PySem.W.Frag} {mg : Str → Option Value} {base : Heap} {k : Nat} {f : Addr} {name qual : Str} {params : Arguments} {body : List Stmt} {scope : Scope} {dV kV doc pm cdv ct oc : Value} {an od : Option Addr}
    {osl : Array (Option Value)} {N ps : List Str} {sp : Sp} (lk : K.lookup f = some ⟨oc, od, .func (PySem.W.fnOf name qual params body scope dV kV doc pm an cdv ct), osl⟩) (hcd : PySem.W.codeIn K cdv qual = true) (S : FnScope N ps scope)
    (len : ∀ vs H Q E, sp vs H Q E → vs.length = ps.length)
    (hbody : ∀ (A : Around) (outer : List Env) (s : Shared) (H : Hp) (vs : List V) (Q : VK) (E : XK), Room k (A.deeper (envOfC qual scope s.heap.objs.size f cdv)) → sp vs H Q E →
      ∃ t, PSs (cxOf CX P w K mg base N qual scope f cdv A outer s H E) body t ∧ t { nx := fun _ H' => Q .non H', rt := Q } (start N vs) H) :
    FnOk P w K mg base CX (k + 1) f (PySem.W.fnOf name qual params body scope dV kV doc pm an cdv ct) ps sp := by
  refine ⟨len, fun A outer s H args us vs Q E hr e0 hb r hsp => ?_⟩
  have hl := len _ _ _ _ hsp
  have KX : K.In s.heap := e0.mod.kin.keeps fun b o e => (e0.bs b o e).1
  have lim : s.heap.NoLimit := e0.mod.nolimit.keeps fun b o e => (e0.bs b o e).1
  have hkind : ∀ y ∈ ps.zip us, scope.names.lookup y.1 = some .local ∨ (scope.names.lookup y.1 = some .cell ∧ ((cellsFrom (s.heap.objs.size + 1) scope.names []).lookup y.1).isSome = true) := fun ⟨n, v⟩ hy => by
    rcases S.par n (List.of_mem_zip hy).1 with q | q
    · exact .inl q
    · exact .inr ⟨q, PySem.W.cellsFrom_some _ _ _ (.inl q)⟩
  refine codeAny_call_function hr.depth (KX _ _ lk) rfl S.co S.gen rfl (PySem.W.codeRec_of KX hcd) (hb _ _ _ _ ?_)
  refine wpAny_newFunctionEnv_cells S.kind hkind fun env he s1 x => ?_
  subst he
  refine ⟨lim.keeps x.toInCall.keep, codeAny_func ?_⟩
  obtain ⟨t, ht, hq⟩ := hbody A outer s H vs Q E (hr.deeper _) hsp
  have I : Inv (cxOf CX P w K mg base N qual scope f cdv A outer s H E) [] (start N vs) H s1 := inv_start S hr.hd e0 hl r x
  refine wpAny_mono (ht [] s1 (start N vs) H _ I hq) (fun fl s' hs => ?_) fun e s' hs => hs
  have fin : ∀ {σ' : St} {H' : Hp} {v : V} {u : Value}, Inv (cxOf CX P w K mg base N qual scope f cdv A outer s H E) [] σ' H' s' → RelV v u → Q v H' → CE outer P w H s Q u s' :=
    fun {σ' H' v u} J rv q => ⟨v, H', J.os, J.bare, J.base, J.hok, rv, q⟩
  cases fl with
  | ret u =>
    obtain ⟨v, σ', H', J, rv, q⟩ := hs
    exact fin J rv q
  | next =>
    obtain ⟨σ', H', J, q⟩ := hs
    exact fin (v := V.non) (u := Value.none) J rfl q
  | brk =>
    obtain ⟨_, _, _, q⟩ := hs
    exact False.elim q
  | cont =>
    obtain ⟨_, _, _, q⟩ := hs
    exact False.elim q
end L2

namespace L2
open PySem PySem.Spec PyProof.Rows
section
variable {X : Cx} {x : Str} {p pos : Pos} {e : Expr} {es : List Expr} {t : TA} {id T : String} {r : List V → Hp → VK → Prop}

def tCB (r : List V → Hp → VK → Prop) (t : TA) : TE := fun σ H Q => t σ H fun vs H1 => r vs H1 Q
/-- f(e, ..), f a built-in function -/
theorem pe_callB (hc : CallR X (.builtin id) r) (hg : Gl X x) (hm : X.mg x = none) (hv : bootBuiltins x = some (.builtin id)) (ha : PA X (e :: es) t) (hn : x ≠ "__name__" := by decide) (hdb : (x == ("__debug__" : Str)) = false := by decide)
    (he : starEach (e :: es) X.env = (false, eval e X.env) :: starEach es X.env := by rfl) (hpl : (backTo pos (starEach es X.env)).any (·.1) = false := by rfl) : PE X (.Call (.Name x p) (e :: es) [] pos) (tCB r t) := by
  intro pins s σ H Q I h
  refine wpAny_Call_Name_kw (ld_blt I hg hm hv ?_ hn hdb)
  exact PyProof.Rows.callWith_builtin1 (thn (ha pos pins s σ H _ I h) fun us s1 ⟨vs, H1, I1, r1, q1⟩ => hc pins s1 σ H1 vs us Q I1 r1 q1) he hpl
/-- T(e, ..), T a built-in type -/
theorem pe_callTy (hc : CallR X (.type T) r) (hg : Gl X x) (hm : X.mg x = none) (hv : bootBuiltins x = some (.type T)) (ha : PA X (e :: es) t) (hn : x ≠ "__name__" := by decide) (hdb : (x == ("__debug__" : Str)) = false := by decide)
    (he : starEach (e :: es) X.env = (false, eval e X.env) :: starEach es X.env := by rfl) (hpl : (backTo pos (starEach es X.env)).any (·.1) = false := by rfl) : PE X (.Call (.Name x p) (e :: es) [] pos) (tCB r t) := by
  intro pins s σ H Q I h
  refine wpAny_Call_Name_kw (ld_blt I hg hm hv ?_ hn hdb)
  exact PyProof.Rows.callWith_type1 (thn (ha pos pins s σ H _ I h) fun us s1 ⟨vs, H1, I1, r1, q1⟩ => hc pins s1 σ H1 vs us Q I1 r1 q1) he hpl
end
end L2

namespace HT
open PySem PyProof.Rows

/-- t < u of tuples of ints -/
def lexLt : List Int → List Int → Bool
  | [], [] => false
  | [], _ :: _ => true
  | _ :: _, [] => false
  | x :: xs, y :: ys => if x = y then lexLt xs ys else decide (x < y)


section
open PySem.SeqAt
open PySem.AutoSeq1 (wpAny_loadPart')
open PySem.MeetsSeq PySem.MeetsSeq2 PySem.MeetsSeq3

end

section
variable {prog : Program} {w : World} {A : Around} {E : Value → Shared → Prop} {s : Shared}



/-! ### t[a:b], not the whole -/
/-- a slice's bound as a place among n (d where it is left out) -/
def sIx (n d : Nat) : Option Int → Nat
  | none => d
  | some v => if v < 0 then (v + (n : Int)).toNat else min v.toNat n
theorem sIx_nat (n d k : Nat) : sIx n d (some (k : Int)) = min k n := by
  show (if (k : Int) < 0 then ((k : Int) + (n : Int)).toNat else min (k : Int).toNat n) = min k n
  rw [if_neg (by omega), Int.toNat_natCast]
theorem sIx_le (n d : Nat) (hd : d ≤ n) (o : Option Int) : sIx n d o ≤ n := by
  cases o with
  | none => exact hd
  | some v =>
    show (if v < 0 then (v + (n : Int)).toNat else min v.toNat n) ≤ n
    by_cases hv : v < 0
    · rw [if_pos hv]; omega
    · rw [if_neg hv]; exact Nat.min_le_right _ _
theorem clip_eq (v : Int) (n d : Nat) : (if v < 0 then max (v + (n : Int)) 0 else min v (n : Int)) = ((sIx n d (some v) : Nat) : Int) := by
  show (if v < 0 then max (v + (n : Int)) 0 else min v (n : Int)) = (((if v < 0 then (v + (n : Int)).toNat else min v.toNat n) : Nat) : Int)
  by_cases hv : v < 0
  · simp only [if_pos hv]; omega
  · simp only [if_neg hv]; omega
theorem adjust_gen (lo hi : Option Int) (n : Nat) : Builtin.Slice.sliceAdjust lo hi 1 (n : Int) = (((sIx n 0 lo : Nat) : Int), ((sIx n n hi : Nat) : Int)) := by
  have h1 : ¬ ((1 : Int) < 0) := by omega
  unfold Builtin.Slice.sliceAdjust
  simp only [h1, if_false]
  refine Prod.ext ?_ ?_
  · cases lo with
    | none => rfl
    | some v => exact clip_eq v n 0
  · cases hi with
    | none => rfl
    | some v => exact clip_eq v n n
theorem places_gen (i j : Nat) : Builtin.Slice.slicePlaces (i : Int) (j : Int) 1 = j - i := by
  unfold Builtin.Slice.slicePlaces
  have h1 : (1 : Int) > 0 := by omega
  simp only [h1, if_true, Int.ediv_one]
  split <;> omega
theorem slicePart_ {v : Value} {o : Option Int} {Q : Option Int → Shared → Prop} (p : IsPart v o) (h : Q o s) : wpAny (model prog w) A (Builtin.Slice.slicePartIndex v) Q E s := by
  cases p with
  | none => exact slicePart_none h
  | int i t => exact slicePart_int h
theorem sliceApplied_gen {sl : Addr} {vl vu : Value} {lo hi : Option Int} {n : Nat} {Q : Int × Int × Nat → Shared → Prop} (hs : s.heap.IsSliceOf sl vl vu .none) (pl : IsPart vl lo) (pu : IsPart vu hi)
    (h : Q (((sIx n 0 lo : Nat) : Int), 1, sIx n n hi - sIx n 0 lo) s) : wpAny (model prog w) A (Builtin.Slice.sliceApplied (.ref sl) (pure (n : Int))) Q E s := by
  obtain ⟨os, hos, hcs, hds⟩ := id hs
  unfold Builtin.Slice.sliceApplied Builtin.Slice.sliceFields
  refine wpAny_bind (wpAny_bind (wpAny_field hos hds (x := vl) rfl (wpAny_bind (wpAny_field hos hds (x := vu) rfl (wpAny_bind (wpAny_field hos hds (x := .none) rfl (wpAny_pure ?_)))))))
  refine wpAny_bind (slicePart_none ?_)
  show wpAny _ _ (if ((1 : Int) == 0) = true then _ else _) _ _ s
  rw [if_neg (by decide)]
  refine wpAny_bind (slicePart_ pl (wpAny_bind (slicePart_ pu (wpAny_bind (wpAny_pure ?_)))))
  show wpAny _ _ (match Builtin.Slice.sliceAdjust lo hi 1 (n : Int) with | (lo, hi) => pure (lo, (1 : Int), Builtin.Slice.slicePlaces lo hi 1)) _ _ s
  rw [adjust_gen lo hi n]
  show wpAny _ _ (pure (((sIx n 0 lo : Nat) : Int), (1 : Int), Builtin.Slice.slicePlaces ((sIx n 0 lo : Nat) : Int) ((sIx n n hi : Nat) : Int) 1)) _ _ s
  rw [places_gen]
  exact wpAny_pure h
theorem pick_gen (xs : Array Value) (i k : Nat) : ((List.range k).filterMap fun (m : Nat) => xs[((i : Int) + (m : Int) * 1).toNat]?).toArray = ((xs.toList.drop i).take k).toArray := by
  have e : (fun (m : Nat) => xs[((i : Int) + (m : Int) * 1).toNat]?) = fun m => xs[i + m]? := by
    funext m
    have : ((i : Int) + (m : Int) * 1).toNat = i + m := by omega
    rw [this]
  rw [e]
  have := pick_run xs i k
  rw [List.filterMap_map] at this
  have e2 : ((fun x => xs[x]?) ∘ fun x => i + x) = fun m => xs[i + m]? := rfl
  rw [e2] at this
  rw [this]

theorem getItem_tuple_cut {t sl : Addr} {items : Array Value} {vl vu : Value} {lo hi : Option Int} {Q : Value → Shared → Prop} (ht : IsTup s.heap t items) (hs : s.heap.IsSliceOf sl vl vu .none) (pl : IsPart vl lo) (pu : IsPart vu hi)
    (hw : ¬ (sIx items.size 0 lo = 0 ∧ sIx items.size items.size hi = items.size))
    (h : Q (.ref s.heap.objs.size) { s with heap := s.heap.push { cls := .type "tuple", data := .seq ((items.toList.drop (sIx items.size 0 lo)).take (sIx items.size items.size hi - sIx items.size 0 lo)).toArray } })
    (hsz : items.size ≤ sizeLine) : wpAny (model prog w) A (getItem (.ref t) (.ref sl)) Q E s := by
  have htake : sizeOk (.seq ((items.toList.drop (sIx items.size 0 lo)).take (sIx items.size items.size hi - sIx items.size 0 lo)).toArray) := by
    show ((items.toList.drop (sIx items.size 0 lo)).take (sIx items.size items.size hi - sIx items.size 0 lo)).toArray.size ≤ sizeLine
    rw [List.size_toArray, List.length_take, List.length_drop, Array.length_toList]
    omega
  have hj : sIx items.size items.size hi ≤ items.size := sIx_le _ _ (Nat.le_refl _) hi
  obtain ⟨os, hos, hcs, hds⟩ := id hs
  have hTs : s.TypeIs (.ref sl) "slice" := ⟨os, hos, hcs⟩
  unfold getItem
  try with_reducible refine wpAny_holding ?_
  first | refine wpAny_bind (wpAny_pure ?_) | skip
  refine wpAny_bind (wpAny_sequenceKey ht.typeIs (by decide) ?_)
  refine wpAny_bind (wpAny_callSpecial?_slot (name := Str.ofString "__getitem__") ht.typeIs PyProof.Rows.slot_tuple_getitem
    (wpAny_call_entry PyProof.Rows.slot_tuple_getitem ht.typeIs entry_tuple_getitem ?_ (args_tuple_getitem _ _)))
  show wpAny _ _ (Builtin.Tuple.tupleItemsOf (.ref t) >>= _) _ _ s
  refine wpAny_bind (tupleItemsOf_ ht ?_)
  refine wpAny_bind (wpAny_typeOf hTs ?_)
  rw [if_pos (by decide)]
  refine wpAny_bind (sliceApplied_gen hs pl pu ?_)
  have hno : ¬ ((((sIx items.size 0 lo : Nat) : Int) == 0 && (1 : Int) == 1 && (sIx items.size items.size hi - sIx items.size 0 lo) == items.size) = true) := by
    intro q
    rw [Bool.and_eq_true, Bool.and_eq_true] at q
    have q1 : ((sIx items.size 0 lo : Nat) : Int) = 0 := eq_of_beq q.1.1
    have q2 : sIx items.size items.size hi - sIx items.size 0 lo = items.size := eq_of_beq q.2
    exact hw ⟨by omega, by omega⟩
  show wpAny _ _ (if (((sIx items.size 0 lo : Nat) : Int) == 0 && (1 : Int) == 1 && (sIx items.size items.size hi - sIx items.size 0 lo) == items.size) = true then _ else _) _ _ s
  rw [if_neg hno, pick_gen]
  first
    | exact wpAny_bind (m := Builtin.Tuple.tupleExact _) (wpAny_newObj_type (wpAny_pure ⟨_, rfl, wpAny_pure h⟩) htake)
    | exact wpAny_bind (m := Builtin.Tuple.tupleExact _) (wpAny_newObj_type (wpAny_bind (wpAny_pure (wpAny_pure ⟨_, rfl, wpAny_pure h⟩))) htake)
    | exact wpAny_bind (wpAny_bind (m := Builtin.Tuple.tupleExact _) (wpAny_newObj_type (wpAny_pure (wpAny_pure ⟨_, rfl, wpAny_pure h⟩)) htake))
    | exact wpAny_bind (wpAny_bind (m := Builtin.Tuple.tupleExact _) (wpAny_newObj_type (wpAny_pure ⟨_, rfl, wpAny_pure h⟩) htake))
end
end HT

namespace L2
open PySem PySem.Spec PyProof.Rows

/-! ### the parts of a slice -/
abbrev TO := St → Hp → (Option Int → Hp → Prop) → Prop
/-- a slice's part (left out, or an int) -/
def PO (X : Cx) (e : Option Expr) (t : TO) : Prop :=
  ∀ (pins : List (Addr × Obj)) (s : Shared) (σ : St) (H : Hp) (Q : Option Int → Hp → Prop), Inv X pins σ H s → t σ H Q →
    wpAny (model X.prog X.w) X.A (evalPart e X.env) (fun u s' => ∃ o H', Inv X pins σ H' s' ∧ IsPart u o ∧ Q o H') X.xe s
def tNoPart : TO := fun _ H Q => Q none H
def tPart (t : TE) : TO := fun σ H Q => t σ H fun x H1 => ∃ i, x = .int i ∧ Q (some i) H1


section
variable {X : Cx} {e : Expr} {te : TE} {lo hi : Option Expr} {tl th : TO} {pos p2 : Pos}

theorem po_none : PO X none tNoPart := by
  intro pins s σ H Q I h
  rw [evalPart_none]
  exact wpAny_pure ⟨none, H, I, .none, h⟩
theorem po_some (h : PE X e te) : PO X (some e) (tPart te) := by
  intro pins s σ H Q I hw
  rw [evalPart_some]
  refine thn (h pins s σ H _ I hw) fun u s1 ⟨x, H1, I1, r1, q1⟩ => ?_
  obtain ⟨i, rfl, q⟩ := q1
  obtain ⟨t, rfl⟩ := r1
  exact ⟨some i, H1, I1, .int i t, q⟩

/-- what a slice of a value is, by values: the slice object stands at sl -/
def SlR (X : Cx) (r : V → Option Int → Option Int → Hp → VK → Prop) : Prop :=
  ∀ (pins : List (Addr × Obj)) (s : Shared) (σ : St) (H : Hp) (x : V) (v vl vu : Value) (lo hi : Option Int) (sl : Addr) (Q : VK), Inv X pins σ H s → RelV x v → s.heap.IsSliceOf sl vl vu .none → IsPart vl lo → IsPart vu hi → r x lo hi H Q →
    ∃ T id, typeLookup (.type T) "__getitem__" = pure (some (.builtin id)) ∧ s.TypeIs v T ∧ wpAny (model X.prog X.w) X.A (getItem v (.ref sl)) (EP X pins σ Q) X.xe s
def tSl (r : V → Option Int → Option Int → Hp → VK → Prop) (te : TE) (tl th : TO) : TE := fun σ H Q => te σ H fun x H1 => tl σ H1 fun l H2 => th σ H2 fun u H3 => r x l u H3 Q
/-- a[lo:hi], any a -/
theorem pe_slice {r : V → Option Int → Option Int → Hp → VK → Prop} (hr : SlR X r) (he : PE X e te) (hl : PO X lo tl) (hu : PO X hi th) : PE X (.Subscript e (.Slice lo hi none p2) pos) (tSl r te tl th) := by
  intro pins s σ H Q I h
  refine Subscript_ (thn (he pins s σ H _ I h) fun v s1 ⟨x, H1, I1, r1, q1⟩ => ?_)
  refine wpAny_Slice (thn (hl pins s1 σ H1 _ I1 q1) fun vl s2 ⟨l, H2, I2, pl, q2⟩ => thn (hu pins s2 σ H2 _ I2 q2) fun vu s3 ⟨u, H3, I3, pu, q3⟩ => ?_)
  rw [evalPart_none]
  refine wpAny_pure ?_
  have I4 : Inv X pins σ H3 { s3 with heap := s3.heap.push { cls := .type "slice", data := .fields #[vl, vu, .none] } } := I3.kept (t' := s3.toks) fun b ob q => Heap.get?_push_of_some _ q
  obtain ⟨T, id, hT, ht, hg⟩ := hr pins { s3 with heap := s3.heap.push { cls := .type "slice", data := .fields #[vl, vu, .none] } } σ H3 x v vl vu l u s3.heap.objs.size Q I4 r1 (Heap.IsSliceOf.new ..) pl pu q3
  show wpAny (model X.prog X.w) X.A (subscriptTail e (.Slice lo hi none p2) v (.ref s3.heap.objs.size)) (EP X pins σ Q) X.xe { s3 with heap := s3.heap.push { cls := .type "slice", data := .fields #[vl, vu, .none] } }
  exact tail_any (ops := [.ref s3.heap.objs.size, v]) ht hT hg (by with_unfolding_all rfl)

/-- the items of xs[lo:hi] -/
def cutV (xs : List V) (lo hi : Option Int) : List V := (xs.drop (HT.sIx xs.length 0 lo)).take (HT.sIx xs.length xs.length hi - HT.sIx xs.length 0 lo)
theorem cutV_length (xs : List V) (lo hi : Option Int) : (cutV xs lo hi).length ≤ xs.length := by
  unfold cutV
  rw [List.length_take, List.length_drop]
  omega
/-- t[lo:hi], not the whole of it (the whole would be t itself) -/
def rSlT (K : PySem.W.Frag) : V → Option Int → Option Int → Hp → VK → Prop := fun x lo hi H Q => ∃ a xs, x = .ref a ∧ SqT K H a xs ∧
  ¬ (HT.sIx xs.length 0 lo = 0 ∧ HT.sIx xs.length xs.length hi = xs.length) ∧ ∀ p, H p = none → Q (.ref p) (upd H p (.tup (cutV xs lo hi)))
theorem sl_tup : SlR X (rSlT X.K) := by
  intro pins s σ H x v vl vu lo hi sl Q I rx hs pl pu h
  obtain ⟨a, xs, rfl, hx, hw, q⟩ := h
  cases rx
  obtain ⟨its, r, ht, hz⟩ := I.tuple hx
  have hlen : its.toArray.size = xs.length := by rw [List.size_toArray]; exact r.length.symm
  refine ⟨"tuple", _, PyProof.Rows.slot_tuple_getitem.lookup, ht.typeIs, ?_⟩
  refine HT.getItem_tuple_cut ht hs pl pu (by rw [hlen]; exact hw) ?_ (by rw [hlen]; exact hz)
  rw [hlen]
  refine ⟨.ref s.heap.objs.size, _, I.laid (t' := s.toks) (o := .tup (cutV xs lo hi)) (fun b ob q => Heap.get?_push_of_some _ q) (Nat.le_refl _) ?_, rfl, q _ (I.hok.fresh (Nat.le_refl _))⟩
  exact ⟨Nat.le_trans (cutV_length xs lo hi) hz, _, (r.drop (HT.sIx xs.length 0 lo)).take (HT.sIx xs.length xs.length hi - HT.sIx xs.length 0 lo), IsTupN.new _ _⟩

/-! ### t < u, t + u -/
def rLtT (K : PySem.W.Frag) : R2 := fun x y H Q => ∃ a b ns ms, x = .ref a ∧ y = .ref b ∧ SqT K H a (ns.map V.int) ∧ SqT K H b (ms.map V.int) ∧ Q (.bl (HT.lexLt ns ms)) H
/-- t + u, t not empty: u empty gives t itself -/
def rCatT (K : PySem.W.Frag) : R2 := fun x y H Q => ∃ a b xs ys, x = .ref a ∧ y = .ref b ∧ SqT K H a xs ∧ SqT K H b ys ∧ xs ≠ [] ∧ xs.length + ys.length ≤ sizeLine ∧
  (ys = [] → Q (.ref a) H) ∧ (ys ≠ [] → ∀ p, H p = none → Q (.ref p) (upd H p (.tup (xs ++ ys))))
end
end L2

namespace L2
open PySem PySem.Spec PyProof.Rows

/-! ### places -/
/-- the place that an index of any sign means -/
def ixN (n : Nat) (i : Int) : Option Nat := if 0 ≤ i then (if i < n then some i.toNat else none) else if -(n : Int) ≤ i then some (i + n).toNat else none
def atI {α : Type} (xs : List α) (i : Int) : Option α := (ixN xs.length i).bind fun j => xs[j]?
theorem ixN_seq {n : Nat} {i : Int} {j : Nat} (h : ixN n i = some j) : seqIndex? i n = some j ∧ j < n ∧ -(n : Int) ≤ i ∧ i < n := by
  unfold ixN at h
  by_cases h0 : 0 ≤ i
  · rw [if_pos h0] at h
    by_cases h1 : i < n
    · rw [if_pos h1] at h
      have e : i.toNat = j := Option.some.inj h
      exact ⟨by rw [seqIndex_of h0 h1, e], by omega, by omega, h1⟩
    · rw [if_neg h1] at h; cases h
  · rw [if_neg h0] at h
    by_cases h1 : -(n : Int) ≤ i
    · rw [if_pos h1] at h
      have e : (i + n).toNat = j := Option.some.inj h
      exact ⟨by rw [seqIndex_neg (by omega) h1, e], by omega, h1, by omega⟩
    · rw [if_neg h1] at h; cases h
theorem atI_get {α : Type} {xs : List α} {i : Int} {v : α} (h : atI xs i = some v) : ∃ j, seqIndex? i xs.length = some j ∧ xs[j]? = some v ∧ j < xs.length ∧ -(xs.length : Int) ≤ i ∧ i < xs.length := by
  unfold atI at h
  cases e : ixN xs.length i with
  | none => rw [e] at h; cases h
  | some j =>
    rw [e] at h
    obtain ⟨h1, h2, h3, h4⟩ := ixN_seq e
    exact ⟨j, h1, h, h2, h3, h4⟩
theorem atI_nat {α : Type} {xs : List α} {j : Nat} {v : α} (h : xs[j]? = some v) : atI xs (j : Int) = some v := by
  have hj : j < xs.length := (List.getElem?_eq_some_iff.mp h).1
  have e : ixN xs.length (j : Int) = some j := by
    unfold ixN
    rw [if_pos (by omega), if_pos (by omega)]; simp
  unfold atI; rw [e]; exact h

/-! ### what may be subscripted -/
/-- what stands as an index of a plain subscript -/
def PlainIx (b : Expr) : Prop := ∀ o i, subscripted b false o i = operate [o, i] (getItem o i)
/-- a subscript by values -/
def IxR (X : Cx) (r : R2) : Prop :=
  ∀ (value slice : Expr) (pins : List (Addr × Obj)) (s : Shared) (σ : St) (H : Hp) (x y : V) (v u : Value) (Q : VK), Inv X pins σ H s → RelV x v → RelV y u → r x y H Q →
    subscripted slice false v u = operate [v, u] (getItem v u) → wpAny (model X.prog X.w) X.A (subscriptTail value slice v u) (EP X pins σ Q) X.xe s
/-- a call of a builtin's method by values: the receiver, the arguments -/
def MtR (X : Cx) (id : String) (r : V → List V → Hp → VK → Prop) : Prop :=
  ∀ (pins : List (Addr × Obj)) (s : Shared) (σ : St) (H : Hp) (x : V) (xs : List V) (v : Value) (us : List Value) (Q : VK), Inv X pins σ H s → RelV x v → Vals xs us → r x xs H Q →
    wpAny (model X.prog X.w) X.A (call (.builtin id) (v :: us)) (EP X pins σ Q) X.xe s
section
variable {X : Cx} {a b : Expr} {ta tb : TE} {pos : Pos}
/-- a[b] -/
theorem pe_ix {r : R2} (hr : IxR X r) (ha : PE X a ta) (hb : PE X b tb) (hs : PlainIx b) : PE X (.Subscript a b pos) (tOp r ta tb) := by
  intro pins s σ H Q I h
  exact Subscript_ (binT ha hb I h fun v u s2 x y H2 I2 rx ry q => hr a b pins s2 σ H2 x y v u Q I2 rx ry q (hs _ _))

def rIxL (K : PySem.W.Frag) : R2 := fun x y H Q => ∃ p xs i v, x = .ref p ∧ y = .int i ∧ SqL K H p xs ∧ atI xs i = some v ∧ Q v H
def rIxT (K : PySem.W.Frag) : R2 := fun x y H Q => ∃ p xs i v, x = .ref p ∧ y = .int i ∧ SqT K H p xs ∧ atI xs i = some v ∧ Q v H
def rIxS : R2 := fun x y H Q => ∃ z i c, x = .str z ∧ y = .int i ∧ z.length ≤ sizeLine ∧ atI z.cps.toList i = some c ∧ Q (.str ⟨#[c]⟩) H
theorem ix_list : IxR X (rIxL X.K) := by
  intro value slice pins s σ H x y v u Q I rx ry h hs
  obtain ⟨p, xs, i, z, rfl, rfl, hq, he, q⟩ := h
  cases rx
  obtain ⟨t, rfl⟩ := ry
  obtain ⟨its, r, pl, hz⟩ := I.list hq
  obtain ⟨j, h1, h2, h3, h4, h5⟩ := atI_get he
  obtain ⟨w, ew, rw'⟩ := r.get h2
  have hl := r.length
  have hn := line63
  have fin : EP X pins σ Q w s := ⟨z, H, I, rw', q⟩
  by_cases h0 : 0 ≤ i
  · have hj : i.toNat = j := by
      rw [seqIndex_of h0 h5] at h1
      exact Option.some.inj h1
    exact item_listR pl.isList h0 (by omega) (by rw [hj]; simpa using ew) fin hs
  · have hj : (i + (its.toArray.size : Int)).toNat = j := by
      rw [seqIndex_neg (by omega) h4] at h1
      rw [List.size_toArray, ← hl]
      exact Option.some.inj h1
    exact subscriptTail_builtinR (x := w) pl.isList.typeIs slot_list_getitem.lookup
      (wpAny_getItem_list_neg (Q := fun r s' => r = w ∧ EP X pins σ Q r s') pl.isList (by omega) (by rw [List.size_toArray] <;> omega) (by omega) (by rw [hj]; simpa using ew) ⟨rfl, fin⟩) hs
theorem ix_tup : IxR X (rIxT X.K) := by
  intro value slice pins s σ H x y v u Q I rx ry h hs
  obtain ⟨p, xs, i, z, rfl, rfl, hq, he, q⟩ := h
  cases rx
  obtain ⟨t, rfl⟩ := ry
  obtain ⟨its, r, pl, hz⟩ := I.tuple hq
  obtain ⟨j, h1, h2, h3, h4, h5⟩ := atI_get he
  obtain ⟨w, ew, rw'⟩ := r.get h2
  have hl := r.length
  have hn := line63
  have fin : EP X pins σ Q w s := ⟨z, H, I, rw', q⟩
  exact subscriptTail_builtinR (x := w) pl.typeIs slot_tuple_getitem.lookup
    (getItem_tuple (j := j) (Q := fun r s' => r = w ∧ EP X pins σ Q r s') pl (by omega) (by omega) (by rw [List.size_toArray, ← hl]; exact h1) (by simpa using ew) ⟨rfl, fin⟩) hs
/-- list, tuple or str -/
def rIx (K : PySem.W.Frag) : R2 := fun x y H Q => rIxL K x y H Q ∨ rIxT K x y H Q ∨ rIxS x y H Q

/-! ### xs[i] = v, any sign -/
def rSetL : V → V → V → Hp → (Hp → Prop) → Prop := fun o i v H Q => ∃ p xs k j, o = .ref p ∧ i = .int k ∧ H p = some (.lst xs) ∧ ixN xs.length k = some j ∧ Q (upd H p (.lst (xs.set j v)))

/-! ### slices -/
theorem slice_bounds (lo hi : Option Int) (n : Nat) : (sliceBounds lo hi none n).1 = ((HT.sIx n 0 lo : Nat) : Int) ∧ (sliceBounds lo hi none n).2.1 = ((HT.sIx n n hi : Nat) : Int) ∧ (sliceBounds lo hi none n).2.2 = 1 := by
  refine ⟨?_, ?_, rfl⟩
  · cases lo with
    | none => simp [sliceBounds, HT.sIx]
    | some i =>
      simp only [sliceBounds, HT.sIx, Option.getD_none, show (1 : Int) > 0 by decide, if_true]
      by_cases h : i < 0
      · simp only [h, if_true] <;> omega
      · simp only [h, if_false] <;> omega
  · cases hi with
    | none => simp [sliceBounds, HT.sIx]
    | some i =>
      simp only [sliceBounds, HT.sIx, Option.getD_none, show (1 : Int) > 0 by decide, if_true]
      by_cases h : i < 0
      · simp only [h, if_true] <;> omega
      · simp only [h, if_false] <;> omega
theorem slicePick_cut (its : List Value) (lo hi : Option Int) : slicePick its.toArray lo hi none = ((its.drop (HT.sIx its.length 0 lo)).take (HT.sIx its.length its.length hi - HT.sIx its.length 0 lo)).toArray := by
  obtain ⟨h1, h2, h3⟩ := slice_bounds lo hi its.toArray.size
  unfold slicePick
  rw [h1, h2, h3]
  simp only [sliceRange_one, pick_run, List.size_toArray] <;> rfl
/-- xs[lo:hi] of a list: a new list -/
def rSlL (K : PySem.W.Frag) : V → Option Int → Option Int → Hp → VK → Prop := fun x lo hi H Q => ∃ a xs, x = .ref a ∧ SqL K H a xs ∧ ∀ p, H p = none → Q (.ref p) (upd H p (.lst (cutV xs lo hi)))
theorem sl_list : SlR X (rSlL X.K) := by
  intro pins s σ H x v vl vu lo hi sl Q I rx hs pl pu h
  obtain ⟨a, xs, rfl, hx, q⟩ := h
  cases rx
  obtain ⟨its, r, ht, hz⟩ := I.list hx
  have hlen := r.length
  refine ⟨"list", _, slot_list_getitem.lookup, ht.isList.typeIs, ?_⟩
  refine wpAny_getItem_list_slice ht.isList hs pl pu .none (by simp) ?_ (by rw [List.size_toArray] <;> omega)
  rw [slicePick_cut, ← hlen]
  refine ⟨.ref s.heap.objs.size, _, I.laid (t' := s.toks) (o := .lst (cutV xs lo hi)) (fun b ob q => Heap.get?_push_of_some _ q) (Nat.le_refl _) ?_, rfl, q _ (I.hok.fresh (Nat.le_refl _))⟩
  exact ⟨Nat.le_trans (cutV_length xs lo hi) hz, _, 0, (r.drop (HT.sIx xs.length 0 lo)).take (HT.sIx xs.length xs.length hi - HT.sIx xs.length 0 lo), Heap.get?_push_size _ rfl⟩

/-! ### in, not in: flat items -/
def flatV : V → Bool
  | .non => true
  | .bl _ => true
  | .int _ => true
  | .str _ => true
  | _ => false
/-- == of flat values -/
def eqV : V → V → Bool
  | .non, .non => true
  | .bl a, .bl b => a == b
  | .bl a, .int b => (if a then 1 else 0) == b
  | .int a, .bl b => a == (if b then 1 else 0)
  | .int a, .int b => a == b
  | .str a, .str b => a == b
  | _, _ => false
/-- the items' answers, read off the values (a value's own answer does not lean on its token) -/
def eqU (x : V) (u : Value) : Bool := match u with
  | .none => eqV .non x
  | .bool b => eqV (.bl b) x
  | .int i _ => eqV (.int i) x
  | .str z _ => eqV (.str z) x
  | _ => false
def inV (x : V) (xs : List V) : Bool := xs.any fun y => eqV y x
/-- x in a list or tuple of flat items -/
def rIn (K : PySem.W.Frag) (neg : Bool) : R2 := fun x y H Q => ∃ p xs, y = .ref p ∧ (SqL K H p xs ∨ SqT K H p xs) ∧ flatV x = true ∧ xs.all flatV = true ∧ Q (.bl (if neg then !inV x xs else inV x xs)) H

/-! ### len, list(x), tuple(x) of any list or tuple that is read -/
theorem call_len_seq : CallR X (.builtin "len") (fun xs H Q => ∃ p ys, xs = [.ref p] ∧ (SqL X.K H p ys ∨ SqT X.K H p ys) ∧ Q (.int ys.length) H) := by
  intro pins s σ H xs us Q I r h
  obtain ⟨p, ys, rfl, hq, q⟩ := h
  obtain ⟨u, rfl, rx⟩ := vals1 r
  cases rx
  have hn := line63
  rcases hq with hq | hq
  · obtain ⟨its, r', pl, hz⟩ := I.list hq
    have hlen := r'.length
    exact Calls.call_len_list pl.isList (by simp only [List.size_toArray] <;> omega) ⟨.int ys.length, H, I.tok _, ⟨s.toks + 1, by rw [List.size_toArray, hlen]⟩, q⟩
  · obtain ⟨its, r', pl, hz⟩ := I.tuple hq
    have hlen := r'.length
    exact len_tuple pl (by simp only [List.size_toArray] <;> omega) ⟨.int ys.length, H, I.tok _, ⟨s.toks + 1, by rw [List.size_toArray, hlen]⟩, q⟩
theorem call_list_of : CallR X (.type "list") (fun xs H Q => ∃ p ys, xs = [.ref p] ∧ (SqL X.K H p ys ∨ SqT X.K H p ys) ∧ ∀ l, H l = none → Q (.ref l) (upd H l (.lst ys))) := by
  intro pins s σ H xs us Q I r h
  obtain ⟨p, ys, rfl, hq, q⟩ := h
  obtain ⟨u, rfl, rx⟩ := vals1 r
  cases rx
  have fin : ∀ (its : List Value), Vals ys its → ys.length ≤ sizeLine → ∀ (h' : Heap) (c' : Nat), (∀ b o', s.heap.get? b = some o' → h'.get? b = some o') →
      h'.get? s.heap.objs.size = some { cls := .type "list", dict := none, data := .seq its.toArray c', slots := #[] } → EP X pins σ Q (.ref s.heap.objs.size) { s with heap := h' } := fun its r' hz h' c' kp e =>
    ⟨.ref s.heap.objs.size, _, I.laid (t' := s.toks) kp (Nat.le_refl _) (show ObjOk X.prog X.w _ h' _ (.lst ys) from ⟨hz, its, c', r', e⟩), rfl, q _ (I.hok.fresh (Nat.le_refl _))⟩
  rcases hq with hq | hq
  · obtain ⟨its, r', pl, hz⟩ := I.list hq
    have hlen := r'.length
    obtain ⟨o, ho, hc, n, hd⟩ := pl.isList
    exact call_list_seq p (.inl rfl) ho hc hd (fun h' c' kp e => fin its r' hz h' c' kp e) (by simp only [List.size_toArray] <;> omega)
  · obtain ⟨its, r', pl, hz⟩ := I.tuple hq
    have hlen := r'.length
    obtain ⟨o, ho, hc, n, hd⟩ := pl
    exact call_list_seq p (.inr rfl) ho hc hd (fun h' c' kp e => fin its r' hz h' c' kp e) (by simp only [List.size_toArray] <;> omega)
theorem call_tuple_of : CallR X (.type "tuple") (fun xs H Q => ∃ p ys, xs = [.ref p] ∧ ((SqL X.K H p ys ∧ ∀ l, H l = none → Q (.ref l) (upd H l (.tup ys))) ∨ (SqT X.K H p ys ∧ Q (.ref p) H))) := by
  intro pins s σ H xs us Q I r h
  obtain ⟨p, ys, rfl, h⟩ := h
  obtain ⟨u, rfl, rx⟩ := vals1 r
  cases rx
  rcases h with ⟨hq, q⟩ | ⟨hq, q⟩
  · obtain ⟨its, r', pl, hz⟩ := I.list hq
    have hlen := r'.length
    refine call_tuple_list pl.isList (fun h' kp => ?_) (by simp only [List.size_toArray] <;> omega)
    have I1 : Inv X pins σ H { s with heap := h' } := I.kept (t' := s.toks) kp
    have I2 : Inv X pins σ (upd H h'.objs.size (.tup ys)) { s with heap := h'.push { cls := .type "tuple", data := .seq its.toArray } } :=
      I1.laid (t' := s.toks) (fun b o e => Heap.get?_push_of_some _ e) (Nat.le_refl _) (show ObjOk X.prog X.w _ _ _ (.tup ys) from ⟨hz, its, r', IsTupN.new _ _⟩)
    exact ⟨.ref h'.objs.size, _, I2, rfl, q _ (I1.hok.fresh (Nat.le_refl _))⟩
  · obtain ⟨its, r', pl, hz⟩ := I.tuple hq
    exact call_tuple_same pl ⟨.ref p, H, I, rfl, q⟩

/-! ### the call of a builtin's method: o.m(..) -/
/-- the value is of that builtin type -/
def tyV (K : PySem.W.Frag) (T : String) (x : V) (H : Hp) : Prop := match x with
  | .str _ => T = "str"
  | .int _ => T = "int"
  | .ref p => (T = "list" ∧ ∃ xs, SqL K H p xs) ∨ (T = "tuple" ∧ ∃ o, K.lookup p = some o ∧ o.cls = .type "tuple" ∧ o.dict = none) ∨
      (T = "dict" ∧ ((∃ kvs, H p = some (.dK kvs)) ∨ ∃ kvs, H p = some (.dT kvs))) ∨ (T = "set" ∧ ∃ S n, H p = some (.set S n))
  | _ => False
theorem tyV_is {pins : List (Addr × Obj)} {σ : St} {H : Hp} {s : Shared} {T : String} {x : V} {v : Value} (I : Inv X pins σ H s) (r : RelV x v) (ty : tyV X.K T x H) :
    s.TypeIs v T ∧ ∀ a, v = .ref a → ∃ ob, s.heap.get? a = some ob ∧ ob.dict = none := by
  cases x with
  | str z =>
    obtain ⟨t, rfl⟩ := r
    cases (show T = "str" from ty)
    exact ⟨typeIs_str s z t, fun _ e => nomatch e⟩
  | int i =>
    obtain ⟨t, rfl⟩ := r
    cases (show T = "int" from ty)
    exact ⟨typeIs_int s i t, fun _ e => nomatch e⟩
  | ref p =>
    cases r
    rcases ty with ⟨rfl, xs, hq⟩ | ⟨rfl, o, hk, hc, hd⟩ | ⟨rfl, hk⟩ | ⟨rfl, S, n, hk⟩
    · obtain ⟨its, _, pl, _⟩ := I.list hq
      refine ⟨pl.isList.typeIs, fun a e => ?_⟩
      cases e
      obtain ⟨o, n, e, c, hd, _⟩ := pl
      exact ⟨o, e, hd⟩
    · refine ⟨⟨o, I.kIn p o hk, hc⟩, fun a e => ?_⟩
      cases e
      exact ⟨o, I.kIn _ o hk, hd⟩
    · have z : ∃ o, s.heap.get? p = some o ∧ o.ExactDict := by
        rcases hk with ⟨kvs, hk⟩ | ⟨kvs, hk⟩
        · obtain ⟨_, _, _, _, o, _, _, e, ex, _⟩ := I.hok p _ hk
          exact ⟨o, e, ex⟩
        · obtain ⟨_, _, _, _, o, _, _, e, ex, _⟩ := I.hok p _ hk
          exact ⟨o, e, ex⟩
      obtain ⟨o, e, ex⟩ := z
      refine ⟨⟨o, e, ex.1⟩, fun a e2 => ?_⟩
      cases e2
      exact ⟨o, e, ex.2.1⟩
    · obtain ⟨o, _, _, _, e, ex, _⟩ := I.hok p _ hk
      refine ⟨⟨o, e, ex.1⟩, fun a e2 => ?_⟩
      cases e2
      exact ⟨o, e, ex.2.1⟩
  | _ => exact False.elim ty
def tBM0 (K : PySem.W.Frag) (T : String) (r : V → List V → Hp → VK → Prop) (to : TE) : TE := fun σ H Q => to σ H fun x H1 => tyV K T x H1 ∧ r x [] H1 Q
def tBM (K : PySem.W.Frag) (T : String) (r : V → List V → Hp → VK → Prop) (to : TE) (t : TA) : TE := fun σ H Q => to σ H fun x H1 => tyV K T x H1 ∧ t σ H1 fun xs H2 => r x xs H2 Q
variable {o e : Expr} {es : List Expr} {to : TE} {t : TA} {name : Str} {apos cpos : Pos} {T id : String} {r : V → List V → Hp → VK → Prop}
theorem pe_bm0 (pa : PlainAttrs T) (slot : Slot T name id) (hty : typeOf (.builtin id) = pure (.type "method_descriptor")) (hm : MtR X id r) (ho : PE X o to)
    (hbase : attributeBase o name X.env (eval o X.env) = eval o X.env := by rfl) (hline : (apos.endLine == cpos.line) = true := by rfl) : PE X (.Call (.Attribute o name apos) [] [] cpos) (tBM0 X.K T r to) := by
  intro pins s σ H Q I h
  refine wpAny_Call_method0_late hbase hline (thn (ho pins s σ H _ I h) fun v s1 ⟨x, H1, I1, r1, ty, q1⟩ => ?_)
  obtain ⟨h1, h2⟩ := tyV_is I1 r1 ty
  exact ⟨T, id, pa, slot, hty, h1, h2, Calls.callWith_builtin rfl (PySem.evalArgs_none (hm pins s1 σ H1 x [] v [] Q I1 r1 .nil q1))⟩
theorem pe_bm (pa : PlainAttrs T) (slot : Slot T name id) (hty : typeOf (.builtin id) = pure (.type "method_descriptor")) (hm : MtR X id r) (ho : PE X o to) (ha : PA X (e :: es) t)
    (hbase : attributeBase o name X.env (eval o X.env) = eval o X.env := by rfl)
    (hfew : ((backTo cpos (starEach (e :: es) X.env)).all (fun x => !x.1) && (backToKw cpos (keywordEach [] X.env)).all (fun x => x.1.isSome)
      && decide ((e :: es).length + ([] : List Keyword).length + (if ([] : List Keyword).isEmpty then 0 else 1) < 30)) = true := by rfl)
    (hline : (apos.endLine == cpos.line) = true := by rfl) (hs : starEach (e :: es) X.env = (false, eval e X.env) :: starEach es X.env := by rfl) (hplain : (backTo cpos (starEach es X.env)).any (·.1) = false := by rfl) :
    PE X (.Call (.Attribute o name apos) (e :: es) [] cpos) (tBM X.K T r to t) := by
  intro pins s σ H Q I h
  refine wpAny_Call_method_late hbase hfew hline rfl (thn (ho pins s σ H _ I h) fun v s1 ⟨x, H1, I1, r1, ty, q1⟩ => ?_)
  obtain ⟨h1, h2⟩ := tyV_is I1 r1 ty
  refine ⟨T, id, pa, slot, hty, h1, h2, ?_⟩
  have hA := ha cpos pins s1 σ H1 _ I1 q1
  rw [hs] at hA ⊢
  refine Calls.callWith_builtin (by show (false || (backTo cpos (starEach es X.env)).any (·.1)) = false; rw [hplain] <;> rfl) (Calls.evalArgs_plain ?_)
  exact thn hA fun us s2 ⟨vs, H2, I2, r2, q2⟩ => hm pins s2 σ H2 x vs v us Q I2 r1 r2 q2
/- xs.append(e), list.index on a module's tuple .. are MtR facts of 06m -/
end
end L2

namespace L2
open PySem PySem.Spec PyProof.Rows

def MtM (X : Cx) (id : String) (r : V → List V → Hp → VK → Prop) : Prop :=
  ∀ (pins : List (Addr × Obj)) (s : Shared) (σ : St) (H : Hp) (x : V) (xs : List V) (v : Value) (us : List Value) (Q : VK), Inv X pins σ H s → RelV x v → Vals xs us → r x xs H Q →
    wpAny (model X.prog X.w) X.A (call (.builtin id) (v :: us)) (EP X pins σ Q) X.xe s

/-! ### lists of values -/
theorem Vals.one : ∀ {x : V} {us : List Value}, Vals [x] us → ∃ u, us = [u] ∧ RelV x u
  | _, _, .cons r .nil => ⟨_, rfl, r⟩
theorem Vals.rep {xs : List V} {us : List Value} (h : Vals xs us) : ∀ k : Nat, Vals (List.replicate k xs).flatten (List.replicate k us).flatten
  | 0 => .nil
  | k + 1 => by
    rw [List.replicate_succ, List.replicate_succ, List.flatten_cons, List.flatten_cons]
    exact Vals.append h (Vals.rep h k)
theorem foldl_rep (its : List Value) : ∀ (k : Nat) (acc : List Value),
    List.foldl (fun x1 x2 => x1 ++ x2) acc.toArray (List.replicate k its.toArray) = (acc ++ (List.replicate k its).flatten).toArray
  | 0, acc => by simp
  | k + 1, acc => by
    have e : acc.toArray ++ its.toArray = (acc ++ its).toArray := by simp
    have e2 : (acc ++ its) ++ (List.replicate k its).flatten = acc ++ (List.replicate (k + 1) its).flatten := by
      rw [List.replicate_succ, List.flatten_cons, List.append_assoc]
    rw [← e2, ← foldl_rep its k (acc ++ its), ← e, List.replicate_succ, List.foldl_cons]

section
variable {X : Cx} {pins : List (Addr × Obj)} {σ : St} {H : Hp} {s : Shared} {l b : Addr} {xs ys zs : List V}

/-! ### the two steps: a tracked list is rewritten, a new list is laid -/
theorem Inv.lset {its its' : List Value} {n : Nat} {f : Array Value → Array Value} {t' : Nat} (I : Inv X pins σ H s) (hH : H l = some (.lst xs))
    (e : s.heap.get? l = some { cls := .type "list", data := .seq its.toArray n }) (hf : f its.toArray = its'.toArray) (hv : Vals ys its') (hz : ys.length ≤ sizeLine) :
    Inv X pins σ (upd H l (.lst ys)) { s with heap := s.heap.update l (Obj.mapSeq f), toks := t' } := by
  have q := PySem.IsL.update e f
  rw [hf] at q
  refine I.write (x := l) (e := l) (by rw [hH]; exact trivial) (.inl rfl) (fun b' u hb hu => (Heap.get?_update_other s.heap (Obj.mapSeq f) (Ne.symm hb)).trans hu) ⟨_, q⟩ ?_
  exact ⟨hz, its', _, hv, q⟩
theorem Inv.lnew {its : List Value} {t' : Nat} (I : Inv X pins σ H s) (hv : Vals ys its) (hz : ys.length ≤ sizeLine) :
    Inv X pins σ (upd H s.heap.objs.size (.lst ys)) { s with heap := s.heap.push { cls := .type "list", data := .seq its.toArray }, toks := t' } :=
  I.laid (fun _ _ q => Heap.get?_push_of_some _ q) (Nat.le_refl _) ⟨hz, its, 0, hv, Heap.get?_push_size _ rfl⟩
theorem Inv.fresh (I : Inv X pins σ H s) : H s.heap.objs.size = none := I.hok.fresh (Nat.le_refl _)
theorem Inv.lstM (I : Inv X pins σ H s) (hH : H l = some (.lst xs)) : xs.length ≤ sizeLine ∧ ∃ (its : List Value) (n : Nat), Vals xs its ∧ xs.length = its.length ∧ s.heap.get? l = some { cls := .type "list", data := .seq its.toArray n } := by
  obtain ⟨z, its, n, r, e⟩ := I.hok l _ hH
  exact ⟨z, its, n, r, r.length, e⟩

theorem notLongL {n : Nat} (h : n ≤ sizeLine) : Builtin.List.listTooLong n = false := by
  unfold Builtin.List.listTooLong
  exact decide_eq_false (by omega)
end

section
variable {X : Cx}

/-! ### methods -/
def rAppend : V → List V → Hp → VK → Prop := fun x vs H Q => ∃ l xs y, x = .ref l ∧ vs = [y] ∧ H l = some (.lst xs) ∧ xs.length < sizeLine ∧ Q .non (upd H l (.lst (xs ++ [y])))
theorem mt_append : MtM X "list.append" rAppend := by
  intro pins s σ H x vs v us Q I rx rv h
  obtain ⟨l, xs, y, rfl, rfl, hH, hz, q⟩ := h
  cases rx
  obtain ⟨u, rfl, ru⟩ := rv.one
  obtain ⟨z, its, n, r, hl, e⟩ := I.lstM hH
  refine call_meets F.slot_list_append ⟨_, e, rfl⟩ F.entry_list_append (F.args_list_append_2 _ _) (PySem.list_append l its.toArray n u (by rw [List.size_toArray]; omega)) ⟨e, ?_⟩
  refine ⟨.non, _, I.lset (its' := its ++ [u]) hH e (by simp) (r.append (.cons ru .nil)) ?_, rfl, q⟩
  rw [List.length_append, List.length_singleton]
  omega

def rExtend : V → List V → Hp → VK → Prop := fun x vs H Q => ∃ l b xs zs, x = .ref l ∧ vs = [.ref b] ∧ H l = some (.lst xs) ∧ H b = some (.lst zs) ∧ xs.length + zs.length ≤ sizeLine ∧ Q .non (upd H l (.lst (xs ++ zs)))

def rPop : V → List V → Hp → VK → Prop := fun x vs H Q => ∃ l xs y, x = .ref l ∧ vs = [] ∧ H l = some (.lst xs) ∧ xs[xs.length - 1]? = some y ∧ Q y (upd H l (.lst xs.dropLast))

def rPopAt : V → List V → Hp → VK → Prop := fun x vs H Q => ∃ l xs i k y, x = .ref l ∧ vs = [.int i] ∧ H l = some (.lst xs) ∧ -(2 ^ 63) ≤ i ∧ i < 2 ^ 63 ∧ seqIndex? i xs.length = some k ∧ xs[k]? = some y ∧ Q y (upd H l (.lst (xs.eraseIdx k)))

def rReverse : V → List V → Hp → VK → Prop := fun x vs H Q => ∃ l xs, x = .ref l ∧ vs = [] ∧ H l = some (.lst xs) ∧ Q .non (upd H l (.lst xs.reverse))

def rClear : V → List V → Hp → VK → Prop := fun x vs H Q => ∃ l xs, x = .ref l ∧ vs = [] ∧ H l = some (.lst xs) ∧ Q .non (upd H l (.lst []))

/-! ### list + list, list += list, list * int -/
def rCat : R2 := fun x y H Q => ∃ l b xs zs, x = .ref l ∧ y = .ref b ∧ H l = some (.lst xs) ∧ H b = some (.lst zs) ∧ xs.length + zs.length ≤ sizeLine ∧ ∀ p, H p = none → Q (.ref p) (upd H p (.lst (xs ++ zs)))
theorem op_cat : OpR X (binaryOp .Add) rCat := by
  intro pins s σ H x y v u Q I rx ry h
  obtain ⟨l, b, xs, zs, rfl, rfl, hH, hB, hz, q⟩ := h
  cases rx
  cases ry
  obtain ⟨z, its, n, r, hl, e⟩ := I.lstM hH
  obtain ⟨z2, its2, n2, r2, hl2, e2⟩ := I.lstM hB
  refine PySem.P.add_list e e2 ?_ (by rw [List.size_toArray, List.size_toArray]; omega)
  have ea : its.toArray ++ its2.toArray = (its ++ its2).toArray := by simp
  rw [ea]
  exact ⟨.ref _, _, I.lnew (t' := s.toks) (r.append r2) (by rw [List.length_append]; omega), rfl, q _ I.fresh⟩
/-- a list times an int (a negative one is nothing) -/
def rRep : R2 := fun x y H Q => ∃ l k xs, x = .ref l ∧ y = .int k ∧ H l = some (.lst xs) ∧ -(2 ^ 63) ≤ k ∧ k < 2 ^ 63 ∧ xs.length * k.toNat ≤ sizeLine ∧
  ∀ p, H p = none → Q (.ref p) (upd H p (.lst (List.replicate k.toNat xs).flatten))
theorem len_rep {α : Type} (xs : List α) (k : Nat) : (List.replicate k xs).flatten.length = k * xs.length := by
  induction k with
  | zero => simp
  | succ k ih => rw [List.replicate_succ, List.flatten_cons, List.length_append, ih, Nat.succ_mul, Nat.add_comm]
theorem op_rep : OpR X (binaryOp .Mult) rRep := by
  intro pins s σ H x y v u Q I rx ry h
  obtain ⟨l, k, xs, rfl, rfl, hH, h1, h2, hz, q⟩ := h
  cases rx
  obtain ⟨t, rfl⟩ := ry
  obtain ⟨z, its, n, r, hl, e⟩ := I.lstM hH
  have hlen : its.toArray.size * k.toNat ≤ sizeLine := by rw [List.size_toArray, ← hl]; exact hz
  have hcap : ¬ its.toArray.size * k.toNat > (2 ^ 63 - 1) / 8 := by
    have : (sizeLine : Nat) ≤ (2 ^ 63 - 1) / 8 := by decide
    omega
  have hfit : ¬ (!Builtin.List.listFitsIndex k) = true := by
    rw [fitsIndex_both h1 h2]
    exact Bool.false_ne_true
  have hlong : ¬ Builtin.List.listTooLong (its.toArray.size * k.toNat) = true := by
    rw [notLongL hlen]
    exact Bool.false_ne_true
  have hnew : List.foldl (fun x1 x2 => x1 ++ x2) #[] (List.replicate (if its.toArray.isEmpty = true then 0 else k.toNat) its.toArray) = (List.replicate k.toNat its).flatten.toArray := by
    have f0 : ∀ m : Nat, List.foldl (fun x1 x2 => x1 ++ x2) #[] (List.replicate m its.toArray) = (List.replicate m its).flatten.toArray := fun m => by
      have := foldl_rep its m []
      rw [List.nil_append] at this
      exact this
    rw [f0]
    cases its with
    | nil => simp
    | cons a r' => rw [if_neg (by simp)]
  refine wpAny_binaryOp_repeat_ref (T := "list") (U := "int") (by decide) ⟨_, e, rfl⟩ (fun s' => typeIs_int s' k t) noFill_list_mul F.fills_int_mul F.slot_int_rmul repeat_list F.slot_int_index.lookup
    (call_meets F.slot_int_rmul (typeIs_int s k t) F.entry_int_rmul (F.args_int_rmul_2 _ _) (int___rmul___int_list k t l its.toArray n)
      ⟨e, rfl, ⟨_, e, rfl⟩, call_meets F.slot_list_mul ⟨_, e, rfl⟩ F.entry_list_mul (F.args_list_mul_2 _ _) (AutoListH.list___mul___list_int_3 l its.toArray n k t hfit hcap hlong) ⟨e, ?_⟩⟩)
  rw [hnew]
  exact ⟨.ref _, _, I.lnew (t' := s.toks) (r.rep k.toNat) (by rw [len_rep, Nat.mul_comm]; exact hz), rfl, q _ I.fresh⟩

/-! ### del xs[i] -/
end

/-! ### xs[a:b] = ys -/
section
variable {prog : Program} {w : World} {A : Around} {E : Value → Shared → Prop} {s : Shared}
set_option maxRecDepth 100000 in
end

section
variable {X : Cx}
end
end L2

namespace Att
open PySem PySem.W PySem.Calls PyProof.Rows

/-! ### the script -/
theorem ints_of_wellAll {P : Params} {h : Heap} : ∀ (ns : List Int) (vs : List Value), WellAll P h vs (ns.map WData.int) → IntsAre vs ns := by
  intro ns
  induction ns with
  | nil =>
    intro vs w
    rw [List.map_nil] at w
    cases w
    exact .nil
  | cons n ns ih =>
    intro vs w
    rw [List.map_cons] at w
    cases w with
    | cons a b =>
      cases a
      exact .cons _ _ (ih _ b)

theorem script_of {l : OpenLaw} {n : Nat} (hn : l.most = some n) {P : Params} {h : Heap} {args : List WData} {vals : List Value}
    (hpre : l.row.toRowW.claim.pre args = true) (hwl : WellAll P h vals args) :
    ∃ a vs ns, vals = [Value.ref a] ∧ args = [WData.list (ns.map WData.int)] ∧ h.get? a = some { cls := .type "list", data := .seq vs.toArray } ∧ IntsAre vs ns ∧ ns.length ≤ n := by
  have hsh : WShape.hasAll [] args [.list .int] = true := (pre_splitW hpre).1
  have hc : l.pre.holds [] { args := args } = true := (pre_splitW hpre).2
  obtain ⟨d, r, rfl, h1, h2⟩ := hasAllW_cons hsh
  obtain rfl := hasAllW_nil h2
  obtain ⟨xs, rfl, h3⟩ := hasW_list h1
  obtain ⟨ns, rfl⟩ := items_int h3
  have hlen : ns.length ≤ n := by
    unfold OpenLaw.pre at hc
    have h4 : (WTm.not (.lt (.lit (.int (n : Int))) (.len (.arg 0)))).holds [] { args := [.list (ns.map .int)] } = true := by
      have h4 := (holds_andW hc).1
      rw [hn] at h4
      exact h4
    have h5 := condW_of h4 (w_not (w_lt w_lit (w_len_list (w_arg rfl))))
    rw [List.length_map] at h5
    refine Nat.le_of_not_lt fun q => ?_
    have q' : (n : Int) < ((ns.length : Nat) : Int) := by omega
    first
      | (rw [decide_eq_true q'] at h5; exact absurd h5 (by decide))
      | (simp at h5; omega)
  cases hwl with
  | cons w1 w2 =>
    cases w2
    cases w1 with
    | list ho hall => exact ⟨_, _, ns, rfl, rfl, ho, ints_of_wellAll ns _ hall, hlen⟩

theorem post_true (l : OpenLaw) (args : List WData) : l.row.toRowW.claim.post args (.bool true) args = true :=
  postW_of (r := l.row.toRowW) (X := (true == true))
    (show WShape.has [] (.bool true) .bool = true by first | rfl | decide | simp [WShape.has, WShape.arms, WShape.armsAll])
    (show (WTm.eq .res (.lit (.bool true))).value [] { args := args, res := some (.bool true), after := args } = some (.bool (true == true)) from w_eq_bool (w_res rfl) w_lit) rfl

/-! ### the attachment: holds_open's last premise (the goal 'hc' behind k_head) from a wpAny of the law's body -/

/-- the same from a codeAny of the CALL (for a layer whose function contracts speak of calls) -/
theorem attach_call {l : OpenLaw} {n : Nat} {q : Program} {loose : List Str} {XP : (Str → Option Value) → Heap → Prop} {YP : World → Heap → Prop} {d : DefRec}
    (hn : l.most = some n) (hdf : d.params.defaults = [])
    (call : ∀ (w : World) (s₀ s₁ : Shared) (mg mb : Str → Option Value) (fa : Addr) (o : Obj) (pm cd doc : Value) (a : Addr) (vs : List Value) (ns : List Int),
      Ground q loose [] XP w s₀ mg mb s₁.heap → YP w s₁.heap →
      s₁.heap.get? fa = some o → o.data = .func (docDef d.name d.params d.body d.scope pm cd doc) → s₁.heap.CodeRec cd d.name → mg d.name = some (.ref fa) →
      s₁.heap.get? a = some { cls := .type "list", data := .seq vs.toArray } → IntsAre vs ns → ns.length ≤ n → s₁.gens = #[] →
      codeAny (model l.prog w) callerA (.call (.ref fa) ⟨[.ref a], []⟩) (fun r s' => r = .ok (.ret (.bool true)) ∧ OldK s₁.heap s'.heap ∧ s'.os = s₁.os ∧ AllBare s'.gens) s₁) :
    WalkO q loose XP YP l.row.toRowW d [] (fun f vs => PySem.call f vs) := by
  intro w s₀ s₁ mg mb G Y fa o pm cd doc dV kV ho hd hcd hD hmg hg args vals as hpre hlay hrd hwl hlo
  obtain rfl : dV = .none := Dflts.none hD hdf
  obtain rfl : kV = .none := Dflts.noKw hD
  obtain ⟨a, vs, ns, rfl, rfl, hobj, hints, hlen⟩ := script_of hn hpre hwl
  refine enter_call (codeAny_mono (call w s₀ s₁ mg mb fa o pm cd doc a vs ns G Y ho (fd_plain hd) hcd hmg hobj hints hlen hg) fun r s' hq => ?_)
  obtain ⟨rfl, h2, h3, h4⟩ := hq
  exact ⟨.inl ⟨.bool true, .bool true, [], rfl, fun _ => rfl, .bool true, post_true l _, fun _ => ⟨List.Pairwise.nil, fun _ hm => (nomatch hm)⟩⟩, h2, h3, h4⟩


/-! ### rules over ANY heap (no ledger) from facts about the written part K: the library's own take a ledger (News) for what they write -/
section
variable {prog : Program} {w : World} {A : Around} {E : Value → Shared → Prop} {s : Shared} {K : Frag}





/-! the whole heap as the ledger: makes every rule that writes through a ledger a rule over any heap -/
def noObjs (h : Heap) : Heap := { h with objs := #[] }
def ledger (h : Heap) (L d : Addr) : List (Addr × Obj) := (List.range h.objs.size).filterMap fun a => if a = L ∨ a = d then none else (h.get? a).map fun o => (a, o)

end
end Att

namespace L2
open PySem PySem.Spec PyProof.Rows

theorem vals_ints : ∀ {vs : List Value} {ns : List Int}, IntsAre vs ns → Vals (ns.map V.int) vs
  | _, _, .nil => .nil
  | _, _, .cons n t h => .cons ⟨t, rfl⟩ (vals_ints h)

/-- nothing is tracked but the script, known to the object (or it is an object of the module) -/
def Only (H : Hp) : Prop := ∀ b, H b = none ∨ ∃ o xs, H b = some (.frz o (.lst xs))

/-- THE HEAD: the law's promise, at the heap behind the top. F, the promise of the law's def, may use that base is part of the heap (so K.In base, base.Ns mainGlobals mg stand in Mod) -/
theorem law_call {P : Program} {w : World} {K : PySem.W.Frag} {mg mb : Str → Option Value} {CX : CXT} {k : Nat} {fa a : Addr} {fd : FuncData} {x : Str} {sp : Sp} {s₁ : Shared} {vs : List Value} {ns : List Int}
    (KX : K.In s₁.heap) (hns : s₁.heap.Ns mainGlobals mg) (hb : s₁.heap.Ns builtinsNs mb) (hbb : ∀ x : Str, x ≠ "__name__" → mb x = bootBuiltins x) (hlim : s₁.heap.NoLimit) (hg : s₁.gens = #[])
    (ha : s₁.heap.get? a = some { cls := .type "list", data := .seq vs.toArray }) (hi : IntsAre vs ns) (hl : ns.length ≤ sizeLine) (hr : Room k callerA)
    (F : ∀ base : Heap, K.In base → base.Ns mainGlobals mg → FnOk P w K mg base CX k fa fd [x] sp) (hbind : ∀ (s : Shared) (u : Value), BindsTo s fd ⟨[u], []⟩ [(x, u)])
    (hsp : ∀ H : Hp, Only H → SqL K H a (ns.map V.int) → sp [.ref a] H (fun v _ => v = .bl true) fun _ _ _ => False)
    (hCX : ∀ H e s', CX [] H s₁ (fun _ _ _ => False) e s' → False) :
    codeAny (model P w) callerA (.call (.ref fa) ⟨[.ref a], []⟩) (fun r s' => r = .ok (.ret (.bool true)) ∧ OldK s₁.heap s'.heap ∧ s'.os = s₁.os ∧ AllBare s'.gens) s₁ := by
  have rv := vals_ints hi
  have lenV := hi.length
  -- from an abstract heap in which nothing but the script may be tracked
  have core : ∀ H : Hp, Only H → SqL K H a (ns.map V.int) → HOk P w H s₁.heap → (∀ b, H b ≠ none → b = a) → (H a ≠ none → K.lookup a = none) →
      codeAny (model P w) callerA (.call (.ref fa) ⟨[.ref a], []⟩) (fun r s' => r = .ok (.ret (.bool true)) ∧ OldK s₁.heap s'.heap ∧ s'.os = s₁.os ∧ AllBare s'.gens) s₁ := by
    intro H hO hS hok hA hK
    have base_of : ∀ {b : Addr} {o : Obj}, s₁.heap.get? b = some o → H b = none → (hidT s₁.heap H).get? b = some o := fun e n => hidT_get e n
    have noA : ∀ {b : Addr} {o : Obj} {es : Array DictEntry} {ep : Nat}, s₁.heap.get? b = some o → o.data = .dict es ep → H b = none := fun {b o es ep} e d => by
      cases q : H b with
      | none => rfl
      | some u =>
        have e' : b = a := hA b (by rw [q]; simp)
        subst e'
        rw [ha] at e; cases e
        have d' : Data.seq vs.toArray _ = Data.dict es ep := d
        cases d'
    have nsK : ∀ {b : Addr} {m : Str → Option Value}, s₁.heap.Ns b m → (hidT s₁.heap H).Ns b m := fun {b m} ⟨o, es, ep, e, d, r⟩ => ⟨o, es, ep, base_of e (noA e d), d, r⟩
    have hKb : K.In (hidT s₁.heap H) := fun b o e => base_of (KX b o e) (by
      cases q : H b with
      | none => rfl
      | some u =>
        have e' : b = a := hA b (by rw [q]; simp)
        subst e'
        rw [hK (by rw [q]; simp)] at e; cases e)
    have hM : Mod K mg (hidT s₁.heap H) := ⟨hKb, nsK hns, ⟨mb, nsK hb, hbb⟩, let ⟨mc, h1, h2⟩ := hlim; ⟨mc, nsK h1, h2⟩⟩
    have e0 : Env0 P w K mg (hidT s₁.heap H) callerA [] s₁ H := ⟨rfl, hM, fun b o e => of_hidT e, Nat.le_of_eq (hidT_size _ _), trivial, fun b hb => absurd (show b ∈ ([] : List Addr) from hb) (by simp), hok, .of_eq hg⟩
    refine codeAny_mono ((F _ hKb (nsK hns)).run callerA [] s₁ H ⟨[.ref a], []⟩ [.ref a] [.ref a] _ _ hr e0 (hbind s₁ (.ref a)) (.cons rfl .nil) (hsp H hO hS)) fun r s' h => ?_
    cases r with
    | error e => exact (hCX H e s' h).elim
    | ok fl =>
      cases fl with
      | next => exact False.elim h
      | brk => exact False.elim h
      | cont => exact False.elim h
      | ret u =>
        obtain ⟨v, H', os, bare, un, hok', r', q⟩ := h
        have q' : v = .bl true := q
        subst q'
        obtain rfl : u = Value.bool true := r'
        refine ⟨rfl, OldK.of_keep fun b o e => ?_, os, bare⟩
        cases q : H b with
        | none => exact un.keep b o e q (by intro z; exact absurd (show b ∈ ([] : List Addr) from z) (by simp)) (by simp)
        | some u =>
          rcases hO b with z | ⟨ob, xs, z⟩
          · rw [q] at z; cases z
          · have z2 := un.frzs b ob _ z
            obtain ⟨e1, _⟩ := hok b _ z
            obtain ⟨e2, _⟩ := hok' b _ z2
            rw [e] at e1; cases e1
            exact e2
  cases hk : K.lookup a with
  | some o =>
    -- the script is one of the module's own objects
    have e := KX a o hk
    rw [ha] at e
    cases e
    refine core (fun _ => none) (fun _ => .inl rfl) (.inr ⟨_, vs.toArray, _, hk, rfl, rfl, rfl, by rw [List.size_toArray, lenV]; exact hl, by simpa using rv⟩) (fun b u z => by have z' : (none : Option HO) = some u := z; cases z') (fun b z => absurd rfl z) fun z => absurd rfl z
  | none =>
    refine core (fun b => if b = a then some (.frz { cls := .type "list", data := .seq vs.toArray } (.lst (ns.map V.int))) else none) (fun b => ?_) (.inl (.inr ⟨{ cls := .type "list", data := .seq vs.toArray }, if_pos rfl⟩)) (fun b u z => ?_) (fun b z => ?_) fun _ => hk
    · by_cases hb : b = a
      · exact .inr ⟨_, _, if_pos hb⟩
      · exact .inl (if_neg hb)
    · by_cases hb : b = a
      · have z' := (if_pos hb).symm.trans z
        cases z'
        subst hb
        exact ⟨ha, by rw [List.length_map]; exact hl, vs, _, rv, ha⟩
      · have z' := (if_neg hb).symm.trans z
        cases z'
    · by_cases hb : b = a
      · exact hb
      · exact absurd (if_neg hb) z
end L2

namespace L2
open PySem PySem.Spec PyProof.Rows

abbrev KOf {K : PySem.W.Frag} {h : Heap} (_ : K.In h) : PySem.W.Frag := K

/-- the goal that k_head leaves (case hc), from the law's promise. F gives the function object fd (K's own) once, then the promise over every base -/
theorem walk_of {l : PySem.W.OpenLaw} {n k : Nat} {q : Program} {loose : List Str} {XP : (Str → Option Value) → Heap → Prop} {YP : World → Heap → Prop} {d : DefRec} {K : Params → PySem.W.Frag} {CX : World → CXT} {sp : World → Sp} {x : Str}
    (hn : l.most = some n) (hn2 : n ≤ sizeLine) (hdf : d.params.defaults = []) (hr : Room k callerA)
    (hY : ∀ (w : World) (h : Heap), YP w h → (K w.params).In h)
    (F : ∀ (w : World) (mg : Str → Option Value) (fa : Addr) (h : Heap), (K w.params).In h → h.Ns mainGlobals mg → mg d.name = some (.ref fa) →
      ∃ fd : FuncData, (∀ (s : Shared) (u : Value), BindsTo s fd ⟨[u], []⟩ [(x, u)]) ∧
        ∀ base : Heap, (K w.params).In base → base.Ns mainGlobals mg → FnOk l.prog w (K w.params) mg base (CX w) k fa fd [x] (sp w))
    (hsp : ∀ (w : World) (H : Hp) (a : Addr) (ns : List Int), ns.length ≤ n → Only H → SqL (K w.params) H a (ns.map V.int) → sp w [.ref a] H (fun v _ => v = .bl true) fun _ _ _ => False)
    (hCX : ∀ (w : World) (H : Hp) (s : Shared) (e : Value) (s' : Shared), CX w [] H s (fun _ _ _ => False) e s' → False) :
    PySem.W.WalkO q loose XP YP l.row.toRowW d [] (fun f vs => PySem.call f vs) := by
  refine Att.attach_call hn hdf fun w s₀ s₁ mg mb fa o pm cd doc a vs ns G Y ho hd hcd hmg hobj hints hlen hg => ?_
  have KX := hY w _ Y
  obtain ⟨fd, hb, hF⟩ := F w mg fa _ KX G.T.g hmg
  exact law_call KX G.T.g G.T.b G.T.builtins G.T.nolimit hg hobj hints (Nat.le_trans hlen hn2) hr hF hb (fun H hO hS => hsp w H a ns hlen hO hS) fun H e s' => hCX w H s₁ e s'
end L2

/- THE LAST THEOREM (shape; LID, My.* are yours):
   My.Adr: a structure of the addresses that your layer names (classes, functions); My.Txt K t: a structure (Prop) of the equations over K;
   My.txt_mk : {K} {implicit addresses ..} (e1 : nsIn K mainGlobals "law" = some (some (.ref f))) (e2 : K.lookup f = some ⟨oc, od, .func (fnOf "law" "law" params body scope dV kV doc pm an cdv ct), sl⟩) (e3 : codeIn K cdv "law" = true) .. : ∃ t, My.Txt K t

set_option maxRecDepth 100000 in
set_option maxHeartbeats 0 in
theorem PySem.Challenge.cw_LID_holds : PySem.Challenge.rw_LID.Holds := by
  w_on; o_law; k_head; (case hw => w_witness2)
  k_fill
  refine L2.walk_of (l := PySem.Challenge.rw_LID) (n := 63) (k := 40) (x := "script") (CX := fun w => ..) (sp := fun _ => My.sp_law) rfl (by decide) rfl ⟨rfl, by decide, by decide⟩ (fun w h Y => PySem.W.kIn_of Y) ?F ?S ?C
  case F =>
    intro w mg fa h KX G hmg
    have T : ∃ t, My.Txt (L2.KOf KX) t := by
      dsimp only [L2.KOf]                          -- K must stand as «<heap const> w.params» for k_is
      refine' My.txt_mk ?e1 ?e2 ?e3 ..
      (case e1 => PySem.W.k_is)                    -- in the order: a name -> its address -> its object -> its parts
      (case e2 => PySem.W.k_is)
      ..
    obtain ⟨t, T⟩ := T
    have e0 := hmg.symm.trans (PySem.W.mg_of KX G T.law)
    cases e0                                       -- fa is the law's own address
    exact ⟨_, fun s u => .of_eq rfl, fun base kb nb => My.law_fn T kb nb⟩     -- if «.of_eq rfl» comes too early: refine' ⟨_, ?b, fun base kb nb => My.law_fn T kb nb⟩; exact fun s u => .of_eq rfl
  case S => exact fun w H a ns hl hO hS => ..
  case C => exact ..
(the tactic k_is has no namespace: write k_is) -/

/-! SHORT WORDS over the layer: a def of the text, its body, what a loop and a test want. -/
namespace L2
open PySem PySem.Spec PyProof.Rows

/-! ### the text by places -/
/-- the j-th statement of a class's body -/
def inClass (s : Stmt) (j : Nat) : Stmt := match s with
  | .ClassDef _ _ _ body _ _ _ _ _ _ _ => body.getD j (.Pass ⟨0, 0, 0, 0⟩)
  | _ => .Pass ⟨0, 0, 0, 0⟩
def defArgs (s : Stmt) : Arguments := match s with
  | .FunctionDef _ a _ _ _ _ _ _ _ _ => a
  | _ => { posonlyargs := [], args := [], vararg := none, kwonlyargs := [], kw_defaults := [], kwarg := none, defaults := [] }
def defBody (s : Stmt) : List Stmt := match s with
  | .FunctionDef _ _ b _ _ _ _ _ _ _ => b
  | _ => []
def defScope (s : Stmt) : Scope := match s with
  | .FunctionDef _ _ _ _ _ _ sc _ _ _ => sc
  | _ => { kind := .function, names := [], isGenerator := false, isCoroutine := false }

/-! ### no exception leaves a def -/
abbrev CX0 : CXT := fun _ _ _ _ _ _ => False
abbrev E0 : XK := fun _ _ _ => False
theorem pass0 {X : Cx} : Passes CX0 X E0 := fun _ _ _ _ _ _ _ h => h.elim

/-! ### a def (or method) of the text as it stands behind the top -/
structure Fun (K : PySem.W.Frag) (x qual : Str) (st : Stmt) (f : Addr) (fd : FuncData) : Prop where
  ex : ∃ (oc : Value) (od : Option Addr) (kV doc pm : Value) (an : Option Addr) (cdv ct : Value) (osl : Array (Option Value)),
    fd = PySem.W.fnOf x qual (defArgs st) (defBody st) (defScope st) .none kV doc pm an cdv ct ∧ K.lookup f = some ⟨oc, od, .func fd, osl⟩ ∧ PySem.W.codeIn K cdv qual = true
  kp : PySem.W.keepIn K (.ref f) = true
section
variable {P : Program} {w : World} {K : PySem.W.Frag} {mg : Str → Option Value} {base : Heap}
/-- THE RULE for a def: its body as a term of rules, and the reading of that term -/
theorem Fun.ok {x qual : Str} {st : Stmt} {f : Addr} {fd : FuncData} {N ps : List Str} {k : Nat} {sp : Sp} (F : Fun K x qual st f fd) (S : FnScope N ps (defScope st)) (len : ∀ vs H Q E, sp vs H Q E → vs.length = ps.length)
    (hbody : ∀ (cdv : Value) (A : Around) (outer : List Env) (s : Shared) (H : Hp) (vs : List V) (Q : VK) (E : XK), Room k (A.deeper (envOfC qual (defScope st) s.heap.objs.size f cdv)) → sp vs H Q E →
      ∃ t, PSs (cxOf CX0 P w K mg base N qual (defScope st) f cdv A outer s H E).nox (defBody st) t ∧ t { nx := fun _ H' => Q .non H', rt := Q } (start N vs) H) : FnOk P w K mg base CX0 (k + 1) f fd ps sp := by
  obtain ⟨oc, od, kV, doc, pm, an, cdv, ct, osl, rfl, lk, hcd⟩ := F.ex
  refine fn_of lk hcd S len fun A outer s H vs Q E hr hsp => ?_
  obtain ⟨t, h, q⟩ := hbody cdv A outer s H vs Q E hr hsp
  exact ⟨t, h.nox, q⟩
/-- how its arguments bind (no defaults): h is «fun _ _ _ _ _ _ us hl => match us, hl with | [_, _], _ => rfl», one _ a parameter -/
theorem Fun.binds {x qual : Str} {st : Stmt} {f : Addr} {fd : FuncData} {ps : List Str} (F : Fun K x qual st f fd)
    (h : ∀ (kV doc pm : Value) (an : Option Addr) (cdv ct : Value) (us : List Value), us.length = ps.length → bindArgs (PySem.W.fnOf x qual (defArgs st) (defBody st) (defScope st) .none kV doc pm an cdv ct) ⟨us, []⟩ = pure (ps.zip us)) : Binds K fd ps [] := by
  obtain ⟨oc, od, kV, doc, pm, an, cdv, ct, osl, rfl, lk, hcd⟩ := F.ex
  exact .all (h kV doc pm an cdv ct)
theorem fun_mk {x qual : Str} {st : Stmt} {f : Addr} {oc : Value} {od an : Option Addr} {osl : Array (Option Value)} {kV doc pm cdv ct : Value} (l : K.lookup f = some ⟨oc, od, .func (PySem.W.fnOf x qual (defArgs st) (defBody st) (defScope st) .none kV doc pm an cdv ct), osl⟩)
    (c : PySem.W.codeIn K cdv qual = true) (k : PySem.W.keepIn K (.ref f) = true) : Fun K x qual st f (PySem.W.fnOf x qual (defArgs st) (defBody st) (defScope st) .none kV doc pm an cdv ct) := ⟨⟨oc, od, kV, doc, pm, an, cdv, ct, osl, rfl, l, c⟩, k⟩
end
theorem hu_of {A : Around} {k : Nat} (hr : Room k A) : A.units + 1 < cLine := Nat.lt_of_le_of_lt (Nat.add_le_add_left (by decide : 1 ≤ 64) _) hr.units

/-! ### expressions in short: the name that stands in the i-th slot -/
section
variable {X : Cx}
theorem pv (i : Nat) {x : Str} {pos : Pos} (hN : X.N[i]? = some x := by rfl) (hv : Vis X.env.scope x := by first | exact Or.inl rfl | exact Or.inr (Or.inl rfl) | exact Or.inr (Or.inr rfl)) (hd : (x == ("__debug__" : Str)) = false := by decide)
    (hcd : (x == ("__classdict__" : Str)) = false := by decide) : PE X (.Name x pos) (tVar i) := pe_var hN hv hd hcd
end

/-! ### tests -/
theorem iteF {A B : Prop} (h : B) : if false = true then A else B := by
  rw [if_neg Bool.false_ne_true]
  exact h
theorem iteT {A B : Prop} (h : A) : if true = true then A else B := by
  rw [if_pos rfl]
  exact h
theorem ite2 {c A B : Prop} [Decidable c] (h1 : c → A) (h2 : ¬ c → B) : if c then A else B := by
  by_cases h : c
  · rw [if_pos h]
    exact h1 h
  · rw [if_neg h]
    exact h2 h

/-! ### heaps -/
/-- all that was tracked is as it was -/
def Same (H H' : Hp) : Prop := ∀ b o, H b = some o → H' b = some o
theorem Same.refl (H : Hp) : Same H H := fun _ _ h => h
theorem Same.trans {H H1 H2 : Hp} (a : Same H H1) (b : Same H1 H2) : Same H H2 := fun c o h => b c o (a c o h)
theorem Same.free {H H' : Hp} (e : Same H H') {l : Addr} (h : H' l = Option.none) : H l = Option.none := by
  cases q : H l with
  | none => rfl
  | some o =>
    rw [e l o q] at h
    cases h
theorem Same.seq {K : PySem.W.Frag} {H H' : Hp} {a : Addr} {xs : List V} (e : Same H H') (h : SqL K H a xs) : SqL K H' a xs := by
  rcases h with (h | ⟨o, h⟩) | h
  · exact .inl (.inl (e _ _ h))
  · exact .inl (.inr ⟨o, e _ _ h⟩)
  · exact .inr h

end L2
namespace Yd
open PySem
theorem bitAnd_nat (a b : Nat) : Builtin.bitAnd (a : Int) (b : Int) = ((a &&& b : Nat) : Int) := by
  unfold Builtin.bitAnd
  simp
theorem bitNot_eq (x : Int) : Builtin.bitNot x = -x - 1 := by
  unfold Builtin.bitNot
  omega
theorem bitOr_nat (a b : Nat) : Builtin.bitOr (a : Int) (b : Int) = ((a ||| b : Nat) : Int) := by
  unfold Builtin.bitOr
  have h1 : Builtin.bitNot (a : Int) = -(a : Int) - 1 := bitNot_eq _
  have h2 : Builtin.bitNot (b : Int) = -(b : Int) - 1 := bitNot_eq _
  unfold Builtin.bitAnd
  rw [h1, h2]
  have e1 : decide (0 ≤ -(a : Int) - 1) = false := decide_eq_false (by omega)
  have e2 : decide (0 ≤ -(b : Int) - 1) = false := decide_eq_false (by omega)
  rw [e1, e2]
  simp only []
  have e3 : Builtin.bitNot (-(a : Int) - 1) = a := by rw [bitNot_eq]; omega
  have e4 : Builtin.bitNot (-(b : Int) - 1) = b := by rw [bitNot_eq]; omega
  rw [e3, e4]
  simp only [Int.toNat_natCast]
  rw [bitNot_eq, bitNot_eq]
  omega
/-- the set of a list, as a number -/
def setN : List Nat → Nat → Nat
  | [], s => s
  | n :: r, s => setN r (s ||| 2 ^ n)
theorem setN_bit (k : Nat) : ∀ (l : List Nat) (s : Nat), (setN l s).testBit k = (s.testBit k || decide (k ∈ l))
  | [], s => by simp [setN]
  | n :: r, s => by
    unfold setN
    rw [setN_bit k r]
    rw [Nat.testBit_or, Nat.testBit_two_pow]
    by_cases h : n = k
    · subst h; simp
    · have : ¬ k = n := fun z => h z.symm
      simp [h, this]
theorem setN_app (l r : List Nat) (s : Nat) : setN (l ++ r) s = setN r (setN l s) := by
  induction l generalizing s with
  | nil => rfl
  | cons n t ih => exact ih _
/-- what the law reckons: the worths of the numbers below n that stand in the list -/
def dueN (l : List Nat) : Nat → Nat
  | 0 => 0
  | n + 1 => if n ∈ l then dueN l n + 2 ^ n else dueN l n
theorem dueN_lt (l : List Nat) : ∀ n, dueN l n < 2 ^ n
  | 0 => by simp [dueN]
  | n + 1 => by
    have := dueN_lt l n
    unfold dueN
    rw [Nat.pow_succ]
    split <;> omega
theorem dueN_bit (l : List Nat) (k : Nat) : ∀ n, (dueN l n).testBit k = decide (k < n ∧ k ∈ l)
  | 0 => by simp [dueN]
  | n + 1 => by
    have ih := dueN_bit l k n
    have hlt := dueN_lt l n
    unfold dueN
    by_cases hn : n ∈ l
    · rw [if_pos hn, Nat.add_comm]
      rcases Nat.lt_trichotomy k n with h | h | h
      · rw [Nat.testBit_two_pow_add_gt h, ih]
        simp [h, Nat.lt_succ_of_lt h]
      · subst h
        rw [Nat.testBit_two_pow_add_eq, Nat.testBit_lt_two_pow hlt]
        simp [hn]
      · have hb : 2 ^ n + dueN l n < 2 ^ k := by
          have : 2 ^ (n + 1) ≤ 2 ^ k := Nat.pow_le_pow_right (by decide) h
          rw [Nat.pow_succ] at this
          omega
        rw [Nat.testBit_lt_two_pow hb]
        have : ¬ k < n + 1 := by omega
        simp [this]
    · rw [if_neg hn, ih]
      by_cases h : k = n
      · subst h; simp [hn]
      · have : k < n ↔ k < n + 1 := by omega
        simp [this]
theorem due_set {l : List Nat} {n : Nat} (h : ∀ k ∈ l, k < n) : dueN l n = setN l 0 := by
  apply Nat.eq_of_testBit_eq
  intro k
  rw [dueN_bit, setN_bit]
  by_cases hk : k ∈ l
  · simp [hk, h k hk]
  · simp [hk]
/-- the numbers of a set, rising -/
def memN (m b : Nat) : List Nat := (List.range b).filter fun k => m.testBit k
theorem memN_mem {m b k : Nat} (h : m < 2 ^ b) : k ∈ memN m b ↔ m.testBit k = true := by
  unfold memN
  rw [List.mem_filter, List.mem_range]
  constructor
  · exact fun z => z.2
  · intro z
    refine ⟨?_, z⟩
    by_cases hk : k < b
    · exact hk
    · have : m < 2 ^ k := Nat.lt_of_lt_of_le h (Nat.pow_le_pow_right (by decide) (by omega))
      rw [Nat.testBit_lt_two_pow this] at z
      cases z
theorem memN_rise (m b : Nat) : (memN m b).Pairwise (· < ·) := List.Pairwise.filter _ List.pairwise_lt_range
theorem rise_ext : ∀ {l r : List Int}, l.Pairwise (· < ·) → r.Pairwise (· < ·) → (∀ k, k ∈ l ↔ k ∈ r) → l = r
  | [], [], _, _, _ => rfl
  | [], y :: r, _, _, h => by
    have := (h y).mpr List.mem_cons_self
    cases this
  | x :: l, [], _, _, h => by
    have := (h x).mp List.mem_cons_self
    cases this
  | x :: l, y :: r, hl, hr, h => by
    obtain ⟨hx, hl'⟩ := List.pairwise_cons.mp hl
    obtain ⟨hy, hr'⟩ := List.pairwise_cons.mp hr
    have e : x = y := by
      rcases List.mem_cons.mp ((h x).mp List.mem_cons_self) with z | z
      · exact z
      · rcases List.mem_cons.mp ((h y).mpr List.mem_cons_self) with z' | z'
        · exact z'.symm
        · have := hx y z'
          have := hy x z
          omega
    subst e
    congr 1
    refine rise_ext hl' hr' fun k => ?_
    constructor
    · intro z
      rcases List.mem_cons.mp ((h k).mp (List.mem_cons_of_mem _ z)) with q | q
      · have := hx k z; omega
      · exact q
    · intro z
      rcases List.mem_cons.mp ((h k).mpr (List.mem_cons_of_mem _ z)) with q | q
      · have := hy k z; omega
      · exact q
theorem bits_lt (m : Nat) : m < 2 ^ (Builtin.Int.intBits (m : Int)) := by
  unfold Builtin.Int.intBits
  by_cases h : m = 0
  · subst h; simp
  · have e : ((m : Int) == 0) = false := by simp [h]
    rw [e]
    simp only [Bool.false_eq_true, if_false, Int.natAbs_natCast]
    exact Nat.lt_log2_self
theorem bits_le {m b : Nat} (h : m < 2 ^ b) : Builtin.Int.intBits (m : Int) ≤ b := by
  unfold Builtin.Int.intBits
  by_cases h0 : m = 0
  · subst h0; simp
  · have e : ((m : Int) == 0) = false := by simp [h0]
    rw [e]
    simp only [Bool.false_eq_true, if_false, Int.natAbs_natCast]
    have := (Nat.log2_lt h0).mpr h
    omega
theorem has_bit (m k : Nat) : decide (Builtin.bitAnd ((m : Int) / 2 ^ k) 1 = 1) = m.testBit k := by
  have e : ((m : Int) / 2 ^ k) = ((m / 2 ^ k : Nat) : Int) := by
    rw [Int.natCast_ediv, Int.natCast_pow]
    rfl
  rw [e, show (1 : Int) = ((1 : Nat) : Int) from rfl, bitAnd_nat, Nat.testBit_eq_decide_div_mod_eq]
  rw [Nat.and_one_is_mod]
  congr 1
  exact propext ⟨fun z => by exact_mod_cast z, fun z => by exact_mod_cast z⟩
end Yd
namespace L2
open PySem PySem.Spec PyProof.Rows
/-! ### list comprehensions: one clause, any target, at most one test; nothing is raised inside -/
def closOf (cells : List (Str × Addr)) : List (Str × NameKind) → List (Str × Addr) → List (Str × Addr)
  | [], acc => acc
  | (n, k) :: r, acc => if k == .free then closOf cells r ((n, (cells.lookup n).getD 0) :: acc) else closOf cells r acc
theorem closureFor_of {scope : Scope} {env : Env} (h : ∀ y ∈ scope.names, y.2 = .free → ∃ c, env.cells.lookup y.1 = some c) :
    closureFor scope env = pure (closOf env.cells scope.names []) := by
  unfold closureFor
  have key : ∀ (names : List (Str × NameKind)) (acc : List (Str × Addr)), (∀ y ∈ names, y.2 = .free → ∃ c, env.cells.lookup y.1 = some c) →
      (forIn names acc fun (x : Str × NameKind) (cs : List (Str × Addr)) => (match x with
        | (name, kind) => if (kind == NameKind.free) = true then do
            let c ← cellOf env name
            pure (ForInStep.yield ((name, c) :: cs))
          else pure (ForInStep.yield cs) : Sem (ForInStep (List (Str × Addr))))) = (pure (closOf env.cells names acc) : Sem (List (Str × Addr))) := by
    intro names
    induction names with
    | nil => intro acc _; rfl
    | cons y r ih =>
      intro acc hy
      obtain ⟨n, k⟩ := y
      rw [List.forIn_cons]
      by_cases hk : (k == NameKind.free) = true
      · obtain ⟨c, hc⟩ := hy (n, k) List.mem_cons_self (by simpa using hk)
        have e1 : cellOf env n = pure c := by
          unfold cellOf
          simp only [] at hc
          rw [hc]
        simp only [hk, if_true, e1, pure_bind]
        rw [ih _ fun z hz => hy z (List.mem_cons_of_mem _ hz)]
        unfold closOf
        simp only [] at hc
        rw [if_pos hk, hc]
        conv => rhs; unfold closOf
        rfl
      · simp only [hk, Bool.false_eq_true, if_false, pure_bind]
        rw [ih _ fun z hz => hy z (List.mem_cons_of_mem _ hz)]
        conv => rhs; unfold closOf
        rw [if_neg hk]
  exact (congrArg (fun (m : Sem (List (Str × Addr))) => m >>= fun z => pure z) (key scope.names [] h)).trans (pure_bind _ _)
theorem closOf_lookup {cells : List (Str × Addr)} {x : Str} {c : Addr} : ∀ (names : List (Str × NameKind)) (acc : List (Str × Addr)), (∀ y ∈ names, y.2 = .free → ∃ c, cells.lookup y.1 = some c) →
    (∀ c, acc.lookup x = some c → cells.lookup x = some c) → (closOf cells names acc).lookup x = some c → cells.lookup x = some c
  | [], acc, _, ha, e => ha c e
  | (n, k) :: r, acc, hn, ha, e => by
    unfold closOf at e
    have hr := fun z hz => hn z (List.mem_cons_of_mem _ hz)
    split at e
    · rename_i hk
      refine closOf_lookup r _ hr (fun c' e' => ?_) e
      rw [List.lookup_cons] at e'
      split at e'
      · rename_i hx
        have hx' : x = n := by simpa using hx
        subst hx'
        obtain ⟨c0, hc0⟩ := hn (x, k) List.mem_cons_self (by simpa using hk)
        simp only [] at hc0
        rw [hc0] at e' ⊢
        exact e'
      · exact ha c' e'
    · exact closOf_lookup r acc hr ha e
theorem closOf_has {cells : List (Str × Addr)} {x : Str} : ∀ (names : List (Str × NameKind)) (acc : List (Str × Addr)), ((x, NameKind.free) ∈ names ∨ ∃ c, acc.lookup x = some c) →
    ∃ c, (closOf cells names acc).lookup x = some c
  | [], acc, h => by
    rcases h with h | h
    · cases h
    · exact h
  | (n, k) :: r, acc, h => by
    unfold closOf
    split
    · rename_i hk
      refine closOf_has r _ ?_
      rcases h with h | ⟨c, h⟩
      · rcases List.mem_cons.mp h with h | h
        · refine .inr ⟨(cells.lookup n).getD 0, ?_⟩
          injection h with h1 h2
          rw [List.lookup_cons, h1]
          simp
        · exact .inl h
      · refine .inr ?_
        rw [List.lookup_cons]
        split
        · exact ⟨_, rfl⟩
        · exact ⟨c, h⟩
    · rename_i hk
      refine closOf_has r _ ?_
      rcases h with h | h
      · rcases List.mem_cons.mp h with h | h
        · injection h with h1 h2
          subst h2
          exact absurd rfl hk
        · exact .inl h
      · exact .inr h

theorem relabel_free {env : Env} {x : Str} : ∀ {names : List (Str × NameKind)}, names.lookup x = some .free →
    (names.map fun (n, k) => if (k == NameKind.free && env.scope.kind == .function && env.kindOf n == some .cell) then (n, NameKind.cell) else (n, k)).lookup x = some .cell ∨
    (names.map fun (n, k) => if (k == NameKind.free && env.scope.kind == .function && env.kindOf n == some .cell) then (n, NameKind.cell) else (n, k)).lookup x = some .free
  | [], h => by simp at h
  | (n, k) :: r, h => by
    have ih := @relabel_free env x r
    rw [List.map_cons]
    cases hx : x == n with
    | true =>
      rw [List.lookup_cons, hx] at h
      cases h
      simp only []
      split
      · left; rw [List.lookup_cons, hx]
      · right; rw [List.lookup_cons, hx]
    | false =>
      rw [List.lookup_cons, hx] at h
      simp only []
      split
      · rw [List.lookup_cons, hx]; exact ih h
      · rw [List.lookup_cons, hx]; exact ih h
theorem relabel_mem {env : Env} {x : Str} {k : NameKind} (hk : k = .cell ∨ k = .free) : ∀ {names : List (Str × NameKind)}, (∀ y ∈ names, y.2 ≠ .cell) →
    (names.map fun (n, k) => if (k == NameKind.free && env.scope.kind == .function && env.kindOf n == some .cell) then (n, NameKind.cell) else (n, k)).lookup x = some k → (x, NameKind.free) ∈ names
  | [], _, h => by simp at h
  | (n, k') :: r, hc, h => by
    have ih := @relabel_mem env x k hk r fun y hy => hc y (List.mem_cons_of_mem _ hy)
    rw [List.map_cons] at h
    simp only [] at h
    cases hx : x == n with
    | true =>
      have e : x = n := by simpa using hx
      subst e
      split at h
      · rename_i q
        have q' : k' = .free := by
          have := (Bool.and_eq_true _ _ ▸ q : _ ∧ _).1
          have := (Bool.and_eq_true _ _ ▸ this : _ ∧ _).1
          simpa using this
        rw [q']
        exact List.mem_cons_self
      · rw [List.lookup_cons, hx] at h
        have e2 : k' = k := Option.some.inj h
        rcases hk with z | z
        · exact absurd (e2.trans z) (hc (x, k') List.mem_cons_self)
        · rw [e2, z]; exact List.mem_cons_self
    | false =>
      split at h
      · rw [List.lookup_cons, hx] at h; exact List.mem_cons_of_mem _ (ih h)
      · rw [List.lookup_cons, hx] at h; exact List.mem_cons_of_mem _ (ih h)

section
variable {prog : Program} {w : World} {A : Around} {R : Result → Shared → Prop} {s : Shared}
/-- the tests of a clause, one after another -/
abbrev testsOf (ifs : List Expr) (env : Env) : Sem Bool :=
  forIn ifs true fun c r => if r = true then do let ok ← isTrue c env (eval c env); pure (ForInStep.yield ok) else pure (ForInStep.yield r)
theorem compLoop_by {elt tg iter : Expr} {ifs : List Expr} {scope : Scope} {pos : Pos} {it acc : Value} {env : Env} (I : Nat → Shared → Prop)
    (turn : ∀ n s, I n s → wpAny (model prog w) A (pyNext it) (fun r s1 => match r with
      | none => R (.ok .next) s1
      | some v => wpAny (model prog w) A (letOwnedTupleGo tg it v) (fun _ s2 => wpAny (model prog w) A (assign tg env v) (fun _ s3 =>
          wpAny (model prog w) A (testsOf ifs env) (fun ok s4 =>
            if ok = true then wpAny (model prog w) A (eval elt env) (fun x s5 =>
              wpAny (model prog w) A (call (.builtin "list.append") [acc, x]) (fun _ s6 => ∃ m, m < n ∧ I m s6) (fun _ _ => False) s5) (fun _ _ => False) s4
            else ∃ m, m < n ∧ I m s4) (fun _ _ => False) s3) (fun _ _ => False) s2) (fun _ _ => False) s1) (fun _ _ => False) s)
    (n : Nat) (h : I n s) : codeAny (model prog w) A (.compLoop (.ListComp elt [⟨tg, iter, ifs, 0⟩] scope pos) 0 it acc env) R s := by
  refine codeAny_loop rfl I (fun n s hI => ?_) n h
  have no : ∀ {E' : Value → Shared → Prop} (e : Value) (s' : Shared), False → E' e s' := fun _ _ z => z.elim
  show wpAny _ A (Sem.onRaise (compTurn (.ListComp elt [⟨tg, iter, ifs, 0⟩] scope pos) 0 it acc env) fun x => do
    noteFrame x env
    theTreesLotGoes x) _ _ s
  refine wpAny_noted ?_
  rw [compTurn_list]
  refine wpAny_bind (wpAny_standAt (wpAny_bind (wpAny_mono (turn n s hI) (fun r s1 h1 => ?_) no)))
  cases r with
  | none => exact wpAny_pure h1
  | some v =>
    refine wpAny_bind (wpAny_mono h1 (fun _ s2 h2 => ?_) no)
    refine wpAny_bind (wpAny_mono h2 (fun _ s3 h3 => ?_) no)
    refine wpAny_bind (wpAny_mono h3 (fun ok s4 h4 => ?_) no)
    cases ok with
    | false => exact wpAny_pure ⟨rfl, h4⟩
    | true =>
      refine wpAny_bind (wpAny_bind (wpAny_mono h4 (fun x s5 h5 => ?_) no))
      exact wpAny_bind (wpAny_mono h5 (fun _ s6 h6 => wpAny_pure (wpAny_pure ⟨rfl, h6⟩)) no)
end

/-- a clause's tests, by the layer -/
def PTs (X : Cx) (ifs : List Expr) (t : TT) : Prop :=
  ∀ (pins : List (Addr × Obj)) (s : Shared) (σ : St) (H : Hp) (Q : Bool → Hp → Prop), Inv X pins σ H s → t σ H Q → wpAny (model X.prog X.w) X.A (testsOf ifs X.env) (TP X pins σ Q) X.xe s
def tYes : TT := fun _ H Q => Q true H
theorem pts_nil {X : Cx} : PTs X [] tYes := fun _ _ _ H _ I h => wpAny_pure ⟨H, I, h⟩
theorem pts_one {X : Cx} {c : Expr} {t : TT} (h : PT X c t) : PTs X [c] t := fun pins s σ H Q I hw => by
  simp only [testsOf, List.forIn_cons, List.forIn_nil, if_true]
  exact wpAny_bind (wpAny_bind (thn (h pins s σ H Q I hw) fun b s' hb => wpAny_pure (wpAny_pure hb)))

/-- what is asked of the block's scope: N, sc are the def's -/
structure Blk (N : List Str) (sc scope : Scope) (capN : List Str) (cap : List Nat) : Prop where
  kind : scope.kind = .function
  nocell : ∀ y ∈ scope.names, y.2 ≠ .cell
  loc : ∀ y ∈ scope.names, y.2 = .local → scope.names.lookup y.1 = some .local
  free : ∀ y ∈ scope.names, y.2 = .free → sc.names.lookup y.1 = some .cell ∨ sc.names.lookup y.1 = some .free
  len : cap.length = capN.length
  cap : ∀ p ∈ capN.zip cap, scope.names.lookup p.1 = some .free ∧ N[p.2]? = some p.1
/-- the block's context -/
abbrev cxBlk (X : Cx) (scope : Scope) (N : List Str) (C : Addr) (s : Shared) (H : Hp) (fp : List Addr) : Cx :=
  { X with N := N, s₀ := s, H₀ := H, env := compEnvC scope (closOf X.env.cells scope.names []) C X.env, outer := X.stack, stack := X.stack, ex := fp, fn := fun _ => false, pn := [], xe := fun _ _ => False }
/-- its names at the start of a turn: its own ones, then what it takes from the def -/
def blkσ (n : Nat) (cap : List Nat) (σ : St) : St := List.replicate n none ++ cap.map fun j => (σ[j]?).join
theorem blkσ_len (n : Nat) (cap : List Nat) (σ : St) : (blkσ n cap σ).length = n + cap.length := by simp [blkσ]

section
variable {X : Cx} {pins : List (Addr × Obj)} {σ : St} {H : Hp} {s : Shared} {scope : Scope} {own capN : List Str} {cap : List Nat} {fp : List Addr}
theorem Blk.clos (B : Blk X.N X.env.scope scope capN cap) (ok : X.Ok) : ∀ y ∈ scope.names, y.2 = .free → ∃ c, X.env.cells.lookup y.1 = some c := fun y hy hf => ok.has y.1 (B.free y hy hf)
theorem Blk.cell (B : Blk X.N X.env.scope scope capN cap) (ok : X.Ok) {x : Str} {c : Addr} (h : (closOf X.env.cells scope.names []).lookup x = some c) : X.env.cells.lookup x = some c :=
  closOf_lookup scope.names [] (B.clos ok) (fun _ e => by cases e) h
/-- the values that the block takes from the def stand in cells, which nobody changes -/
theorem Blk.locs (I : Inv X pins σ H s) (B : Blk X.N X.env.scope scope capN cap) {h' : Heap} (k : ∀ x c v, X.env.cells.lookup x = some c → s.heap.IsCell c v → h'.IsCell c v) (C : Addr) (m0 : Str → Option Value) :
    ∀ (i : Nat) (x : Str) (v : V), (own ++ capN)[i]? = some x → (blkσ own.length cap σ)[i]? = some (some v) → ∃ u, RelV v u ∧ Look (compEnvC scope (closOf X.env.cells scope.names []) C X.env) h' m0 x u := by
  intro i x v e1 e2
  have hi : own.length ≤ i := by
    by_cases q : own.length ≤ i
    · exact q
    · unfold blkσ at e2
      rw [List.getElem?_append_left (by simp; omega), List.getElem?_replicate, if_pos (by omega)] at e2
      cases e2
  have e1' : capN[i - own.length]? = some x := by
    rwa [List.getElem?_append_right hi] at e1
  unfold blkσ at e2
  rw [List.getElem?_append_right (by simpa using hi), List.length_replicate, List.getElem?_map] at e2
  cases ej : cap[i - own.length]? with
  | none => rw [ej] at e2; cases e2
  | some j =>
    rw [ej] at e2
    have e2' : (σ[j]?).join = some v := Option.some.inj e2
    have e3' : σ[j]? = some (some v) := by
      cases q : σ[j]? with
      | none => rw [q] at e2'; cases e2'
      | some u => rw [q] at e2'; exact congrArg some e2'
    have hz : (x, j) ∈ capN.zip cap := by
      refine List.mem_iff_getElem?.mpr ⟨i - own.length, ?_⟩
      rw [List.getElem?_zip_eq_some]
      exact ⟨e1', ej⟩
    obtain ⟨c1, c2⟩ := B.cap (x, j) hz
    have hfx : (x, NameKind.free) ∈ scope.names := PySem.mem_of_lookup c1
    have hX := B.free _ hfx rfl
    obtain ⟨m, hm, hl⟩ := I.loc
    obtain ⟨u, ru, lk⟩ := hl j x v c2 e3' (hX.elim (fun z => .inr (.inl z)) fun z => .inr (.inr z))
    refine ⟨u, ru, .inr ⟨relabel_free c1, ?_⟩⟩
    rcases lk with ⟨q, _⟩ | ⟨_, c, ec, ic⟩
    · have q' : X.env.scope.names.lookup x = some .local := q
      rcases hX with z | z
      · rw [z] at q'; cases q'
      · rw [z] at q'; cases q'
    · obtain ⟨c', ec'⟩ := closOf_has (cells := X.env.cells) (x := x) scope.names [] (.inl hfx)
      have := B.cell I.ok ec'
      rw [ec] at this
      cases this
      exact ⟨c, ec', k x c _ ec ic⟩
theorem Inv.blk {h4 : Heap} {tk : Nat} {m0 : Str → Option Value} {C : Addr} (I : Inv X pins σ H s) (B : Blk X.N X.env.scope scope capN cap) (hC : s.heap.objs.size ≤ C) (k : ∀ b o, s.heap.get? b = some o → h4.get? b = some o)
    (hn : h4.Ns C m0) (hf : ∀ b ∈ fp, FpOk X pins H b) (hlt : ∀ b ∈ fp, b < s.heap.objs.size) :
    Inv (cxBlk X scope (own ++ capN) C s H fp) [] (blkσ own.length cap σ) H { s with heap := h4, toks := tk } := by
  have nfs : ∀ b ∈ fp, b ∉ frs X.stack := fun b hb z => by
    obtain ⟨_, f1, f2, _⟩ := hf b hb
    rcases List.mem_cons.mp (I.stkSub b z) with e | e
    · exact f1 e
    · exact f2 e
  have hinv : ∀ x, ((relabel scope X.env).names.lookup x = some .cell ∨ (relabel scope X.env).names.lookup x = some .free) → (x, NameKind.free) ∈ scope.names := fun x hx => by
    rcases hx with q | q
    · exact relabel_mem (.inl rfl) B.nocell q
    · exact relabel_mem (.inr rfl) B.nocell q
  refine ⟨⟨I.ok.mod, B.kind, I.ok.glob, I.ok.blt, hC, fun x y c h1 h2 => I.ok.inj x y c (B.cell I.ok h1) (B.cell I.ok h2), fun x hx => closOf_has scope.names [] (.inl (hinv x hx)), fun _ _ z => absurd z Bool.false_ne_true, I.ok.hd, I.ok.frames, .inl rfl,
    fun b hb => ⟨Nat.ne_of_lt (Nat.lt_of_lt_of_le (hlt b hb) hC), fun x c e => (hf b hb).2.2.2.2.1 x c (B.cell I.ok e)⟩, I.bs, Nat.le_trans I.ok.bsz I.sz, fun b o e hb => ?_, fun b hb => nfs b hb, I.stack, I.stkFree⟩,
    rfl, I.bare, Un.kept k, ⟨m0, hn, fun i x v e1 e2 _ => B.locs I (fun _ _ _ _ q => q.keeps k) C m0 i x v e1 e2⟩, fun x c e => ?_, I.hok.fresh hC, fun x c e => I.freeC x c (B.cell I.ok e), fun p hp => absurd (show p ∈ ([] : List (Addr × Obj)) from hp) (by simp), I.hok.kept k, ?_⟩
  · rcases (hf b hb).2.2.2.1 with z | z
    · exact I.ok.noex b o e z
    · exact absurd (Nat.lt_of_lt_of_le (Heap.lt_size e) (Nat.le_trans I.ok.bsz z)) (Nat.lt_irrefl _)
  · obtain ⟨v, q⟩ := I.cell x c (B.cell I.ok e)
    exact ⟨v, q.keeps k⟩
  · show (blkσ own.length cap σ).length = (own ++ capN).length
    rw [blkσ_len, List.length_append, B.len]
/-- behind a turn: the block's own names are forgotten -/
theorem Inv.reset {pins' : List (Addr × Obj)} {σ' : St} {H' : Hp} {s' : Shared} {C : Addr} (I : Inv X pins σ H s) (B : Blk X.N X.env.scope scope capN cap) (hf : ∀ b ∈ fp, FpOk X pins H b) (J : Inv (cxBlk X scope (own ++ capN) C s H fp) pins' σ' H' s') :
    Inv (cxBlk X scope (own ++ capN) C s H fp) pins' (blkσ own.length cap σ) H' s' := by
  obtain ⟨m, hn, _⟩ := J.loc
  refine ⟨J.ok, J.os, J.bare, J.base, ⟨m, hn, fun i x v e1 e2 _ => ?_⟩, J.cell, J.free, J.freeC, J.pin, J.hok, ?_⟩
  · refine B.locs I (fun y c v' ec ic => ?_) C m i x v e1 e2
    obtain ⟨o, ho, hd⟩ := ic
    have hx : c ∉ fp := fun z => (hf c z).2.2.2.2.1 y c ec rfl
    obtain ⟨sl, e⟩ := J.base.any ho (I.freeC y c ec) hx
    exact ⟨_, e, hd⟩
  · show (blkσ own.length cap σ).length = (own ++ capN).length
    rw [blkσ_len, List.length_append, B.len]
/-- an object of ours that was not tracked is tracked from here on -/
theorem Inv.adopt {D : Addr} {o : HO} (I : Inv X pins σ H s) (hn : H D = none) (h0 : X.s₀.heap.objs.size ≤ D) (hL : D ≠ X.env.locals) (hc : ∀ x c, X.env.cells.lookup x = some c → c ≠ D) (hp : ∀ p ∈ X.pn ++ pins, p.1 ≠ D)
    (new : ObjOk X.prog X.w (upd H D o) s.heap D o) : Inv X pins σ (upd H D o) s := by
  have ne : ∀ b u, H b = some u → b ≠ D := fun b u e => ne_of_none e hn
  refine ⟨I.ok, I.os, I.bare, ⟨I.base.keep, I.base.slot, fun b ob e n hx => ?_, I.base.there, fun b xs e => ?_, fun b ob u e => ?_, fun b ps e => ?_⟩, I.loc, I.cell, ?_, fun x c e => ?_, fun p hp' => ?_, fun b u e => ?_, I.len⟩
  · rw [upd_ne (Nat.ne_of_lt (Nat.lt_of_lt_of_le (Heap.lt_size e) h0))]
    exact I.base.free b ob e n hx
  · have q := I.base.tups b xs e
    rw [upd_ne (ne b _ q)]; exact q
  · have q := I.base.frzs b ob u e
    rw [upd_ne (ne b _ q)]; exact q
  · obtain ⟨more, q⟩ := I.base.tbls b ps e
    exact ⟨more, by rw [upd_ne (ne b _ q)]; exact q⟩
  · rw [upd_ne (Ne.symm hL)]; exact I.free
  · rw [upd_ne (hc x c e)]; exact I.freeC x c e
  · obtain ⟨e, n, r⟩ := I.pin p hp'
    exact ⟨e, by rw [upd_ne (hp p hp')]; exact n, r⟩
  · by_cases hb : b = D
    · subst hb; rw [upd_same] at e; cases e; exact new
    · rw [upd_ne hb] at e
      exact (I.hok b u e).stay (fun _ _ _ q => q) (fun c q => by rw [upd_ne (ne c _ q)]; exact q) fun c xs q => by rw [upd_ne (ne c _ q)]; exact q
end

/-- W: turn, a measure, what is gathered so far, the heap -/
def CompR (J : It) (g : TG) (tt : TT) (te : TE) (σ0 : St) (Q : VK) (H1 : Hp) : Prop := ∃ W : Nat → Nat → List V → Hp → Prop, (∃ m, W 0 m [] H1) ∧ ∀ i m acc H, W i m acc H →
  acc.length < sizeLine ∧ ((J.stop i H ∧ ∀ D, H D = none → Q (.ref D) (upd H D (.lst acc))) ∨ (J.go i H ∧ ∃ N : List V → Hp → Prop, (∀ acc' H', N acc' H' → ∃ m', m' < m ∧ W (i + 1) m' acc' H') ∧
    ∀ x H', J.yld i H x H' → g x σ0 H' fun σ2 H2 => tt σ2 H2 fun b H3 => if b = true then te σ2 H3 fun y H4 => N (acc ++ [y]) H4 else N acc H3))
def tComp (wi : TI) (g : TG) (tt : TT) (te : TE) (n : Nat) (cap : List Nat) : TE := fun σ H Q => wi σ H fun J H1 => CompR J g tt te (blkσ n cap σ) Q H1

section
variable {X : Cx} {tg iter elt : Expr} {ifs : List Expr} {scope : Scope} {pos : Pos} {wi : TI} {g : TG} {tt : TT} {te : TE} {own capN : List Str} {cap : List Nat}
abbrev lobj (its : List Value) (k : Nat) : Obj := { cls := .type "list", data := .seq its.toArray k }
theorem comp_run {pins : List (Addr × Obj)} {s : Shared} {σ : St} {H : Hp} {Q : VK} {it : Addr} {fp : List Addr} {tn : Nat → Heap → Prop} {J : It} (B : Blk X.N X.env.scope scope capN cap) (hc : X.calm = true)
    (hb : ∀ (C : Addr) (s : Shared) (H : Hp) (fp : List Addr), PG (cxBlk X scope (own ++ capN) C s H fp) tg g ∧ PTs (cxBlk X scope (own ++ capN) C s H fp) ifs tt ∧ PE (cxBlk X scope (own ++ capN) C s H fp) elt te)
    (I : Inv X pins σ H s) (T : Turn X.prog X.w X.K tg J fp it tn) (st : tn 0 s.heap) (hf : ∀ b ∈ fp, FpOk X pins H b) {W : Nat → Nat → List V → Hp → Prop} {m0 : Nat} (w0 : W 0 m0 [] H)
    (turn : ∀ i m acc H, W i m acc H → acc.length < sizeLine ∧ ((J.stop i H ∧ ∀ D, H D = none → Q (.ref D) (upd H D (.lst acc))) ∨ (J.go i H ∧ ∃ N : List V → Hp → Prop, (∀ acc' H', N acc' H' → ∃ m', m' < m ∧ W (i + 1) m' acc' H') ∧
      ∀ x H', J.yld i H x H' → g x (blkσ own.length cap σ) H' fun σ2 H2 => tt σ2 H2 fun b H3 => if b = true then te σ2 H3 fun y H4 => N (acc ++ [y]) H4 else N acc H3)))
    {RR : Value → Addr → Result → Shared → Prop}
    (fin : ∀ (D C : Addr) (H' : Hp) (s' : Shared), Q (.ref D) H' → Inv X pins σ H' s' → (∃ m, s'.heap.Ns C m) → H' C = none → C ≠ X.env.locals → X.s₀.heap.objs.size ≤ C → (∀ x c, X.env.cells.lookup x = some c → c ≠ C) → (∀ p ∈ X.pn ++ pins, p.1 ≠ C) →
      RR (.ref D) C (.ok .next) s') :
    wpAny (model X.prog X.w) X.A (newList []) (fun acc s3 => wpAny (model X.prog X.w) X.A (newFunctionEnv scope X.env.globals (closOf X.env.cells scope.names []) [] X.env.qual none .none (some X.env)) (fun cenv s4 =>
      codeAny (model X.prog X.w) X.A (.compStart (.ListComp elt [⟨tg, iter, ifs, 0⟩] scope pos) 0 (.ref it) acc { cenv with scope := relabel scope X.env }) (RR acc cenv.locals) s4) X.xe s3) X.xe s := by
  refine wpAny_newObj_type (wpAny_newFunctionEnv B.nocell (by intro y hy; simp at hy) (fun h1 hns hsb => ?_) B.kind)
  dsimp only at hns hsb ⊢
  generalize hH2 : s.heap.push { cls := .type "list", dict := none, data := .seq ([] : List Value).toArray } = H2 at hns hsb ⊢
  have hCs : H2.objs.size = s.heap.objs.size + 1 := by rw [← hH2, Heap.size_push]
  have hCle : s.heap.objs.size ≤ H2.objs.size := by omega
  have ltOf : ∀ b ∈ fp, b < s.heap.objs.size := fun b hb => by
    obtain ⟨o, e, _⟩ := T.obj 0 s.heap st b hb
    exact Heap.lt_size e
  have old : ∀ b o, s.heap.get? b = some o → h1.get? b = some o := fun b o e =>
    hsb.extBut b o (Nat.ne_of_lt (Nat.lt_of_lt_of_le (Heap.lt_size e) hCle)) (Heap.get?_push_of_some _ (hH2 ▸ Heap.get?_push_of_some _ e))
  have hDC : s.heap.objs.size ≠ H2.objs.size := by omega
  have hacc : h1.get? s.heap.objs.size = some (lobj [] 0) := hsb.extBut _ _ hDC (Heap.get?_push_of_some _ (hH2 ▸ Heap.get?_push_size _ rfl))
  have I4 : Inv (cxBlk X scope (own ++ capN) H2.objs.size s H fp) [] (blkσ own.length cap σ) H { s with heap := h1, toks := s.toks + ([] : List (Str × Value)).length } := I.blk (own := own) B hCle old hns hf ltOf
  have nfs : ∀ b ∈ fp, b ∉ frs X.stack := fun b hb z => by
    obtain ⟨_, f1, f2, _⟩ := hf b hb
    rcases List.mem_cons.mp (I.stkSub b z) with e | e
    · exact f1 e
    · exact f2 e
  have stackLt : ∀ b ∈ frs X.stack, b < s.heap.objs.size := fun b hb => by
    obtain ⟨_, o, ho, _⟩ := I.stack.mem hb
    exact Heap.lt_size ho
  have cellLt : ∀ x c, X.env.cells.lookup x = some c → c < s.heap.objs.size := fun x c e => by
    obtain ⟨v, q⟩ := I.cell x c e
    exact q.lt
  have pinOk : ∀ (H' : Hp) (h' : Heap) (its : List Value) (k : Nat), H' s.heap.objs.size = none → h'.get? s.heap.objs.size = some (lobj its k) →
      ∀ p ∈ [(s.heap.objs.size, lobj its k)], h'.get? p.1 = some p.2 ∧ H' p.1 = none ∧ p.1 ≠ (cxBlk X scope (own ++ capN) H2.objs.size s H fp).env.locals ∧ p.1 ∉ (cxBlk X scope (own ++ capN) H2.objs.size s H fp).fs ∧ ∀ v, p.2.data ≠ .cell v := fun H' h' its k hn he p hp => by
    have e : p = (s.heap.objs.size, lobj its k) := by simpa using hp
    subst e
    exact ⟨he, hn, hDC, fun z => absurd (stackLt _ z) (Nat.lt_irrefl _), fun v z => by cases z⟩
  have stat : ∀ (H' : Hp) (its : List Value) (k : Nat), (∀ b ∈ fp, H' b = none) → ∀ b ∈ fp, FpOk (cxBlk X scope (own ++ capN) H2.objs.size s H fp) [(s.heap.objs.size, lobj its k)] H' b := fun H' its k hn b hb =>
    ⟨hn b hb, Nat.ne_of_lt (Nat.lt_of_lt_of_le (ltOf b hb) hCle), nfs b hb, .inl hb, fun x c e => (hf b hb).2.2.2.2.1 x c (B.cell I.ok e), fun p hp => by
      have e : p = (s.heap.objs.size, lobj its k) := by simpa using hp
      subst e
      exact Nat.ne_of_gt (ltOf b hb)⟩
  have loop : ∀ s3 : Shared, s3 = { s with heap := h1, toks := s.toks + ([] : List (Str × Value)).length } →
      codeAny (model X.prog X.w) X.A (.compLoop (.ListComp elt [⟨tg, iter, ifs, 0⟩] scope pos) 0 (.ref it) (.ref s.heap.objs.size) (compEnvC scope (closOf X.env.cells scope.names []) H2.objs.size X.env))
        (RR (.ref s.heap.objs.size) H2.objs.size) s3 := by
    rintro s3 rfl
    refine compLoop_by (fun n s' => ∃ i acc its k H', Inv (cxBlk X scope (own ++ capN) H2.objs.size s H fp) [(s.heap.objs.size, lobj its k)] (blkσ own.length cap σ) H' s' ∧ tn i s'.heap ∧ (∀ b ∈ fp, H' b = none) ∧ Vals acc its ∧ W i n acc H') ?_ m0
      ⟨0, [], [], 0, H, I4.pins_of (pinOk _ _ _ _ (I.hok.fresh (Nat.le_refl _)) hacc), T.keep 0 s.heap h1 st fun b _ o e => old b o e, fun b hb => (hf b hb).1, .nil, w0⟩
    rintro n s5 ⟨i, acc, its, k, H5, I5, st5, fr5, rv, w5⟩
    obtain ⟨hsz, hcase⟩ := turn i n acc H5 w5
    obtain ⟨hgt, htt, hte⟩ := hb H2.objs.size s H fp
    rcases hcase with ⟨stop, q⟩ | ⟨go, N, hN, step⟩
    · refine thn (T.done (cxBlk X scope (own ++ capN) H2.objs.size s H fp) rfl rfl rfl hc i _ s5 _ H5 _ I5 (stat H5 its k fr5) st5 stop) fun r s6 ⟨hr, I6⟩ => ?_
      subst hr
      obtain ⟨hD, hDn, _⟩ := I6.pin (s.heap.objs.size, lobj its k) (by simp)
      have J1 : Inv X pins σ H5 s6 := I.call' (s' := s6) (ch := fp) I6.os I6.base I6.hok I6.bare fun b hb => by
        obtain ⟨_, f1, _, f3, f4, f5⟩ := hf b hb
        exact ⟨f3, f1, f4, f5⟩
      have J2 : Inv X pins σ (upd H5 s.heap.objs.size (.lst acc)) s6 := J1.adopt hDn I.sz (Nat.ne_of_gt I.lt) (fun x c e => Nat.ne_of_lt (cellLt x c e)) (fun p hp => Nat.ne_of_lt (Heap.lt_size (I.pin p hp).1)) ⟨Nat.le_of_lt hsz, its, k, rv, hD⟩
      obtain ⟨mC, hnC, _⟩ := I6.loc
      refine fin _ _ _ s6 (q _ hDn) J2 ⟨mC, hnC⟩ (by rw [upd_ne (Ne.symm hDC)]; exact I6.free) (Nat.ne_of_gt (Nat.lt_of_lt_of_le I.lt hCle)) (Nat.le_trans I.sz hCle) (fun x c e => Nat.ne_of_lt (Nat.lt_of_lt_of_le (cellLt x c e) hCle)) fun p hp =>
        Nat.ne_of_lt (Nat.lt_of_lt_of_le (Heap.lt_size (I.pin p hp).1) hCle)
    · refine thn (T.item (cxBlk X scope (own ++ capN) H2.objs.size s H fp) rfl rfl rfl hc i _ s5 _ H5 _ I5 (stat H5 its k fr5) st5 go) fun r s6 ⟨u, hr, h6⟩ => ?_
      subst hr
      refine thn h6 fun _ s7 ⟨x, H7, I7, r7, y7, st7, fr7⟩ => ?_
      have I7' := I7.pinned (stat H7 its k fr7) (T.obj _ _ st7)
      refine thn (hgt _ s7 _ H7 x u _ I7' r7 (step x H7 y7)) fun _ s8 ⟨σ8, H8, I8, q8⟩ => ?_
      refine thn (htt _ s8 σ8 H8 _ I8 q8) fun b s9 ⟨H9, I9, q9⟩ => ?_
      -- what is kept of the iterator through a turn
      have itk : ∀ {H' : Hp} {s' : Shared} {σ' : St}, Inv (cxBlk X scope (own ++ capN) H2.objs.size s H fp) (pinsAt fp s7.heap) σ' H' s' → tn (i + 1) s'.heap ∧ ∀ b ∈ fp, H' b = none := fun {H' s' σ'} K => by
        refine ⟨T.keep _ _ _ st7 fun b hb o e => (K.pin (b, o) (mem_pinsAt hb e)).1, fun b hb => ?_⟩
        obtain ⟨o, e, _⟩ := T.obj _ _ st7 b hb
        exact (K.pin (b, o) (mem_pinsAt hb e)).2.1
      cases b with
      | false =>
        rw [if_neg Bool.false_ne_true]
        obtain ⟨m', hm, w9⟩ := hN acc H9 (by simpa using q9)
        have K9 : Inv (cxBlk X scope (own ++ capN) H2.objs.size s H fp) (pinsAt fp s7.heap) σ8 H9 s9 := I9.pins_of fun p hp => I9.pin p (List.mem_append_right _ (List.mem_append_right _ hp))
        obtain ⟨t9, f9⟩ := itk K9
        exact ⟨m', hm, i + 1, acc, its, k, H9, I.reset B hf I9.unpinned, t9, f9, rv, w9⟩
      | true =>
        rw [if_pos rfl]
        have q9' : te σ8 H9 fun y H4 => N (acc ++ [y]) H4 := by simpa using q9
        refine thn (hte _ s9 σ8 H9 _ I9 q9') fun yv s10 ⟨y, H10, I10, r10, q10⟩ => ?_
        obtain ⟨hD, hDn, _⟩ := I10.pin (s.heap.objs.size, lobj its k) (by simp)
        have hlen := rv.length
        refine wpAny_list_append_plain ⟨k, hD⟩ (fun h' hpl hsb' => ?_) (by rw [List.size_toArray]; omega)
        obtain ⟨k', hD'⟩ := hpl
        obtain ⟨m', hm, w10⟩ := hN (acc ++ [y]) H10 q10
        have K10 : Inv (cxBlk X scope (own ++ capN) H2.objs.size s H fp) (pinsAt fp s7.heap) σ8 H10 s10 := I10.pins_of fun p hp => I10.pin p (List.mem_append_right _ (List.mem_append_right _ hp))
        have K11 : Inv (cxBlk X scope (own ++ capN) H2.objs.size s H fp) (pinsAt fp s7.heap) σ8 H10 { s10 with heap := h' } := K10.turned (t' := s10.toks) (it := s.heap.objs.size) (fun b o hb e => (hsb'.2 b hb).trans e) hDn hDC (.inr (Nat.le_refl _))
          (fun x c e => Nat.ne_of_lt (cellLt x c (B.cell I.ok e))) fun p hp => by
            obtain ⟨hb, _⟩ := of_pinsAt (show p ∈ pinsAt fp s7.heap from hp)
            exact Nat.ne_of_lt (ltOf p.1 hb)
        obtain ⟨t11, f11⟩ := itk K11
        refine ⟨m', hm, i + 1, acc ++ [y], its ++ [yv], k', H10, ?_, t11, f11, rv.append (.cons r10 .nil), w10⟩
        refine I.reset B hf (K11.pins_of (pinOk _ _ _ _ hDn ?_))
        show h'.get? s.heap.objs.size = some { cls := .type "list", data := .seq (its ++ [yv]).toArray k' }
        rw [show (its ++ [yv]).toArray = its.toArray.push yv by simp]
        exact hD'
  exact codeAny_compStart_list (loop _ rfl) (T.self X.A 0 _ _ _ (T.keep 0 s.heap h1 st fun b _ o e => old b o e) (loop _ rfl))

/-- [elt for tg in iter if ..] -/
theorem pe_comp (B : Blk X.N X.env.scope scope capN cap) (hc : X.calm = true) (hi : PI X tg iter wi)
    (hb : ∀ (C : Addr) (s : Shared) (H : Hp) (fp : List Addr), PG (cxBlk X scope (own ++ capN) C s H fp) tg g ∧ PTs (cxBlk X scope (own ++ capN) C s H fp) ifs tt ∧ PE (cxBlk X scope (own ++ capN) C s H fp) elt te)
    (hs : ∀ x, foldedSetIterable iter X.env x = pure x := by intro _; rfl) : PE X (.ListComp elt [⟨tg, iter, ifs, 0⟩] scope pos) (tComp wi g tt te own.length cap) := by
  intro pins s σ H Q I h
  rw [eval_ListComp]
  refine wpAny_comprehension_free (use := none) rfl hs (closureFor_of (B.clos I.ok)) B.kind B.loc (thn (hi pins s σ H _ I h) fun v s1 h1 => thn h1 fun itv s2 h2 => ?_)
  obtain ⟨it, fp, tn, J, H2, e, I2, T, st2, f2, W, ⟨m0, w0⟩, turn⟩ := h2
  subst e
  refine comp_run (own := own) B hc hb I2 T st2 f2 w0 turn (RR := fun acc C => compPost (model X.prog X.w) X.A X.xe none (EP X pins σ Q) acc C) fun D C H' s' q J2 ⟨mC, hnC⟩ fC n1 n2 n3 n4 => ?_
  refine ⟨mC, hnC, fun h' hsb => ⟨.ref D, H', ?_, rfl, q⟩⟩
  exact J2.turned (t' := s'.toks) (it := C) (fun b o hb e => (hsb.2 b hb).trans e) fC n1 (.inr n2) n3 n4
/-- name = [elt for tg in iter if ..], where the name is the def's own and stands in no cell: the store comes ahead of the block's end -/
theorem ps_setComp {i : Nat} {x : Str} {px : Pos} {spos : Pos} (B : Blk X.N X.env.scope scope capN cap) (hc : X.calm = true) (hN : X.N.Nodup) (hx : X.N[i]? = some x) (hl : X.env.scope.names.lookup x = some .local) (hi : PI X tg iter wi)
    (hb : ∀ (C : Addr) (s : Shared) (H : Hp) (fp : List Addr), PG (cxBlk X scope (own ++ capN) C s H fp) tg g ∧ PTs (cxBlk X scope (own ++ capN) C s H fp) ifs tt ∧ PE (cxBlk X scope (own ++ capN) C s H fp) elt te)
    (hsw : swapsWith (.ListComp elt [⟨tg, iter, ifs, 0⟩] scope pos) (some (.Name x px)) spos.line X.env = pure true := by rfl)
    (hs : ∀ x, foldedSetIterable iter X.env x = pure x := by intro _; rfl) : PS X (.Assign [.Name x px] (.ListComp elt [⟨tg, iter, ifs, 0⟩] scope pos) spos) (tAsg (tComp wi g tt te own.length cap) (gName i)) := by
  intro pins s σ H D0 I h
  rw [exec_Assign_Name_used _ _ _ _ hsw]
  refine wpAny_bind (wpAny_standAt (wpAny_bind ?_))
  show wpAny _ X.A (do
    let _ ← comprehension (.ListComp elt [⟨tg, iter, ifs, 0⟩] scope pos) scope X.env _ (newList []) false (eval iter X.env) (some (assign (.Name x px) X.env))) _ _ s
  refine wpAny_bind (wpAny_mono (wpAny_comprehension_free (use := some (assign (.Name x px) X.env)) (Q := fun _ s' => SP X pins D0 .next s') rfl hs (closureFor_of (B.clos I.ok)) B.kind B.loc
    (thn (hi pins s σ H _ I h) fun v s1 h1 => thn h1 fun itv s2 h2 => ?_)) (fun _ s' hq => wpAny_pure (wpAny_pure hq)) fun _ _ e => e)
  obtain ⟨it, fp, tn, J, H2, e, I2, T, st2, f2, W, ⟨m0, w0⟩, turn⟩ := h2
  subst e
  refine comp_run (own := own) (Q := fun x H1 => gName i x σ H1 D0.nx) B hc hb I2 T st2 f2 w0 turn (RR := fun acc C => compPost (model X.prog X.w) X.A X.xe (some (assign (.Name x px) X.env)) (fun _ s' => SP X pins D0 .next s') acc C) fun D C H' s' q J2 ⟨mC, hnC⟩ fC n1 n2 n3 n4 => ?_
  show wpAny _ X.A (assign (.Name x px) X.env (.ref D)) _ _ s'
  refine wpAny_assign_Name (store_ok2 J2 hN hx (.inl hl) (show RelV (.ref D) (.ref D) from rfl) (fun s'' J3 ⟨a, hsb, ha⟩ => ?_) (.inr hl))
  have hCa : C ≠ a := by
    rcases ha with z | z
    · rw [z]; exact n1
    · exact (n3 x a z).symm
  refine ⟨mC, hnC.sameBut hsb hCa, fun h' hsb' => ⟨_, H', ?_, q⟩⟩
  exact J3.turned (t' := s''.toks) (it := C) (fun b o hb e => (hsb'.2 b hb).trans e) fC n1 (.inr n2) n3 n4
end
end L2
namespace L2
open PySem PySem.Spec PyProof.Rows
/-! ### == of lists and tuples, at any depth, by what they hold -/
mutual
inductive Den (K : PySem.W.Frag) (H : Hp) : V → PyData → Prop
  | non : Den K H .non .none
  | bl (b : Bool) : Den K H (.bl b) (.bool b)
  | int (i : Int) : Den K H (.int i) (.int i)
  | str (x : Str) : Den K H (.str x) (.str x)
  | lst {a : Addr} {xs : List V} {ds : List PyData} : SqL K H a xs → Dens K H xs ds → Den K H (.ref a) (.list ds)
  | tup {a : Addr} {xs : List V} {ds : List PyData} : SqT K H a xs → Dens K H xs ds → Den K H (.ref a) (.tuple ds)
inductive Dens (K : PySem.W.Frag) (H : Hp) : List V → List PyData → Prop
  | nil : Dens K H [] []
  | cons {x : V} {d : PyData} {xs : List V} {ds : List PyData} : Den K H x d → Dens K H xs ds → Dens K H (x :: xs) (d :: ds)
end
section
variable {X : Cx} {pins : List (Addr × Obj)} {σ : St} {H : Hp} {s : Shared}
mutual
theorem Inv.den (I : Inv X pins σ H s) : ∀ {x : V} {d : PyData} {u : Value}, Den X.K H x d → RelV x u → ∃ as, Reads s.heap u d as
  | _, _, _, .non, r => by cases r; exact ⟨_, .none⟩
  | _, _, _, .bl b, r => by cases r; exact ⟨_, .bool b⟩
  | _, _, _, .int i, r => by obtain ⟨t, rfl⟩ := r; exact ⟨_, .int i t⟩
  | _, _, _, .str x, r => by obtain ⟨t, rfl⟩ := r; exact ⟨_, .str x t⟩
  | _, _, _, .lst hq hd, r => by
    cases r
    obtain ⟨its, rv, ⟨o, n, e, hc, _, hdt⟩, _⟩ := I.list hq
    obtain ⟨as, q⟩ := I.dens hd rv
    exact ⟨_, .list e hc hdt (by simpa using q)⟩
  | _, _, _, .tup hq hd, r => by
    cases r
    obtain ⟨its, rv, ⟨o, e, hc, n, hdt⟩, _⟩ := I.tuple hq
    obtain ⟨as, q⟩ := I.dens hd rv
    exact ⟨_, .tuple e hc hdt (by simpa using q)⟩
theorem Inv.dens (I : Inv X pins σ H s) : ∀ {xs : List V} {ds : List PyData} {us : List Value}, Dens X.K H xs ds → Vals xs us → ∃ as, ReadsAll s.heap us ds as
  | _, _, _, .nil, .nil => ⟨_, .nil⟩
  | _, _, _, .cons hd hr, .cons r rr => by
    obtain ⟨as, q⟩ := I.den hd r
    obtain ⟨bs, q'⟩ := I.dens hr rr
    exact ⟨_, .cons q q'⟩
end
def rEqD (K : PySem.W.Frag) : R2 := fun x y H Q => ∃ da db, Den K H x da ∧ Den K H y db ∧ SeqAt.shaped da = true ∧ SeqAt.shaped db = true ∧ Q (.bl (PyData.eqv da db)) H
def rNeD (K : PySem.W.Frag) : R2 := fun x y H Q => ∃ da db, Den K H x da ∧ Den K H y db ∧ SeqAt.shaped da = true ∧ SeqAt.shaped db = true ∧ Q (.bl (!PyData.eqv da db)) H
end
section
variable {X : Cx}
theorem op_eqD (hu : X.A.units + 64 < cLine) : OpR X (compareOp .Eq) (rEqD X.K) := by
  intro pins s σ H x y v u Q I rx ry h
  obtain ⟨da, db, h1, h2, h3, h4, q⟩ := h
  obtain ⟨as, r1⟩ := I.den h1 rx
  obtain ⟨bs, r2⟩ := I.den h2 ry
  exact SeqAt.compareEq_shaped r1 r2 h3 h4 hu ⟨.bl _, H, I, rfl, q⟩
theorem op_neD (hu : X.A.units + 64 < cLine) : OpR X (compareOp .NotEq) (rNeD X.K) := by
  intro pins s σ H x y v u Q I rx ry h
  obtain ⟨da, db, h1, h2, h3, h4, q⟩ := h
  obtain ⟨as, r1⟩ := I.den h1 rx
  obtain ⟨bs, r2⟩ := I.den h2 ry
  exact SeqAt.compareNe_shaped r1 r2 h3 h4 hu ⟨.bl _, H, I, rfl, q⟩
theorem dens_ints {K : PySem.W.Frag} {H : Hp} : ∀ ns : List Int, Dens K H (ns.map V.int) (ns.map PyData.int)
  | [] => .nil
  | n :: r => .cons (.int n) (dens_ints r)
theorem den_ints {K : PySem.W.Frag} {H : Hp} {a : Addr} {ns : List Int} (h : SqL K H a (ns.map V.int)) : Den K H (.ref a) (.list (ns.map PyData.int)) := .lst h (dens_ints ns)
/-- lists of ints -/
def rEqI (K : PySem.W.Frag) : R2 := fun x y H Q => ∃ (p q : Addr) (ns ms : List Int), x = .ref p ∧ y = .ref q ∧ SqL K H p (ns.map V.int) ∧ SqL K H q (ms.map V.int) ∧ Q (.bl (decide (ns = ms))) H
def rNeI (K : PySem.W.Frag) : R2 := fun x y H Q => ∃ (p q : Addr) (ns ms : List Int), x = .ref p ∧ y = .ref q ∧ SqL K H p (ns.map V.int) ∧ SqL K H q (ms.map V.int) ∧ Q (.bl (!decide (ns = ms))) H
theorem op_eqI (hu : X.A.units + 64 < cLine) : OpR X (compareOp .Eq) (rEqI X.K) := by
  intro pins s σ H x y v u Q I rx ry h
  obtain ⟨p, q, ns, ms, rfl, rfl, h1, h2, q⟩ := h
  refine op_eqD hu pins s σ H _ _ v u Q I rx ry ⟨_, _, den_ints h1, den_ints h2, PySem.W.shaped_ints ns, PySem.W.shaped_ints ms, ?_⟩
  simp only [PyData.eqv, PySem.W.ked_eqvAll]
  exact q
theorem op_neI (hu : X.A.units + 64 < cLine) : OpR X (compareOp .NotEq) (rNeI X.K) := by
  intro pins s σ H x y v u Q I rx ry h
  obtain ⟨p, q, ns, ms, rfl, rfl, h1, h2, q⟩ := h
  refine op_neD hu pins s σ H _ _ v u Q I rx ry ⟨_, _, den_ints h1, den_ints h2, PySem.W.shaped_ints ns, PySem.W.shaped_ints ms, ?_⟩
  simp only [PyData.eqv, PySem.W.ked_eqvAll]
  exact q

/-! ### isinstance, is not, all, bit_length, [::-1] -/
def rIsi (K : PySem.W.Frag) : List V → Hp → VK → Prop := fun xs H Q =>
  (∃ i, xs = [.int i, .ty "int"] ∧ Q (.bl true) H) ∨ (∃ i, xs = [.int i, .ty "bool"] ∧ Q (.bl false) H) ∨ (∃ p ys, xs = [.ref p, .ty "list"] ∧ SqL K H p ys ∧ Q (.bl true) H) ∨ (∃ p ys, xs = [.ref p, .ty "tuple"] ∧ SqT K H p ys ∧ Q (.bl true) H)
theorem call_isi : CallR X (.builtin "isinstance") (rIsi X.K) := by
  intro pins s σ H xs us Q I r h
  rcases h with ⟨i, rfl, q⟩ | ⟨i, rfl, q⟩ | ⟨p, ys, rfl, hq, q⟩ | ⟨p, ys, rfl, hq, q⟩
  · cases r with
    | cons r1 r2 =>
      cases r2 with
      | cons r2 r3 =>
        cases r3
        obtain ⟨t, rfl⟩ := r1
        cases r2
        exact IsiPair.int_int ⟨.bl true, H, I, rfl, q⟩
  · cases r with
    | cons r1 r2 =>
      cases r2 with
      | cons r2 r3 =>
        cases r3
        obtain ⟨t, rfl⟩ := r1
        cases r2
        exact IsiPair.int_bool ⟨.bl false, H, I.tok _, rfl, q⟩
  · cases r with
    | cons r1 r2 =>
      cases r2 with
      | cons r2 r3 =>
        cases r3
        cases r1
        cases r2
        obtain ⟨its, rv, ⟨o, n, e, hc, _⟩, _⟩ := I.list hq
        exact IsiPair.list_list e hc ⟨.bl true, H, I, rfl, q⟩
  · cases r with
    | cons r1 r2 =>
      cases r2 with
      | cons r2 r3 =>
        cases r3
        cases r1
        cases r2
        obtain ⟨its, rv, ⟨o, e, hc, _⟩, _⟩ := I.tuple hq
        exact IsiPair.tuple_tuple e hc ⟨.bl true, H, I, rfl, q⟩
theorem mt_bits : MtR X "int.bit_length" (fun x xs H Q => ∃ i, x = .int i ∧ xs = [] ∧ Q (.int (Builtin.Int.intBits i : Nat)) H) := by
  intro pins s σ H x xs v us Q I rx rv h
  obtain ⟨i, rfl, rfl, q⟩ := h
  obtain ⟨t, rfl⟩ := rx
  cases rv
  exact call_int_bit_length ⟨.int _, H, I.tok _, ⟨_, rfl⟩, q⟩
theorem Inv.same {pins : List (Addr × Obj)} {σ : St} {H : Hp} {s s' : Shared} (I : Inv X pins σ H s) (k : ∀ b o, s.heap.get? b = some o → s'.heap.get? b = some o) (g : s'.gens = s.gens) (ho : s'.os = s.os) : Inv X pins σ H s' := by
  obtain ⟨hh, gg, dd, tt, oo⟩ := s'
  simp only at k g ho
  subst g
  subst ho
  have J : Inv X pins σ H { s with heap := hh, toks := tt } := I.kept k
  exact ⟨J.ok, J.os, J.bare, J.base, J.loc, J.cell, J.free, J.freeC, J.pin, J.hok, J.len⟩
/-- all(a list of truths) -/
theorem call_all (hc : X.calm = true) : CallR X (.builtin "all") (fun xs H Q => ∃ (p : Addr) (bs : List Bool), xs = [.ref p] ∧ SqL X.K H p (bs.map V.bl) ∧ Q (.bl (bs.all id)) H) := by
  intro pins s σ H xs us Q I r h
  obtain ⟨p, bs, rfl, hq, q⟩ := h
  obtain ⟨u, rfl, rx⟩ := vals1 r
  cases rx
  obtain ⟨its, rv, pl, hz⟩ := I.list hq
  have hlen := rv.length
  rw [List.length_map] at hlen
  have hlt : p < s.heap.objs.size := by obtain ⟨o, n, e, _⟩ := pl; exact Heap.lt_size e
  have bAt : ∀ (i : Nat) (v : Value), its.toArray[i]? = some v → v = Value.bool (bs.getD i false) := fun i v hv => by
    have hv' : its[i]? = some v := by simpa using hv
    have hi : i < bs.length := by rw [hlen]; exact (List.getElem?_eq_some_iff.mp hv').1
    obtain ⟨u, hu, ru⟩ := rv.get (i := i) (x := .bl bs[i]) (by simp [hi])
    rw [hv'] at hu
    cases hu
    rw [List.getD_eq_getElem?_getD, List.getElem?_eq_getElem hi]
    exact ru
  have hh1 : X.A.in1.handled = none := I.ok.hd hc
  refine call_all_walkS (wpAny_pyIter_list pl.isList ⟨s.heap.objs.size, [s.heap.objs.size, p], [s.heap.objs.size], fun a b => b = a, its.toArray.size, fun i v => its.toArray[i]? = some v, _, fun i => bs.getD i false, rfl,
    (Walks.list hh1 _ p (Nat.ne_of_lt hlt) its.toArray).toS, ⟨⟨_, Heap.get?_push_size _ rfl, rfl, rfl⟩, pl.isList.push _⟩, fun i v s1 Q1 E1 hv hq1 => ?_, fun s' hm => ?_⟩)
  · rw [bAt i v hv]
    exact wpAny_truthy_bool hq1
  · have I1 : Inv X pins σ H { s with heap := s.heap.push { cls := .type "list_iterator", data := .fields #[.ref p, .int 0 0] } } := I.kept (t' := s.toks) fun b o e => Heap.get?_push_of_some _ e
    refine ⟨.bl _, H, I.same (fun b o e => hm.heap b o (fun hb => ?_) (Heap.get?_push_of_some _ e)) hm.gens hm.os, rfl, ?_⟩
    · have hb' : b = s.heap.objs.size := by simpa using hb
      exact absurd (Heap.lt_size e) (by rw [hb']; exact Nat.lt_irrefl _)
    · have e : ((List.range its.toArray.size).all fun i => bs.getD i false) = bs.all id := by
        rw [List.size_toArray, ← hlen]
        clear bAt hlen hq rv q
        have : (List.range bs.length).map (fun i => bs.getD i false) = bs := by
          apply List.ext_getElem
          · simp
          · intro i h1 h2
            simp [h2]
        conv => rhs; rw [← this]
        rw [List.all_map]
        rfl
      rw [e]
      exact q
/-- xs[::k], k = -1 -/
def tRev (K : PySem.W.Frag) (te tk : TE) : TE := fun σ H Q => te σ H fun x H1 => tk σ H1 fun y H2 => y = .int (-1) ∧ ∃ a xs, x = .ref a ∧ SqL K H2 a xs ∧ ∀ p, H2 p = none → Q (.ref p) (upd H2 p (.lst xs.reverse))

/-! ### sets of ints -/
end
end L2
namespace L2
open PySem PySem.Spec PyProof.Rows
/-! ### exceptions that fly: the record at e, its class, its own dict, its record of frames -/
theorem dict_mapFields {o : Obj} {vs : Array Value} (hd : o.data = .fields vs) (f : Array Value → Array Value) : (Obj.mapFields f o).dict = o.dict := by
  obtain ⟨c, d, dt, sl⟩ := o
  cases dt <;> rfl
def Fly (h : Heap) (e : Addr) (cls : Value) (dd : Option Addr) (ch : List Addr) : Prop :=
  ∃ oe vs, h.get? e = some oe ∧ oe.cls = cls ∧ oe.dict = dd ∧ oe.data = .fields vs ∧
    ((vs[1]? = some .none ∧ ch = [e]) ∨ ∃ T oT ts, vs[1]? = some (.ref T) ∧ T ≠ e ∧ h.get? T = some oT ∧ oT.data = .fields ts ∧ ts[3]? = some .none ∧ ch = [e, T])
theorem Fly.rec {h : Heap} {e : Addr} {cls : Value} {dd : Option Addr} {ch : List Addr} (x : Fly h e cls dd ch) : ∀ b ∈ ch, ∃ o vs, h.get? b = some o ∧ o.data = .fields vs := by
  obtain ⟨oe, vs, he, _, _, hd, h1 | ⟨T, oT, ts, _, _, hT, hdT, _, rfl⟩⟩ := x
  · obtain ⟨_, rfl⟩ := h1
    intro b hb
    simp only [List.mem_singleton] at hb
    subst hb
    exact ⟨oe, vs, he, hd⟩
  · intro b hb
    simp only [List.mem_cons, List.not_mem_nil, or_false] at hb
    rcases hb with rfl | rfl
    · exact ⟨oe, vs, he, hd⟩
    · exact ⟨oT, ts, hT, hdT⟩
theorem Fly.mem {h : Heap} {e : Addr} {cls : Value} {dd : Option Addr} {ch : List Addr} (x : Fly h e cls dd ch) : e ∈ ch := by
  obtain ⟨oe, vs, he, _, _, hd, ⟨_, rfl⟩ | ⟨T, oT, ts, _, _, hT, hdT, _, rfl⟩⟩ := x <;> simp
structure Moved (fs ch : List Addr) (h h' : Heap) : Prop where
  keep : ∀ b o, h.get? b = some o → b ∉ ch → b ∉ fs → h'.get? b = some o
  slot : ∀ b o, h.get? b = some o → b ∉ ch → ∃ sl, h'.get? b = some { o with slots := sl }
  there : ∀ b o, h.get? b = some o → ∃ o', h'.get? b = some o'

section
variable {M : Model} {A : Around} {E : Value → Shared → Prop} {s : Shared}
theorem new_entry {base : Heap} {env : Env} {outer : List Env} {L e : Addr} {oe : Obj} {vs : Array Value} {head : Value} {hadNext : Bool} {Q : Unit → Shared → Prop}
    (hfr : A.frames = some (env :: outer)) (hl : s.heap.FunFrames base (env :: outer)) (hf : env.frame = some L)
    (he : s.heap.get? e = some oe) (hd : oe.data = .fields vs) (hsz : 1 < vs.size)
    (h : ∀ h', Fly h' e oe.cls oe.dict [e, s.heap.objs.size] → Moved (frs (env :: outer)) [e] s.heap h' → Q () { s with heap := h' }) :
    wpAny M A (do let a ← frameOf env; let pl ← entryPlaceOf L hadNext; let b ← EntryCells.newEntry head a .none (rawInt L) .none pl; setField (.ref e) 1 b) (fun _ s' => wpAny M A (setFlight (.ref e) none) Q E s') E s := by
  have hene : e ∉ (env :: outer).filterMap (·.frame) := fun hm => by
    obtain ⟨_, o, ho, hnf⟩ := hl.mem hm
    rw [he] at ho; injection ho with ho; subst ho; exact hnf vs hd
  refine wpAny_bind (wpAny_frameOf_fun hfr hl hf fun h₁ hs₁ => ?_)
  refine wpAny_bind (wpAny_entryPlaceOf fun pl hpl => ?_)
  unfold EntryCells.newEntry newFields
  refine wpAny_bind (wpAny_newObj_type ?_ (hpl.sizeOk5 _ _ _ _ _))
  have he₁ : h₁.get? e = some oe := (hs₁.2.1 e hene).trans he
  have he₂ := Heap.get?_push_of_some (h := h₁) { cls := .type "traceback", dict := none, data := .fields ([head, .ref L, .none, rawInt L, .none] ++ (if pl.isEmpty then List.replicate 6 Value.none else pl)).toArray } he₁
  refine wpAny_setField he₂ hd hsz ?_
  have hTe : h₁.objs.size ≠ e := Nat.ne_of_gt (Heap.lt_size he₁)
  have hd₃ := Obj.data_mapFields hd (·.setIfInBounds 1 (Value.ref h₁.objs.size))
  have he₃ := Heap.get?_update_self (Obj.mapFields (·.setIfInBounds 1 (Value.ref h₁.objs.size))) he₂ (Obj.isFreed_of_fields hd₃)
  have hT₃ := (Heap.get?_update_other (h₁.push { cls := .type "traceback", dict := none, data := .fields ([head, .ref L, .none, rawInt L, .none] ++ (if pl.isEmpty then List.replicate 6 Value.none else pl)).toArray })
    (Obj.mapFields (·.setIfInBounds 1 (Value.ref h₁.objs.size))) (Ne.symm hTe)).trans (Heap.get?_push_size h₁ rfl)
  unfold setFlight
  refine wpAny_bind (wpAny_field he₃ hd₃ (x := .ref h₁.objs.size) (by simp [hsz]) ?_)
  rw [if_pos (show (Value.ref h₁.objs.size != Value.none) = true from by simp)]
  refine wpAny_setField hT₃ rfl (by simp only [List.size_toArray, List.length_append, List.length_cons, List.length_nil] <;> omega) (h _ ?_ ?_)
  · refine ⟨_, _, ?_, Obj.cls_mapFields _ _, dict_mapFields hd _, hd₃, .inr ⟨h₁.objs.size, _, _, by simp [hsz], hTe, Heap.get?_update_self _ hT₃ (Obj.isFreed_of_fields (Obj.data_mapFields rfl _)), Obj.data_mapFields rfl _, by first | (simp; done) | (rcases hpl with rfl | ⟨_, _, _, _, _, _, _, rfl⟩ <;> simp), by rw [hs₁.1]⟩⟩
    rw [Heap.get?_update_other _ _ hTe]; exact he₃
  · have keep : ∀ b o, b ≠ e → h₁.get? b = some o →
        (((h₁.push { cls := .type "traceback", dict := none, data := .fields ([head, .ref L, .none, rawInt L, .none] ++ (if pl.isEmpty then List.replicate 6 Value.none else pl)).toArray }).update e (Obj.mapFields (·.setIfInBounds 1 (Value.ref h₁.objs.size)))).update h₁.objs.size
          (Obj.mapFields (·.setIfInBounds 3 ((none : Option Addr).elim Value.none fun f => rawInt f)))).get? b = some o := fun b o hbe hb => by
      have hbT : h₁.objs.size ≠ b := Nat.ne_of_gt (Heap.lt_size hb)
      rw [Heap.get?_update_other _ _ hbT, Heap.get?_update_other _ _ (Ne.symm hbe)]
      exact Heap.get?_push_of_some _ hb
    refine ⟨fun b o hb hc hfs => keep b o (by simpa using hc) ((hs₁.2.1 b hfs).trans hb), fun b o hb hc => ?_, fun b o hb => ?_⟩
    · obtain ⟨sl, hs⟩ := hs₁.2.2 b o hb
      exact ⟨sl, keep b _ (by simpa using hc) hs⟩
    · by_cases hbe : b = e
      · subst hbe
        exact ⟨_, by rw [Heap.get?_update_other _ _ hTe]; exact he₃⟩
      · obtain ⟨sl, hs⟩ := hs₁.2.2 b o hb
        exact ⟨_, keep b _ hbe hs⟩

/-- a frame is noted, then the flight is set back: so a frame is left, so a try looks -/
theorem note_step {base : Heap} {env : Env} {outer : List Env} {L e : Addr} {cls : Value} {dd : Option Addr} {ch : List Addr} {Q : Unit → Shared → Prop}
    (hfr : A.frames = some (env :: outer)) (hl : s.heap.FunFrames base (env :: outer)) (hf : env.frame = some L) (x : Fly s.heap e cls dd ch)
    (h : ∀ h' ch', Fly h' e cls dd ch' → Moved (frs (env :: outer)) ch s.heap h' → (∀ b ∈ ch', b ∈ ch ∨ s.heap.objs.size ≤ b) → Q () { s with heap := h' }) :
    wpAny M A (noteFrame (.ref e) env) (fun _ s' => wpAny M A (setFlight (.ref e) none) Q E s') E s := by
  obtain ⟨oe, vs, he, rfl, rfl, hd, ⟨h1, rfl⟩ | ⟨T, oT, ts, h1, hTe, hT, hdT, h3, rfl⟩⟩ := x
  · unfold noteFrame
    simp only [hf]
    refine wpAny_bind (wpAny_field he hd h1 ?_)
    rw [if_neg (by decide)]
    refine new_entry hfr hl hf he hd (Array.getElem?_eq_some_iff.mp h1).1 fun h' f m => h h' _ f m fun b hb => ?_
    simp only [List.mem_cons, List.not_mem_nil, or_false] at hb
    rcases hb with rfl | rfl
    · exact .inl (by simp)
    · exact .inr (Nat.le_refl _)
  · unfold noteFrame
    simp only [hf]
    refine wpAny_bind (wpAny_field he hd h1 ?_)
    rw [if_pos (show (Value.ref T != Value.none) = true from by simp)]
    refine wpAny_bind (wpAny_field hT hdT h3 ?_)
    rw [if_neg (show ¬ ((Value.none == rawInt L) = true) from by simp [rawInt])]
    refine wpAny_bind (wpAny_setField hT hdT (Array.getElem?_eq_some_iff.mp h3).1 ?_)
    have other : ∀ b, b ≠ T → (s.heap.update T (Obj.mapFields (·.setIfInBounds 3 Value.none))).get? b = s.heap.get? b := fun b hb => Heap.get?_update_other _ _ (Ne.symm hb)
    have selfT := Heap.get?_update_self (Obj.mapFields (·.setIfInBounds 3 Value.none)) hT (Obj.isFreed_of_fields (Obj.data_mapFields hdT _))
    have noRecord : ∀ b o, s.heap.get? b = some o → (∀ vs, o.data ≠ .fields vs) → b ≠ T := fun b o hb hnf q => by
      rw [q, hT] at hb; injection hb with hb; subst hb; exact hnf ts hdT
    have hsize : (s.heap.update T (Obj.mapFields (·.setIfInBounds 3 Value.none))).objs.size = s.heap.objs.size := Heap.size_after_update _ _ _
    refine new_entry (s := { s with heap := s.heap.update T (Obj.mapFields (·.setIfInBounds 3 Value.none)) }) hfr (hl.of_keeps fun b o hb hnf => ⟨o, (other b (noRecord b o hb hnf)).trans hb, rfl⟩) hf ((other e (Ne.symm hTe)).trans he) hd (Array.getElem?_eq_some_iff.mp h1).1
      fun h' f m => h h' _ f ⟨fun b o hb hc hfs => ?_, fun b o hb hc => ?_, fun b o hb => ?_⟩ fun b hb => ?_
    · simp only [List.mem_cons, List.not_mem_nil, or_false, not_or] at hc
      exact m.keep b o ((other b hc.2).trans hb) (by simpa using hc.1) hfs
    · simp only [List.mem_cons, List.not_mem_nil, or_false, not_or] at hc
      exact m.slot b o ((other b hc.2).trans hb) (by simpa using hc.1)
    · by_cases hbT : b = T
      · subst hbT
        exact m.there b _ selfT
      · exact m.there b o ((other b hbT).trans hb)
    · simp only [List.mem_cons, List.not_mem_nil, or_false] at hb
      rcases hb with rfl | rfl
      · exact .inl (by simp)
      · exact .inr (Nat.le_of_eq hsize.symm)
theorem leave_step {base : Heap} {env : Env} {outer : List Env} {L e : Addr} {cls : Value} {dd : Option Addr} {ch : List Addr} {Q : Unit → Shared → Prop}
    (hfr : A.frames = some (env :: outer)) (hl : s.heap.FunFrames base (env :: outer)) (hf : env.frame = some L) (x : Fly s.heap e cls dd ch)
    (h : ∀ h' ch', Fly h' e cls dd ch' → Moved (frs (env :: outer)) ch s.heap h' → (∀ b ∈ ch', b ∈ ch ∨ s.heap.objs.size ≤ b) → Q () { s with heap := h' }) :
    wpAny M A (leaving env (.ref e)) Q E s := by
  unfold leaving
  exact wpAny_bind (note_step hfr hl hf x h)
end

section
variable {X : Cx} {pins : List (Addr × Obj)} {σ : St} {H : Hp} {s : Shared}
theorem Inv.excStep {h' : Heap} {ch : List Addr} (I : Inv X pins σ H s) (m : Moved (frs X.stack) ch s.heap h')
    (hch : ∀ b ∈ ch, X.s₀.heap.get? b = none ∧ H b = none ∧ (∀ p ∈ X.pn ++ pins, p.1 ≠ b) ∧ ∃ o vs, s.heap.get? b = some o ∧ o.data = .fields vs) :
    Inv X pins σ H { s with heap := h' } := by
  have notF : ∀ b o, s.heap.get? b = some o → (∀ vs, o.data ≠ .fields vs) → b ∉ ch := fun b o hb hn hc => by
    obtain ⟨_, _, _, o', vs, hb', hd⟩ := hch b hc
    rw [hb] at hb'; cases hb'
    exact hn vs hd
  have cellK : ∀ c v, s.heap.IsCell c v → h'.IsCell c v := fun c v ⟨o, ho, hd⟩ => by
    obtain ⟨sl, e⟩ := m.slot c o ho (notF c o ho fun vs q => by rw [hd] at q; cases q)
    exact ⟨_, e, hd⟩
  refine ⟨I.ok, I.os, I.bare, ⟨fun b o e n hf hx => ?_, fun b o e n hf hx => ?_, I.base.free, fun b o e hx => ?_, I.base.tups, I.base.frzs, I.base.tbls⟩, ?_, fun x c hc => ?_, I.free, I.freeC, fun p hp => ?_, fun b u e => ?_, I.len⟩
  · have e1 := I.base.keep b o e n hf hx
    refine m.keep b o e1 (fun hc => ?_) fun hs => ?_
    · rw [(hch b hc).1] at e; cases e
    · rcases List.mem_cons.mp (I.stkSub b hs) with z | z
      · rw [z] at e
        exact absurd (Heap.lt_size e) (Nat.not_lt.mpr I.ok.above)
      · exact hf z
  · obtain ⟨sl, e1⟩ := I.base.slot b o e n hf hx
    obtain ⟨sl2, e2⟩ := m.slot b _ e1 fun hc => by rw [(hch b hc).1] at e; cases e
    exact ⟨sl2, e2⟩
  · obtain ⟨o', e1⟩ := I.base.there b o e hx
    exact m.there b o' e1
  · obtain ⟨mm, ⟨o, es, ep, ho, hd, r⟩, hl⟩ := I.loc
    obtain ⟨sl, e⟩ := m.slot _ o ho (notF _ o ho fun vs q => by rw [hd] at q; cases q)
    refine ⟨mm, ⟨_, es, ep, e, hd, r⟩, fun i x v h1 h2 h3 => ?_⟩
    obtain ⟨u, ru, lk⟩ := hl i x v h1 h2 h3
    refine ⟨u, ru, ?_⟩
    rcases lk with ⟨a, b⟩ | ⟨a, c, hc, hcell⟩
    · exact .inl ⟨a, b⟩
    · exact .inr ⟨a, c, hc, cellK c _ hcell⟩
  · obtain ⟨v, hv⟩ := I.cell x c hc
    exact ⟨v, cellK c v hv⟩
  · obtain ⟨a, b, c, d, e⟩ := I.pin p hp
    refine ⟨m.keep _ _ a (fun hc => (hch _ hc).2.2.1 p hp rfl) fun hs => ?_, b, c, d, e⟩
    rcases List.mem_cons.mp (I.stkSub _ hs) with z | z
    · exact c z
    · exact d z
  · refine (I.hok b u e).stay (fun c v hc q => m.keep c v q (fun z => ?_) fun z => ?_) (fun _ q => q) fun _ _ q => q
    · have n := (hch c z).2.1
      rcases hc with rfl | hc
      · rw [e] at n; cases n
      · rw [hc] at n; cases n
    · have n := I.stkFree c z
      rcases hc with rfl | hc
      · rw [e] at n; cases n
      · rw [hc] at n; cases n

/-- an exception lies behind a call: CX of the layer -/
def CXe (P : Program) (w : World) : CXT := fun outer H s E ev s' => ∃ e cls dd ch H', ev = .ref e ∧ s'.os = s.os ∧ AllBare s'.gens ∧ Un (frs outer) [] H H' s.heap s'.heap ∧ HOk P w H' s'.heap ∧
  Fly s'.heap e cls dd ch ∧ (∀ b ∈ ch, s.heap.get? b = none ∧ H' b = none) ∧ E cls dd H'
/-- an exception flies in a body -/
def XP (X : Cx) (pins : List (Addr × Obj)) (σ : St) (E : XK) (ev : Value) (s' : Shared) : Prop := ∃ e cls dd ch H', ev = .ref e ∧ Inv X pins σ H' s' ∧ Fly s'.heap e cls dd ch ∧
  (∀ b ∈ ch, X.s₀.heap.get? b = none ∧ H' b = none ∧ ∀ p ∈ X.pn ++ pins, p.1 ≠ b) ∧ E cls dd H'
theorem Inv.new_of (I : Inv X pins σ H s) (hex : X.ex = []) {b : Addr} (hb : s.heap.get? b = none) : X.s₀.heap.get? b = none := by
  cases q : X.s₀.heap.get? b with
  | none => rfl
  | some o =>
    obtain ⟨o', e⟩ := I.base.there b o q (by rw [hex]; simp)
    rw [e] at hb; cases hb
theorem XP.of_cx {E : XK} {ev : Value} {s' : Shared} (I : Inv X pins σ H s) (hex : X.ex = []) (x : CXe X.prog X.w X.stack H s E ev s') : XP X pins σ E ev s' := by
  obtain ⟨e, cls, dd, ch, H', rfl, os, bare, un, hok, fly, new, q⟩ := x
  refine ⟨e, cls, dd, ch, H', rfl, I.call' (ch := []) os un hok bare (fun b z => absurd z (by simp)), fly, fun b hb => ⟨I.new_of hex (new b hb).1, (new b hb).2, fun p hp z => ?_⟩, q⟩
  have := (I.pin p hp).1
  rw [z, (new b hb).1] at this
  cases this
/-- what is wanted of exceptions here follows from E -/
def PassX (X : Cx) (E : XK) : Prop := ∀ (pins : List (Addr × Obj)) (σ : St) (ev : Value) (s' : Shared), XP X pins σ E ev s' → X.xe ev s'
theorem PassX.passes {E : XK} (h : PassX X E) (hex : X.ex = []) : Passes (CXe X.prog X.w) X E := fun pins σ H s ev s' I x => h pins σ ev s' (XP.of_cx I hex x)
theorem passX_def {P : Program} {w : World} {K : PySem.W.Frag} {mg : Str → Option Value} {base : Heap} {N : List Str} {qual : Str} {scope : Scope} {f : Addr} {cd : Value} {A : Around} {outer : List Env} {s : Shared} {H : Hp} {E : XK} :
    PassX (cxOf (CXe P w) P w K mg base N qual scope f cd A outer s H E) E := by
  intro pins σ ev s' x
  obtain ⟨e, cls, dd, ch, H', rfl, I, fly, hch, q⟩ := x
  refine leave_step (base := base) (outer := outer) I.ok.frames I.stack rfl fly fun h' ch' fly' m new => ?_
  have I' := I.excStep m fun b hb => ⟨(hch b hb).1, (hch b hb).2.1, (hch b hb).2.2, fly.rec b hb⟩
  refine ⟨e, cls, dd, ch', H', rfl, I'.os, I'.bare, I'.base, I'.hok, fly', fun b hb => ?_, q⟩
  rcases new b hb with z | z
  · exact ⟨(hch b z).1, (hch b z).2.1⟩
  · exact ⟨Heap.get?_none_of_le (Nat.le_trans I.sz z), I.hok.fresh z⟩
theorem own_def {P : Program} {w : World} {K : PySem.W.Frag} {mg : Str → Option Value} {base : Heap} {N : List Str} {qual : Str} {scope : Scope} {f : Addr} {cd : Value} {A : Around} {outer : List Env} {s : Shared} {H : Hp} {E : XK} :
    PassesOwn (model P w) (cxOf (CXe P w) P w K mg base N qual scope f cd A outer s H E).A (cxOf (CXe P w) P w K mg base N qual scope f cd A outer s H E).env (cxOf (CXe P w) P w K mg base N qual scope f cd A outer s H E).xe :=
  PassesOwn.leaving (Q₁ := fun e s'' => CXe P w outer H s E e s'')
end
end L2
namespace L2
open PySem PySem.Spec PyProof.Rows
/-! ### attributes of an exception of an own class beneath ValueError -/
def vErr : List Value := [.type "ValueError", .type "Exception", .type "BaseException", .type "object"]
def excMro : List Value → Bool
  | [] => false
  | .ref _ :: r => excMro r
  | l => l == vErr
theorem refuse_exc (self : Value) : ∀ {l : List Value}, excMro l = true → refuseLoop self "__setattr__" l = pure ()
  | .ref c :: r, e => by rw [refuseLoop_ref]; exact refuse_exc self e
  | .type a :: r, e => by
    have e' : (Value.type a :: r) = vErr := beq_iff_eq.mp e
    rw [e']; exact PySem.F.store_ValueError.passes self
  | .none :: r, e => by have := beq_iff_eq.mp (show (_ == vErr) = true from e); cases this
  | .bool _ :: r, e => by have := beq_iff_eq.mp (show (_ == vErr) = true from e); cases this
  | .int _ _ :: r, e => by have := beq_iff_eq.mp (show (_ == vErr) = true from e); cases this
  | .float _ _ :: r, e => by have := beq_iff_eq.mp (show (_ == vErr) = true from e); cases this
  | .str _ _ :: r, e => by have := beq_iff_eq.mp (show (_ == vErr) = true from e); cases this
  | .bytes _ _ :: r, e => by have := beq_iff_eq.mp (show (_ == vErr) = true from e); cases this
  | .builtin _ :: r, e => by have := beq_iff_eq.mp (show (_ == vErr) = true from e); cases this
theorem excMro_has : ∀ {l : List Value}, excMro l = true → l.contains (.type "object") = true ∧ l.contains (.type "BaseException") = true ∧ l.isEmpty = false
  | .ref c :: r, e => by
    obtain ⟨a, b, _⟩ := excMro_has (l := r) e
    exact ⟨by rw [List.contains_cons, a, Bool.or_true], by rw [List.contains_cons, b, Bool.or_true], rfl⟩
  | .type a :: r, e => by
    have e' : (Value.type a :: r) = vErr := beq_iff_eq.mp e
    rw [e']; exact ⟨by decide, by decide, rfl⟩
  | .none :: r, e => by have := beq_iff_eq.mp (show (_ == vErr) = true from e); cases this
  | .bool _ :: r, e => by have := beq_iff_eq.mp (show (_ == vErr) = true from e); cases this
  | .int _ _ :: r, e => by have := beq_iff_eq.mp (show (_ == vErr) = true from e); cases this
  | .float _ _ :: r, e => by have := beq_iff_eq.mp (show (_ == vErr) = true from e); cases this
  | .str _ _ :: r, e => by have := beq_iff_eq.mp (show (_ == vErr) = true from e); cases this
  | .bytes _ _ :: r, e => by have := beq_iff_eq.mp (show (_ == vErr) = true from e); cases this
  | .builtin _ :: r, e => by have := beq_iff_eq.mp (show (_ == vErr) = true from e); cases this
def exOver (K : PySem.W.Frag) (C : Addr) : Bool := (PySem.W.clsIn K C).any fun cd => excMro cd.mro
/-- an own class of exceptions, beneath ValueError -/
structure XCls (K : PySem.W.Frag) (C : Addr) : Prop where
  mro : exOver K C = true
  hd : PySem.W.hasDictIn K C = true
  sa : PySem.W.findIn K (.ref C) "__setattr__" = some (some (.builtin "object.__setattr__"))
  ga : PySem.W.findIn K (.ref C) "__getattribute__" = some (some (.builtin "BaseException.__getattribute__"))
  gn : PySem.W.findIn K (.ref C) "__getattr__" = some none
section
variable {prog : Program} {w : World} {A : Around} {E : Value → Shared → Prop} {s : Shared} {K : PySem.W.Frag} {x C : Addr} {ox : Obj} {name : Str} {v : Value}
open PySem.W in
theorem osa_exc {R : Result → Shared → Prop} {od : Option Obj} {tk : Tok} (X : K.In s.heap) (I : PySem.W.InstAt s.heap x ox C od) (hp : exOver K C = true) (ht : findIn K (.ref C) name = some none)
    (h : ∀ b, wpAny (model prog w) A.in1 (Builtin.ObjectAttr.storeInOwnDict (.ref x) (.ref C) (.str name tk) name v b)
      (fun fin s' => match fin with | .done f => R (.ok f) s' | .again c' => c'.quiet = true ∧ codeAny (model prog w) A c' R s') (fun e s' => R (.error e) s') s) :
    codeAny (model prog w) A (.call (.builtin "object.__setattr__") ⟨[.ref x, .str name tk, v], []⟩) R s := by
  have SF := PySem.F.store_object
  obtain ⟨cd, hc, ho⟩ := any_some hp
  obtain ⟨h1, h2, ne⟩ := excMro_has ho
  have sub : Looks (model prog w) s.heap (isInstance (.ref x) (.type "object")) true := I.type.andThen (looks_mroIn X (by unfold mroIn; rw [hc, Option.bind_some, if_neg (by rw [ne]; decide), h1]))
  refine codeAny_call_builtin SF.slot.plain SF.entry (@check_slot (model prog w) _ _ s "object.__setattr__" "object" "__setattr__" (.ref x) [.str name tk, v] [] _ SF.kind SF.split sub (SF.args (.ref x) (.str name tk) v) ?_)
  have hm : Looks (model prog w) s.heap (mroOf (.ref C)) cd.mro := (looks_clsIn X hc).andThen .now
  have L3 : Looks (model prog w) s.heap (Builtin.ObjectAttr.storeTaker? none) none := .now
  rw [osa_eq, refuse_eq]
  refine wpAny_bind (wpAny_bind (I.type.here (wpAny_bind (hm.here ?_))))
  rw [refuse_exc _ ho]
  refine wpAny_pure (wpAny_bind (I.type.here (wpAny_bind ((looks_findIn X ht).here (wpAny_bind (L3.here ?_))))))
  exact h _
/-- the first attribute of an exception: its dict is made -/
theorem set_exc0 {vs : Array Value} {Q : Unit → Shared → Prop} (X : K.In s.heap) (hx : s.heap.get? x = some ⟨.ref C, none, .fields vs, #[]⟩) (c : XCls K C) (ht : PySem.W.findIn K (.ref C) name = some none)
    (h : ∀ h' t', h'.get? x = some ⟨.ref C, some s.heap.objs.size, .fields vs, #[]⟩ → h'.Ns1 s.heap.objs.size (fun y => if y = name then some v else none) →
      (∀ b o, b ≠ x → s.heap.get? b = some o → h'.get? b = some o) → Q () { s with heap := h', toks := t' }) :
    wpAny (model prog w) A (setAttr (.ref x) name v) Q E s := by
  have I : PySem.W.InstAt s.heap x ⟨.ref C, none, .fields vs, #[]⟩ C none := ⟨hx, rfl, rfl, True.intro⟩
  refine PySem.W.set_plain X I c.sa (osa_exc (s := { s with toks := s.toks + 1 }) X I c.mro ht fun b => ?_)
  obtain ⟨cd, hc, hd'⟩ := PySem.W.any_some c.hd
  obtain ⟨hp, g, d, t, os⟩ := s
  dsimp only at X hx h I ⊢
  refine wpAny_bind (wpAny_pure (wpAny_bind (wpAny_bind (wpAny_loadPart hx (wpAny_bind (PySem.W.Looks.here (s := ⟨hp, g, d, t + 1, os⟩) (PySem.W.looks_clsIn X hc) ?_))))))
  rw [hd']
  have hx₁ : (hp.push { cls := .type "dict", data := .dict #[] }).get? x = some ⟨.ref C, none, .fields vs, #[]⟩ := Heap.get?_push_of_some _ hx
  have hxs : x ≠ hp.objs.size := Nat.ne_of_lt (Heap.lt_size hx)
  rw [if_neg (by decide)]
  dsimp only
  rw [if_neg (by simp [typeHasDict])]
  refine wpAny_bind (wpAny_alloc' ?_)
  refine wpAny_bind (wpAny_update' hx₁ ?_)
  refine wpAny_pure ?_
  have hgd : ((hp.push { cls := .type "dict", data := .dict #[] }).update x fun o => { cls := o.cls, dict := some hp.objs.size, data := o.data, slots := o.slots }).get? hp.objs.size
      = some { cls := .type "dict", data := .dict #[] } :=
    (Heap.get?_update_ne _ _ _ _ hxs.symm).trans (Heap.get?_push_at rfl rfl)
  have hnd : ((hp.push { cls := .type "dict", data := .dict #[] }).update x fun o => { cls := o.cls, dict := some hp.objs.size, data := o.data, slots := o.slots }).Ns hp.objs.size (fun _ => none) :=
    ⟨_, #[], _, hgd, rfl, fun e he => absurd he (by simp), fun _ => rfl⟩
  show wpAny _ _ (Builtin.ObjectAttr.storeInDict hp.objs.size (.str name t) name v) _ _ _
  unfold Builtin.ObjectAttr.storeInDict Builtin.ObjectAttr.newKeyGuard
  refine wpAny_bind (wpAny_pure (wpAny_bind (wpAny_nsSet1 (Heap.Ns1.of_empty hnd) fun h' hn' hs => ?_)))
  obtain ⟨oD, esD, epD, hoD, hdD, hcD⟩ := hn'.count (Within.cons name v Within.nil)
  refine wpAny_bind (wpAny_lookBehind hoD (by rw [hdD]; exact pastItsLine_dict (Nat.le_trans hcD (by rw [List.length_cons, List.length_nil, sizeLine_eq]; omega))) ?_)
  refine wpAny_pure (h h' _ ?_ hn' fun b o hbx hb => ?_)
  · exact (hs.2 x hxs).trans (Heap.get?_update_self _ hx₁ rfl)
  · exact (hs.2 b (Nat.ne_of_lt (Heap.lt_size hb))).trans ((Heap.get?_update_ne _ _ _ _ hbx).trans (Heap.get?_push_of_some _ hb))
open PySem.W in
/-- an attribute of an exception is read -/
theorem get_exc (FA : ExcAttrFacts "ValueError") {d : Addr} {vs : Array Value} {sl : Array (Option Value)} {mA : Str → Option Value} {expr : Bool} {Q : Value → Shared → Prop} (X : K.In s.heap) (hx : s.heap.get? x = some ⟨.ref C, some d, .fields vs, sl⟩) (hn : s.heap.Ns1 d mA)
    (c : XCls K C) (ht : findIn K (.ref C) name = some none) (hv : mA name = some v) (hh : handedIn v = true) (h : Q v { s with toks := s.toks + 1 }) : wpAny (model prog w) A (getAttr (.ref x) name expr) Q E s := by
  obtain ⟨od, hod, hl⟩ := lookIn_ns hn
  have I : PySem.W.InstAt s.heap x ⟨.ref C, some d, .fields vs, sl⟩ C (some od) := ⟨hx, rfl, rfl, hod⟩
  have hf : findObj K C (some od) name = some (.value v) := findObj_own c.hd ht rfl (by rw [hl, hv])
  obtain ⟨cd, hc, ho⟩ := any_some c.mro
  obtain ⟨h1, h2, ne⟩ := excMro_has ho
  have sub : Looks (model prog w) s.heap (isInstance (.ref x) (.type "BaseException")) true := I.type.andThen (looks_mroIn X (by unfold mroIn; rw [hc, Option.bind_some, if_neg (by rw [ne]; decide), h2]))
  have GA := FA.ga
  have hk : builtinKind "BaseException.__getattribute__" = some .slot := by decide +kernel
  have hsplit : splitId "BaseException.__getattribute__" = some ("BaseException", "__getattribute__") := by decide +kernel
  have hx0 : (expr && onTheHeap (Value.builtin "BaseException.__getattribute__")) = false := by cases expr <;> rfl
  have hx2 : (Value.builtin "BaseException.__getattribute__" == Value.builtin "object.__getattribute__") = false := by decide +kernel
  have hx1 : (onTheHeap (Value.ref C) && Value.builtin "BaseException.__getattribute__" == Value.builtin "object.__getattribute__") = false := by rw [hx2]; rfl
  have L0 := I.type (M := model prog w)
  have L1 := looks_findIn (M := model prog w) X c.ga
  have L2 := looks_findIn (M := model prog w) X c.gn
  have L3 := looks_find (M := model prog w) X I hf
  obtain ⟨hp, g, dr, t, os⟩ := s
  unfold getAttr getAttrBy
  refine wpAny_bind (wpAny_mkText (wpAny_holding (wpAny_bind (L0.at (wpAny_bind (L1.at ?_))))))
  dsimp only
  rw [hx1, if_neg Bool.false_ne_true]
  unfold getAttrByItsOwn
  refine wpAny_bind (L2.at ?_)
  refine wpAny_bind (wpAny_attempt (wpAny_holding ?_))
  unfold callGetattribute
  rw [hx0, if_neg Bool.false_ne_true]
  unfold boundAndCalled
  rw [GA.bind]
  refine wpAny_bind (wpAny_pure (wpAny_call ?_))
  refine codeAny_call_builtin GA.plain F.entry_bexc_ga (@check_slot (model prog w) _ _ ⟨hp, g, dr, t + 1, os⟩ "BaseException.__getattribute__" "BaseException" "__getattribute__" (.ref x) [.str name t] [] _ hk hsplit sub (F.args_bexc_ga (.ref x) (.str name t)) ?_)
  unfold Builtin.«object.__getattribute__»
  refine wpAny_bind (wpAny_pure ?_)
  dsimp only
  refine wpAny_bind (wpAny_pure (wpAny_bind (L0.at (wpAny_bind (L3.at ?_)))))
  refine wpAny_pure ?_
  show wpAny _ _ (handedOut v) _ _ _
  rw [handedOut_of hh]
  exact wpAny_pure h
end
end L2
namespace PySem
section
variable {prog : Program} {w : World} {A : Around} {E : Value → Shared → Prop} {h : Heap} {g : Array GenState} {d : Drawn} {t : Nat} {os : OsState}
variable {nm q : Str} {C N : Addr} {bs bm bmB : List Value} {hdct : Bool} {sn : List Str} {sub : List Value} {ab : Bool} {col : Option Bool} {dd : Option Addr} {k0 k1 k2 k3 k5 : Option Value} {B newId initId : String}
theorem y_type_call_initT (F : ExcBaseFacts B newId initId bmB) (T : OwnTail h bmB bm) {mN : Str → Option Value} {rest : List Value} {fI : Addr} {oI : Obj} {Q : Fin → Shared → Prop}
    (hC : h.get? C = some (excClassObj nm q C N bs bm hdct sn sub ab col dd k0 k1 k2 k3 k5 newId)) (hn : h.Ns N mN) (hi : mN "__init__" = some (.ref fI))
    (hfI : h.get? fI = some oI) (hfc : oI.cls = .type "function")
    (hq : wpAny (model prog w) A (call (.ref fI) (.ref (h.objs.size + 1) :: rest)) (fun r s' => r = .none ∧ Q (.done (.ret (.ref (h.objs.size + 1)))) s') E
      ⟨(h.push { cls := .type "tuple", data := .seq rest.toArray }).push { cls := .ref C, data := .fields #[.ref h.objs.size, .none, .none, .none, .bool false, .none] }, g, d, t, os⟩) (hrest : rest.length ≤ sizeLine := by size_fits) :
    wpAny (model prog w) A (Builtin.«type.__call__» ⟨.ref C :: rest, []⟩) Q E ⟨h, g, d, t, os⟩ := by
  repeat (first | with_reducible refine wpAny_loadPart_at hC ?_ | with_reducible refine wpAny_madeBy_exc hC ?_ | wp_step)
  refine codeAny_call_builtin_code (Code.quiet_builtin _ F.quiet) (wpAny_check_new_subT F T hC ?_)
  refine codeAny_exc_new_subT F T hC ?_ hrest
  show wpAny _ _ _ _ _ _
  have hC₁ := Heap.get?_push_of_some { cls := .ref C, data := .fields #[.ref h.objs.size, .none, .none, .none, .bool false, .none] }
    (Heap.get?_push_of_some { cls := .type "tuple", data := .seq rest.toArray } hC)
  have hfI₁ := Heap.get?_push_of_some { cls := .ref C, data := .fields #[.ref h.objs.size, .none, .none, .none, .bool false, .none] }
    (Heap.get?_push_of_some { cls := .type "tuple", data := .seq rest.toArray } hfI)
  have hn₁ : ((h.push { cls := .type "tuple", data := .seq rest.toArray }).push { cls := .ref C, data := .fields #[.ref h.objs.size, .none, .none, .none, .bool false, .none] }).Ns N mN :=
    let ⟨o, es, ep, e, r⟩ := hn; ⟨o, es, ep, Heap.get?_push_of_some _ (Heap.get?_push_of_some _ e), r⟩
  have hget : ((h.push { cls := .type "tuple", data := .seq rest.toArray }).push
      { cls := .ref C, data := .fields #[.ref h.objs.size, .none, .none, .none, .bool false, .none] }).get? (h.objs.size + 1) = some
      { cls := .ref C, data := .fields #[.ref h.objs.size, .none, .none, .none, .bool false, .none] } := by heap_get
  have hcC : (Value.ref C :: bm).contains (.ref C) = true := by simp
  have T₁ := T.keeps (h' := (h.push { cls := .type "tuple", data := .seq rest.toArray }).push { cls := .ref C, data := .fields #[.ref h.objs.size, .none, .none, .none, .bool false, .none] })
    fun b o e => Heap.get?_push_of_some _ (Heap.get?_push_of_some _ e)
  unfold isInstance
  repeat (first | with_reducible refine wpAny_loadPart_at hget ?_ | (with_reducible refine wpAny_isSubtype_exc hC₁ ?_; rw [hcC]) | wp_step)
  show wpAny _ _ (typeLookup (.ref C) _) _ _ _
  refine wpAny_typeLookup_tail hC₁ hn₁ T₁ F.mroIs F.init.lookup ?_
  rw [hi]
  refine wpAny_holding (wpAny_bind ?_)
  unfold bindSpecial
  refine wpAny_bind (wpAny_typeOf (T := "function") ⟨_, hfI₁, hfc⟩ ?_)
  rw [if_pos (by decide)]
  refine wpAny_pure (wpAny_bind (wpAny_mono hq (fun r s' hr => ?_) fun _ _ x => x))
  obtain ⟨rfl, hQ⟩ := hr
  wp_walk
  exact hQ

theorem y_call_initT (F : ExcBaseFacts B newId initId bmB) (T : OwnTail h bmB bm) {mN : Str → Option Value} {rest : List Value} {fI : Addr} {oI : Obj} {Q : Value → Shared → Prop}
    (hC : h.get? C = some (excClassObj nm q C N bs bm hdct sn sub ab col dd k0 k1 k2 k3 k5 newId)) (hn : h.Ns N mN) (hi : mN "__init__" = some (.ref fI))
    (hfI : h.get? fI = some oI) (hfc : oI.cls = .type "function")
    (hq : wpAny (model prog w) (A.under (.builtin "type.__call__" ⟨.ref C :: rest, []⟩)) (call (.ref fI) (.ref (h.objs.size + 1) :: rest)) (fun r s' => r = .none ∧ Q (.ref (h.objs.size + 1)) s') E
      ⟨(h.push { cls := .type "tuple", data := .seq rest.toArray }).push { cls := .ref C, data := .fields #[.ref h.objs.size, .none, .none, .none, .bool false, .none] }, g, d, t, os⟩) (hrest : rest.length ≤ sizeLine := by size_fits) :
    wpAny (model prog w) A (call (.ref C) rest) Q E ⟨h, g, d, t, os⟩ := by
  have f1 := tc_lookup
  have f2 := tc_bind (.ref C)
  have hT : (⟨h, g, d, t, os⟩ : Shared).TypeIs (.ref C) "type" := ⟨_, hC, rfl⟩
  refine wpAny_call (codeAny_of_tree ?_)
  show wpAny _ _ (callAny (.ref C) _) _ _ _
  repeat (any_goals (first | assumption | with_reducible refine wpAny_loadPart_at hC ?_ | wp_step))
  refine ⟨rfl, ?_⟩
  refine codeAny_call_builtin_at (Code.quiet_builtin _ (by decide +kernel)) entry_typeCall (wpAny_check_type_call_sub hC (y_type_call_initT (hrest := hrest) F T hC hn hi hfI hfc ?_))
  exact hq
end
section
variable {M : Model} {A : Around} {E : Value → Shared → Prop} {env : Env}
variable {nm q : Str} {C N : Addr} {bs bm : List Value} {hdct : Bool} {sn : List Str} {sub : List Value} {ab : Bool} {col : Option Bool} {dd : Option Addr} {k0 k1 k2 k3 k5 : Option Value} {newId : String}
theorem y_raise_made {s : Shared} {x : Sem Value} {Q : Flow → Shared → Prop} (hh : A.handled = none)
    (h : wpAny M A x (fun v s₁ => ∃ e t de nm q N bs bm hdct sn sub ab col dd k0 k1 k2 k3 k5 newId, v = .ref e ∧ bm.contains (.type "BaseException") = true ∧ s₁.heap.get? C = some (excClassObj nm q C N bs bm hdct sn sub ab col dd k0 k1 k2 k3 k5 newId) ∧
      s₁.heap.get? e = some { cls := .ref C, dict := de, data := .fields #[.ref t, .none, .none, .none, .bool false, .none] } ∧ E (.ref e) s₁) E s) :
    wpAny M A (raiseStmt env (some x) none) Q E s := by
  unfold raiseStmt
  refine wpAny_bind (wpAny_mono h (fun v s₁ h₁ => ?_) fun _ _ x => x)
  obtain ⟨e, t, de, nm, q, N, bs, bm, hdct, sn, sub, ab, col, dd, k0, k1, k2, k3, k5, newId, rfl, hbase, hC, he, hE⟩ := h₁
  have hcB : (Value.ref C :: bm).contains (.type "BaseException") = true := by rw [List.contains_cons, hbase, Bool.or_true]
  obtain ⟨hp, g, d, tk, os⟩ := s₁
  repeat (first | with_reducible refine wpAny_loadPart_at he ?_ | with_reducible refine wpAny_loadPart_at hC ?_ | (with_reducible refine wpAny_isSubtype_exc hC ?_; rw [hcB]) | wp_step)
  exact wpAny_raiseNew_none hh hE
end
end PySem
namespace L2
open PySem PySem.Spec PyProof.Rows
/-! ### classes of exceptions, by the written part -/
def excInI (K : PySem.W.Frag) (C : Addr) (init : Option Value) : Bool := match K.lookup C with
  | some ⟨.type "type", _, .cls cd, sl⟩ => (match cd.mro, sl.toList with
    | .ref C' :: bm, [_, _, _, _, some (.builtin n), _] => C' == C && n == "ValueError.__new__" && !cd.hasDel && PySem.W.tailIn K vErr bm && PySem.W.nsOkIn K cd.ns && PySem.W.nsIn K cd.ns "__init__" == some init
    | _, _ => false)
  | _ => false
theorem nsMap_some_of_in {K : PySem.W.Frag} {h : Heap} {N : Addr} {x : Str} {v : Value} (X : K.In h) (e : PySem.W.nsOkIn K N = true) (q : PySem.W.nsIn K N x = some (some v)) : h.nsMap N x = some v := by
  have G : h.Ns N (h.nsMap N) := .of_isNs (PySem.W.isNs_of_in X e)
  generalize h.nsMap N = m at G ⊢
  obtain ⟨o, es, ep, ho, hd, _, hf⟩ := G
  unfold PySem.W.nsIn at q
  split at q
  · rename_i c d es' n' sl z
    have := X _ _ z
    rw [ho] at this
    cases this
    cases hd
    split at q
    · rename_i en he
      cases q
      rw [← hf]
      unfold nsFind findBy
      rw [← Array.find?_toList, he]
      rfl
    · split at q <;> cases q
  · cases q
theorem excI_of {K : PySem.W.Frag} {h : Heap} {C : Addr} {init : Option Value} (X : K.In h) (q : excInI K C init = true) : ∃ bm N nm qn bs hdct sn sub ab col dd k0 k1 k2 k3 k5 mN,
    h.get? C = some (excClassObj nm qn C N bs bm hdct sn sub ab col dd k0 k1 k2 k3 k5 "ValueError.__new__") ∧ h.Ns N mN ∧ mN "__init__" = init ∧ OwnTail h vErr bm := by
  unfold excInI at q
  split at q
  · rename_i dd cd sl ho
    split at q
    · rename_i C' bm k0 k1 k2 k3 n k5 hm hs
      simp only [Bool.and_eq_true, beq_iff_eq, Bool.not_eq_true'] at q
      obtain ⟨⟨⟨⟨⟨rfl, rfl⟩, hdel⟩, ht⟩, hok⟩, hni⟩ := q
      obtain ⟨nm, bs, mro, ns, qn, hd, sn, sub, ab, col, del⟩ := cd
      dsimp only at hm hdel hok hni
      subst hm hdel
      have hsl : sl = #[k0, k1, k2, k3, some (.builtin "ValueError.__new__"), k5] := by
        obtain ⟨l⟩ := sl
        simp only at hs
        rw [hs]
      subst hsl
      refine ⟨bm, ns, nm, qn, bs, hd, sn, sub, ab, col, dd, k0, k1, k2, k3, k5, _, X _ _ ho, .of_isNs (PySem.W.isNs_of_in X hok), ?_, PySem.W.tail_of_in X ht⟩
      cases init with
      | none => exact PySem.W.nsMap_none_of_in X hok hni
      | some v => exact nsMap_some_of_in X hok hni
    · cases q
  · cases q
theorem vErr_base {h : Heap} {bm : List Value} (T : OwnTail h vErr bm) : bm.contains (.type "BaseException") = true := T.hasType (by decide)

/-! ### an exception is made -/
def excObj (C t : Addr) (dd : Option Addr) : Obj := { cls := .ref C, dict := dd, data := .fields #[.ref t, .none, .none, .none, .bool false, .none] }
/-- the reading of C(..): its own dict, if it has one -/
abbrev TX := St → Hp → (Option Addr → Hp → Prop) → Prop
def PX (X : Cx) (e : Expr) (C : Addr) (t : TX) : Prop :=
  ∀ (pins : List (Addr × Obj)) (s : Shared) (σ : St) (H : Hp) (R : Option Addr → Hp → Prop), Inv X pins σ H s → t σ H R → wpAny (model X.prog X.w) X.A (eval e X.env)
    (fun u s' => ∃ ea dd tt H', u = .ref ea ∧ Inv X pins σ H' s' ∧ s'.heap.get? ea = some (excObj C tt dd) ∧ X.s₀.heap.get? ea = none ∧ H' ea = none ∧ (∀ p ∈ X.pn ++ pins, p.1 ≠ ea) ∧ R dd H') X.xe s
theorem HOk.at {P : Program} {w : World} {H : Hp} {h : Heap} {a : Addr} {o : HO} (x : HOk P w H h) (e : H a = some o) : ∃ ob, h.get? a = some ob := by
  have q := x a o e
  have all : ∀ o, ObjOk P w H h a o → ∃ ob, h.get? a = some ob := by
    intro o
    induction o with
    | lst xs => intro ⟨_, its, n, _, e⟩; exact ⟨_, e⟩
    | tup xs => intro ⟨_, its, _, ob, e, _⟩; exact ⟨_, e⟩
    | dK kvs => intro ⟨_, _, vs, _, q⟩; obtain ⟨o, es, ep, e, _⟩ := q; exact ⟨_, e⟩
    | dT kvs => intro ⟨_, _, xs, _, o, es, ep, e, _⟩; exact ⟨_, e⟩
    | set S n => intro q; obtain ⟨o, _, _, _, e, _⟩ := q; exact ⟨_, e⟩
    | ins C dx fs => intro ⟨_, _, _, e, _⟩; exact ⟨_, e⟩
    | own x => intro ⟨o, e⟩; exact ⟨_, e⟩
    | xd fs => intro ⟨mA, ⟨o, es, ep, e, _⟩, _⟩; exact ⟨_, e⟩
    | rng lo hi => intro ⟨_, _, _, e⟩; exact ⟨_, e⟩
    | frz o u ih => intro ⟨e, _⟩; exact ⟨_, e⟩
    | tbl ps => intro e; exact ⟨_, e⟩
    | met f x => intro e; exact ⟨_, e⟩
    | ext φ => intro ⟨_, e, _⟩; exact e
  exact all o q
theorem HOk.none_of {P : Program} {w : World} {H : Hp} {h : Heap} {a : Addr} (x : HOk P w H h) (e : h.get? a = none) : H a = none := by
  cases q : H a with
  | none => rfl
  | some o =>
    obtain ⟨ob, z⟩ := x.at q
    rw [e] at z; cases z
/-- no longer tracked -/
def del (H : Hp) (a : Addr) : Hp := fun b => if b = a then none else H b
theorem del_same {H : Hp} {a : Addr} : del H a a = none := if_pos rfl
theorem del_ne {H : Hp} {a b : Addr} (h : b ≠ a) : del H a b = H b := if_neg h
theorem Inv.drop {X : Cx} {pins : List (Addr × Obj)} {σ : St} {H : Hp} {s : Shared} {a : Addr} {φ : Heap → Prop} (I : Inv X pins σ H s) (e : H a = some (.ext φ)) : Inv X pins σ (del H a) s := by
  have nx : ∀ b u, H b = some u → (∀ φ, u ≠ .ext φ) → b ≠ a := fun b u q n z => by rw [z, e] at q; cases q; exact n φ rfl
  have nn : ∀ b, H b = none → del H a b = none := fun b q => by unfold del; split <;> first | rfl | exact q
  refine ⟨I.ok, I.os, I.bare, ⟨I.base.keep, I.base.slot, fun b o h1 h2 h3 => nn b (I.base.free b o h1 h2 h3), I.base.there, fun b xs q => ?_, fun b o u q => ?_, fun b ps q => ?_⟩, I.loc, I.cell, nn _ I.free, fun x c h => nn _ (I.freeC x c h), fun p hp => ?_, fun b u q => ?_, I.len⟩
  · have z := I.base.tups b xs q
    rw [del_ne (nx b _ z fun φ h => by cases h)]; exact z
  · have z := I.base.frzs b o u q
    rw [del_ne (nx b _ z fun φ h => by cases h)]; exact z
  · obtain ⟨more, z⟩ := I.base.tbls b ps q
    exact ⟨more, by rw [del_ne (nx b _ z fun φ h => by cases h)]; exact z⟩
  · obtain ⟨h1, h2, h3⟩ := I.pin p hp
    exact ⟨h1, nn _ h2, h3⟩
  · have hb : b ≠ a := fun z => by rw [z, del_same] at q; cases q
    rw [del_ne hb] at q
    refine (I.hok b u q).stay (fun c v _ z => z) (fun c z => ?_) fun c xs z => ?_
    · rw [del_ne (nx c _ z fun φ h => by cases h)]; exact z
    · rw [del_ne (nx c _ z fun φ h => by cases h)]; exact z

section
variable {X : Cx} {C f : Addr} {x : Str} {p pos apos : Pos} {e : Expr} {es : List Expr} {t : TA}
/-- C(..) of a class without an __init__ of its own -/
def tXmake (t : TA) : TX := fun σ H R => t σ H fun vs H1 => vs.length ≤ sizeLine ∧ R none H1
theorem px_plain (hq : excInI X.K C none = true) (kp : PySem.W.keepIn X.K (.ref C) = true) (hex : X.ex = []) (hg : Gl X x) (hm : X.mg x = some (.ref C)) (ha : PA X (e :: es) t)
    (hdb : (x == ("__debug__" : Str)) = false := by decide) (he : starEach (e :: es) X.env = (false, eval e X.env) :: starEach es X.env := by rfl) (hpl : (backTo pos (starEach es X.env)).any (·.1) = false := by rfl) :
    PX X (.Call (.Name x p) (e :: es) [] pos) C (tXmake t) := by
  intro pins s σ H R I h
  refine wpAny_Call_Name_kw (ld_glob I hg hm ?_ hdb)
  refine PySem.W.callWith_K (h₀ := X.base) I.ok.mod.kin kp (thn (ha pos pins s σ H _ I h) fun us s1 ⟨vs, H1, I1, r, hl, q⟩ => ⟨I1.kIn, ?_⟩) he hpl
  obtain ⟨bm, N, nm, qn, bs, hdct, sn, sub, ab, col, dd, k0, k1, k2, k3, k5, mN, hC, hn, hni, T⟩ := excI_of I1.kIn hq
  obtain ⟨hp, g, d, tk, os⟩ := s1
  refine wpAny_call_exc_subT (hrest := by show us.length ≤ _; rw [← r.length]; exact hl) PySem.F.excBase_ValueError T hC hn hni fun h' ea hmade => ?_
  obtain ⟨tt, ht, _, _⟩ := hmade.there
  refine ⟨ea, none, tt, H1, rfl, I1.kept (t' := tk) hmade.keeps, ht, I1.new_of hex hmade.new, I1.hok.none_of hmade.new, fun p hp z => ?_, q⟩
  have := (I1.pin p hp).1
  rw [z] at this
  have h2 := hmade.new
  rw [this] at h2
  cases h2
def ExcAt (e C t : Addr) (dd : Option Addr) : HO := .ext fun h => h.get? e = some (excObj C t dd)
theorem excAt_ok {P : Program} {w : World} {H : Hp} {h : Heap} {e C t : Addr} {dd : Option Addr} (q : h.get? e = some (excObj C t dd)) : ObjOk P w H h e (ExcAt e C t dd) :=
  ⟨q, ⟨_, q⟩, fun h1 h2 a b => b _ a⟩
/-- C(..) of a class with an __init__ of its own: e is tracked while it runs -/
def tXinit (C : Addr) (sp : Sp) (t : TA) : TX := fun σ H R => t σ H fun vs H1 => vs.length ≤ sizeLine ∧ ∀ e tt, H1 e = none → sp (.ref e :: vs) (upd H1 e (ExcAt e C tt none)) (fun v H2 => v = .non ∧ ∃ dd, H2 e = some (ExcAt e C tt dd) ∧ R dd (del H2 e)) E0
theorem px_init {k : Nat} {fd : FuncData} {ps : List Str} {sp : Sp} (hq : excInI X.K C (some (.ref f)) = true) (hf : PySem.W.isFn X.K (.ref f) = true) (kp : PySem.W.keepIn X.K (.ref C) = true) (F : FnOk X.prog X.w X.K X.mg X.base CX0 k f fd ps sp) (hr : Room (k + 1) X.A) (hb : Binds X.K fd ps [])
    (hg : Gl X x) (hm : X.mg x = some (.ref C)) (ha : PA X (e :: es) t)
    (hdb : (x == ("__debug__" : Str)) = false := by decide) (he : starEach (e :: es) X.env = (false, eval e X.env) :: starEach es X.env := by rfl) (hpl : (backTo pos (starEach es X.env)).any (·.1) = false := by rfl) :
    PX X (.Call (.Name x p) (e :: es) [] pos) C (tXinit C sp t) := by
  intro pins s σ H R I h
  refine wpAny_Call_Name_kw (ld_glob I hg hm ?_ hdb)
  refine PySem.W.callWith_K (h₀ := X.base) I.ok.mod.kin kp (thn (ha pos pins s σ H _ I h) fun us s1 ⟨vs, H1, I1, r, hl, q⟩ => ⟨I1.kIn, ?_⟩) he hpl
  obtain ⟨bm, N, nm, qn, bs, hdct, sn, sub, ab, col, dd, k0, k1, k2, k3, k5, mN, hC, hn, hni, T⟩ := excI_of I1.kIn hq
  obtain ⟨oI, hoI, hcI⟩ : ∃ oI, s1.heap.get? f = some oI ∧ oI.cls = .type "function" := by
    have z := beq_iff_eq.mp hf
    obtain ⟨o, ho, z⟩ := Option.map_eq_some_iff.mp (show (X.K.lookup f).map (·.cls) = some (.type "function") from z)
    exact ⟨o, I1.kIn _ _ ho, z⟩
  obtain ⟨hp, g, d, tk, os⟩ := s1
  dsimp only at hC hn T hoI
  refine y_call_initT (hrest := by show us.length ≤ _; rw [← r.length]; exact hl) PySem.F.excBase_ValueError T hC hn hni hoI hcI ?_
  have nE : hp.objs.size ≤ hp.objs.size + 1 := Nat.le_succ _
  have hq2 := q (hp.objs.size + 1) hp.objs.size (I1.hok.fresh nE)
  have hget : ((hp.push { cls := .type "tuple", data := .seq us.toArray }).push (excObj C hp.objs.size none)).get? (hp.objs.size + 1) = some (excObj C hp.objs.size none) := by
    have := Heap.get?_push_size (hp.push { cls := .type "tuple", data := .seq us.toArray }) (o := excObj C hp.objs.size none) rfl
    rwa [Heap.size_push] at this
  have I2 : Inv X pins σ (upd H1 (hp.objs.size + 1) (ExcAt (hp.objs.size + 1) C hp.objs.size none)) ⟨(hp.push { cls := .type "tuple", data := .seq us.toArray }).push (excObj C hp.objs.size none), g, d, tk, os⟩ :=
    I1.laid (t' := tk) (fun b u z => Heap.get?_push_of_some _ (Heap.get?_push_of_some _ z)) nE (excAt_ok hget)
  have r2 : Vals (V.ref (hp.objs.size + 1) :: vs) (Value.ref (hp.objs.size + 1) :: us) := .cons rfl r
  have hl2 : (Value.ref (hp.objs.size + 1) :: us ++ []).length = ps.length := by
    have e := r2.length
    rw [F.len _ _ _ _ hq2] at e
    rw [List.append_nil]; exact e.symm
  have hb2 := hb ⟨(hp.push { cls := .type "tuple", data := .seq us.toArray }).push (excObj C hp.objs.size none), g, d, tk, os⟩ (Value.ref (hp.objs.size + 1) :: us) I2.kIn hl2
  rw [List.append_nil] at hb2
  refine wpAny_call (codeAny_mono (F.run _ X.stack _ _ ⟨Value.ref (hp.objs.size + 1) :: us, []⟩ (Value.ref (hp.objs.size + 1) :: us) _ _ E0 (hr.make C us []) (I2.env0.make C us []) hb2 r2 hq2) fun rr s' hq' => ?_)
  cases rr with
  | error e => exact hq'.elim
  | ok fl =>
    cases fl with
    | ret u =>
      obtain ⟨v, H', I3, rv, ev, de, hde, q3⟩ := I2.after hq'
      subst ev
      refine ⟨rv, hp.objs.size + 1, de, hp.objs.size, del H' (hp.objs.size + 1), rfl, I3.drop hde, (I3.hok _ _ hde).1, Heap.get?_none_of_le (Nat.le_trans I1.sz nE), del_same, fun p hp' z => ?_, q3⟩
      have := Heap.lt_size (I1.pin p hp').1
      rw [z] at this
      exact absurd this (Nat.not_lt.mpr nE)
    | next => exact False.elim hq'
    | brk => exact False.elim hq'
    | cont => exact False.elim hq'
/-- raise C(..) -/
def tRaise (C : Addr) (E : XK) (t : TX) : TS := fun _ σ H => t σ H fun dd H1 => E (.ref C) dd H1
theorem ps_raise {E : XK} {tx : TX} {init : Option Value} (hc : X.calm = true) (hq : excInI X.K C init = true) (hx : PassX X E) (h : PX X e C tx) : PS X (.Raise (some e) none pos) (tRaise C E tx) := by
  intro pins s σ H D I hw
  rw [arm_exec_Raise]
  have key : wpAny (model X.prog X.w) X.A (eval e X.env) (fun v s₁ => ∃ ea t de nm q N bs bm hdct sn sub ab col dd k0 k1 k2 k3 k5 newId, v = .ref ea ∧ bm.contains (.type "BaseException") = true ∧ s₁.heap.get? C = some (excClassObj nm q C N bs bm hdct sn sub ab col dd k0 k1 k2 k3 k5 newId) ∧
      s₁.heap.get? ea = some { cls := .ref C, dict := de, data := .fields #[.ref t, .none, .none, .none, .bool false, .none] } ∧ X.xe (.ref ea) s₁) X.xe s := by
    refine thn (h pins s σ H _ I hw) fun u s1 ⟨ea, dd, tt, H', eu, I1, ho, hn, hh, hp, q⟩ => ?_
    obtain ⟨bm, N, nm, qn, bs, hdct, sn, sub, ab, col, ddc, k0, k1, k2, k3, k5, mN, hC, hns, hni, T⟩ := excI_of I1.kIn hq
    refine ⟨ea, tt, dd, nm, qn, N, bs, bm, hdct, sn, sub, ab, col, ddc, k0, k1, k2, k3, k5, _, eu, vErr_base T, hC, ho, hx pins σ _ _ ⟨ea, .ref C, dd, [ea], H', rfl, I1, ⟨_, _, ho, rfl, rfl, rfl, .inl ⟨rfl, rfl⟩⟩, fun b hb => ?_, q⟩⟩
    simp only [List.mem_singleton] at hb
    subst hb
    exact ⟨hn, hh, hp⟩
  first
    | refine wpAny_bind (wpAny_standAt (y_raise_made (C := C) (I.ok.hd hc) (wpAny_bind (wpAny_mono key (fun v s₃ h₃ => wpAny_bind (wpAny_standAt (wpAny_pure h₃))) fun _ _ x => x))))
    | (simp only [evalOpt, Option.map]; refine wpAny_bind (wpAny_standAt (y_raise_made (C := C) (I.ok.hd hc) (wpAny_bind (wpAny_mono key (fun v s₃ h₃ => wpAny_bind (wpAny_standAt (wpAny_pure h₃))) fun _ _ x => x)))))
end
end L2
namespace L2
open PySem PySem.Spec PyProof.Rows
section
variable {prog : Program} {w : World} {A : Around} {E : Value → Shared → Prop} {s : Shared} {K : PySem.W.Frag} {x C : Addr} {ox : Obj} {od : Option Obj} {name : Str} {v : Value}
open PySem.W in
theorem class_exc {Q : Option Value → Shared → Prop} (X : K.In s.heap) (I : PySem.W.InstAt s.heap x ox C od) (c : XCls K C) (ha : findIn K (.ref C) "__class__" = some (some (.builtin "object.__class__")))
    (hn : specialIn K (.builtin "object.__class__") "__get__" = some (some (.builtin "getset_descriptor.__get__"))) (htk : takesIn K (.builtin "object.__class__") = some true)
    (h : Q (some (.ref C)) { s with toks := s.toks + 1 }) : wpAny (model prog w) A (getAttr? (.ref x) "__class__") Q E s := by
  obtain ⟨cd, hc, ho⟩ := any_some c.mro
  obtain ⟨h1, h2, ne⟩ := excMro_has ho
  have hm : mroIn K C (.type "object") = some true := by unfold mroIn; rw [hc, Option.bind_some, if_neg (by rw [ne]; decide), h1]
  have hf : findObj K C od "__class__" = some (.bind (.builtin "getset_descriptor.__get__") (.builtin "object.__class__")) := by
    unfold findObj
    rw [hc, Option.bind_some, ha, Option.bind_some]
    dsimp only
    rw [hn, Option.bind_some]
    dsimp only
    rw [htk, Option.bind_some]
  have sub : Looks (model prog w) s.heap (isInstance (.ref x) (.type "BaseException")) true := I.type.andThen (looks_mroIn X (by unfold mroIn; rw [hc, Option.bind_some, if_neg (by rw [ne]; decide), h2]))
  have GA := F.attr_ValueError.ga
  have hk : builtinKind "BaseException.__getattribute__" = some .slot := by decide +kernel
  have hsplit : splitId "BaseException.__getattribute__" = some ("BaseException", "__getattribute__") := by decide +kernel
  have hx2 : (Value.builtin "BaseException.__getattribute__" == Value.builtin "object.__getattribute__") = false := by decide +kernel
  have hx1 : (onTheHeap (Value.ref C) && Value.builtin "BaseException.__getattribute__" == Value.builtin "object.__getattribute__") = false := by rw [hx2]; rfl
  have L0 := I.type (M := model prog w)
  have L1 := looks_findIn (M := model prog w) X c.ga
  have L2 := looks_findIn (M := model prog w) X c.gn
  have L3 := looks_find (M := model prog w) X I hf
  obtain ⟨hp, g, dr, t, os⟩ := s
  unfold getAttr? getAttrBy? getAttrBy
  refine wpAny_bind (wpAny_mkText (wpAny_bind (wpAny_attempt (wpAny_holding (wpAny_bind (L0.at (wpAny_bind (L1.at ?_))))))))
  dsimp only
  rw [hx1, if_neg Bool.false_ne_true]
  unfold getAttrByItsOwn
  refine wpAny_bind (L2.at ?_)
  refine wpAny_bind (wpAny_attempt (wpAny_holding ?_))
  unfold callGetattribute
  rw [show (false && onTheHeap (Value.builtin "BaseException.__getattribute__")) = false from rfl, if_neg Bool.false_ne_true]
  unfold boundAndCalled
  rw [GA.bind]
  refine wpAny_bind (wpAny_pure (wpAny_call ?_))
  refine codeAny_call_builtin GA.plain F.entry_bexc_ga (@check_slot (model prog w) _ _ ⟨hp, g, dr, t + 1, os⟩ "BaseException.__getattribute__" "BaseException" "__getattribute__" (.ref x) [.str "__class__" t] [] _ hk hsplit sub (F.args_bexc_ga (.ref x) (.str "__class__" t)) ?_)
  unfold Builtin.«object.__getattribute__»
  refine wpAny_bind (wpAny_pure ?_)
  dsimp only
  refine wpAny_bind (wpAny_pure (wpAny_bind (L0.at (wpAny_bind (L3.at ?_)))))
  show wpAny _ _ (holding [Value.builtin "object.__class__"] (call (.builtin "getset_descriptor.__get__") [.builtin "object.__class__", .ref x, .ref C]) >>= ret) _ _ _
  refine wpAny_bind (wpAny_holding (wpAny_call (class_get (s := ⟨hp, g, dr, t + 1, os⟩) (ox := ox) (od := od) X I hm ?_)))
  refine wpAny_pure ?_
  show wpAny _ _ (handedOut (.ref C)) _ _ _
  exact handed_on rfl (wpAny_pure h)
/-- what is asked of a class of exceptions for isinstance -/
structure XIsi (K : PySem.W.Frag) (C : Addr) : Prop where
  at_ : PySem.W.findIn K (.ref C) "__class__" = some (some (.builtin "object.__class__"))
  get : PySem.W.specialIn K (.builtin "object.__class__") "__get__" = some (some (.builtin "getset_descriptor.__get__"))
  tak : PySem.W.takesIn K (.builtin "object.__class__") = some true
open PySem.W in
theorem kitx_exc (c : XCls K C) (i : XIsi K C) : KitX K (.ref x) (.ref C) (fun h => ∃ od, PySem.W.InstAt h x ox C od) where
  ty := fun _ _ _ ⟨_, I⟩ => I.type
  it := fun _ _ X _ => by
    obtain ⟨cdD, hcD, _⟩ := any_some c.hd
    unfold clsIn at hcD
    split at hcD
    · rename_i c' d' cd' sl' ho
      intro A' Q' E' s' k q
      unfold isType loadHead
      exact wpAny_bind (wpAny_loadPart (k _ _ (X _ _ ho)) (wpAny_pure q))
    · cases hcD
  ne := fun h tp dd its n sl X htp => by
    obtain ⟨cdD, hcD, _⟩ := any_some c.hd
    refine Bool.eq_false_iff.mpr fun q => ?_
    have e : C = tp := Value.ref.inj (beq_iff_eq.mp q)
    subst e
    unfold clsIn at hcD
    split at hcD
    · rename_i c' d' cd' sl' ho
      have z := (X _ _ ho).symm.trans htp
      cases z
    · cases hcD
  ca := fun X ⟨_, I⟩ k => class_exc X I c i.at_ i.get i.tak k
end

/-! ### in an except suite -/
/-- the context of an except suite: the exception is pinned -/
abbrev Cx.hand (X : Cx) (ea : Addr) (oe : Obj) : Cx := { X with A := X.A.mark (some (.ref ea)), calm := false, pn := (ea, oe) :: X.pn, xe := fun _ _ => False }
section
variable {X : Cx} {pins : List (Addr × Obj)} {σ : St} {H : Hp} {s : Shared} {ea : Addr} {oe : Obj}
theorem Inv.hand (I : Inv X pins σ H s) {vs : Array Value} (h1 : s.heap.get? ea = some oe) (hd : oe.data = .fields vs) (h2 : H ea = none) : Inv (X.hand ea oe) pins σ H s := by
  have ok := I.ok
  refine ⟨⟨ok.mod, ok.kind, ok.glob, ok.blt, ok.above, ok.inj, ok.has, ok.cab, (fun z => by cases z), ok.frames, ok.stk, ok.exf, ok.bs, ok.bsz, ok.noex, ok.exfs, ok.funs, ok.frf⟩, I.os, I.bare, I.base, I.loc, I.cell, I.free, I.freeC, fun p hp => ?_, I.hok, I.len⟩
  rcases List.mem_cons.mp hp with rfl | hp
  · refine ⟨h1, h2, fun z => ?_, fun z => ?_, fun v q => by rw [hd] at q; cases q⟩
    · obtain ⟨m, ⟨o, es, ep, ho, hdo, _⟩, _⟩ := I.loc
      have z' : ea = X.env.locals := z
      rw [← z', h1] at ho
      cases ho
      rw [hd] at hdo
      cases hdo
    · obtain ⟨_, o, ho, hn⟩ := I.funs.mem z
      rw [show (ea, oe).1 = ea from rfl, h1] at ho
      cases ho
      exact hn vs hd
  · exact I.pin p hp
theorem Inv.unhand (J : Inv (X.hand ea oe) pins σ H s) (ok : X.Ok) : Inv X pins σ H s :=
  ⟨ok, J.os, J.bare, J.base, J.loc, J.cell, J.free, J.freeC, fun p hp => J.pin p (List.mem_cons_of_mem _ hp), J.hok, J.len⟩
/-- isinstance(e, C) of a pinned exception; a class as a value -/
def ValC : V → Value → Prop
  | .ref a, u => u = .ref a
  | .ty n, u => u = .type n
  | _, _ => False
theorem valC_rel {c : V} {u cv : Value} (r : RelV c u) (h : ValC c cv) : u = cv := by
  cases c with
  | ref a => exact (show u = .ref a from r).trans (show cv = .ref a from h).symm
  | ty n => exact (show u = .type n from r).trans (show cv = .type n from h).symm
  | _ => exact h.elim
def DictAt (H : Hp) : Option Addr → Prop
  | none => True
  | some d => ∃ fs, H d = some (.xd fs)
theorem Inv.instX (I : Inv X pins σ H s) (hp : (ea, oe) ∈ X.pn) {C : Addr} (hc : oe.cls = .ref C) {vs : Array Value} (hd : oe.data = .fields vs) (hdd : DictAt H oe.dict) : ∃ od, PySem.W.InstAt s.heap ea oe C od := by
  have h1 := (I.pin (ea, oe) (List.mem_append_left _ hp)).1
  have hn : PySem.W.notCls oe = true := by
    obtain ⟨c, d, dt, sl⟩ := oe
    dsimp only at hd
    subst hd
    rfl
  cases hq : oe.dict with
  | none => exact ⟨none, h1, hc, hn, by rw [hq]; trivial⟩
  | some d =>
    rw [hq] at hdd
    obtain ⟨fs, hf⟩ := hdd
    obtain ⟨ob, ho⟩ := I.hok.at hf
    exact ⟨some ob, h1, hc, hn, by rw [hq]; exact ho⟩
def rIsX (X : Cx) : List V → Hp → VK → Prop := fun xs H Q => ∃ ea oe c cv C vs b, xs = [.ref ea, c] ∧ ValC c cv ∧ (ea, oe) ∈ X.pn ∧ oe.cls = .ref C ∧ oe.data = .fields vs ∧ DictAt H oe.dict ∧ XCls X.K C ∧ XIsi X.K C ∧ PySem.W.kitOne X.K (.ref C) cv = some b ∧ Q (.bl b) H
theorem call_isX : CallR X (.builtin "isinstance") (rIsX X) := by
  intro pins s σ H xs us Q I r h
  obtain ⟨ea, oe, c, cv, C, vs, b, rfl, rc, hp, hc, hd, hdd, xc, xi, hk, q⟩ := h
  cases r with
  | cons r1 r2 =>
    cases r2 with
    | cons r2 r3 =>
      cases r3
      cases r1
      have e := valC_rel r2 rc
      subst e
      obtain ⟨od, J⟩ := I.instX hp hc hd hdd
      exact PySem.W.kia_one (kitx_exc (ox := oe) xc xi) I.kIn ⟨od, J⟩ hk (by intro z; cases z) fun tk => ⟨.bl b, H, I.tok _, rfl, q⟩
/-- e.f of a pinned exception -/
def tXFld (X : Cx) (ta : TE) (f : Str) : TE := fun σ H Q => ta σ H fun x H1 => ∃ ea oe C vs d fs v, x = .ref ea ∧ (ea, oe) ∈ X.pn ∧ oe.cls = .ref C ∧ oe.data = .fields vs ∧ oe.dict = some d ∧ H1 d = some (.xd fs) ∧ XCls X.K C ∧ PySem.W.findIn X.K (.ref C) f = some none ∧ fs.lookup f = some v ∧ Q v H1
theorem pe_xfld {e : Expr} {f : Str} {pos : Pos} {ta : TE} (he : PE X e ta) (hb : attributeBase e f X.env (eval e X.env) = eval e X.env) : PE X (.Attribute e f pos) (tXFld X ta f) := by
  intro pins s σ H Q I h
  refine attr_of hb (thn (he pins s σ H _ I h) fun u s1 ⟨x, H1, I1, rx, ea, oe, C, vs, d, fs, v, ex, hp, hc, hd, hdd, hf, xc, hn, hl, q⟩ => ?_)
  subst ex
  obtain rfl : u = Value.ref ea := rx
  obtain ⟨mA, n, r⟩ := I1.hok d _ hf
  obtain ⟨uv, hu, ru⟩ := RelO.some_of (v := v) (o := mA f) (by rw [← hl]; exact r f)
  have h1 := (I1.pin (ea, oe) (List.mem_append_left _ hp)).1
  obtain ⟨oc, od, odt, osl⟩ := oe
  dsimp only at hc hd hdd
  subst hc hd hdd
  exact get_exc F.attr_ValueError I1.kIn h1 n xc hn hu (handed_of ru) ⟨v, H1, I1.tok _, ru, q⟩
end
end L2
namespace L2
open PySem PySem.Spec PyProof.Rows
/-! ### self.f = v in the __init__ of an exception: the first one -/
def sFldX (K : PySem.W.Frag) (ta tv : TE) (f : Str) : TS := fun D σ H => tv σ H fun y H1 => ta σ H1 fun x H2 => ∃ a C tt, x = .ref a ∧ H2 a = some (ExcAt a C tt none) ∧ XCls K C ∧ PySem.W.findIn K (.ref C) f = some none ∧
  ∀ d, H2 d = none → D.nx σ (upd (upd H2 d (.xd [(f, y)])) a (ExcAt a C tt (some d)))
section
variable {X : Cx} {o e value : Expr} {f : Str} {pos pos' : Pos} {ta tv : TE}
theorem ps_fldX (ha : PE X o ta) (hv : PE X value tv) (hs : swapsWith value (some (.Attribute o f pos')) pos.line X.env = pure false) : PS X (.Assign [.Attribute o f pos'] value pos) (sFldX X.K ta tv f) := by
  intro pins s σ H D I h
  refine plainObj_wpAny_Assign_Attribute (thn (hv pins s σ H _ I h) fun u s1 ⟨y, H1, I1, ry, q⟩ => thn (ha pins s1 σ H1 _ I1 q) fun ov s2 ⟨x, H2, I2, rx, a, C, tt, ex, ea, c, n, q2⟩ => ?_) hs
  subst ex
  obtain rfl : ov = Value.ref a := rx
  have ho : s2.heap.get? a = some (excObj C tt none) := (I2.hok a _ ea).1
  have hlt : a < s2.heap.objs.size := Heap.lt_size ho
  refine set_exc0 I2.kIn ho c n fun h' t' hx' hn' hk => ⟨σ, _, ?_, q2 s2.heap.objs.size (I2.hok.fresh (Nat.le_refl _))⟩
  obtain ⟨od, es, ep, hod, r⟩ := id hn'
  have hfr : od.isFreed = false := (Heap.get?_some_iff.mp hod).2
  have hpush : (s2.heap.push od).get? s2.heap.objs.size = some od := Heap.get?_push_size s2.heap hfr
  have I3 := I2.laid (a := s2.heap.objs.size) (o := .xd [(f, y)]) (h' := s2.heap.push od) (t' := s2.toks) (fun b u z => Heap.get?_push_of_some _ z) (Nat.le_refl _)
    ⟨_, hn'.at (fun o z => by rw [hod] at z; cases z; exact hpush), fun g => by
      by_cases hg : g = f
      · have hb : (g == f) = true := beq_iff_eq.mpr hg
        simp only [List.lookup, hb, if_pos hg]
        exact ry
      · have hb : (g == f) = false := beq_eq_false_iff_ne.mpr hg
        simp only [List.lookup, hb, if_neg hg]
        trivial⟩
  have hne : a ≠ s2.heap.objs.size := Nat.ne_of_lt hlt
  refine I3.write (x := a) (e := a) (h' := h') (t' := t') (by rw [upd_ne hne, ea]; exact True.intro) (.inl rfl) (fun b u hb z => ?_) ⟨_, hx'⟩ (excAt_ok hx')
  by_cases hbs : b = s2.heap.objs.size
  · subst hbs
    have z' : (s2.heap.push od).get? s2.heap.objs.size = some u := z
    rw [hpush] at z'
    cases z'
    exact hod
  · have z' : s2.heap.get? b = some u := by
      have z0 : (s2.heap.push od).get? b = some u := z
      exact (Heap.get?_push_cases z0).elim (fun w => absurd w.1 hbs) fun w => w
    exact hk b u hb z'
end

/-! ### a def that may raise -/
section
variable {P : Program} {w : World} {K : PySem.W.Frag} {mg : Str → Option Value} {base : Heap}
theorem Fun.okX {x qual : Str} {st : Stmt} {f : Addr} {fd : FuncData} {N ps : List Str} {k : Nat} {sp : Sp} (F : Fun K x qual st f fd) (S : FnScope N ps (defScope st)) (len : ∀ vs H Q E, sp vs H Q E → vs.length = ps.length)
    (hbody : ∀ (cdv : Value) (A : Around) (outer : List Env) (s : Shared) (H : Hp) (vs : List V) (Q : VK) (E : XK), Room k (A.deeper (envOfC qual (defScope st) s.heap.objs.size f cdv)) → sp vs H Q E →
      ∃ t, PSs (cxOf (CXe P w) P w K mg base N qual (defScope st) f cdv A outer s H E) (defBody st) t ∧ t { nx := fun _ H' => Q .non H', rt := Q } (start N vs) H) : FnOk P w K mg base (CXe P w) (k + 1) f fd ps sp := by
  obtain ⟨oc, od, kV, doc, pm, an, cdv, ct, osl, rfl, lk, hcd⟩ := F.ex
  exact fn_of lk hcd S len fun A outer s H vs Q E hr hsp => hbody cdv A outer s H vs Q E hr hsp
end
theorem passE0 {P : Program} {w : World} {X : Cx} : Passes (CXe P w) X E0 := fun _ _ _ _ _ _ _ ⟨_, _, _, _, _, _, _, _, _, _, _, _, h⟩ => h.elim

/-! ### expressions whose exceptions are caught here -/
def PEx (X : Cx) (e : Expr) (t : St → Hp → VK → XK → Prop) : Prop :=
  ∀ (pins : List (Addr × Obj)) (s : Shared) (σ : St) (H : Hp) (Q : VK) (E : XK), Inv X pins σ H s → t σ H Q E → wpAny (model X.prog X.w) X.A (eval e X.env) (EP X pins σ Q) (XP X pins σ E) s
section
variable {X : Cx} {k : Nat} {f C : Addr} {fd : FuncData} {ps : List Str} {sp : Sp} {dvs : List V} {ds : List Value} {x m : Str} {p pos apos : Pos} {e o : Expr} {es : List Expr} {ta : TE} {t : TA}
theorem run_fnx {pins : List (Addr × Obj)} {σ : St} {H : Hp} {s : Shared} {Q : VK} {E : XK} {us : List Value} {vs : List V} (F : FnOk X.prog X.w X.K X.mg X.base (CXe X.prog X.w) k f fd ps sp) (hr : Room k X.A) (hb : Binds X.K fd ps ds) (hd : Vals dvs ds) (hex : X.ex = [])
    (I : Inv X pins σ H s) (r : Vals vs us) (h : sp (vs ++ dvs) H Q E) : wpAny (model X.prog X.w) X.A (call (.ref f) us) (EP X pins σ Q) (XP X pins σ E) s := by
  have r2 : Vals (vs ++ dvs) (us ++ ds) := r.append hd
  have hl : (us ++ ds).length = ps.length := by rw [← r2.length]; exact F.len _ _ _ _ h
  refine wpAny_call (codeAny_mono (F.run X.A X.stack s H ⟨us, []⟩ (us ++ ds) (vs ++ dvs) Q E hr I.env0 (hb s us I.kIn hl) r2 h) fun r s' hq => ?_)
  cases r with
  | error e => exact XP.of_cx I hex hq
  | ok fl =>
    cases fl with
    | ret u => exact I.after hq
    | next => exact False.elim hq
    | brk => exact False.elim hq
    | cont => exact False.elim hq
theorem run_makex {pins : List (Addr × Obj)} {σ : St} {H : Hp} {s : Shared} {Q : VK} {E : XK} {us : List Value} {vs : List V} (M : Mk X.K C f) (F : FnOk X.prog X.w X.K X.mg X.base (CXe X.prog X.w) k f fd ps sp) (hr : Room (k + 1) X.A) (hb : Binds X.K fd ps ds) (hd : Vals dvs ds)
    (hex : X.ex = []) (I : Inv X pins σ H s) (r : Vals vs us)
    (h : ∀ x dx, H x = none → H dx = none → dx ≠ x → sp (.ref x :: (vs ++ dvs)) (upd (upd H dx (.own x)) x (.ins C dx [])) (fun v H2 => v = .non ∧ Q (.ref x) H2) E) :
    wpAny (model X.prog X.w) X.A (call (.ref C) us) (EP X pins σ Q) (XP X pins σ E) s := by
  have hq := h (s.heap.objs.size + 1) s.heap.objs.size (I.hok.fresh (Nat.le_succ _)) (I.hok.fresh (Nat.le_refl _)) (Nat.ne_of_lt (Nat.lt_succ_self _))
  have I2 := Inv.made (C := C) I
  have r2 : Vals (V.ref (s.heap.objs.size + 1) :: (vs ++ dvs)) (Value.ref (s.heap.objs.size + 1) :: (us ++ ds)) := .cons rfl (r.append hd)
  have hl : (Value.ref (s.heap.objs.size + 1) :: us ++ ds).length = ps.length := by
    have e := r2.length
    rw [F.len _ _ _ _ hq] at e
    exact e.symm
  refine wpAny_call (make_map (f := f) I.kIn M.makes M.init (beq_iff_eq.mp M.fn) (codeAny_mono (F.run _ X.stack _ _ ⟨Value.ref (s.heap.objs.size + 1) :: us, []⟩ (Value.ref (s.heap.objs.size + 1) :: (us ++ ds)) _ _ E (hr.make C us [])
    (I2.env0.make C us []) (hb _ (Value.ref (s.heap.objs.size + 1) :: us) I2.kIn hl) r2 hq) fun r s' hq' => ?_))
  cases r with
  | error e => exact XP.of_cx I2 hex hq'
  | ok fl =>
    cases fl with
    | ret u =>
      obtain ⟨v, H', I3, rv, ev, q3⟩ := I2.after hq'
      subst ev
      exact ⟨rv, ⟨V.ref (s.heap.objs.size + 1), H', I3, rfl, q3⟩⟩
    | next => exact False.elim hq'
    | brk => exact False.elim hq'
    | cont => exact False.elim hq'
theorem PA.at {E : Value → Shared → Prop} {pins : List (Addr × Obj)} {s : Shared} {σ : St} {H : Hp} {Q : List V → Hp → Prop} (ha : PA X.nox es t) (I : Inv X pins σ H s) (h : t σ H Q) :
    wpAny (model X.prog X.w) X.A (spliced (backTo pos (starEach es X.env))) (AP X pins σ Q) E s :=
  wpAny_mono (ha pos pins s σ H Q (I.wish _) h) (fun _ _ ⟨vs, H', I', r, q⟩ => ⟨vs, H', I'.unwish, r, q⟩) fun _ _ z => False.elim z
theorem PE.at {E : Value → Shared → Prop} {te : TE} {pins : List (Addr × Obj)} {s : Shared} {σ : St} {H : Hp} {Q : VK} (ha : PE X.nox e te) (I : Inv X pins σ H s) (h : te σ H Q) :
    wpAny (model X.prog X.w) X.A (eval e X.env) (EP X pins σ Q) E s :=
  wpAny_mono (ha pins s σ H Q (I.wish _) h) (fun _ _ ⟨v, H', I', r, q⟩ => ⟨v, H', I'.unwish, r, q⟩) fun _ _ z => False.elim z
theorem pex_make (M : Mk X.K C f) (F : FnOk X.prog X.w X.K X.mg X.base (CXe X.prog X.w) k f fd ps sp) (hr : Room (k + 1) X.A) (hg : Gl X x) (hm : X.mg x = some (.ref C)) (hb : Binds X.K fd ps ds) (hd : Vals dvs ds) (hex : X.ex = [])
    (ha : PA X.nox (e :: es) t) (hdb : (x == ("__debug__" : Str)) = false := by decide) (he : starEach (e :: es) X.env = (false, eval e X.env) :: starEach es X.env := by rfl) (hpl : (backTo pos (starEach es X.env)).any (·.1) = false := by rfl) :
    PEx X (.Call (.Name x p) (e :: es) [] pos) (fun σ H Q E => tMake C sp dvs E t σ H Q) := by
  intro pins s σ H Q E I h
  refine wpAny_Call_Name_kw (ld_glob I hg hm ?_ hdb)
  refine PySem.W.callWith_K (h₀ := X.base) I.ok.mod.kin M.kp (thn (ha.at I h) fun us s1 ⟨vs, H1, I1, r, q⟩ => ⟨I1.kIn, ?_⟩) he hpl
  exact run_makex M F hr hb hd hex I1 r q
theorem pex_meth {pl : Sem Bool} (he : PE X.nox o ta) (c : Cls X.K C) (hm : Meth X.K C m f) (F : FnOk X.prog X.w X.K X.mg X.base (CXe X.prog X.w) k f fd ps sp) (hr : Room k X.A) (hb : Binds X.K fd ps ds) (hd : Vals dvs ds) (hex : X.ex = []) (ha : PA X.nox (e :: es) t)
    (hst : starEach (e :: es) X.env = (false, eval e X.env) :: starEach es X.env := by rfl) (hpl : (backTo pos (starEach es X.env)).any (·.1) = false := by rfl)
    (ht : eval (.Call (.Attribute o m apos) (e :: es) [] pos) X.env = (do
      let ov ← eval o X.env
      standAt apos.atName
      let (f, first) ← holding [ov] (getMethod ov m pl)
      callWith pos f first (backTo pos (starEach (e :: es) X.env)) (backToKw pos (keywordEach [] X.env))) := by rfl) :
    PEx X (.Call (.Attribute o m apos) (e :: es) [] pos) (fun σ H Q E => tMeth C m sp dvs E ta t σ H Q) := by
  intro pins s σ H Q E I h
  refine PySem.W.methodCall_KW (pl := pl) (thn (he.at I h) fun u s1 ⟨x, H1, I1, rx, a, dx, fs, ex, ea, l, q⟩ => ?_) ht
  subst ex
  obtain rfl : u = Value.ref a := rx
  refine getmeth_ok I1 ea c hm l ?_
  refine PySem.W.callWith_K (first := [.ref a]) (h₀ := X.base) I.ok.mod.kin hm.kp (thn (ha.at I1 q) fun us s2 ⟨vs, H2, I2, r, q2⟩ => ⟨I2.kIn, ?_⟩) hst hpl
  exact run_fnx (us := .ref a :: us) (vs := .ref a :: vs) F hr hb hd hex I2 (.cons rfl r) q2
end
/-- a block whose exceptions are caught here -/
def PBx (X : Cx) (body : List Stmt) (t : Ends → St → Hp → (St → XK) → Prop) : Prop :=
  ∀ (pins : List (Addr × Obj)) (s : Shared) (σ : St) (H : Hp) (D : Ends) (E : St → XK), Inv X pins σ H s → t D σ H E → wpAny (model X.prog X.w) X.A (execs body X.env) (SP X pins D) (fun ev s' => ∃ σ', XP X pins σ' (E σ') ev s') s
section
variable {X : Cx} {e : Expr} {t : St → Hp → VK → XK → Prop} {pos tpos : Pos} {n : Str} {i : Nat}
theorem bx_expr (he : PEx X e t) (hs : swapsWith e none pos.line X.env = pure false := by rfl) : PBx X [.Expr e pos] (fun D σ H E => t σ H (fun _ H1 => D.nx σ H1) (E σ)) := by
  intro pins s σ H D E I h
  refine wpAny_execs_cons (wpAny_mono (wpAny_Expr_any (Q := SP X pins D) (wpAny_mono (he pins s σ H _ _ I h) (fun v s1 ⟨x, H1, I1, r1, q1⟩ => ⟨σ, H1, I1, q1⟩) (fun _ _ z => ⟨σ, z⟩)) I.quiet hs) (fun f s1 q => ?_) fun _ _ z => z)
  cases f with
  | next => exact wpAny_execs_nil q
  | ret v => exact q
  | brk => exact q
  | cont => exact q
end

/-! ### try, with one except clause -/
section
variable {M : Model} {A : Around} {E : Value → Shared → Prop} {s : Shared}
theorem land_step {e : Addr} {cls : Value} {dd : Option Addr} {ch : List Addr} {fs : List Addr} {Q : Unit → Shared → Prop} (x : Fly s.heap e cls dd ch)
    (h : ∀ h', Fly h' e cls dd ch → Moved fs ch s.heap h' → Q () { s with heap := h' }) : wpAny M A (setFlight (.ref e) none) Q E s := by
  obtain ⟨oe, vs, he, rfl, rfl, hd, ⟨h1, rfl⟩ | ⟨T, oT, ts, h1, hTe, hT, hdT, h3, rfl⟩⟩ := x
  · unfold setFlight
    refine wpAny_bind (wpAny_field he hd h1 ?_)
    rw [if_neg (by decide)]
    exact wpAny_pure (h s.heap ⟨oe, vs, he, rfl, rfl, hd, .inl ⟨h1, rfl⟩⟩ ⟨fun _ _ z _ _ => z, fun _ o z _ => ⟨o.slots, z⟩, fun _ o z => ⟨o, z⟩⟩)
  · unfold setFlight
    refine wpAny_bind (wpAny_field he hd h1 ?_)
    rw [if_pos (show (Value.ref T != Value.none) = true from by simp)]
    have hsz3 : 3 < ts.size := (Array.getElem?_eq_some_iff.mp h3).1
    have other : ∀ b, b ≠ T → (s.heap.update T (Obj.mapFields (·.setIfInBounds 3 ((none : Option Addr).elim Value.none fun f => rawInt f)))).get? b = s.heap.get? b := fun b hb => Heap.get?_update_other _ _ (Ne.symm hb)
    have selfT := Heap.get?_update_self (Obj.mapFields (·.setIfInBounds 3 ((none : Option Addr).elim Value.none fun f => rawInt f))) hT (Obj.isFreed_of_fields (Obj.data_mapFields hdT _))
    refine wpAny_setField hT hdT hsz3 (h _ ⟨oe, vs, (other e (Ne.symm hTe)).trans he, rfl, rfl, hd, .inr ⟨T, _, _, h1, hTe, selfT, Obj.data_mapFields hdT _, by simp [hsz3], rfl⟩⟩ ⟨fun b o z hc _ => ?_, fun b o z hc => ?_, fun b o z => ?_⟩)
    · simp only [List.mem_cons, List.not_mem_nil, or_false, not_or] at hc
      exact (other b hc.2).trans z
    · simp only [List.mem_cons, List.not_mem_nil, or_false, not_or] at hc
      exact ⟨o.slots, (other b hc.2).trans z⟩
    · by_cases hb : b = T
      · subst hb; exact ⟨_, selfT⟩
      · exact ⟨o, (other b hb).trans z⟩
end
/-- a name goes behind an except suite -/
theorem gone_ok {X : Cx} {pins : List (Addr × Obj)} {σ : St} {H : Hp} {s : Shared} {M : Model} {A : Around} {E : Value → Shared → Prop} {i : Nat} {x : Str} {pos : Pos} {Q : Unit → Shared → Prop} (I : Inv X pins σ H s) (hN : X.N.Nodup) (hi : X.N[i]? = some x) (hk : X.env.kindOf x = some .local)
    (h : ∀ s', Inv X pins (σ.set i none) H s' → Q () s') : wpAny M A (do bindName X.env x .none; unbindBehindTheSuite X.env x pos) Q E s := by
  obtain ⟨m, hn, hl⟩ := id I.loc
  have hcls : (X.env.scope.kind == .class || (X.env.scope.kind == .module && X.env.locals != X.env.globals)) = false := by rw [I.ok.kind]; rfl
  have cne := I.cne
  refine wpAny_nameGoes_keeps hk hn hcls fun h' v hn' hs => ?_
  obtain ⟨oL, _, _, hoL, _⟩ := id hn
  have above : ∀ b o, X.s₀.heap.get? b = some o → b ≠ X.env.locals := fun b o e => Nat.ne_of_lt (Nat.lt_of_lt_of_le (Heap.lt_size e) I.ok.above)
  refine h _ ⟨I.ok, I.os, I.bare, ⟨fun b o e n hb hx => (hs.2 b (above b o e)).trans (I.base.keep b o e n hb hx), fun b o e n hb hx => ?_, I.base.free, fun b o e hx => ?_, I.base.tups, I.base.frzs, I.base.tbls⟩, ⟨_, hn', fun j y v' e1 e2 e3 => ?_⟩, fun y c e => ?_, I.free, I.freeC, fun p hp => ?_, fun b ob e => ?_, by simpa using I.len⟩
  · obtain ⟨sl, e1⟩ := I.base.slot b o e n hb hx
    exact ⟨sl, (hs.2 b (above b o e)).trans e1⟩
  · obtain ⟨o', e1⟩ := I.base.there b o e hx
    exact ⟨o', (hs.2 b (above b o e)).trans e1⟩
  · have hj : j ≠ i := fun z => by
      subst z
      have hlt : j < σ.length := by rw [I.len]; exact (List.getElem?_eq_some_iff.mp hi).1
      rw [List.getElem?_set_self hlt] at e2
      cases e2
    rw [List.getElem?_set_ne (Ne.symm hj)] at e2
    obtain ⟨u', r', q⟩ := hl j y v' e1 e2 e3
    refine ⟨u', r', ?_⟩
    rcases q with ⟨k, e⟩ | ⟨k, c, e, z⟩
    · refine .inl ⟨k, ?_⟩
      have : y ≠ x := fun e => hj (nodup_ix hN e1 (e ▸ hi))
      simp [this, e]
    · exact .inr ⟨k, c, e, z.sameBut hs (cne y c e)⟩
  · obtain ⟨w', z⟩ := I.cell y c e
    exact ⟨w', z.sameBut hs (cne y c e)⟩
  · obtain ⟨e, n, ne, nf, d⟩ := I.pin p hp
    exact ⟨(hs.2 p.1 ne).trans e, n, ne, nf, d⟩
  · refine (I.hok b ob e).stay (fun c w' hc q => (hs.2 c ?_).trans q) (fun _ q => q) fun _ _ q => q
    rintro rfl
    rcases hc with z | hc
    · rw [← z, I.free] at e; cases e
    · rw [I.free] at hc; cases hc
/-- try: body; except y as n: suite. The suite raises nothing -/
def tTryAs (K : PySem.W.Frag) (c : Value) (i : Nat) (tb : Ends → St → Hp → (St → XK) → Prop) (th : Addr → Obj → TS) : TS := fun D σ H =>
  tb D σ H fun σ' cls dd H' => PySem.W.exmOne K cls c = some true ∧ ∀ ea oe vs, oe.cls = cls → oe.dict = dd → oe.data = .fields vs → H' ea = none →
    th ea oe { nx := fun σ2 H2 => D.nx (σ2.set i none) H2, rt := D.rt, bk := fun σ2 H2 => D.bk (σ2.set i none) H2, ct := fun σ2 H2 => D.ct (σ2.set i none) H2 } (σ'.set i (some (.ref ea))) H'
theorem ps_tryAs {X : Cx} {body : List Stmt} {b₀ : Stmt} {suite : List Stmt} {y n : Str} {c : Value} {np hpos pos : Pos} {i : Nat} {tb : Ends → St → Hp → (St → XK) → Prop} {th : Addr → Obj → TS} (hst : X.stack = X.env :: X.outer) (hfm : X.env.frame = some X.env.locals)
    (hN : X.N.Nodup) (hi : X.N[i]? = some n) (hk : X.env.kindOf n = some .local) (hg : Gl X y) (hm : X.mg y = some c) (hb : PBx X body tb) (hh : ∀ ea oe, PSs (X.hand ea oe) (b₀ :: suite) (th ea oe))
    (hdb : (y == ("__debug__" : Str)) = false := by decide) :
    PS X (.Try body [.ExceptHandler (some (.Name y np)) (some n) (b₀ :: suite) hpos] [] [] pos) (tTryAs X.K c i tb th) := by
  intro pins s σ H D I h
  refine wpAny_Try_except (wpAny_mono (hb pins s σ H D _ I h) (fun f s1 q => ?_) fun ev s1 ⟨σ1, e, cls, dd, ch, H1, ee, I1, fly, hch, hmt, q⟩ => ?_)
  · cases f with
    | next => exact wpAny_execs_nil q
    | ret v => exact q
    | brk => exact q
    | cont => exact q
  subst ee
  have I1s : s1.heap.FunFrames X.base (X.env :: X.outer) := hst ▸ I1.stack
  refine note_step (base := X.base) (hst ▸ I1.ok.frames) I1s hfm fly fun h2 ch2 fly2 mv2 new2 => ?_
  have I2 := I1.excStep (h' := h2) (hst ▸ mv2) fun b hb => ⟨(hch b hb).1, (hch b hb).2.1, (hch b hb).2.2, fly.rec b hb⟩
  have hch2 : ∀ b ∈ ch2, X.s₀.heap.get? b = none ∧ H1 b = none ∧ ∀ p ∈ X.pn ++ pins, p.1 ≠ b := fun b hb => by
    rcases new2 b hb with z | z
    · exact hch b z
    · refine ⟨Heap.get?_none_of_le (Nat.le_trans I1.sz z), I1.hok.fresh z, fun p hp z2 => ?_⟩
      have := Heap.lt_size (I1.pin p hp).1
      rw [z2] at this
      exact absurd this (Nat.not_lt.mpr z)
  have ty : PySem.W.Looks (model X.prog X.w) h2 (typeOf (.ref e)) cls := by
    obtain ⟨oe, vs, he, hc, _⟩ := fly2
    exact hc ▸ (PySem.W.Looks.ld he).andThen .now
  refine wpAny_handleBy_cons (codeAny_handlers_test ?_) (by intro z; cases z)
  have eH : H1 e = none := (hch2 e fly2.mem).2.1
  obtain ⟨oe2, vs2, he2, hc2, hd2, hf2, _⟩ := id fly2
  have J2 := I2.hand (ea := e) (oe := oe2) he2 hf2 eH
  refine ld_glob J2 hg hm ?_ hdb
  refine PySem.W.exm_one I2.kIn ty hmt (X.A.mark (some (.ref e))) _ _ ⟨h2, s1.gens, s1.drawn, s1.toks, s1.os⟩ (fun _ _ z => z) ?_
  refine codeAny_handlers_suite_as ?_
  refine land_step (fs := frs X.stack) fly2 fun h3 fly3 mv3 => ?_
  have I3 := I2.excStep (h' := h3) mv3 fun b hb => ⟨(hch2 b hb).1, (hch2 b hb).2.1, (hch2 b hb).2.2, fly2.rec b hb⟩
  obtain ⟨oe, vs, he, hc, hd, hf, _⟩ := id fly3
  have J3 := I3.hand (ea := e) (oe := oe) he hf eH
  refine store_ok (X := X.hand e oe) J3 hN hi (.inl hk) (v := .ref e) rfl (fun s4 J4 => ?_) (.inr hk)
  refine wpAny_mono (hh e oe pins s4 _ H1 _ J4 (q e oe vs hc hd hf eH)) (fun f s5 q5 => ?_) fun _ _ z => False.elim z
  dsimp only
  cases f with
  | next =>
    obtain ⟨σ5, H5, J5, q5⟩ := q5
    exact gone_ok (J5.unhand I.ok) hN hi hk fun s6 I6 => ⟨_, H5, I6, q5⟩
  | brk =>
    obtain ⟨σ5, H5, J5, q5⟩ := q5
    exact gone_ok (J5.unhand I.ok) hN hi hk fun s6 I6 => ⟨_, H5, I6, q5⟩
  | cont =>
    obtain ⟨σ5, H5, J5, q5⟩ := q5
    exact gone_ok (J5.unhand I.ok) hN hi hk fun s6 I6 => ⟨_, H5, I6, q5⟩
  | ret u =>
    obtain ⟨v, σ5, H5, J5, rv, q5⟩ := q5
    exact gone_ok (J5.unhand I.ok) hN hi hk fun s6 I6 => ⟨v, _, H5, I6, rv, q5⟩
end L2
namespace PySem
open Sem (wp)
open AutoSeq1 (wpAny_loadPart')
theorem y_meets_enumerate_newT (l : Addr) (items : Array Value) (n : Nat) (dct : Option Addr) (sl : Array (Option Value)) :
    Meets (Builtin.«enumerate.__new__» ⟨[.type "enumerate", .ref l], []⟩) (fun _ R s => s.heap.get? l = some { cls := .type "tuple", dict := dct, data := .seq items n, slots := sl } ∧
      R (.ok (.ret (.ref (s.heap.push { cls := .type "tuple_iterator", data := .fields #[.ref l, .int 0 0] }).objs.size)))
        { s with heap := (s.heap.push { cls := .type "tuple_iterator", data := .fields #[.ref l, .int 0 0] }).push { cls := .type "enumerate", data := .fields #[.none, .bool false, .ref s.heap.objs.size, rawInt 0, .none, .none] } }) :=
  .of_wp fun prog w A R s h => by
    obtain ⟨hp, g, d, tk, os⟩ := s; obtain ⟨hl, h⟩ := h
    have hsub := sub_enumerate
    have hL : Heap.IsTuple (Shared.heap ⟨hp, g, d, tk, os⟩) l items := ⟨_, hl, rfl, n, rfl⟩
    wp_walk using wpAny_loadPart' hl
    refine wpAny_stack_any fun st => wpAny_pure ?_
    split
    · rename_i c _ _ _ _ _
      cases (c == Value.type "enumerate")
      · wp_walk using wpAny_loadPart' hl, wpAny_pyIter_tuple hL
        exact ⟨_, rfl, h⟩
      · wp_walk using wpAny_loadPart' hl, wpAny_pyIter_tuple hL
        exact ⟨_, rfl, h⟩
    · wp_walk using wpAny_loadPart' hl, wpAny_pyIter_tuple hL
      exact ⟨_, rfl, h⟩
section
variable {prog : Program} {w : World} {A : Around} {E : Value → Shared → Prop} {s : Shared}
theorem y_call_enumerate_tuple {l : Addr} {items : Array Value} {Q : Value → Shared → Prop} (hL : s.heap.IsTuple l items)
    (h : ∀ h', IsEnum h' (s.heap.objs.size + 1) s.heap.objs.size 0 .none → h'.IsTupleIter s.heap.objs.size l 0 → h'.objs.size = s.heap.objs.size + 2 →
      (∀ b o, s.heap.get? b = some o → h'.get? b = some o) → Q (.ref (s.heap.objs.size + 1)) { s with heap := h' }) :
    wpAny (model prog w) A (call (.type "enumerate") [.ref l]) Q E s := by
  obtain ⟨⟨c, dct, dt, sl⟩, hl, hc, n, hd⟩ := hL
  replace hc : c = .type "tuple" := hc
  replace hd : dt = .seq items n := hd
  subst hc hd
  refine callType_new F.called_enumerate (by decide) (F.typeCall_enumerate_1 _) (F.newCall_enumerate_1 _) (fun obj => F.args_object_init_2 obj _) F.entry_enumerate_new
    (y_meets_enumerate_newT l items n dct sl) ⟨hl, ?_⟩
  have hz : (s.heap.push { cls := .type "tuple_iterator", data := .fields #[.ref l, .int 0 0] }).objs.size = s.heap.objs.size + 1 := Heap.size_push ..
  show _ ∧ _
  rw [hz]
  have he : IsEnum ((s.heap.push { cls := .type "tuple_iterator", data := .fields #[.ref l, .int 0 0] }).push
      { cls := .type "enumerate", data := .fields #[.none, .bool false, .ref s.heap.objs.size, rawInt 0, .none, .none] }) (s.heap.objs.size + 1) s.heap.objs.size 0 .none := by
    have := Heap.get?_push_size (s.heap.push { cls := .type "tuple_iterator", data := .fields #[.ref l, .int 0 0] })
      (o := { cls := .type "enumerate", data := .fields #[.none, .bool false, .ref s.heap.objs.size, rawInt 0, .none, .none] }) rfl
    rw [hz] at this; exact this
  refine ⟨⟨_, he, rfl⟩, h _ he ⟨_, Heap.get?_push_of_some _ (Heap.get?_push_size _ rfl), rfl, rfl⟩ (by rw [Heap.size_push, hz]) fun b o x => Heap.get?_push_of_some _ (Heap.get?_push_of_some _ x)⟩
theorem y_nextOf_tuple_item {it l : Addr} {i : Nat} {items} {x : Value} {Q : Value → Shared → Prop} (hit : s.heap.IsTupleIter it l i)
    (hl : s.heap.IsTuple l items) (hx : items[i]? = some x)
    (hQ : ∀ h', h'.IsTupleIter it l (i + 1) → Heap.SameBut it s.heap h' → Q x { s with heap := h' }) :
    wpAny (model prog w) A (Builtin.SmallTypes.nextOf (.ref it)) Q E s := by
  obtain ⟨o, ho, hc, hd⟩ := id hit
  obtain ⟨ol, hol, _, nl, hdl⟩ := hl
  unfold Builtin.SmallTypes.nextOf
  refine wpAny_bind (wpAny_callSpecial?_slot (name := Str.ofString "__next__") hit.typeIs F.slot_tuple_iterator_next
    (wpAny_call_entry F.slot_tuple_iterator_next hit.typeIs F.entry_tuple_iterator_next ?_ (F.args_tuple_iterator_next_1 _)))
  show wpAny _ _ (field (.ref it) 0 >>= _) _ _ s
  refine wpAny_bind (wpAny_field ho hd (x := .ref l) rfl ?_)
  show wpAny _ _ (if (Value.ref l == Value.none) = true then _ else _) _ _ s
  rw [if_neg (show ¬ ((Value.ref l == Value.none) = true) from Bool.false_ne_true)]
  show wpAny _ _ (field (.ref it) 1 >>= _) _ _ s
  refine wpAny_bind (wpAny_field ho hd (x := .int i 0) rfl ?_)
  show wpAny _ _ (seqItems? (.ref l) >>= _) _ _ s
  refine wpAny_bind (wpAny_seqItems hol hdl ?_)
  simp only [Int.toNat_natCast, hx]
  refine wpAny_bind (wpAny_setField ho hd (by simp) (wpAny_pure ⟨x, rfl, wpAny_pure (hQ _ ?_ (Heap.SameBut.update ..))⟩))
  exact ⟨_, Heap.get?_update_self _ ho (Obj.isFreed_of_fields (Obj.data_mapFields hd _)), (Obj.cls_mapFields ..).trans hc, by
    rw [Obj.data_mapFields hd]; simp [rawInt]⟩
theorem y_nextOf_tuple_end {it l : Addr} {i : Nat} {items} {Q : Value → Shared → Prop} (hh : A.handled = none)
    (hit : s.heap.IsTupleIter it l i) (hl : s.heap.IsTuple l items) (hx : items[i]? = none)
    (hE : ∀ h' e, Heap.ExtBut it s.heap h' → (∃ o, h'.get? e = some o ∧ o.cls = .type "StopIteration") → E (.ref e) { s with heap := h' }) :
    wpAny (model prog w) A (Builtin.SmallTypes.nextOf (.ref it)) Q E s := by
  obtain ⟨o, ho, hc, hd⟩ := id hit
  obtain ⟨ol, hol, _, nl, hdl⟩ := hl
  unfold Builtin.SmallTypes.nextOf
  refine wpAny_bind (wpAny_callSpecial?_slot (name := Str.ofString "__next__") hit.typeIs F.slot_tuple_iterator_next
    (wpAny_call_entry F.slot_tuple_iterator_next hit.typeIs F.entry_tuple_iterator_next ?_ (F.args_tuple_iterator_next_1 _)))
  show wpAny _ _ (field (.ref it) 0 >>= _) _ _ s
  refine wpAny_bind (wpAny_field ho hd (x := .ref l) rfl ?_)
  show wpAny _ _ (if (Value.ref l == Value.none) = true then _ else _) _ _ s
  rw [if_neg (show ¬ ((Value.ref l == Value.none) = true) from Bool.false_ne_true)]
  show wpAny _ _ (field (.ref it) 1 >>= _) _ _ s
  refine wpAny_bind (wpAny_field ho hd (x := .int i 0) rfl ?_)
  show wpAny _ _ (seqItems? (.ref l) >>= _) _ _ s
  refine wpAny_bind (wpAny_seqItems hol hdl ?_)
  simp only [Int.toNat_natCast, hx]
  refine wpAny_bind (wpAny_rule (wpAny_bind (wpAny_setField ho hd (by simp) ?_)))
  show wpAny _ _ (newExc (.type "StopIteration") [] >>= _) _ _ _
  refine wpAny_bind ?_
  simp only [newExc, newTuple]
  refine wpAny_bind (wpAny_newObj_type ?_ (by size_fits))
  refine wpAny_bind (m := firstArgMember _ _) (wpAny_of_eq (a := Value.none) (by first | rfl | (simp only [firstArgMember]; rfl)) ?_)
  refine wpAny_newObj_type ?_ (by size_fits)
  simp only [raiseNew]
  refine wpAny_bind (wpAny_handled ?_)
  first | rw [show A.in1.handled = none from hh] | rw [hh]
  refine wpAny_bind (wpAny_pure (wpAny_throw ?_))
  exact hE _ _ (((Heap.SameBut.update ..).extBut.push _).push _) ⟨_, Heap.get?_push_size _ rfl, rfl⟩
end
theorem y_Draws_tuple {prog : Program} {w : World} {A : Around} (hh : A.handled = none) (it l : Addr) (hne : l ≠ it) (items : Array Value) :
    Draws prog w A it [it, l] items.size (fun i v => items[i]? = some v) (fun i h => h.IsTupleIter it l i ∧ h.IsTuple l items) where
  live := fun _ _ st => let ⟨o, ho, _⟩ := st.1; ⟨o, ho⟩
  frame := fun _ _ _ st hk => ⟨st.1.at fun o e => hk it (by simp) o e, let ⟨o, ho, r⟩ := st.2; ⟨o, hk l (by simp) o ho, r⟩⟩
  item := fun i s Q E hi st hQ => by
    refine y_nextOf_tuple_item st.1 st.2 (x := items[i]) (by simp [hi]) fun h' hit' hs' => ?_
    exact hQ _ h' s.toks (by simp [hi]) ⟨hit', let ⟨o, ho, r⟩ := st.2; ⟨o, hs'.extBut l o hne ho, r⟩⟩ hs'
  done := fun s Q E st hE => y_nextOf_tuple_end hh st.1 st.2 (by simp) hE
end PySem
namespace L2
open PySem PySem.Spec PyProof.Rows
section
variable {X : Cx} {pins : List (Addr × Obj)} {σ : St} {H : Hp} {s : Shared}
/-- two records turn, a tuple is laid -/
theorem Inv.drawn2 {h' : Heap} {t' : Nat} {a b p : Addr} {xs : List V} {us : List Value} (I : Inv X pins σ H s) (fa : FpOk X pins H a) (fb : FpOk X pins H b) (hp : s.heap.objs.size ≤ p)
    (k : ∀ c o, c ≠ a → c ≠ b → s.heap.get? c = some o → h'.get? c = some o) (ka : ∃ o, h'.get? a = some o) (kb : ∃ o, h'.get? b = some o) (hl : xs.length ≤ sizeLine) (r : Vals xs us) (ht : IsTupN h' p us.toArray) :
    Inv X pins σ (upd H p (.tup xs)) { s with heap := h', toks := t' } := by
  have hf : H p = none := I.hok.fresh hp
  have nt : ∀ c u, H c = some u → c ≠ p := fun c u q z => by rw [z, hf] at q; cases q
  have lt : ∀ c o, s.heap.get? c = some o → c ≠ p := fun c o q => Nat.ne_of_lt (Nat.lt_of_lt_of_le (Heap.lt_size q) hp)
  have ne : ∀ c, c ∉ [a, b] → c ≠ a ∧ c ≠ b := fun c hc => by simpa using hc
  refine I.call (g' := s.gens) (d' := s.drawn) (ch := [a, b]) ⟨fun c o e n h1 h2 => k c o (ne c h2).1 (ne c h2).2 e, fun c o e n h1 h2 => ⟨o.slots, k c o (ne c h2).1 (ne c h2).2 e⟩, fun c o e n h2 => by rw [upd_ne (lt c o e)]; exact n,
    fun c o e h2 => ⟨o, k c o (ne c h2).1 (ne c h2).2 e⟩, fun c ys q => by rw [upd_ne (nt c _ q)]; exact q, fun c o u q => by rw [upd_ne (nt c _ q)]; exact q, fun c ps q => ⟨#[], by rw [upd_ne (nt c _ q), q]; simp⟩⟩ (fun c u q => ?_) I.bare fun c hc => ?_
  · by_cases hc : c = p
    · subst hc
      rw [upd_same] at q
      cases q
      exact ⟨hl, us, r, ht⟩
    · rw [upd_ne hc] at q
      refine (I.hok c u q).stay (fun d v hd z => ?_) (fun d z => by rw [upd_ne (nt d _ z)]; exact z) fun d ys z => by rw [upd_ne (nt d _ z)]; exact z
      have nd : ∀ e, H e = none → d ≠ e := fun e he w => by
        rcases hd with rfl | hd
        · rw [w, he] at q; cases q
        · rw [w, he] at hd; cases hd
      exact k d v (nd a fa.1) (nd b fb.1) z
  · have hc' : c = a ∨ c = b := by simpa using hc
    rcases hc' with rfl | rfl
    · obtain ⟨_, f1, _, f3, f4, f5⟩ := fa; exact ⟨f3, f1, f4, f5⟩
    · obtain ⟨_, f1, _, f3, f4, f5⟩ := fb; exact ⟨f3, f1, f4, f5⟩
theorem Inv.turned2 {h' : Heap} {t' : Nat} {a b : Addr} (I : Inv X pins σ H s) (fa : FpOk X pins H a) (fb : FpOk X pins H b)
    (k : ∀ c o, c ≠ a → c ≠ b → s.heap.get? c = some o → h'.get? c = some o) : Inv X pins σ H { s with heap := h', toks := t' } := by
  have ne : ∀ c, c ∉ [a, b] → c ≠ a ∧ c ≠ b := fun c hc => by simpa using hc
  refine I.call (g' := s.gens) (d' := s.drawn) (ch := [a, b]) ⟨fun c o e n h1 h2 => k c o (ne c h2).1 (ne c h2).2 e, fun c o e n h1 h2 => ⟨o.slots, k c o (ne c h2).1 (ne c h2).2 e⟩, fun c o e n h2 => n,
    fun c o e h2 => ⟨o, k c o (ne c h2).1 (ne c h2).2 e⟩, fun c ys q => q, fun c o u q => q, fun c ps q => ⟨#[], by rw [q]; simp⟩⟩ (fun c u q => ?_) I.bare fun c hc => ?_
  · refine (I.hok c u q).stay (fun d v hd z => ?_) (fun d z => z) fun d ys z => z
    have nd : ∀ e, H e = none → d ≠ e := fun e he w => by
      rcases hd with rfl | hd
      · rw [w, he] at q; cases q
      · rw [w, he] at hd; cases hd
    exact k d v (nd a fa.1) (nd b fb.1) z
  · have hc' : c = a ∨ c = b := by simpa using hc
    rcases hc' with rfl | rfl
    · obtain ⟨_, f1, _, f3, f4, f5⟩ := fa; exact ⟨f3, f1, f4, f5⟩
    · obtain ⟨_, f1, _, f3, f4, f5⟩ := fb; exact ⟨f3, f1, f4, f5⟩
/-- one turn of enumerate -/
theorem enum_item {e it : Addr} {fp : List Addr} {n i : Nat} {P : Nat → Value → Prop} {Sx : Nat → Heap → Prop} {old : Value} {xs : List V} {E : Value → Shared → Prop} {elts : List Expr} {kk : Nat} {pos : Pos}
    (D : Draws X.prog X.w X.A.in1 it fp n P Sx) (I : Inv X pins σ H s) (he : IsEnum s.heap e it i old) (hst : Sx i s.heap) (hlt : i < n) (hne : e ≠ it) (hef : e ∉ fp) (fe : FpOk X pins H e) (fi : FpOk X pins H it)
    (hP : ∀ v, P i v → ∃ x, xs[i]? = some x ∧ RelV x v) :
    wpAny (model X.prog X.w) X.A (pyNext (.ref e)) (fun r s1 => ∃ u, r = some u ∧ wpAny (model X.prog X.w) X.A (letOwnedTupleGo (.Tuple elts kk pos) (.ref e) u) (fun _ s2 => ∃ p x, xs[i]? = some x ∧ H p = none ∧ u = .ref p ∧
      Inv X pins σ (upd H p (.tup [.int i, x])) s2 ∧ (∃ old, IsEnum s2.heap e it ((i + 1 : Nat) : Int) old) ∧ Sx (i + 1) s2.heap ∧ p ≠ e ∧ p ≠ it) E s1) E s := by
  refine wpAny_pyNext_enum_itemD D he hst hlt hne hef fun x h' tk hx ho hs' hT hsz hk => ⟨_, rfl, ?_⟩
  refine wpAny_letOwnedTupleGo_enum ho fun h2 he2 hs2 => ?_
  obtain ⟨y, hy, ry⟩ := hP x hx
  have hee : e < s.heap.objs.size := Heap.lt_size he
  have hie : it < s.heap.objs.size := by obtain ⟨_, z⟩ := D.live _ _ hst; exact Heap.lt_size z
  have hst2 : Sx (i + 1) h2 := D.frame _ _ _ hs' fun b hb o z => (hs2.2 b fun q => hef (q ▸ hb)).trans z
  refine ⟨s.heap.objs.size, y, hy, I.hok.fresh (Nat.le_refl _), rfl, ?_, ⟨x, by simpa using he2⟩, hst2, Nat.ne_of_gt hee, Nat.ne_of_gt hie⟩
  refine Inv.drawn2 (s := s) (h' := h2) (t' := tk + 1) I fe fi (Nat.le_refl _) (fun c o h1 h2' z => (hs2.2 c h1).trans (hk c o h1 h2' z)) ⟨_, he2⟩ (let ⟨o, z⟩ := D.live _ _ hst2; ⟨o, z⟩) (by show 2 ≤ sizeLine; decide) (us := [.int i tk, x]) (.cons ⟨tk, rfl⟩ (.cons ry .nil)) ?_
  exact ⟨_, (hs2.2 _ (Nat.ne_of_gt hee)).trans hT, ⟨rfl, _, rfl⟩, rfl⟩
end
/-- enumerate of the list (tuple) at a: a new tuple at each turn -/
def Ite (sq : Hp → List V → Prop) : It :=
  ⟨fun i H => ∃ xs x, sq H xs ∧ xs[i]? = some x, fun i H v H' => ∃ p, H p = none ∧ v = .ref p ∧ ∀ xs, sq H xs → ∃ x, xs[i]? = some x ∧ H' = upd H p (.tup [.int i, x]), fun i H => ∃ xs, sq H xs ∧ xs.length = i⟩
theorem turn_enumL {P : Program} {w : World} {K : PySem.W.Frag} {elts : List Expr} {kk : Nat} {pos : Pos} (a e it : Addr) (hne : e ≠ it) : Turn P w K (.Tuple elts kk pos) (Ite fun H => SqL K H a) [e, it] e (fun i h => (∃ old, IsEnum h e it (i : Int) old) ∧ h.IsListIter it a i) where
  mem := by simp
  obj := fun i h st b hb => by
    obtain ⟨⟨old, he⟩, o, ho, c, d⟩ := st
    have hb' : b = e ∨ b = it := by simpa using hb
    rcases hb' with rfl | rfl
    · exact ⟨_, he, fun v z => by have z' : Data.fields _ = Data.cell v := z; cases z'⟩
    · exact ⟨o, ho, fun v z => by rw [d] at z; cases z⟩
  keep := fun i h h' st k => by
    obtain ⟨⟨old, he⟩, hi⟩ := st
    exact ⟨⟨old, k e (by simp) _ he⟩, hi.at fun o z => k it (by simp) o z⟩
  item := by
    intro X hP hw hK hc i pins s σ H E I hf st hg
    subst hP hw hK
    obtain ⟨xs, x, hq, hx⟩ := hg
    obtain ⟨its, rv, p, hz⟩ := I.list hq
    obtain ⟨⟨old, he⟩, hi⟩ := st
    have hl : i < its.toArray.size := by
      have := (List.getElem?_eq_some_iff.mp hx).1
      have l2 := rv.length
      simp; omega
    have hae : e ≠ a := by
      rintro rfl
      obtain ⟨o, ho, hcl, _⟩ := p.isList
      rw [he] at ho; cases ho
      injection hcl with z; exact absurd z (by decide)
    have hai : a ≠ it := by
      rintro rfl
      obtain ⟨o, ho, hcl, _⟩ := p.isList
      obtain ⟨o2, ho2, hc2, _⟩ := hi
      rw [ho] at ho2; cases ho2; rw [hcl] at hc2
      injection hc2 with z; exact absurd z (by decide)
    refine thn (enum_item (xs := xs) (Draws.list (A := X.A.in1) (I.ok.hd hc) it a hai its.toArray) I he ⟨hi, p.isList⟩ hl hne (by simp only [List.mem_cons, List.not_mem_nil, or_false, not_or]; exact ⟨hne, hae⟩) (hf e (by simp)) (hf it (by simp)) fun v hv => ?_) fun r s1 ⟨u, hr, h1⟩ => ⟨u, hr, thn h1 fun _ s2 ⟨q, y, hy, hqn, hu, I2, he2, hs2, n1, n2⟩ => ?_⟩
    · obtain ⟨u, hu, ru⟩ := rv.get hx
      have e1 : its[i]? = some v := by simpa using hv
      rw [hu] at e1; cases e1
      exact ⟨x, hx, ru⟩
    · refine ⟨.ref q, _, I2, hu, ⟨q, hqn, rfl, fun zs hz' => ⟨y, by rw [I.list_inj hz' hq]; exact hy, rfl⟩⟩, ⟨he2, hs2.1⟩, fun b hb => ?_⟩
      have hb' : b = e ∨ b = it := by simpa using hb
      rcases hb' with rfl | rfl
      · rw [upd_ne (Ne.symm n1)]; exact (hf b (by simp)).1
      · rw [upd_ne (Ne.symm n2)]; exact (hf b (by simp)).1
  done := by
    intro X hP hw hK hc i pins s σ H E I hf st hg
    subst hP hw hK
    obtain ⟨xs, hq, hx⟩ := hg
    obtain ⟨its, rv, p, hz⟩ := I.list hq
    obtain ⟨⟨old, he⟩, hi⟩ := st
    have hl : i = its.toArray.size := by have l2 := rv.length; simp; omega
    have hai : a ≠ it := by
      rintro rfl
      obtain ⟨o, ho, hcl, _⟩ := p.isList
      obtain ⟨o2, ho2, hc2, _⟩ := hi
      rw [ho] at ho2; cases ho2; rw [hcl] at hc2
      injection hc2 with z; exact absurd z (by decide)
    refine wpAny_pyNext_enum_endD (Draws.list (A := X.A.in1) (I.ok.hd hc) it a hai its.toArray) he (by rw [← hl]; exact ⟨hi, p.isList⟩) fun h' hx' => ⟨rfl, ?_⟩
    exact I.turned2 (t' := s.toks) (hf e (by simp)) (hf it (by simp)) fun c o h1 h2 z => hx' c o h2 z
  self := fun _ _ _ _ _ st h => by
    obtain ⟨⟨old, he⟩, _⟩ := st
    exact wpAny_pyIter_enum he h
theorem turn_enumT {P : Program} {w : World} {K : PySem.W.Frag} {elts : List Expr} {kk : Nat} {pos : Pos} (a e it : Addr) (hne : e ≠ it) : Turn P w K (.Tuple elts kk pos) (Ite fun H => SqT K H a) [e, it] e (fun i h => (∃ old, IsEnum h e it (i : Int) old) ∧ h.IsTupleIter it a i) where
  mem := by simp
  obj := fun i h st b hb => by
    obtain ⟨⟨old, he⟩, o, ho, c, d⟩ := st
    have hb' : b = e ∨ b = it := by simpa using hb
    rcases hb' with rfl | rfl
    · exact ⟨_, he, fun v z => by have z' : Data.fields _ = Data.cell v := z; cases z'⟩
    · exact ⟨o, ho, fun v z => by rw [d] at z; cases z⟩
  keep := fun i h h' st k => by
    obtain ⟨⟨old, he⟩, hi⟩ := st
    exact ⟨⟨old, k e (by simp) _ he⟩, hi.at fun o z => k it (by simp) o z⟩
  item := by
    intro X hP hw hK hc i pins s σ H E I hf st hg
    subst hP hw hK
    obtain ⟨xs, x, hq, hx⟩ := hg
    obtain ⟨its, rv, p, hz⟩ := I.tuple hq
    have pt : s.heap.IsTuple a its.toArray := p
    obtain ⟨⟨old, he⟩, hi⟩ := st
    have hl : i < its.toArray.size := by
      have := (List.getElem?_eq_some_iff.mp hx).1
      have l2 := rv.length
      simp; omega
    have hae : e ≠ a := by
      rintro rfl
      obtain ⟨o, ho, hcl, _⟩ := pt
      rw [he] at ho; cases ho
      injection hcl with z; exact absurd z (by decide)
    have hai : a ≠ it := by
      rintro rfl
      obtain ⟨o, ho, hcl, _⟩ := pt
      obtain ⟨o2, ho2, hc2, _⟩ := hi
      rw [ho] at ho2; cases ho2; rw [hcl] at hc2
      injection hc2 with z; exact absurd z (by decide)
    refine thn (enum_item (xs := xs) (y_Draws_tuple (A := X.A.in1) (I.ok.hd hc) it a hai its.toArray) I he ⟨hi, pt⟩ hl hne (by simp only [List.mem_cons, List.not_mem_nil, or_false, not_or]; exact ⟨hne, hae⟩) (hf e (by simp)) (hf it (by simp)) fun v hv => ?_) fun r s1 ⟨u, hr, h1⟩ => ⟨u, hr, thn h1 fun _ s2 ⟨q, y, hy, hqn, hu, I2, he2, hs2, n1, n2⟩ => ?_⟩
    · obtain ⟨u, hu, ru⟩ := rv.get hx
      have e1 : its[i]? = some v := by simpa using hv
      rw [hu] at e1; cases e1
      exact ⟨x, hx, ru⟩
    · refine ⟨.ref q, _, I2, hu, ⟨q, hqn, rfl, fun zs hz' => ⟨y, by rw [I.tuple_inj hz' hq]; exact hy, rfl⟩⟩, ⟨he2, hs2.1⟩, fun b hb => ?_⟩
      have hb' : b = e ∨ b = it := by simpa using hb
      rcases hb' with rfl | rfl
      · rw [upd_ne (Ne.symm n1)]; exact (hf b (by simp)).1
      · rw [upd_ne (Ne.symm n2)]; exact (hf b (by simp)).1
  done := by
    intro X hP hw hK hc i pins s σ H E I hf st hg
    subst hP hw hK
    obtain ⟨xs, hq, hx⟩ := hg
    obtain ⟨its, rv, p, hz⟩ := I.tuple hq
    have pt : s.heap.IsTuple a its.toArray := p
    obtain ⟨⟨old, he⟩, hi⟩ := st
    have hl : i = its.toArray.size := by have l2 := rv.length; simp; omega
    have hai : a ≠ it := by
      rintro rfl
      obtain ⟨o, ho, hcl, _⟩ := pt
      obtain ⟨o2, ho2, hc2, _⟩ := hi
      rw [ho] at ho2; cases ho2; rw [hcl] at hc2
      injection hc2 with z; exact absurd z (by decide)
    refine wpAny_pyNext_enum_endD (y_Draws_tuple (A := X.A.in1) (I.ok.hd hc) it a hai its.toArray) he (by rw [← hl]; exact ⟨hi, pt⟩) fun h' hx' => ⟨rfl, ?_⟩
    exact I.turned2 (t' := s.toks) (hf e (by simp)) (hf it (by simp)) fun c o h1 h2 z => hx' c o h2 z
  self := fun _ _ _ _ _ st h => by
    obtain ⟨⟨old, he⟩, _⟩ := st
    exact wpAny_pyIter_enum he h
section
variable {X : Cx} {elts : List Expr} {kk : Nat} {tpos p pos : Pos} {a : Expr} {ta : TE}
def iEnL (K : PySem.W.Frag) (t : TA) : TI := fun σ H R => t σ H fun vs H1 => ∃ a, vs = [.ref a] ∧ (∃ xs, SqL K H1 a xs) ∧ R (Ite fun H => SqL K H a) H1
def iEnT (K : PySem.W.Frag) (t : TA) : TI := fun σ H R => t σ H fun vs H1 => ∃ a, vs = [.ref a] ∧ (∃ xs, SqT K H1 a xs) ∧ R (Ite fun H => SqT K H a) H1
theorem pi_enumL {t : TA} (hg : Gl X "enumerate") (hm : X.mg "enumerate" = none) (ha : PA X [a] t) (hs : starEach [a] X.env = [(false, eval a X.env)] := by rfl) : PI X (.Tuple elts kk tpos) (.Call (.Name "enumerate" p) [a] [] pos) (iEnL X.K t) := by
  intro pins s σ H R I h
  refine Call_ (ld_blt I hg hm boot_enumerate (PyProof.Rows.callWith_type1 (thn (ha pos pins s σ H _ I h) fun us s1 ⟨vs, H1, I1, r1, q1⟩ => ?_) hs rfl))
  obtain ⟨l, e, ⟨xs, hq⟩, q⟩ := q1
  subst e
  cases r1 with
  | cons r rr =>
    cases rr
    cases r
    obtain ⟨its, rv, pp, hz⟩ := I1.list hq
    refine call_enumerate_list pp.isList fun h' he hit hsz hk => ?_
    have I2 : Inv X pins σ H1 { s1 with heap := h' } := I1.kept (t' := s1.toks) hk
    refine wpAny_pyIter_enum (s := { s1 with heap := h' }) he ?_
    refine ⟨_, _, _, _, H1, rfl, I2, turn_enumL l _ s1.heap.objs.size (Nat.succ_ne_self _), ⟨⟨_, he⟩, hit⟩, fun b hb => ?_, q⟩
    have hb' : b = s1.heap.objs.size + 1 ∨ b = s1.heap.objs.size := by simpa using hb
    have hle : s1.heap.objs.size ≤ b := by
      rcases hb' with e | e
      · rw [e]; exact Nat.le_succ _
      · rw [e]; exact Nat.le_refl _
    exact I1.fpOk hle (I1.hok.fresh hle)
theorem pi_enumT {t : TA} (hg : Gl X "enumerate") (hm : X.mg "enumerate" = none) (ha : PA X [a] t) (hs : starEach [a] X.env = [(false, eval a X.env)] := by rfl) : PI X (.Tuple elts kk tpos) (.Call (.Name "enumerate" p) [a] [] pos) (iEnT X.K t) := by
  intro pins s σ H R I h
  refine Call_ (ld_blt I hg hm boot_enumerate (PyProof.Rows.callWith_type1 (thn (ha pos pins s σ H _ I h) fun us s1 ⟨vs, H1, I1, r1, q1⟩ => ?_) hs rfl))
  obtain ⟨l, e, ⟨xs, hq⟩, q⟩ := q1
  subst e
  cases r1 with
  | cons r rr =>
    cases rr
    cases r
    obtain ⟨its, rv, pp, hz⟩ := I1.tuple hq
    refine y_call_enumerate_tuple (show s1.heap.IsTuple l its.toArray from pp) fun h' he hit hsz hk => ?_
    have I2 : Inv X pins σ H1 { s1 with heap := h' } := I1.kept (t' := s1.toks) hk
    refine wpAny_pyIter_enum (s := { s1 with heap := h' }) he ?_
    refine ⟨_, _, _, _, H1, rfl, I2, turn_enumT l _ s1.heap.objs.size (Nat.succ_ne_self _), ⟨⟨_, he⟩, hit⟩, fun b hb => ?_, q⟩
    have hb' : b = s1.heap.objs.size + 1 ∨ b = s1.heap.objs.size := by simpa using hb
    have hle : s1.heap.objs.size ≤ b := by
      rcases hb' with e | e
      · rw [e]; exact Nat.le_succ _
      · rw [e]; exact Nat.le_refl _
    exact I1.fpOk hle (I1.hok.fresh hle)
end
/-- over enumerate of what the body leaves as it is -/
theorem for_enum {sq : Hp → List V → Prop} {xs : List V} {g : TG} {tb : TS} {D : Ends} {σ : St} {H : Hp} (Pv : Nat → St → Hp → Prop) (h0 : Pv 0 σ H) (hl : ∀ i σ H, i ≤ xs.length → Pv i σ H → sq H xs)
    (hs : ∀ i x p σ H, xs[i]? = some x → Pv i σ H → H p = none → g (.ref p) σ (upd H p (.tup [.int i, x])) fun σ2 H2 => tb { D with nx := Pv (i + 1), ct := Pv (i + 1), bk := D.nx } σ2 H2) (hd : ∀ σ H, Pv xs.length σ H → D.nx σ H) :
    ∃ W : Nat → Nat → St → Hp → Prop, (∃ m, W 0 m σ H) ∧ ∀ i m σ H, W i m σ H →
      ((Ite sq).stop i H ∧ D.nx σ H) ∨ ((Ite sq).go i H ∧ ∃ N : St → Hp → Prop, (∀ σ' H', N σ' H' → ∃ m', m' < m ∧ W (i + 1) m' σ' H') ∧ ∀ x H', (Ite sq).yld i H x H' → g x σ H' fun σ2 H2 => tb { D with nx := N, ct := N, bk := D.nx } σ2 H2) := by
  refine ⟨fun i m σ H => m = xs.length - i ∧ i ≤ xs.length ∧ Pv i σ H, ⟨xs.length, by simp, Nat.zero_le _, h0⟩, ?_⟩
  rintro i m σ H ⟨rfl, hi, p⟩
  have q := hl i σ H hi p
  by_cases hlt : i < xs.length
  · refine .inr ⟨⟨xs, xs[i], q, by simp [hlt]⟩, Pv (i + 1), fun σ' H' p' => ⟨xs.length - (i + 1), by omega, rfl, hlt, p'⟩, fun x H' y => ?_⟩
    obtain ⟨pp, hn, rfl, hx⟩ := y
    obtain ⟨x', hx', e⟩ := hx xs q
    subst e
    exact hs i x' pp σ H hx' p hn
  · have e : i = xs.length := by omega
    subst e
    exact .inl ⟨⟨xs, q, rfl⟩, hd σ H p⟩
end L2
namespace L2
open PySem PySem.Spec PyProof.Rows
/-! ### == of deep things that are the same -/
def Shp (d : PyData) (m : Nat) : Prop := d.canLay0 = true ∧ d.depth ≤ m
theorem Shp.shaped {d : PyData} {m : Nat} (h : Shp d m) (hm : m ≤ 64) : SeqAt.shaped d = true := by
  unfold SeqAt.shaped
  rw [h.1, decide_eq_true (Nat.le_trans h.2 hm)]; rfl
theorem shp_int (i : Int) : Shp (.int i) 0 := ⟨by simp [PyData.canLay0], by simp [PyData.depth]⟩
theorem shp_bool (b : Bool) : Shp (.bool b) 0 := ⟨by simp [PyData.canLay0], by simp [PyData.depth]⟩
theorem shp_none : Shp .none 0 := ⟨by simp [PyData.canLay0], by simp [PyData.depth]⟩
theorem shpAll {m : Nat} : ∀ {ds : List PyData}, (∀ d ∈ ds, Shp d m) → PyData.canLayAll0 ds = true ∧ PyData.depthAll ds ≤ m
  | [], _ => ⟨by simp [PyData.canLayAll0], by simp [PyData.depthAll]⟩
  | d :: r, h => by
    obtain ⟨a, b⟩ := shpAll (ds := r) fun z hz => h z (List.mem_cons_of_mem _ hz)
    obtain ⟨c, e⟩ := h d List.mem_cons_self
    exact ⟨by simp [PyData.canLayAll0, c, a], by simp only [PyData.depthAll]; omega⟩
theorem shp_list {m : Nat} {ds : List PyData} (h : ∀ d ∈ ds, Shp d m) : Shp (.list ds) (m + 1) := by
  obtain ⟨a, b⟩ := shpAll h
  exact ⟨by simp [PyData.canLay0, a], by simp only [PyData.depth]; omega⟩
theorem shp_tuple {m : Nat} {ds : List PyData} (h : ∀ d ∈ ds, Shp d m) : Shp (.tuple ds) (m + 1) := by
  obtain ⟨a, b⟩ := shpAll h
  exact ⟨by simp [PyData.canLay0, a], by simp only [PyData.depth]; omega⟩
theorem neS {K : PySem.W.Frag} {x y : V} {H : Hp} {Q : VK} {d : PyData} (h1 : Den K H x d) (h2 : Den K H y d) (s : Shp d 64) (q : Q (.bl false) H) : rNeD K x y H Q :=
  ⟨d, d, h1, h2, s.shaped (Nat.le_refl _), s.shaped (Nat.le_refl _), by rw [SeqAt.eqv_refl d s.1]; exact q⟩
theorem eqS {K : PySem.W.Frag} {x y : V} {H : Hp} {Q : VK} {d : PyData} (h1 : Den K H x d) (h2 : Den K H y d) (s : Shp d 64) (q : Q (.bl true) H) : rEqD K x y H Q :=
  ⟨d, d, h1, h2, s.shaped (Nat.le_refl _), s.shaped (Nat.le_refl _), by rw [SeqAt.eqv_refl d s.1]; exact q⟩
theorem Shp.le {d : PyData} {m n : Nat} (h : Shp d m) (l : m ≤ n) : Shp d n := ⟨h.1, Nat.le_trans h.2 l⟩
end L2
namespace L2
open PySem
/-! comprehensions whose test and element leave the heap as it is -/
theorem comp_rng {n : Nat} {lo : Int} {g : TG} {tt : TT} {te : TE} {σ0 : St} {H : Hp} {Q : VK} (p : Nat → Bool) (f : Nat → V) (hn : n < sizeLine)
    (hs : ∀ (i : Nat) (acc : List V) (N : List V → Hp → Prop), i < n → N (if p i then acc ++ [f i] else acc) H → g (.int (lo + i)) σ0 H fun σ2 H2 => tt σ2 H2 fun b H3 => if b = true then te σ2 H3 fun y H4 => N (acc ++ [y]) H4 else N acc H3)
    (hq : ∀ D, H D = none → Q (.ref D) (upd H D (.lst (((List.range n).filter p).map f)))) :
    CompR (Itr lo n) g tt te σ0 Q H := by
  refine ⟨fun i m acc H' => m = n - i ∧ i ≤ n ∧ H' = H ∧ acc = ((List.range i).filter p).map f, ⟨n, by simp, Nat.zero_le _, rfl, rfl⟩, ?_⟩
  rintro i m acc H' ⟨rfl, hi, rfl, rfl⟩
  have hl : (((List.range i).filter p).map f).length < sizeLine := by
    rw [List.length_map]
    have := List.length_filter_le p (List.range i)
    rw [List.length_range] at this
    omega
  refine ⟨hl, ?_⟩
  by_cases hlt : i < n
  · refine .inr ⟨hlt, fun acc' H2 => H2 = H' ∧ acc' = ((List.range (i + 1)).filter p).map f, fun acc' H2 ⟨h1, h2⟩ => ⟨n - (i + 1), by omega, rfl, hlt, h1, h2⟩, fun x H2 y => ?_⟩
    obtain ⟨e, y⟩ := y
    subst e y
    refine hs i _ (fun acc' H3 => H3 = H2 ∧ acc' = ((List.range (i + 1)).filter p).map f) hlt ⟨rfl, ?_⟩
    rw [List.range_succ, List.filter_append]
    cases hp : p i with
    | true => simp [hp]
    | false => simp [hp]
  · have e : i = n := by omega
    subst e
    exact .inl ⟨Nat.le_refl _, hq⟩
theorem comp_lst {K : PySem.W.Frag} {a : Addr} {xs : List V} {g : TG} {tt : TT} {te : TE} {σ0 : St} {H : Hp} {Q : VK} (p : V → Bool) (f : V → V) (hn : xs.length < sizeLine) (ha : SqL K H a xs)
    (hs : ∀ (x : V) (acc : List V) (N : List V → Hp → Prop), x ∈ xs → N (if p x then acc ++ [f x] else acc) H → g x σ0 H fun σ2 H2 => tt σ2 H2 fun b H3 => if b = true then te σ2 H3 fun y H4 => N (acc ++ [y]) H4 else N acc H3)
    (hq : ∀ D, H D = none → Q (.ref D) (upd H D (.lst ((xs.filter p).map f)))) :
    CompR (Itl K a) g tt te σ0 Q H := by
  refine ⟨fun i m acc H' => m = xs.length - i ∧ i ≤ xs.length ∧ H' = H ∧ acc = ((xs.take i).filter p).map f, ⟨xs.length, by simp, Nat.zero_le _, rfl, rfl⟩, ?_⟩
  rintro i m acc H' ⟨rfl, hi, rfl, rfl⟩
  have hl : (((xs.take i).filter p).map f).length < sizeLine := by
    rw [List.length_map]
    have h1 := List.length_filter_le p (xs.take i)
    have h2 := List.length_take_le i xs
    omega
  refine ⟨hl, ?_⟩
  by_cases hlt : i < xs.length
  · refine .inr ⟨⟨xs, xs[i], ha, by simp [hlt]⟩, fun acc' H2 => H2 = H' ∧ acc' = ((xs.take (i + 1)).filter p).map f, fun acc' H2 ⟨h1, h2⟩ => ⟨xs.length - (i + 1), by omega, rfl, hlt, h1, h2⟩, fun x H2 y => ?_⟩
    obtain ⟨e, y⟩ := y
    subst e
    have hx := y xs ha
    refine hs x _ (fun acc' H3 => H3 = H2 ∧ acc' = ((xs.take (i + 1)).filter p).map f) (List.mem_of_getElem? hx) ⟨rfl, ?_⟩
    rw [List.take_succ, hx, List.filter_append]
    cases hp : p x with
    | true => simp [hp]
    | false => simp [hp]
  · have e : i = xs.length := by omega
    subst e
    rw [List.take_length]
    exact .inl ⟨⟨xs, ha, Nat.le_refl _⟩, hq⟩
end L2
namespace L2
open PySem PySem.Spec PyProof.Rows
section
open PySem.W
variable {prog : Program} {w : World} {A : Around} {E : Value → Shared → Prop} {s : Shared} {K : PySem.W.Frag} {x C : Addr} {name : Str} {v : Value}
/-- a further attribute of an exception -/
theorem set_exc1 {d : Addr} {vs : Array Value} {mA : Str → Option Value} {ns : List Str} {Q : Unit → Shared → Prop} (X : K.In s.heap) (hx : s.heap.get? x = some ⟨.ref C, some d, .fields vs, #[]⟩) (hn : s.heap.Ns1 d mA) (hw : PySem.Within mA ns) (hl : ns.length < sizeLine) (c : XCls K C) (ht : PySem.W.findIn K (.ref C) name = some none)
    (h : ∀ h' t', h'.Ns1 d (fun y => if y = name then some v else mA y) → (∀ b, b ≠ d → h'.get? b = s.heap.get? b) → Q () { s with heap := h', toks := t' }) :
    wpAny (model prog w) A (setAttr (.ref x) name v) Q E s := by
  obtain ⟨od, es, ep, hod, hr⟩ := id hn
  have I : PySem.W.InstAt s.heap x ⟨.ref C, some d, .fields vs, #[]⟩ C (some od) := ⟨hx, rfl, rfl, hod⟩
  refine PySem.W.set_plain X I c.sa (osa_exc (s := { s with toks := s.toks + 1 }) X I c.mro ht fun b => ?_)
  obtain ⟨cd, hc, hd'⟩ := PySem.W.any_some c.hd
  obtain ⟨hp, g, dr, t, os⟩ := s
  dsimp only at X hx h I hn hod ⊢
  refine wpAny_bind (wpAny_pure (wpAny_bind (wpAny_bind (wpAny_loadPart hx (wpAny_bind (PySem.W.Looks.here (s := ⟨hp, g, dr, t + 1, os⟩) (PySem.W.looks_clsIn X hc) ?_))))))
  rw [hd']
  rw [if_neg (by decide)]
  dsimp only
  refine wpAny_pure ?_
  show wpAny _ _ (Builtin.ObjectAttr.storeInDict d (.str name t) name v) _ _ _
  unfold Builtin.ObjectAttr.storeInDict Builtin.ObjectAttr.newKeyGuard
  refine wpAny_bind (wpAny_pure (wpAny_bind (wpAny_nsSet1 hn fun h' hn' hs => ?_)))
  obtain ⟨oD, esD, epD, hoD, hdD, hcD⟩ := hn'.count (Within.cons name v hw)
  refine wpAny_bind (wpAny_lookBehind hoD (by rw [hdD]; exact pastItsLine_dict (Nat.le_trans hcD (by rw [List.length_cons]; omega))) ?_)
  exact wpAny_pure (h h' _ hn' fun b hb => hs.2 b hb)
end
/-- the dict of an exception, not yet done -/
def XdP (d : Addr) (fs : List (Str × V)) : Heap → Prop := fun h => ∃ mA, h.Ns1 d mA ∧ ∀ f, RelO (fs.lookup f) (mA f)
theorem xdP_ok {P : Program} {w : World} {H : Hp} {h : Heap} {d : Addr} {fs : List (Str × V)} (x : XdP d fs h) : ObjOk P w H h d (.ext (XdP d fs)) := by
  refine ⟨x, ?_, fun h1 h2 ⟨mA, ⟨od, es, ep, e, c⟩, r⟩ k => ⟨mA, ⟨od, es, ep, k _ e, c⟩, r⟩⟩
  obtain ⟨mA, ⟨od, es, ep, e, c⟩, r⟩ := x
  exact ⟨od, e⟩
def sFldXa (K : PySem.W.Frag) (ta tv : TE) (f : Str) : TS := fun D σ H => tv σ H fun y H1 => ta σ H1 fun x H2 => ∃ a C tt, x = .ref a ∧ H2 a = some (ExcAt a C tt none) ∧ XCls K C ∧ PySem.W.findIn K (.ref C) f = some none ∧
  ∀ d, H2 d = none → D.nx σ (upd (upd H2 d (.ext (XdP d [(f, y)]))) a (ExcAt a C tt (some d)))
def sFldXb (K : PySem.W.Frag) (ta tv : TE) (f : Str) : TS := fun D σ H => tv σ H fun y H1 => ta σ H1 fun x H2 => ∃ a C tt d fs, x = .ref a ∧ H2 a = some (ExcAt a C tt (some d)) ∧ H2 d = some (.ext (XdP d fs)) ∧ fs.length < 1000 ∧ XCls K C ∧ PySem.W.findIn K (.ref C) f = some none ∧
  D.nx σ (upd H2 d (.xd (putF f y fs)))
section
variable {X : Cx} {o e value : Expr} {f : Str} {pos pos' : Pos} {ta tv : TE}
theorem ps_fldXa (ha : PE X o ta) (hv : PE X value tv) (hs : swapsWith value (some (.Attribute o f pos')) pos.line X.env = pure false) : PS X (.Assign [.Attribute o f pos'] value pos) (sFldXa X.K ta tv f) := by
  intro pins s σ H D I h
  refine plainObj_wpAny_Assign_Attribute (thn (hv pins s σ H _ I h) fun u s1 ⟨y, H1, I1, ry, q⟩ => thn (ha pins s1 σ H1 _ I1 q) fun ov s2 ⟨x, H2, I2, rx, a, C, tt, ex, ea, c, n, q2⟩ => ?_) hs
  subst ex
  obtain rfl : ov = Value.ref a := rx
  have ho : s2.heap.get? a = some (excObj C tt none) := (I2.hok a _ ea).1
  have hlt : a < s2.heap.objs.size := Heap.lt_size ho
  refine set_exc0 I2.kIn ho c n fun h' t' hx' hn' hk => ⟨σ, _, ?_, q2 s2.heap.objs.size (I2.hok.fresh (Nat.le_refl _))⟩
  obtain ⟨od, es, ep, hod, r⟩ := id hn'
  have hfr : od.isFreed = false := (Heap.get?_some_iff.mp hod).2
  have hpush : (s2.heap.push od).get? s2.heap.objs.size = some od := Heap.get?_push_size s2.heap hfr
  have I3 := I2.laid (a := s2.heap.objs.size) (o := .ext (XdP s2.heap.objs.size [(f, y)])) (h' := s2.heap.push od) (t' := s2.toks) (fun b u z => Heap.get?_push_of_some _ z) (Nat.le_refl _)
    (xdP_ok ⟨_, hn'.at (fun o z => by rw [hod] at z; cases z; exact hpush), fun g => by
      by_cases hg : g = f
      · have hb : (g == f) = true := beq_iff_eq.mpr hg
        simp only [List.lookup, hb, if_pos hg]
        exact ry
      · have hb : (g == f) = false := beq_eq_false_iff_ne.mpr hg
        simp only [List.lookup, hb, if_neg hg]
        trivial⟩)
  have hne : a ≠ s2.heap.objs.size := Nat.ne_of_lt hlt
  refine I3.write (x := a) (e := a) (h' := h') (t' := t') (by rw [upd_ne hne, ea]; exact True.intro) (.inl rfl) (fun b u hb z => ?_) ⟨_, hx'⟩ (excAt_ok hx')
  by_cases hbs : b = s2.heap.objs.size
  · subst hbs
    have z' : (s2.heap.push od).get? s2.heap.objs.size = some u := z
    rw [hpush] at z'
    cases z'
    exact hod
  · have z' : s2.heap.get? b = some u := by
      have z0 : (s2.heap.push od).get? b = some u := z
      exact (Heap.get?_push_cases z0).elim (fun w => absurd w.1 hbs) fun w => w
    exact hk b u hb z'
theorem ps_fldXb (ha : PE X o ta) (hv : PE X value tv) (hs : swapsWith value (some (.Attribute o f pos')) pos.line X.env = pure false) : PS X (.Assign [.Attribute o f pos'] value pos) (sFldXb X.K ta tv f) := by
  intro pins s σ H D I h
  refine plainObj_wpAny_Assign_Attribute (thn (hv pins s σ H _ I h) fun u s1 ⟨y, H1, I1, ry, q⟩ => thn (ha pins s1 σ H1 _ I1 q) fun ov s2 ⟨x, H2, I2, rx, a, C, tt, d, fs, ex, ea, ed, hfl, c, n, q2⟩ => ?_) hs
  subst ex
  obtain rfl : ov = Value.ref a := rx
  have ho : s2.heap.get? a = some (excObj C tt (some d)) := (I2.hok a _ ea).1
  obtain ⟨⟨mA, hn, hr⟩, _⟩ := I2.hok d _ ed
  have hw : PySem.Within mA (fs.map (·.1)) := fun g hg => by
    have r := hr g
    cases hl : fs.lookup g with
    | none => rw [hl] at r; cases hm : mA g with
      | none => exact absurd hm hg
      | some z => rw [hm] at r; exact r.elim
    | some z =>
      have : ∀ {l : List (Str × V)}, l.lookup g = some z → g ∈ l.map (·.1) := by
        intro l
        induction l with
        | nil => intro h; cases h
        | cons p l ih =>
          intro h
          rw [List.map_cons, List.mem_cons]
          by_cases e : g = p.1
          · exact .inl e
          · have hb : (g == p.1) = false := beq_eq_false_iff_ne.mpr e
            obtain ⟨p1, p2⟩ := p
            simp only [List.lookup, hb] at h
            exact .inr (ih h)
      exact this hl
  refine set_exc1 I2.kIn ho hn hw (by rw [List.length_map, sizeLine_eq]; omega) c n fun h' t' hn' hk => ⟨σ, _, ?_, q2⟩
  refine I2.write (x := d) (e := d) (h' := h') (t' := t') (by rw [ed]; exact True.intro) (.inl rfl) (fun b u hb z => ?_) ?_ ⟨_, hn', fun g => ?_⟩
  · exact (hk b hb).trans z
  · obtain ⟨od, _, _, hod, _⟩ := hn'
    exact ⟨od, hod⟩
  · rw [lookup_putF]
    by_cases e : g = f
    · rw [if_pos e]; simp only [if_pos e]; exact ry
    · rw [if_neg e]; simp only [if_neg e]; exact hr g
end
end L2
namespace L2
open PySem
/-! ### None or a whole number, as a part of a key -/
def isOpt : Option Int → Value → Bool
  | none, v => v == .none
  | some k, v => Value.isInt k v
def optHash : Option Int → Int
  | none => 4238894112
  | some k => hashInt k
theorem isOpt_shape {k : Option Int} {v : Value} (h : isOpt k v = true) : (k = none ∧ v = .none) ∨ ∃ i t, k = some i ∧ v = .int i t := by
  cases k with
  | none => exact .inl ⟨rfl, eq_of_beq h⟩
  | some i => obtain ⟨t, e⟩ := Value.isInt_shape h; exact .inr ⟨i, t, rfl, e⟩
section
variable {prog : Program} {w : World} {A : Around} {E : Value → Shared → Prop} {s : Shared}
theorem hash_none {Q : Int → Shared → Prop} (h : Q 4238894112 { s with toks := s.toks + 1 }) : wpAny (model prog w) A (pyHash .none) Q E s := by
  have hT : s.TypeIs .none "NoneType" := rfl
  unfold pyHash
  have hv : [Value.none].any Value.onHeap = false := rfl
  refine wpAny_bind ?_
  rw [cRoomFor, if_neg (by rw [hv]; exact Bool.false_ne_true)]; refine wpAny_pure ?_
  refine wpAny_bind (wpAny_specialOf hT F.slot_NoneType_hash.lookup ?_)
  show wpAny _ _ (if (some (Value.builtin "NoneType.__hash__") == some Value.none) = true then _ else _) Q E s
  rw [if_neg (by rw [beq_builtin_none]; exact Bool.false_ne_true)]
  refine wpAny_bind (wpAny_specialOf hT F.slot_NoneType_hash.lookup ?_)
  show wpAny _ _ (callSpecialIfBoundUnlessNone? .none "__hash__" _ >>= _) Q E s
  refine wpAny_bind (wpAny_callSpecialIfBoundUnlessNone?_slot hT F.slot_NoneType_hash (wpAny_call_entry F.slot_NoneType_hash hT F.entry_NoneType_hash
    (show wpAny _ _ (do ret (← mkInt 4238894112)) _ _ s from wpAny_ret_mkInt ?_) (F.args_NoneType_hash_1 _)))
  exact wpAny_pure h
theorem eq_opt {a b : Option Int} {u v : Value} {Q : Bool → Shared → Prop} (hu : isOpt a u = true) (hv : isOpt b v = true) (h : Q (decide (a = b)) s) : wpAny (model prog w) A (PySem.eqBool u v) Q E s := by
  rcases isOpt_shape hu with ⟨rfl, rfl⟩ | ⟨i, t, rfl, rfl⟩ <;> rcases isOpt_shape hv with ⟨rfl, rfl⟩ | ⟨j, t', rfl, rfl⟩
  · unfold eqBool
    refine wpAny_holding ?_
    refine wpAny_ite_split (fun _ => wpAny_bind (wpAny_rule (wpAny_pure (by simpa using h)))) (fun n => absurd rfl n)
  · exact PySem.SeqAt.EqAt.none_int j t' prog w E Q (by simpa using h)
  · exact PySem.SeqAt.EqAt.int_none i t prog w E Q (by simpa using h)
  · refine wpAny_eqBool_int ?_
    have e : (i == j) = decide (some i = some j) := by
      by_cases q : i = j
      · simp [q]
      · simp [q]
    rw [e]; exact h
end
def optKind (prog : Program) (w : World) : KeyKind prog w (Option Int) where
  is := isOpt
  hash := optHash
  inj := fun v a b ha hb => by
    rcases isOpt_shape ha with ⟨rfl, rfl⟩ | ⟨i, t, rfl, rfl⟩ <;> rcases isOpt_shape hb with ⟨rfl, e⟩ | ⟨j, t', rfl, e⟩
    · rfl
    · cases e
    · cases e
    · cases e; rfl
  byValue := fun k v h => by
    rcases isOpt_shape h with ⟨_, rfl⟩ | ⟨i, t, _, rfl⟩ <;> rfl
  pyHash := fun {A E s k v Q} hv h => by
    rcases isOpt_shape hv with ⟨rfl, rfl⟩ | ⟨i, t, rfl, rfl⟩
    · exact hash_none h
    · exact wpAny_pyHash_int h
  eqBool := fun hu hv h => eq_opt hu hv h
  «strs» := fun k x t v h => by
    rcases isOpt_shape h with ⟨_, e⟩ | ⟨i, t, _, e⟩ <;> cases e
end L2
namespace L2
open PySem PySem.Spec PyProof.Rows
/-! ### a dict whose keys are tuples of whole numbers and None -/
abbrev Oks := List (Option Int)
def okV : Option Int → V
  | none => .non
  | some i => .int i
abbrev Ent := Oks × Addr × V
abbrev EntR (p : Ent) (q : Oks × Addr × Value) : Prop := p.1 = q.1 ∧ p.2.1 = q.2.1 ∧ RelV p.2.2 q.2.2
def DicP (P : Program) (w : World) (a : Addr) (kvs : List Ent) : Heap → Prop := fun h => kvs.length ≤ sizeLine ∧ (a == sysModules) = false ∧ ∃ xs, Paired EntR kvs xs ∧
  ∃ o es ep, h.get? a = some o ∧ o.ExactDict ∧ o.data = .dict es ep ∧ es.toList = xs.map (entryOfKey (tupleKind (optKind P w))) ∧ (xs.map (·.1)).Nodup
def DicO (P : Program) (w : World) (a : Addr) (kvs : List Ent) : HO := .ext (DicP P w a kvs)
/-- the dict at a, and the tuples of its keys -/
def DicAt (P : Program) (w : World) (H : Hp) (a : Addr) (kvs : List Ent) : Prop := H a = some (DicO P w a kvs) ∧ ∀ x ∈ kvs, H x.2.1 = some (.tup (x.1.map okV))
theorem DicAt.same {P : Program} {w : World} {H H' : Hp} {a : Addr} {kvs : List Ent} (h : DicAt P w H a kvs) (s : Same H H') : DicAt P w H' a kvs := ⟨s _ _ h.1, fun x hx => s _ _ (h.2 x hx)⟩
def valO (kvs : List Ent) (k : Oks) : Option V := (kvs.find? fun x => decide (x.1 = k)).map (·.2.2)
def putE (k : Oks) (v : V) (x : Ent) : Ent := if x.1 = k then (x.1, x.2.1, v) else x
def putO (kvs : List Ent) (k : Oks) (b : Addr) (v : V) : List Ent := if (valO kvs k).isSome then kvs.map (putE k v) else kvs ++ [(k, b, v)]
theorem valO_nil {k : Oks} : valO [] k = none := rfl
theorem valO_cons {x : Ent} {kvs : List Ent} {k : Oks} : valO (x :: kvs) k = if x.1 = k then some x.2.2 else valO kvs k := by
  unfold valO
  rw [List.find?_cons]
  by_cases h : x.1 = k
  · rw [decide_eq_true h, if_pos h]; rfl
  · rw [decide_eq_false h, if_neg h]
theorem valO_map {kvs : List Ent} {k k' : Oks} {v : V} : valO (kvs.map (putE k v)) k' = if k' = k then (valO kvs k).map (fun _ => v) else valO kvs k' := by
  induction kvs with
  | nil => rw [List.map_nil, valO_nil, valO_nil]; split <;> rfl
  | cons x kvs ih =>
    rw [List.map_cons, valO_cons, ih, valO_cons, valO_cons]
    unfold putE
    by_cases h : x.1 = k <;> by_cases h' : k' = k
    · have : x.1 = k' := h.trans h'.symm
      simp [h, h']
    · have : ¬ x.1 = k' := fun z => h' (z.symm.trans h)
      rw [if_pos h, if_neg h', if_neg this, if_neg this, if_neg h']
    · subst h'
      simp [h]
    · simp [h, h']
theorem valO_append {kvs : List Ent} {k k' : Oks} {b : Addr} {v : V} (h : valO kvs k = none) : valO (kvs ++ [(k, b, v)]) k' = if k' = k then some v else valO kvs k' := by
  induction kvs with
  | nil =>
    rw [List.nil_append, valO_cons, valO_nil]
    by_cases e : k' = k
    · rw [if_pos e, if_pos e.symm]
    · rw [if_neg e, if_neg (Ne.symm e)]
  | cons x kvs ih =>
    rw [valO_cons] at h
    by_cases hx : x.1 = k
    · rw [if_pos hx] at h; cases h
    · rw [if_neg hx] at h
      rw [List.cons_append, valO_cons, ih h, valO_cons]
      by_cases e : k' = k
      · subst e; rw [if_neg hx, if_pos rfl, if_pos rfl]
      · rw [if_neg e, if_neg e]
theorem valO_put {kvs : List Ent} {k k' : Oks} {b : Addr} {v : V} : valO (putO kvs k b v) k' = if k' = k then some v else valO kvs k' := by
  unfold putO
  cases h : valO kvs k with
  | none => rw [if_neg (by simp)]; exact valO_append h
  | some u =>
    rw [if_pos (by simp), valO_map, h]; rfl
theorem putO_length {kvs : List Ent} {k : Oks} {b : Addr} {v : V} : (putO kvs k b v).length ≤ kvs.length + 1 := by
  unfold putO
  split
  · rw [List.length_map]; omega
  · rw [List.length_append]; exact Nat.le_refl _
theorem putO_keys {kvs : List Ent} {k : Oks} {b : Addr} {v : V} {F : Oks → Addr → Prop} (h : ∀ x ∈ kvs, F x.1 x.2.1) (hk : F k b) : ∀ x ∈ putO kvs k b v, F x.1 x.2.1 := by
  intro x hx
  unfold putO at hx
  split at hx
  · obtain ⟨y, hy, rfl⟩ := List.mem_map.mp hx
    unfold putE
    split
    · exact h y hy
    · exact h y hy
  · rcases List.mem_append.mp hx with q | q
    · exact h x q
    · rw [List.mem_singleton.mp q]; exact hk
/-! how the entries stand to the object's -/
theorem ent_val {kvs : List Ent} {xs : List (Oks × Addr × Value)} (r : Paired EntR kvs xs) (k : Oks) : RelO (valO kvs k) ((atKey xs k).map (·.2)) := by
  induction r with
  | nil => exact True.intro
  | @cons p q _ _ h1 _ ih =>
    rw [valO_cons]
    unfold atKey at ih ⊢
    rw [List.find?_cons]
    by_cases e : p.1 = k
    · rw [if_pos e, decide_eq_true (h1.1.symm.trans e)]; exact h1.2.2
    · rw [if_neg e, decide_eq_false (fun z => e (h1.1.trans z))]; exact ih
theorem relO_isSome {o : Option V} {u : Option Value} (r : RelO o u) : o.isSome = u.isSome := by
  cases o <;> cases u <;> first | rfl | exact r.elim
theorem relO_getD {o : Option V} {u : Option Value} {d : V} {r : Value} (h : RelO o u) (hd : RelV d r) : RelV (o.getD d) (u.getD r) := by
  cases o <;> cases u <;> first | exact hd | exact h | exact h.elim
theorem ent_map {kvs : List Ent} {xs : List (Oks × Addr × Value)} {k : Oks} {v : V} {u : Value} (r : Paired EntR kvs xs) (hv : RelV v u) : Paired EntR (kvs.map (putE k v)) (xs.map (putAt k u)) := by
  induction r with
  | nil => exact .nil
  | @cons p q _ _ h1 _ ih =>
    refine .cons ?_ ih
    unfold putE putAt
    by_cases e : p.1 = k
    · rw [if_pos e, if_pos (h1.1.symm.trans e)]; exact ⟨h1.1, h1.2.1, hv⟩
    · rw [if_neg e, if_neg (fun z => e (h1.1.trans z))]; exact h1
theorem ent_snoc {kvs : List Ent} {xs : List (Oks × Addr × Value)} {p : Ent} {q : Oks × Addr × Value} (r : Paired EntR kvs xs) (h : EntR p q) : Paired EntR (kvs ++ [p]) (xs ++ [q]) := by
  induction r with
  | nil => exact .cons h .nil
  | cons h1 _ ih => exact .cons h1 ih
theorem ent_put {kvs : List Ent} {xs : List (Oks × Addr × Value)} {k : Oks} {b : Addr} {v : V} {u : Value} (r : Paired EntR kvs xs) (hv : RelV v u) : Paired EntR (putO kvs k b v) (storedH xs k b u) := by
  have h := relO_isSome (ent_val r k)
  rw [Option.isSome_map] at h
  unfold putO storedH
  rw [h]
  split
  · exact ent_map r hv
  · exact ent_snoc r ⟨rfl, rfl, hv⟩
section
variable {P : Program} {w : World} {H : Hp} {h : Heap} {a b : Addr} {kvs : List Ent} {k : Oks}
theorem opt_items : ∀ {k : Oks} {us : List Value}, Vals (k.map okV) us → ItemsAre (optKind P w) k us
  | [], _, .nil => .nil
  | none :: _, _, .cons r t => .cons (by have e : _ = Value.none := r; subst e; rfl) (opt_items t)
  | some i :: _, _, .cons r t => .cons (by obtain ⟨tk, e⟩ := (show ∃ t, _ = Value.int i t from r); subst e; exact beq_self_eq_true i) (opt_items t)
theorem opt_key (ok : HOk P w H h) (e : H b = some (.tup (k.map okV))) : (tupleKind (optKind P w)).is h k b := by
  obtain ⟨_, its, r, o, ho, ⟨hc, n, hd⟩, _⟩ := ok _ _ e
  exact ⟨o, its.toArray, n, ho, hc, hd, opt_items r⟩
theorem dicO_of (ok : HOk P w H h) (e : DicAt P w H a kvs) : kvs.length ≤ sizeLine ∧ (a == sysModules) = false ∧ ∃ xs, Paired EntR kvs xs ∧ h.DictOfH (tupleKind (optKind P w)) a xs := by
  obtain ⟨e, ek⟩ := e
  obtain ⟨⟨z, hs, xs, r, o, es, ep, h1, h2, h3, h4, h5⟩, _⟩ := ok _ _ e
  refine ⟨z, hs, xs, r, o, es, ep, h1, h2, h3, h4, ?_, h5⟩
  have all : ∀ {kvs : List Ent} {xs : List (Oks × Addr × Value)}, Paired EntR kvs xs → (∀ x ∈ kvs, H x.2.1 = some (.tup (x.1.map okV))) → ∀ x ∈ xs, (tupleKind (optKind P w)).is h x.1 x.2.1 := by
    intro kvs xs r
    induction r with
    | nil => intro _ x hx; cases hx
    | @cons p q _ _ h1 _ ih =>
      intro hk x hx
      rcases List.mem_cons.mp hx with rfl | hx
      · have := hk p List.mem_cons_self
        rw [h1.1, h1.2.1] at this
        exact opt_key ok this
      · exact ih (fun y hy => hk y (List.mem_cons_of_mem _ hy)) x hx
  exact all r ek
theorem dicO_stab (h1 h2 : Heap) (p : DicP P w a kvs h1) (st : ∀ o, h1.get? a = some o → h2.get? a = some o) : DicP P w a kvs h2 := by
  obtain ⟨z, hs, xs, r, o, es, ep, q, c⟩ := p
  exact ⟨z, hs, xs, r, o, es, ep, st _ q, c⟩
theorem dicO_new (hb : sysModules < h.objs.size) : ObjOk P w H (h.push { cls := .type "dict", data := .dict #[] }) h.objs.size (DicO P w h.objs.size []) :=
  ⟨⟨Nat.zero_le _, beq_eq_false_iff_ne.mpr (Ne.symm (Nat.ne_of_lt hb)), [], .nil, _, #[], 0, Heap.get?_push_size _ rfl, ⟨rfl, rfl, rfl⟩, rfl, rfl, List.nodup_nil⟩, ⟨_, Heap.get?_push_size _ rfl⟩, fun _ _ => dicO_stab _ _⟩
end
/-- what is found at a tuple -/
def OGet (P : Program) (w : World) (H : Hp) (a : Addr) (y : V) (r : Option V) : Prop := ∃ kvs k b, DicAt P w H a kvs ∧ y = .ref b ∧ H b = some (.tup (k.map okV)) ∧ r = valO kvs k
section
variable {X : Cx} {pins : List (Addr × Obj)} {σ : St} {H : Hp} {s : Shared} {a b : Addr} {y v d : V} {u r : Value} {o : Option V} {A : Around} {E : Value → Shared → Prop}
theorem big_of (I : Inv X pins σ H s) : sysModules < s.heap.objs.size :=
  Nat.lt_trans (by decide) (show mainGlobals < s.heap.objs.size from (I.mod.glob.keeps I.bk).lt)
theorem o_get2 {Q : Value → Shared → Prop} (hu : A.units + 1 < cLine) (I : Inv X pins σ H s) (g : OGet X.prog X.w H a y o) (ry : RelV y u) (rd : RelV d r) (h : ∀ w' s', Inv X pins σ H s' → RelV (o.getD d) w' → Q w' s') :
    wpAny (model X.prog X.w) A (call (.builtin "dict.get") [.ref a, u, r]) Q E s := by
  obtain ⟨kvs, k, b, e, rfl, eb, rfl⟩ := g
  cases (show u = Value.ref b from ry)
  obtain ⟨_, hd, xs, rel, dd⟩ := dicO_of I.hok e
  exact call_meetsIn PySem.F.slot_dict_get dd.typeIs PySem.F.entry_dict_get (PySem.F.args_dict_get_3 _ _ _) (meetsH_dict_get_default (tupleKind (optKind X.prog X.w)) a b hd r)
    ⟨tupleKind_room_in1 hu, k, xs, opt_key I.hok eb, dd, h _ _ (I.tok _) (relO_getD (ent_val rel k) rd)⟩
theorem o_set {kvs : List Ent} {k : Oks} {Q : Unit → Shared → Prop} (hu : A.units + 1 < cLine) (I : Inv X pins σ H s) (e : DicAt X.prog X.w H a kvs) (eb : H b = some (.tup (k.map okV))) (hl : kvs.length < sizeLine) (rv : RelV v r)
    (h : ∀ s', Inv X pins σ (upd H a (DicO X.prog X.w a (putO kvs k b v))) s' → Q () s') : wpAny (model X.prog X.w) A (setItem (.ref a) (.ref b) r) Q E s := by
  obtain ⟨z, hd, xs, rel, dd⟩ := dicO_of I.hok e
  have hz : xs.length ≤ sizeLine := by rw [← Paired.length rel]; exact z
  have hl' : (putO kvs k b v).length ≤ sizeLine := Nat.le_trans putO_length hl
  refine wpAny_setItem_heap (hsz := hz) (tupleKind_room_in1 hu) (opt_key I.hok eb) dd fun h' dd' hs => h _ ?_
  obtain ⟨q, es, ep, hq, h2, h3, h4, _, h5⟩ := dd'
  exact I.write (x := a) (e := a) (by rw [e.1]; exact True.intro) (.inl rfl) (fun c q hc z => (hs.2 c hc).trans z) ⟨q, hq⟩
    ⟨⟨hl', hd, _, ent_put rel rv, q, es, ep, hq, h2, h3, h4, h5⟩, ⟨q, hq⟩, fun _ _ => dicO_stab _ _⟩
theorem dicO_type {kvs : List Ent} (I : Inv X pins σ H s) (e : DicAt X.prog X.w H a kvs) : s.TypeIs (.ref a) "dict" ∧ ∀ b, Value.ref a = .ref b → ∃ ob, s.heap.get? b = some ob ∧ ob.dict = none := by
  obtain ⟨_, _, xs, _, dd⟩ := dicO_of I.hok e
  refine ⟨dd.typeIs, fun b q => ?_⟩
  cases q
  obtain ⟨ob, _, _, h1, h2, _⟩ := dd
  exact ⟨ob, h1, h2.2.1⟩
end
/-! the readings and the rules -/
def tONew (P : Program) (w : World) : TE := fun _ H Q => ∀ p, H p = none → Q (.ref p) (upd H p (DicO P w p []))
def tOIn (P : Program) (w : World) (ty td : TE) : TE := fun σ H Q => ty σ H fun y H1 => td σ H1 fun x H2 => ∃ a o, x = .ref a ∧ OGet P w H2 a y o ∧ Q (.bl o.isSome) H2
def tONotIn (P : Program) (w : World) (ty td : TE) : TE := fun σ H Q => ty σ H fun y H1 => td σ H1 fun x H2 => ∃ a o, x = .ref a ∧ OGet P w H2 a y o ∧ Q (.bl (!o.isSome)) H2
def sOPut (P : Program) (w : World) (td ty tv : TE) : TS := fun D σ H => tv σ H fun v H1 => td σ H1 fun x H2 => ty σ H2 fun y H3 => ∃ a kvs k b, x = .ref a ∧ DicAt P w H3 a kvs ∧ y = .ref b ∧ H3 b = some (.tup (k.map okV)) ∧ kvs.length < sizeLine ∧ D.nx σ (upd H3 a (DicO P w a (putO kvs k b v)))
def tOGet2 (P : Program) (w : World) (td : TE) (t : TA) : TE := fun σ H Q => td σ H fun x H1 => ∃ a kvs, x = .ref a ∧ DicAt P w H1 a kvs ∧ t σ H1 fun xs H2 => ∃ y z o, xs = [y, z] ∧ OGet P w H2 a y o ∧ Q (o.getD z) H2
section
variable {X : Cx} {o i e f value : Expr} {pos pos' apos cpos : Pos} {td ty tv tx : TE}
theorem pe_onew : PE X (.Dict [] [] pos) (tONew X.prog X.w) := fun pins s σ H Q I h =>
  wpAny_Dict_empty ⟨.ref s.heap.objs.size, _, I.laid (a := s.heap.objs.size) (o := DicO X.prog X.w s.heap.objs.size []) (t' := s.toks) (fun _ _ q => Heap.get?_push_of_some _ q) (Nat.le_refl _) (dicO_new (big_of I)), rfl, h _ (I.hok.fresh (Nat.le_refl _))⟩
theorem ps_oput (hu : X.A.units + 1 < cLine) (ho : PE X o td) (hi : PE X i ty) (hv : PE X value tv) (hs : swapsWith value (some (.Subscript o i pos')) pos.line X.env = pure false) :
    PS X (.Assign [.Subscript o i pos'] value pos) (sOPut X.prog X.w td ty tv) := by
  intro pins s σ H D I h
  refine wpAny_Assign_Subscript (thn (hv pins s σ H _ I h) fun r s1 ⟨v, H1, I1, rv, q1⟩ => thn (ho pins s1 σ H1 _ I1 q1) fun u s2 ⟨x, H2, I2, rx, q2⟩ => thn (hi pins s2 σ H2 _ I2 q2) fun iv s3 ⟨y, H3, I3, ry, a, kvs, k, b, ex, e, ey, eb, hl, q3⟩ => ?_) hs
  subst ex ey
  obtain rfl : u = Value.ref a := rx
  obtain rfl : iv = Value.ref b := ry
  exact o_set hu I3 e eb hl rv fun s4 I4 => ⟨σ, _, I4, q3⟩
theorem pe_oget2 {es : List Expr} {t : TA} (hu : X.A.units + 1 < cLine) (ho : PE X o td) (ha : PA X (e :: es) t)
    (h1 : attributeBase o "get" X.env (eval o X.env) = eval o X.env := by rfl)
    (h2 : ((backTo cpos (starEach (e :: es) X.env)).all (fun x => !x.1) && (backToKw cpos (keywordEach [] X.env)).all (fun x => x.1.isSome) && decide ((e :: es).length + ([] : List Keyword).length + (if ([] : List Keyword).isEmpty then 0 else 1) < 30)) = true := by rfl)
    (h3 : (apos.endLine == cpos.line) = true := by rfl) (h4 : starEach (e :: es) X.env = (false, eval e X.env) :: starEach es X.env := by rfl) (h5 : (backTo cpos (starEach es X.env)).any (·.1) = false := by rfl) :
    PE X (.Call (.Attribute o "get" apos) (e :: es) [] cpos) (tOGet2 X.prog X.w td t) := by
  intro pins s σ H Q I h
  refine wpAny_Call_method_late h1 h2 h3 rfl (thn (ho pins s σ H _ I h) fun v s1 ⟨x, H1, I1, r1, a, kvs, ex, e1, q1⟩ => ?_)
  subst ex
  obtain rfl : v = Value.ref a := r1
  obtain ⟨t1, t2⟩ := dicO_type I1 e1
  refine ⟨"dict", "dict.get", PySem.F.plainAttrs_dict, PySem.F.slot_dict_get, PySem.F.type_dict_get, t1, t2, ?_⟩
  have hA := ha cpos pins s1 σ H1 _ I1 q1
  rw [h4] at hA ⊢
  refine Calls.callWith_builtin (by show (false || (backTo cpos (starEach es X.env)).any (·.1)) = false; rw [h5] <;> rfl) (Calls.evalArgs_plain ?_)
  refine thn hA fun us s2 ⟨vs, H2, I2, r2, y, z, ov, evs, g, q2⟩ => ?_
  subst evs
  cases r2 with
  | cons ry r2 => cases r2 with
    | cons rz r2 => cases r2 with
      | nil => exact o_get2 hu I2 g ry rz fun w' s4 I4 rw' => ⟨_, H2, I4, rw', q2⟩
end
end L2
namespace L2
open PySem PySem.Spec PyProof.Rows
/-! ### a def of a class, called by the class: C.m(self, ..) -/
structure CMeth (K : PySem.W.Frag) (C : Addr) (m : Str) (f : Addr) : Prop where
  reads : PySem.W.readsIn K C (.type "type") = true
  found : PySem.W.findCls K (.ref C) (.type "type") m = some (.val (.ref f))
  spec : PySem.W.specialIn K (.ref C) "__getattribute__" = some (some (.builtin "type.__getattribute__"))
  kp : PySem.W.keepIn K (.ref f) = true
def tCMeth (C : Addr) (sp : Sp) (dvs : List V) (E : XK) (ta : TE) (t : TA) : TE := fun σ H Q => ta σ H fun x H1 => x = .ref C ∧ t σ H1 fun vs H2 => sp (vs ++ dvs) H2 Q E
section
variable {X : Cx} {CX : CXT} {k : Nat} {f C : Addr} {fd : FuncData} {ps : List Str} {sp : Sp} {dvs : List V} {ds : List Value} {E : XK} {x m : Str} {p pos apos : Pos} {e o : Expr} {es : List Expr} {ta : TE} {t : TA}
theorem pe_cmeth {pl : Sem Bool} (he : PE X o ta) (hm : CMeth X.K C m f) (F : FnOk X.prog X.w X.K X.mg X.base CX k f fd ps sp) (hr : Room k X.A) (hb : Binds X.K fd ps ds) (hd : Vals dvs ds) (hx : Passes CX X E) (ha : PA X (e :: es) t)
    (h1 : starEach (e :: es) X.env = (false, eval e X.env) :: starEach es X.env := by rfl) (h2 : (backTo pos (starEach es X.env)).any (·.1) = false := by rfl)
    (ht : eval (.Call (.Attribute o m apos) (e :: es) [] pos) X.env = (do
      let ov ← eval o X.env
      standAt apos.atName
      let (f, first) ← holding [ov] (getMethod ov m pl)
      callWith pos f first (backTo pos (starEach (e :: es) X.env)) (backToKw pos (keywordEach [] X.env))) := by rfl) :
    PE X (.Call (.Attribute o m apos) (e :: es) [] pos) (tCMeth C sp dvs E ta t) := by
  intro pins s σ H Q I h
  refine PySem.W.methodCall_KW (pl := pl) (thn (he pins s σ H _ I h) fun u s1 ⟨x, H1, I1, rx, ex, q⟩ => ?_) ht
  subst ex
  obtain rfl : u = Value.ref C := rx
  refine PySem.W.method_cls I1.kIn hm.spec (PySem.W.cls_value I1.kIn hm.reads hm.found rfl ?_)
  refine PySem.W.callWith_K (first := []) (h₀ := X.base) I.ok.mod.kin hm.kp (thn (ha pos pins _ σ H1 _ (I1.tok _) q) fun us s2 ⟨vs, H2, I2, r, q2⟩ => ⟨I2.kIn, ?_⟩) h1 h2
  exact run_fn F hr hb hd hx I2 r q2
end
/-! ### isinstance of what was caught, by a tuple of classes -/
section
variable {X : Cx}
def rIsXs (X : Cx) : List V → Hp → VK → Prop := fun xs H Q => ∃ ea oe tp cs cvs C vs b, xs = [.ref ea, .ref tp] ∧ H tp = some (.tup cs) ∧ Paired ValC cs cvs ∧ (ea, oe) ∈ X.pn ∧ oe.cls = .ref C ∧ oe.data = .fields vs ∧ DictAt H oe.dict ∧ XCls X.K C ∧ XIsi X.K C ∧ PySem.W.kitAny X.K (.ref C) cvs = some b ∧ Q (.bl b) H
end
end L2
namespace L2
open PySem PySem.Spec PyProof.Rows
/-! ### reversed(a list), walked -/
def Itv (K : PySem.W.Frag) (a : Addr) (n : Nat) : It :=
  ⟨fun i H => ∃ xs x, SqL K H a xs ∧ xs.length = n ∧ i < n ∧ xs[n - 1 - i]? = some x, fun i H x H' => H' = H ∧ ∀ xs, SqL K H a xs → xs[n - 1 - i]? = some x, fun i _ => i = n⟩
section
variable {X : Cx} {tg : Expr}
def iRev (K : PySem.W.Frag) (ta : TA) : TI := fun σ H R => ta σ H fun vs H1 => ∃ a xs, vs = [.ref a] ∧ SqL K H1 a xs ∧ R (Itv K a xs.length) H1
/-! ### xs.index(k) of a list of ints, where it is there -/
def rLIx : V → List V → Hp → VK → Prop := fun x vs H Q => ∃ (l : Addr) (ns : List Int) (k : Int), x = .ref l ∧ vs = [.int k] ∧ H l = some (.lst (ns.map V.int)) ∧ k ∈ ns ∧ ns.length ≤ 100000 ∧ Q (.int (ns.idxOf k : Nat)) H
/-! ### isinstance of any plain value -/
def rIsV (K : PySem.W.Frag) : List V → Hp → VK → Prop := fun xs H Q => ∃ (v : V) (t : Value) (c : String) (b : Bool), xs = [v, .ty c] ∧ TyOf K H v t ∧ PySem.W.kitOne K t (.type c) = some b ∧ Q (.bl b) H
theorem call_isV : CallR X (.builtin "isinstance") (rIsV X.K) := by
  intro pins s σ H xs us Q I r h
  obtain ⟨v, t, c, b, rfl, ty, hk, q⟩ := h
  cases r with
  | cons r1 r2 => cases r2 with
    | cons r2 r3 =>
      cases r3
      cases r2
      exact isinst_ok I r1 ty hk fun tk => ⟨.bl b, H, I.tok _, rfl, q⟩
end
end L2
namespace L2
open PySem PySem.Spec PyProof.Rows

/-! ### lists of pairs as tables -/
section
variable {κ : Type} [DecidableEq κ]
def valV (kvs : List (κ × V)) (k : κ) : Option V := (kvs.find? fun kv => decide (kv.1 = k)).map (·.2)
/-- in its place, or at the end -/
def putK (kvs : List (κ × V)) (k : κ) (v : V) : List (κ × V) :=
  if (kvs.any fun kv => decide (kv.1 = k)) = true then kvs.map (fun kv => if kv.1 = k then (kv.1, v) else kv) else kvs ++ [(k, v)]
def dropK (kvs : List (κ × V)) (k : κ) : List (κ × V) := kvs.filter fun kv => decide (kv.1 ≠ k)

theorem valV_pos {p : κ × V} {r : List (κ × V)} {k : κ} (e : p.1 = k) : valV (p :: r) k = some p.2 := by simp [valV, List.find?_cons, e]
theorem valV_neg {p : κ × V} {r : List (κ × V)} {k : κ} (e : ¬ p.1 = k) : valV (p :: r) k = valV r k := by simp [valV, List.find?_cons, e]
theorem valV_any (k : κ) : ∀ kvs : List (κ × V), (kvs.any fun kv => decide (kv.1 = k)) = (valV kvs k).isSome
  | [] => rfl
  | p :: r => by
    rw [List.any_cons]
    by_cases e : p.1 = k
    · simp only [valV_pos e, decide_eq_true e, Bool.true_or, Option.isSome_some]
    · rw [valV_neg e, decide_eq_false e, Bool.false_or]; exact valV_any k r
theorem length_putK (kvs : List (κ × V)) (k : κ) (v : V) : (putK kvs k v).length ≤ kvs.length + 1 := by
  unfold putK
  split
  · rw [List.length_map]; omega
  · rw [List.length_append, List.length_cons, List.length_nil]; omega
theorem putK_new {kvs : List (κ × V)} {k : κ} (v : V) (h : valV kvs k = none) : putK kvs k v = kvs ++ [(k, v)] := by
  unfold putK
  rw [valV_any, h]
  exact if_neg (by decide)

theorem RelO.isSome_eq {o : Option V} {u : Option Value} (r : RelO o u) : o.isSome = u.isSome := by
  cases o with
  | none => cases u with
    | none => rfl
    | some _ => exact (show False from r).elim
  | some _ => cases u with
    | none => exact (show False from r).elim
    | some _ => rfl
theorem RelO.getD {o : Option V} {u : Option Value} {d : V} {d' : Value} (r : RelO o u) (rd : RelV d d') : RelV (o.getD d) (u.getD d') := by
  cases o with
  | none => cases u with
    | none => exact rd
    | some _ => exact (show False from r).elim
  | some _ => cases u with
    | none => exact (show False from r).elim
    | some _ => exact r

/-- raw tables of the same keys -/
theorem KV.val {kvs : List (κ × V)} {vs : List (κ × Value)} (r : KV kvs vs) (k : κ) : RelO (valV kvs k) (valueAt vs k) := by
  unfold KV at r
  induction r with
  | nil => exact True.intro
  | @cons p q ps qs h t ih =>
    obtain ⟨h1, h2⟩ := h
    by_cases e : p.1 = k
    · have e' : q.1 = k := h1.symm.trans e
      have b : valueAt (q :: qs) k = some q.2 := by simp [valueAt, List.find?_cons, e']
      rw [valV_pos e, b]; exact h2
    · have e' : ¬ q.1 = k := fun z => e (h1.trans z)
      have b : valueAt (q :: qs) k = valueAt qs k := by simp [valueAt, List.find?_cons, e']
      rw [valV_neg e, b]; exact ih
theorem KV.any {kvs : List (κ × V)} {vs : List (κ × Value)} (r : KV kvs vs) (k : κ) : (kvs.any fun kv => decide (kv.1 = k)) = vs.any fun kv => decide (kv.1 = k) := by
  unfold KV at r
  induction r with
  | nil => rfl
  | cons h t ih => rw [List.any_cons, List.any_cons, ih, h.1]
theorem KV.repl {kvs : List (κ × V)} {vs : List (κ × Value)} (r : KV kvs vs) (k : κ) {y : V} {u : Value} (ry : RelV y u) :
    KV (kvs.map fun kv => if kv.1 = k then (kv.1, y) else kv) (vs.map fun kv => if kv.1 = k then (kv.1, u) else kv) := by
  unfold KV at r ⊢
  induction r with
  | nil => exact .nil
  | @cons p q ps qs h t ih =>
    rw [List.map_cons, List.map_cons]
    refine .cons ?_ ih
    obtain ⟨h1, h2⟩ := h
    by_cases e : p.1 = k
    · rw [if_pos e, if_pos (h1.symm.trans e)]; exact ⟨h1, ry⟩
    · rw [if_neg e, if_neg (fun z => e (h1.trans z))]; exact ⟨h1, h2⟩
theorem KV.put {kvs : List (κ × V)} {vs : List (κ × Value)} (r : KV kvs vs) (k : κ) {y : V} {u : Value} (ry : RelV y u) : KV (putK kvs k y) (stored vs k u) := by
  unfold putK stored
  rw [r.any k]
  by_cases e : (vs.any fun kv => decide (kv.1 = k)) = true
  · rw [if_pos e, if_pos e]; exact r.repl k ry
  · rw [if_neg e, if_neg e]; exact Paired.snoc r ⟨rfl, ry⟩
theorem KV.keys {kvs : List (κ × V)} {vs : List (κ × Value)} (r : KV kvs vs) : kvs.map (·.1) = vs.map (·.1) := by
  unfold KV at r
  induction r with
  | nil => rfl
  | cons h t ih => rw [List.map_cons, List.map_cons, ih, h.1]
theorem KV.length {kvs : List (κ × V)} {vs : List (κ × Value)} (r : KV kvs vs) : kvs.length = vs.length := Paired.length r
end


/-! ### a tracked dict, its keys ints and texts or tuples of these -/
theorem kV_is {P : Program} {w : World} {k : Key} {u : Value} (r : RelV (kV k) u) : (mixKind P w).is k u = true := by
  cases k with
  | inl i => obtain ⟨t, e⟩ := (show ∃ t, u = Value.int i t from r); subst e; exact mixKind_int P w i t
  | inr x => obtain ⟨t, e⟩ := (show ∃ t, u = Value.str x t from r); subst e; exact mixKind_str P w x t
theorem items_are {P : Program} {w : World} : ∀ {ks : List Key} {us : List Value}, Vals (ks.map kV) us → ItemsAre (mixKind P w) ks us
  | [], _, r => by rw [List.map_nil] at r; cases r; exact .nil
  | k :: ks, _, r => by
    rw [List.map_cons] at r
    cases r with
    | cons h t => exact .cons (kV_is h) (items_are t)

/-- raw entries of a dict with tuple keys -/
abbrev KT (H : Hp) : List (List Key × V) → List (List Key × Addr × Value) → Prop := Paired fun p q => p.1 = q.1 ∧ H q.2.1 = some (.tup (p.1.map kV)) ∧ RelV p.2 q.2.2
theorem KT.val {H : Hp} {kvs : List (List Key × V)} {xs : List (List Key × Addr × Value)} (r : KT H kvs xs) (k : List Key) : RelO (valV kvs k) ((atKey xs k).map (·.2)) := by
  induction r with
  | nil => exact True.intro
  | @cons p q ps qs h t ih =>
    obtain ⟨h1, _, h2⟩ := h
    by_cases e : p.1 = k
    · have e' : q.1 = k := h1.symm.trans e
      have b : atKey (q :: qs) k = some q.2 := by simp [atKey, List.find?_cons, e']
      rw [valV_pos e, b]; exact h2
    · have e' : ¬ q.1 = k := fun z => e (h1.trans z)
      have b : atKey (q :: qs) k = atKey qs k := by simp [atKey, List.find?_cons, e']
      rw [valV_neg e, b]; exact ih
theorem KT.repl {H : Hp} {kvs : List (List Key × V)} {xs : List (List Key × Addr × Value)} (r : KT H kvs xs) (k : List Key) {y : V} {u : Value} (ry : RelV y u) :
    KT H (kvs.map fun kv => if kv.1 = k then (kv.1, y) else kv) (xs.map (putAt k u)) := by
  induction r with
  | nil => exact .nil
  | @cons p q ps qs h t ih =>
    rw [List.map_cons, List.map_cons]
    refine .cons ?_ ih
    obtain ⟨h1, h2, h3⟩ := h
    unfold putAt
    by_cases e : p.1 = k
    · rw [if_pos e, if_pos (h1.symm.trans e)]; exact ⟨h1, h2, ry⟩
    · rw [if_neg e, if_neg (fun z => e (h1.trans z))]; exact ⟨h1, h2, h3⟩
theorem KT.put {H : Hp} {kvs : List (List Key × V)} {xs : List (List Key × Addr × Value)} (r : KT H kvs xs) (k : List Key) {b : Addr} {y : V} {u : Value} (hb : H b = some (.tup (k.map kV))) (ry : RelV y u) :
    KT H (putK kvs k y) (storedH xs k b u) := by
  have e : (kvs.any fun kv => decide (kv.1 = k)) = (atKey xs k).isSome := by
    rw [valV_any, (r.val k).isSome_eq, Option.isSome_map]
  unfold putK storedH
  rw [e]
  by_cases q : (atKey xs k).isSome = true
  · rw [if_pos q, if_pos q]; exact r.repl k ry
  · rw [if_neg q, if_neg q]; exact Paired.snoc r ⟨rfl, hb, ry⟩
theorem KT.keeps {H H' : Hp} {kvs : List (List Key × V)} {xs : List (List Key × Addr × Value)} (r : KT H kvs xs) (ht : ∀ b ys, H b = some (.tup ys) → H' b = some (.tup ys)) : KT H' kvs xs :=
  Paired.mapP r fun _ _ z => ⟨z.1, ht _ _ z.2.1, z.2.2⟩

section
variable {P : Program} {w : World} {H : Hp} {h : Heap} {a : Addr}
theorem rd_of {u : HO} (ok : HOk P w H h) (e : Rd H a u) : ObjOk P w H h a u := e.ok ok
theorem dk_rd {kvs : List (Key × V)} (ok : HOk P w H h) (e : Rd H a (.dK kvs)) : kvs.length ≤ sizeLine ∧ (a == sysModules) = false ∧ ∃ vs, KV kvs vs ∧ h.DictOf (mixKind P w) a vs :=
  show ObjOk P w H h a (.dK kvs) from rd_of ok e
theorem dk_of {kvs : List (Key × V)} (ok : HOk P w H h) (e : H a = some (.dK kvs)) : kvs.length ≤ sizeLine ∧ (a == sysModules) = false ∧ ∃ vs, KV kvs vs ∧ h.DictOf (mixKind P w) a vs := dk_rd ok (.inl e)
/-- a tracked tuple of ints and texts is a key -/
theorem key_of {ks : List Key} (ok : HOk P w H h) (e : H a = some (.tup (ks.map kV))) : (tupleKind (mixKind P w)).is h ks a := by
  obtain ⟨_, its, r, o, h1, ⟨h2, n, h3⟩, _⟩ := (show ObjOk P w H h a (.tup (ks.map kV)) from ok a _ e)
  exact ⟨o, its.toArray, n, h1, h2, h3, by simpa using items_are r⟩
theorem dt_rd {kvs : List (List Key × V)} (ok : HOk P w H h) (e : Rd H a (.dT kvs)) : kvs.length ≤ sizeLine ∧ (a == sysModules) = false ∧
    ∃ xs, KT H kvs xs ∧ h.DictOfH (tupleKind (mixKind P w)) a xs := by
  obtain ⟨z, y, xs, r, o, es, ep, h1, h2, h3, h4, h5⟩ := (show ObjOk P w H h a (.dT kvs) from rd_of ok e)
  refine ⟨z, y, xs, r, o, es, ep, h1, h2, h3, h4, fun x hx => ?_, h5⟩
  have all : ∀ {l : List (List Key × V)} {m : List (List Key × Addr × Value)}, KT H l m → ∀ x ∈ m, (tupleKind (mixKind P w)).is h x.1 x.2.1 := by
    intro l m q
    induction q with
    | nil => intro x hx; exact nomatch hx
    | @cons p q ps qs hq t ih =>
      intro x hx
      rcases List.mem_cons.mp hx with e | hx
      · subst e
        exact key_of ok (by rw [← hq.1]; exact hq.2.1)
      · exact ih x hx
  exact all r x hx
theorem dt_of {kvs : List (List Key × V)} (ok : HOk P w H h) (e : H a = some (.dT kvs)) : kvs.length ≤ sizeLine ∧ (a == sysModules) = false ∧
    ∃ xs, KT H kvs xs ∧ h.DictOfH (tupleKind (mixKind P w)) a xs := dt_rd ok (.inl e)
end

/-- what the dict at a holds at the key y -/
def DGet (H : Hp) (a : Addr) (y : V) (r : Option V) : Prop :=
  (∃ kvs k, Rd H a (.dK kvs) ∧ y = kV k ∧ r = valV kvs k) ∨ ∃ kvs k b, Rd H a (.dT kvs) ∧ y = .ref b ∧ H b = some (.tup (k.map kV)) ∧ r = valV kvs k
/-- the heap behind a[y] = v -/
def DPut (H : Hp) (a : Addr) (y v : V) (H' : Hp) : Prop :=
  (∃ kvs k, H a = some (.dK kvs) ∧ y = kV k ∧ kvs.length < sizeLine ∧ H' = upd H a (.dK (putK kvs k v))) ∨
  ∃ kvs k b, H a = some (.dT kvs) ∧ y = .ref b ∧ H b = some (.tup (k.map kV)) ∧ kvs.length < sizeLine ∧ H' = upd H a (.dT (putK kvs k v))
theorem DGet.k {H : Hp} {a : Addr} {kvs : List (Key × V)} {k : Key} (e : H a = some (.dK kvs)) : DGet H a (kV k) (valV kvs k) := .inl ⟨kvs, k, .inl e, rfl, rfl⟩
theorem DPut.k {H : Hp} {a : Addr} {kvs : List (Key × V)} {k : Key} {v : V} (e : H a = some (.dK kvs)) (hl : kvs.length < sizeLine) : DPut H a (kV k) v (upd H a (.dK (putK kvs k v))) := .inl ⟨kvs, k, e, rfl, hl, rfl⟩


section
variable {X : Cx} {pins : List (Addr × Obj)} {σ : St} {H : Hp} {s : Shared} {a : Addr} {y v : V} {u r : Value} {o : Option V} {A : Around} {E : Value → Shared → Prop}

theorem Inv.big (I : Inv X pins σ H s) : sysModules < s.heap.objs.size := by
  have h : mainGlobals < s.heap.objs.size := (I.mod.glob.keeps I.bk).lt
  exact Nat.lt_trans (by decide) h

/-- d[y], there -/
theorem d_getItem {Q : Value → Shared → Prop} (hu : A.units + 1 < cLine) (I : Inv X pins σ H s) (g : DGet H a y (some v)) (ry : RelV y u) (h : ∀ w' s', Inv X pins σ H s' → RelV v w' → Q w' s') :
    wpAny (model X.prog X.w) A (getItem (.ref a) u) Q E s := by
  rcases g with ⟨kvs, k, e, ey, l⟩ | ⟨kvs, k, b, e, ey, eb, l⟩
  · subst ey
    obtain ⟨z, hd, vs, rel, dd⟩ := dk_rd I.hok e
    obtain ⟨w', hw, rw'⟩ := RelO.some_of (v := v) (o := valueAt vs k) (by rw [l]; exact rel.val k)
    exact wpAny_getItem_of (kV_is ry) dd.mapOf hw (h w' _ (I.tok _) rw')
  · subst ey
    cases (show u = Value.ref b from ry)
    obtain ⟨z, hd, xs, rel, dd⟩ := dt_rd I.hok e
    obtain ⟨w', hw, rw'⟩ := RelO.some_of (v := v) (o := (atKey xs k).map (·.2)) (by rw [l]; exact rel.val k)
    obtain ⟨p, hp, hp2⟩ := Option.map_eq_some_iff.mp hw
    refine wpAny_getItem_heap (tupleKind_room_in1 hu) (key_of I.hok eb) dd hp ?_
    rw [hp2]
    exact h w' _ (I.tok _) rw'
theorem d_notIn {Q : Value → Shared → Prop} (hu : A.units + 1 < cLine) (I : Inv X pins σ H s) (g : DGet H a y o) (ry : RelV y u) (h : ∀ s', Inv X pins σ H s' → Q (.bool (!o.isSome)) s') :
    wpAny (model X.prog X.w) A (compareOp .NotIn u (.ref a)) Q E s := by
  rcases g with ⟨kvs, k, e, ey, l⟩ | ⟨kvs, k, b, e, ey, eb, l⟩
  · subst ey
    obtain ⟨z, hd, vs, rel, dd⟩ := dk_rd I.hok e
    refine wpAny_notIn_of (kV_is ry) hd dd.mapOf ?_
    rw [← (rel.val k).isSome_eq, ← l]
    exact h _ (I.tok _)
  · subst ey
    cases (show u = Value.ref b from ry)
    obtain ⟨z, hd, xs, rel, dd⟩ := dt_rd I.hok e
    refine wpAny_notIn_heap (tupleKind_room_in1 hu) (key_of I.hok eb) hd dd ?_
    have q := (rel.val k).isSome_eq
    rw [Option.isSome_map] at q
    rw [← q, ← l]
    exact h _ (I.tok _)
/-- a dict's object is replaced -/
theorem d_write {h' : Heap} {t' : Nat} {ob : HO} (I : Inv X pins σ H s) (mu : Mut (H a)) (hs : Heap.SameBut a s.heap h') (he : ∃ q, h'.get? a = some q) (new : ObjOk X.prog X.w (upd H a ob) h' a ob) :
    Inv X pins σ (upd H a ob) { s with heap := h', toks := t' } :=
  I.write (x := a) (e := a) mu (.inl rfl) (fun b q hb z => (hs.2 b hb).trans z) he new
theorem dk_new {P : Program} {w : World} {H' : Hp} {h' : Heap} {kvs : List (Key × V)} {vs : List (Key × Value)} (z : kvs.length ≤ sizeLine) (hd : (a == sysModules) = false) (rel : KV kvs vs) (dd : h'.DictOf (mixKind P w) a vs) :
    ObjOk P w H' h' a (.dK kvs) := ⟨z, hd, vs, rel, dd⟩
/-- d[y] = v -/
theorem d_setItem {H' : Hp} {Q : Unit → Shared → Prop} (hu : A.units + 1 < cLine) (I : Inv X pins σ H s) (g : DPut H a y v H') (ry : RelV y u) (rv : RelV v r) (h : ∀ s', Inv X pins σ H' s' → Q () s') :
    wpAny (model X.prog X.w) A (setItem (.ref a) u r) Q E s := by
  rcases g with ⟨kvs, k, e, ey, l, eH⟩ | ⟨kvs, k, b, e, ey, eb, l, eH⟩
  · subst ey eH
    obtain ⟨z, hd, vs, rel, dd⟩ := dk_of I.hok e
    have hz : vs.length ≤ sizeLine := by rw [← rel.length]; exact z
    have hl : (putK kvs k v).length ≤ sizeLine := by have := length_putK kvs k v; omega
    refine wpAny_setItem_pairs (hsz := hz) (kV_is ry) dd fun h' dd' hs => h _ ?_
    have he : ∃ q, h'.get? a = some q := let ⟨q, _, _, hq, _⟩ := dd'; ⟨q, hq⟩
    exact d_write I (by rw [e]; exact True.intro) hs he (dk_new hl hd (rel.put k rv) dd')
  · subst ey eH
    cases (show u = Value.ref b from ry)
    obtain ⟨z, hd, xs, rel, dd⟩ := dt_of I.hok e
    have hz : xs.length ≤ sizeLine := by rw [← Paired.length rel]; exact z
    have hl : (putK kvs k v).length ≤ sizeLine := by have := length_putK kvs k v; omega
    refine wpAny_setItem_heap (hsz := hz) (tupleKind_room_in1 hu) (key_of I.hok eb) dd fun h' dd' hs => h _ ?_
    obtain ⟨q, es, ep, hq, h2, h3, h4, _, h5⟩ := dd'
    refine d_write I (by rw [e]; exact True.intro) hs ⟨q, hq⟩ ⟨hl, hd, _, (rel.put k eb rv).keeps fun c ys ec => ?_, q, es, ep, hq, h2, h3, h4, h5⟩
    rw [upd_ne (ne_of ec e (fun z => nomatch z))]
    exact ec
end

section
variable {X : Cx} {pins : List (Addr × Obj)} {σ : St} {H : Hp} {s : Shared} {a : Addr} {kvs : List (Key × V)} {k : Key} {u : Value} {A : Around} {E : Value → Shared → Prop}
end


/-! ### readings and rules -/
/-- the element of a subscription, not a slice -/
def NoSl (i : Expr) : Prop := ∀ ov iv, subscripted i false ov iv = operate [ov, iv] (getItem ov iv)
theorem subD_of {prog : Program} {w : World} {A : Around} {E : Value → Shared → Prop} {s : Shared} {env : Env} {value slice : Expr} {pos : Pos} {T id : String} {Q : Value → Shared → Prop}
    (hl : typeLookup (.type T) "__getitem__" = pure (some (.builtin id))) (hs : NoSl slice)
    (h : wpAny (model prog w) A (eval value env) (fun o s₁ => wpAny (model prog w) A (eval slice env) (fun i s₂ => s₂.TypeIs o T ∧ wpAny (model prog w) A (getItem o i) Q E s₂) E s₁) E s) :
    wpAny (model prog w) A (eval (.Subscript value slice pos) env) Q E s := by
  refine Subscript_ (wpAny_mono h (fun o s₁ h₁ => wpAny_mono h₁ (fun i s₂ h₂ => ?_) fun _ _ x => x) fun _ _ x => x)
  obtain ⟨hT, h₂⟩ := h₂
  unfold subscriptTail
  refine wpAny_bind ?_
  rw [getitemInPython_of_ne hT.not_modules]
  refine wpAny_bind (wpAny_specialOf hT hl ?_)
  have fin : wpAny (model prog w) A (subscripted slice false o i) (fun r s₃ => wpAny (model prog w) A (letTemporaryGo value o r >>= fun _ => pure r) Q E s₃) E s₂ := by
    rw [hs o i]
    exact wpAny_operating (wpAny_mono h₂ (fun r s₃ h₃ => wpAny_bind (wpAny_letTemporaryGo (wpAny_pure h₃))) fun _ _ x => x)
  first
    | exact wpAny_pure (wpAny_bind fin)
    | exact wpAny_bind (wpAny_pure (wpAny_bind fin))
    | exact wpAny_bind fin

theorem dict_typeIs {X : Cx} {pins : List (Addr × Obj)} {σ : St} {H : Hp} {s : Shared} {a : Addr} {y : V} {o : Option V} (I : Inv X pins σ H s) (g : DGet H a y o) : s.TypeIs (.ref a) "dict" := by
  rcases g with ⟨kvs, k, e, _, _⟩ | ⟨kvs, k, b, e, _, _, _⟩
  · obtain ⟨_, _, vs, _, dd⟩ := dk_rd I.hok e
    exact dd.typeIs
  · obtain ⟨_, _, xs, _, dd⟩ := dt_rd I.hok e
    exact dd.typeIs

/-- d[y] -/
def tDGet (td ty : TE) : TE := fun σ H Q => td σ H fun x H1 => ty σ H1 fun y H2 => ∃ a v, x = .ref a ∧ DGet H2 a y (some v) ∧ Q v H2
/-- y in d, y not in d -/
def tDIn (ty td : TE) : TE := fun σ H Q => ty σ H fun y H1 => td σ H1 fun x H2 => ∃ a o, x = .ref a ∧ DGet H2 a y o ∧ Q (.bl o.isSome) H2
def tDNotIn (ty td : TE) : TE := fun σ H Q => ty σ H fun y H1 => td σ H1 fun x H2 => ∃ a o, x = .ref a ∧ DGet H2 a y o ∧ Q (.bl (!o.isSome)) H2
/-- d[y] = v -/
def sDPut (td ty tv : TE) : TS := fun D σ H => tv σ H fun v H1 => td σ H1 fun x H2 => ty σ H2 fun y H3 => ∃ a H4, x = .ref a ∧ DPut H3 a y v H4 ∧ D.nx σ H4
/-- d[y] op= v -/
def sDAug (td ty tv : TE) (rd : V → V → Hp → VK → Prop) : TS := fun D σ H => td σ H fun x H1 => ty σ H1 fun y H2 => ∃ a v, x = .ref a ∧ DGet H2 a y (some v) ∧
  tv σ H2 fun y2 H3 => rd v y2 H3 fun z H4 => ∃ H5, DPut H4 a y z H5 ∧ D.nx σ H5
/-- del d[y] -/
def sDDel (td ty : TE) : TS := fun D σ H => td σ H fun x H1 => ty σ H1 fun y H2 => ∃ a kvs k, x = .ref a ∧ H2 a = some (.dK kvs) ∧ y = kV k ∧ (valV kvs k).isSome = true ∧ D.nx σ (upd H2 a (.dK (dropK kvs k)))

section
variable {X : Cx} {o i e value : Expr} {pos pos' tpos : Pos} {td ty tv : TE}
theorem pe_dget (hu : X.A.units + 1 < cLine) (ho : PE X o td) (hi : PE X i ty) (hs : NoSl i) : PE X (.Subscript o i pos) (tDGet td ty) := by
  intro pins s σ H Q I h
  refine subD_of PySem.F.slot_dict_getitem.lookup hs (thn (ho pins s σ H _ I h) fun u s1 ⟨x, H1, I1, rx, q1⟩ => thn (hi pins s1 σ H1 _ I1 q1) fun iv s2 ⟨y, H2, I2, ry, a, v, ex, g, q2⟩ => ?_)
  subst ex
  obtain rfl : u = Value.ref a := rx
  exact ⟨dict_typeIs I2 g, d_getItem hu I2 g ry fun w' s3 I3 rw' => ⟨v, H2, I3, rw', q2⟩⟩
theorem pc_dnotin (hu : X.A.units + 1 < cLine) (hi : PE X i ty) (ho : PE X o td) : PC X .NotIn i o (tDNotIn ty td) := by
  intro pins s σ H Q I h
  refine thn (hi pins s σ H _ I h) fun iv s1 ⟨y, H1, I1, ry, q1⟩ => thn (ho pins s1 σ H1 _ I1 q1) fun u s2 ⟨x, H2, I2, rx, a, ov, ex, g, q2⟩ => ?_
  subst ex
  obtain rfl : u = Value.ref a := rx
  exact d_notIn hu I2 g ry fun s3 I3 => ⟨.bl (!ov.isSome), H2, I3, rfl, q2⟩
theorem ps_dput (hu : X.A.units + 1 < cLine) (ho : PE X o td) (hi : PE X i ty) (hv : PE X value tv) (hs : swapsWith value (some (.Subscript o i pos')) pos.line X.env = pure false) :
    PS X (.Assign [.Subscript o i pos'] value pos) (sDPut td ty tv) := by
  intro pins s σ H D I h
  refine wpAny_Assign_Subscript (thn (hv pins s σ H _ I h) fun r s1 ⟨v, H1, I1, rv, q1⟩ => thn (ho pins s1 σ H1 _ I1 q1) fun u s2 ⟨x, H2, I2, rx, q2⟩ => thn (hi pins s2 σ H2 _ I2 q2) fun iv s3 ⟨y, H3, I3, ry, a, H4, ex, g, q3⟩ => ?_) hs
  subst ex
  obtain rfl : u = Value.ref a := rx
  exact d_setItem hu I3 g ry rv fun s4 I4 => ⟨σ, H4, I4, q3⟩
end


/-! ### displays -/
theorem dk_empty {P : Program} {w : World} {H : Hp} (h : Heap) (hb : sysModules < h.objs.size) : ObjOk P w H (h.push { cls := .type "dict", data := .dict #[] }) h.objs.size (.dK []) :=
  ⟨Nat.zero_le _, beq_eq_false_iff_ne.mpr (Ne.symm (Nat.ne_of_lt hb)), [], .nil, Heap.DictOf.new h⟩
/-- {}, to be a dict of the kind that is wanted -/
def tDNewK : TE := fun _ H Q => ∀ p, H p = none → Q (.ref p) (upd H p (.dK []))
def tDNewT : TE := fun _ H Q => ∀ p, H p = none → Q (.ref p) (upd H p (.dT []))
section
variable {X : Cx} {pos : Pos}
end

/-- the pairs of a display, from the left -/
def tPairs : List (TE × TE) → St → Hp → (List (V × V) → Hp → Prop) → Prop
  | [], _, H, Q => Q [] H
  | (tk, tv) :: r, σ, H, Q => tk σ H fun x H1 => tv σ H1 fun y H2 => tPairs r σ H2 fun ps H3 => Q ((x, y) :: ps) H3
abbrev VV : List (V × V) → List (Value × Value) → Prop := Paired fun p q => RelV p.1 q.1 ∧ RelV p.2 q.2
def PPs (X : Cx) (pos : Pos) (keys : List (Option Expr)) (values : List Expr) (trs : List (TE × TE)) : Prop :=
  ∀ (pins : List (Addr × Obj)) (s : Shared) (σ : St) (H : Hp) (Q : List (V × V) → Hp → Prop), Inv X pins σ H s → tPairs trs σ H Q →
    wpAny (model X.prog X.w) X.A (evalPairs (pairTrees keys values X.env pos)) (fun vs s' => ∃ ps H', Inv X pins σ H' s' ∧ VV ps vs ∧ Q ps H') X.xe s
theorem pps_nil {X : Cx} {pos : Pos} : PPs X pos [] [] [] := fun pins s σ H Q I h => pairTrees_nil_walk ⟨[], H, I, .nil, h⟩
theorem pps_cons {X : Cx} {pos : Pos} {k v : Expr} {ks : List (Option Expr)} {vs : List Expr} {tk tv : TE} {trs : List (TE × TE)} (hk : PE X k tk) (hv : PE X v tv) (hr : PPs X pos ks vs trs) :
    PPs X pos (some k :: ks) (v :: vs) ((tk, tv) :: trs) := fun pins s σ H Q I h =>
  pairTrees_cons_walk (thn (hk pins s σ H _ I h) fun u s1 ⟨x, H1, I1, rx, q1⟩ => thn (hv pins s1 σ H1 _ I1 q1) fun w2 s2 ⟨y, H2, I2, ry, q2⟩ =>
    thn (hr pins s2 σ H2 _ I2 q2) fun ws s3 ⟨ps, H3, I3, rel, q3⟩ => ⟨(x, y) :: ps, H3, I3, .cons ⟨rx, ry⟩ rel, q3⟩)

def mergeK (kvs more : List (Key × V)) : List (Key × V) := more.foldl (fun acc kv => putK acc kv.1 kv.2) kvs
theorem KV.merge : ∀ {more : List (Key × V)} {rs : List (Key × Value)} {kvs : List (Key × V)} {vs : List (Key × Value)}, KV more rs → KV kvs vs → KV (mergeK kvs more) (merged vs rs) := by
  intro more rs kvs vs r
  unfold KV at r
  induction r generalizing kvs vs with
  | nil => intro q; exact q
  | @cons p q ps qs h t ih =>
    intro r0
    have e : KV (putK kvs p.1 p.2) (stored vs q.1 q.2) := by
      have := r0.put p.1 h.2
      rw [← h.1]; exact this
    exact ih e
theorem length_mergeK : ∀ (more kvs : List (Key × V)), (mergeK kvs more).length ≤ kvs.length + more.length
  | [], kvs => by show kvs.length ≤ kvs.length + 0; omega
  | p :: r, kvs => by
    have h1 := length_mergeK r (putK kvs p.1 p.2)
    have h2 := length_putK kvs p.1 p.2
    show (mergeK (putK kvs p.1 p.2) r).length ≤ _
    rw [List.length_cons]; omega
theorem carries_of {P : Program} {w : World} : ∀ {kvs : List (Key × V)} {ws : List (Value × Value)}, VV (kvs.map fun kv => (kV kv.1, kv.2)) ws → ∃ rs, Carries (mixKind P w) ws rs ∧ KV kvs rs
  | [], _, r => by rw [List.map_nil] at r; cases r; exact ⟨[], True.intro, .nil⟩
  | p :: kvs, _, r => by
    rw [List.map_cons] at r
    cases r with
    | @cons a b as bs h t =>
      obtain ⟨rs, c, q⟩ := carries_of (P := P) (w := w) t
      obtain ⟨b1, b2⟩ := b
      exact ⟨(p.1, b2) :: rs, ⟨kV_is h.1, rfl, c⟩, .cons ⟨rfl, h.2⟩ q⟩
/-- {k: v, ..} with keys ints and texts; the new dict stands empty while the pairs are made -/
def tDisp (trs : List (TE × TE)) : TE := fun σ H Q => ∀ p, H p = none → tPairs trs σ (upd H p (.dK [])) fun ps H2 => H2 p = some (.dK []) ∧ ∃ kvs : List (Key × V), ps = kvs.map (fun kv => (kV kv.1, kv.2)) ∧ kvs.length ≤ 15 ∧ Q (.ref p) (upd H2 p (.dK (mergeK [] kvs)))
theorem pe_disp {X : Cx} {pos : Pos} {keys : List (Option Expr)} {values : List Expr} {trs : List (TE × TE)} (h : PPs X pos keys values trs) (hall : keys.all (·.isSome) = true) (hl : keys.length = values.length) (h0 : keys ≠ [])
    (h15 : keys.length ≤ 15) : PE X (.Dict keys values pos) (tDisp trs) := by
  intro pins s σ H Q I q
  have hn := I.hok.fresh (Nat.le_refl s.heap.objs.size)
  have I1 := I.laid (a := s.heap.objs.size) (o := .dK []) (h' := s.heap.push { cls := .type "dict", data := .dict #[] }) (t' := s.toks) (fun _ _ q => Heap.get?_push_of_some _ q) (Nat.le_refl _) (dk_empty s.heap I.big)
  refine wpAny_Dict_walk (knd := mixKind X.prog X.w) hall hl h0 h15 (thn (h pins _ σ _ _ I1 (q _ hn)) fun ws s2 ⟨ps, H2, I2, rel, e, kvs, ep, lk, q2⟩ => ?_)
  subst ep
  obtain ⟨rs, c, rk⟩ := carries_of (P := X.prog) (w := X.w) rel
  obtain ⟨z, hd, vs0, r0, dd⟩ := dk_of I2.hok e
  cases r0
  refine ⟨rs, c, dd, fun h' dd' hs => ⟨.ref s.heap.objs.size, _, ?_, rfl, q2⟩⟩
  have hz : (mergeK [] kvs).length ≤ sizeLine := by
    have h1 := length_mergeK kvs []
    rw [List.length_nil] at h1
    rw [sizeLine_eq]; omega
  have he : ∃ q, h'.get? s.heap.objs.size = some q := let ⟨q, _, _, hq, _⟩ := dd'; ⟨q, hq⟩
  exact d_write I2 (by rw [e]; exact True.intro) hs he (dk_new hz hd (rk.merge .nil) dd')


/-! ### methods -/
/-- a method call o.m(e) of a built-in, with one argument: what must be seen of the text -/
structure M1 (X : Cx) (o : Expr) (m : Str) (apos : Pos) (e : Expr) (cpos : Pos) : Prop where
  base : attributeBase o m X.env (eval o X.env) = eval o X.env
  few : ((backTo cpos (starEach [e] X.env)).all (fun x => !x.1) && (backToKw cpos (keywordEach [] X.env)).all (fun x => x.1.isSome)
    && decide (([e] : List Expr).length + ([] : List Keyword).length + (if ([] : List Keyword).isEmpty then 0 else 1) < 30)) = true
  line : (apos.endLine == cpos.line) = true
  trees : backTo cpos (starEach [e] X.env) = [(false, eval e X.env)]
structure M2 (X : Cx) (o : Expr) (m : Str) (apos : Pos) (e f : Expr) (cpos : Pos) : Prop where
  base : attributeBase o m X.env (eval o X.env) = eval o X.env
  few : ((backTo cpos (starEach [e, f] X.env)).all (fun x => !x.1) && (backToKw cpos (keywordEach [] X.env)).all (fun x => x.1.isSome)
    && decide (([e, f] : List Expr).length + ([] : List Keyword).length + (if ([] : List Keyword).isEmpty then 0 else 1) < 30)) = true
  line : (apos.endLine == cpos.line) = true
  trees : backTo cpos (starEach [e, f] X.env) = [(false, eval e X.env), (false, eval f X.env)]

/-- a is a dict, whatever its keys -/
def IsD (H : Hp) (a : Addr) : Prop := (∃ kvs, Rd H a (.dK kvs)) ∨ ∃ kvs, Rd H a (.dT kvs)
theorem isD_at {X : Cx} {pins : List (Addr × Obj)} {σ : St} {H : Hp} {s : Shared} {a : Addr} (I : Inv X pins σ H s) (d : IsD H a) :
    s.TypeIs (.ref a) "dict" ∧ (∀ b, Value.ref a = .ref b → ∃ ob, s.heap.get? b = some ob ∧ ob.dict = none) ∧ (a == sysModules) = false := by
  rcases d with ⟨kvs, e⟩ | ⟨kvs, e⟩
  · obtain ⟨_, hd, vs, _, dd⟩ := dk_rd I.hok e
    refine ⟨dd.typeIs, fun b q => ?_, hd⟩
    cases q
    obtain ⟨ob, _, _, h1, h2, _⟩ := dd
    exact ⟨ob, h1, h2.2.1⟩
  · obtain ⟨_, hd, xs, _, dd⟩ := dt_rd I.hok e
    refine ⟨dd.typeIs, fun b q => ?_, hd⟩
    cases q
    obtain ⟨ob, _, _, h1, h2, _⟩ := dd
    exact ⟨ob, h1, h2.2.1⟩

section
variable {X : Cx} {pins : List (Addr × Obj)} {σ : St} {H : Hp} {s : Shared} {a : Addr} {y d : V} {u r : Value} {o : Option V} {A : Around} {E : Value → Shared → Prop}
/-- d.get(y) -/
theorem d_get1 {Q : Value → Shared → Prop} (hu : A.units + 1 < cLine) (I : Inv X pins σ H s) (g : DGet H a y o) (ry : RelV y u) (h : ∀ w' s', Inv X pins σ H s' → RelV (o.getD .non) w' → Q w' s') :
    wpAny (model X.prog X.w) A (call (.builtin "dict.get") [.ref a, u]) Q E s := by
  rcases g with ⟨kvs, k, e, ey, l⟩ | ⟨kvs, k, b, e, ey, eb, l⟩
  · subst ey
    obtain ⟨z, hd, vs, rel, dd⟩ := dk_rd I.hok e
    refine call_meetsIn PySem.F.slot_dict_get dd.typeIs PySem.F.entry_dict_get (PySem.F.args_dict_get_2 _ _) (meets_dict_get (mixKind X.prog X.w) a (kV_is ry) hd) ⟨_, dd.mapOf, h _ _ (I.tok _) ?_⟩
    rw [l]
    exact (rel.val k).getD rfl
  · subst ey
    cases (show u = Value.ref b from ry)
    obtain ⟨z, hd, xs, rel, dd⟩ := dt_rd I.hok e
    refine call_meetsIn PySem.F.slot_dict_get dd.typeIs PySem.F.entry_dict_get (PySem.F.args_dict_get_2 _ _) (meetsH_dict_get (tupleKind (mixKind X.prog X.w)) a b hd) ⟨tupleKind_room_in1 hu, k, xs, key_of I.hok eb, dd, h _ _ (I.tok _) ?_⟩
    rw [l]
    exact (rel.val k).getD rfl
end

def tDGet1 (td ty : TE) : TE := fun σ H Q => td σ H fun x H1 => ∃ a, x = .ref a ∧ IsD H1 a ∧ ty σ H1 fun y H2 => ∃ o, DGet H2 a y o ∧ Q (o.getD .non) H2
def tDGet2 (td ty tx : TE) : TE := fun σ H Q => td σ H fun x H1 => ∃ a, x = .ref a ∧ IsD H1 a ∧ ty σ H1 fun y H2 => tx σ H2 fun z H3 => ∃ o, DGet H3 a y o ∧ Q (o.getD z) H3
/-- d.pop(k): there; d.pop(k, x): there or not -/
def tDPop1 (td ty : TE) : TE := fun σ H Q => td σ H fun x H1 => ∃ a, x = .ref a ∧ IsD H1 a ∧ ty σ H1 fun y H2 => ∃ kvs k v, H2 a = some (.dK kvs) ∧ y = kV k ∧ valV kvs k = some v ∧ Q v (upd H2 a (.dK (dropK kvs k)))
def tDPop2 (td ty tx : TE) : TE := fun σ H Q => td σ H fun x H1 => ∃ a, x = .ref a ∧ IsD H1 a ∧ ty σ H1 fun y H2 => tx σ H2 fun z H3 => ∃ kvs k, H3 a = some (.dK kvs) ∧ y = kV k ∧
  (∀ v, valV kvs k = some v → Q v (upd H3 a (.dK (dropK kvs k)))) ∧ (valV kvs k = none → Q z H3)
section
variable {X : Cx} {o e f : Expr} {apos cpos : Pos} {td ty tx : TE}
theorem pe_dget1 (hu : X.A.units + 1 < cLine) (ho : PE X o td) (he : PE X e ty) (m : M1 X o "get" apos e cpos) : PE X (.Call (.Attribute o "get" apos) [e] [] cpos) (tDGet1 td ty) := by
  intro pins s σ H Q I h
  refine wpAny_Call_method m.base m.few m.line PySem.F.plainAttrs_dict PySem.F.slot_dict_get PySem.F.type_dict_get (thn (ho pins s σ H _ I h) fun u s1 ⟨x, H1, I1, rx, a, ex, d, q1⟩ => ?_)
  subst ex
  obtain rfl : u = Value.ref a := rx
  obtain ⟨t1, t2, _⟩ := isD_at I1 d
  refine ⟨t1, t2, ?_⟩
  rw [m.trees]
  refine Calls.callWith_builtin rfl (Calls.evalArgs_plain (Calls.spliced_cons (thn (he pins s1 σ H1 _ I1 q1) fun iv s2 ⟨y, H2, I2, ry, ov, g, q2⟩ => Calls.spliced_nil ?_)))
  exact d_get1 hu I2 g ry fun w' s3 I3 rw' => ⟨_, H2, I3, rw', q2⟩
end

/-! ### dict(d): a copy -/
section
variable {X : Cx} {pins : List (Addr × Obj)} {σ : St} {H : Hp} {s : Shared} {a : Addr} {kvs : List (Key × V)} {A : Around} {E : Value → Shared → Prop}
end


section
variable {X : Cx} {pins : List (Addr × Obj)} {σ : St} {H : Hp} {s : Shared} {a : Addr} {y : V} {u : Value} {A : Around} {E : Value → Shared → Prop}
end
end L2
namespace L2
open PySem PySem.Spec PyProof.Rows
section
variable {X : Cx}
end
/-! ### a dict's pairs: keys that differ -/
section
variable {κ : Type} [DecidableEq κ]
end
end L2
namespace L2
open PySem PySem.Spec PyProof.Rows
/-! ### a dict's keys, walked: the dict is held as it is from there on -/
theorem key_rel {P : Program} {w : World} {k : Key} {u : Value} (h : (mixKind P w).is k u = true) : RelV (kV k) u := by
  rcases keyIs_shape (show keyIs k u = true from h) with ⟨i, t, rfl, rfl⟩ | ⟨x, t, rfl, rfl⟩
  · exact ⟨t, rfl⟩
  · exact ⟨t, rfl⟩
def DcO (P : Program) (w : World) (o : Obj) (kvs : List (Key × V)) (ep : Nat) : Prop := ∃ vs es, KV kvs vs ∧ o.ExactDict ∧ o.data = .dict es ep ∧ KeysOf (mixKind P w) es ∧ Pairs (mixKind P w) es.toList vs ∧ (vs.map (·.1)).Nodup
def Itk (a : Addr) (o : Obj) (kvs : List (Key × V)) : It :=
  ⟨fun i H => H a = some (.frz o (.dK kvs)) ∧ i < kvs.length, fun i H x H' => H' = H ∧ ∃ k, (kvs.map (·.1))[i]? = some k ∧ x = kV k, fun i H => H a = some (.frz o (.dK kvs)) ∧ i = kvs.length⟩
theorem Inv.frzAt {X : Cx} {pins : List (Addr × Obj)} {σ : St} {H : Hp} {s : Shared} {a : Addr} {o : Obj} {u : HO} (I : Inv X pins σ H s) (ha : H a = some (.frz o u)) : s.heap.get? a = some o := (I.hok a _ ha).1
theorem turn_keys {P : Program} {w : World} {K : PySem.W.Frag} {tg : Expr} (a it : Addr) (o : Obj) (kvs : List (Key × V)) (ep : Nat) (hD : DcO P w o kvs ep) : Turn P w K tg (Itk a o kvs) [it] it (fun i h => h.IsKeyIter it a i kvs.length ep) where
  mem := by simp
  obj := fun i h st b hb => by
    have e : b = it := by simpa using hb
    subst e
    obtain ⟨ob, e, c, d⟩ := st
    exact ⟨ob, e, fun v z => by rw [d] at z; cases z⟩
  keep := fun i h h' st k => by
    obtain ⟨ob, e, c, d⟩ := st
    exact ⟨ob, k it (by simp) ob e, c, d⟩
  item := by
    intro X hP hw hK hc i pins s σ H E I hf st hg
    subst hP hw hK
    obtain ⟨ha, hi⟩ := hg
    obtain ⟨vs, es, rel, d1, d2, d3, d4, d5⟩ := hD
    obtain ⟨f0, f1, f2, f3, f4, f5⟩ := hf it (by simp)
    have hl := rel.length
    have hv : vs[i]? = some (vs[i]'(by omega)) := List.getElem?_eq_getElem (by omega)
    have st : s.heap.IsKeyIter it a i vs.length ep := by rw [← hl]; exact st
    refine wpAny_pyNext_dict_item (knd := mixKind X.prog X.w) (k := (vs[i]'(by omega)).1) (v := (vs[i]'(by omega)).2) st ⟨o, es, I.frzAt ha, d1, d2, d3, d4, d5⟩ hv fun key h' hk st' sb => ?_
    rw [← hl] at st'
    have I1 : Inv X pins σ H { s with heap := h' } := I.turned (t' := s.toks) (fun b o hb e => (sb.2 b hb).trans e) f0 f1 f3 f4 f5
    obtain ⟨ob, e, c, d⟩ := id st'
    exact ⟨key, rfl, go_of (s := { s with heap := h' }) e c d (by decide) ⟨_, H, I1, key_rel hk, ⟨rfl, _, by rw [rel.keys, List.getElem?_map, hv]; rfl, rfl⟩, st', fun b hb => (hf b hb).1⟩⟩
  done := by
    intro X hP hw hK hc i pins s σ H E I hf st hg
    subst hP hw hK
    obtain ⟨ha, rfl⟩ := hg
    obtain ⟨vs, es, rel, d1, d2, d3, d4, d5⟩ := hD
    obtain ⟨f0, f1, f2, f3, f4, f5⟩ := hf it (by simp)
    have hl := rel.length
    have st : s.heap.IsKeyIter it a vs.length vs.length ep := by rw [← hl]; exact st
    exact wpAny_pyNext_dict_end (knd := mixKind X.prog X.w) (I.ok.hd hc) st ⟨o, es, I.frzAt ha, d1, d2, d3, d4, d5⟩ (List.getElem?_eq_none (Nat.le_refl _)) fun h' eb => ⟨rfl, I.turned (t' := s.toks) (fun b o hb e => eb b o hb e) f0 f1 f3 f4 f5⟩
  self := fun _ _ _ _ _ st h => wpAny_pyIter_keyiter st h
section
variable {X : Cx} {tg : Expr}
def iKeys (tl : TE) : TI := fun σ H R => tl σ H fun x H1 => ∃ a kvs, x = .ref a ∧ H1 a = some (.dK kvs) ∧ ∀ o, R (Itk a o kvs) (upd H1 a (.frz o (.dK kvs)))
theorem pi_keys {l : Expr} {tl : TE} (hl : PE X l tl) : PI X tg l (iKeys tl) := by
  intro pins s σ H R I h
  refine thn (hl pins s σ H _ I h) fun v s1 ⟨x, H1, I1, r1, q1⟩ => ?_
  obtain ⟨a, kvs, e, ha, q⟩ := q1
  subst e
  cases r1
  obtain ⟨z, hd, vs, rel, o, es, ep, eo, d1, d2, d3, d4, d5⟩ := dk_of I1.hok ha
  have I2 : Inv X pins σ (upd H1 a (.frz o (.dK kvs))) s1 := I1.write (x := a) (e := a) (h' := s1.heap) (t' := s1.toks) (by rw [ha]; trivial) (.inl rfl) (fun b u _ q => q) ⟨_, eo⟩ ⟨eo, z, hd, vs, rel, o, es, ep, eo, d1, d2, d3, d4, d5⟩
  refine wpAny_pyIter_dict (knd := mixKind X.prog X.w) hd ⟨o, es, eo, d1, d2, d3, d4, d5⟩ ?_
  refine ⟨s1.heap.objs.size, [s1.heap.objs.size], _, _, _, rfl, I2.kept (t' := s1.toks) fun b o e => Heap.get?_push_of_some _ e, turn_keys a _ o kvs ep ⟨vs, es, rel, d1, d2, d3, d4, d5⟩, ⟨_, Heap.get?_push_size _ rfl, rfl, by rw [rel.length]; rfl⟩, fun b hb => ?_, q o⟩
  have e : b = s1.heap.objs.size := by simpa using hb
  subst e
  exact I2.fpOk (Nat.le_refl _) (I2.hok.fresh (Nat.le_refl _))
/-- a loop over a dict's keys by an invariant -/
theorem for_keys {a : Addr} {o : Obj} {kvs : List (Key × V)} {g : TG} {tb : TS} {D : Ends} {σ : St} {H : Hp} (Pv : Nat → St → Hp → Prop) (h0 : Pv 0 σ H) (hl : ∀ i σ H, i ≤ kvs.length → Pv i σ H → H a = some (.frz o (.dK kvs)))
    (hs : ∀ i k σ H, (kvs.map (·.1))[i]? = some k → Pv i σ H → g (kV k) σ H fun σ2 H2 => tb { D with nx := Pv (i + 1), ct := Pv (i + 1), bk := D.nx } σ2 H2) (hd : ∀ σ H, Pv kvs.length σ H → D.nx σ H) :
    ∃ W : Nat → Nat → St → Hp → Prop, (∃ m, W 0 m σ H) ∧ ∀ i m σ H, W i m σ H →
      ((Itk a o kvs).stop i H ∧ D.nx σ H) ∨ ((Itk a o kvs).go i H ∧ ∃ N : St → Hp → Prop, (∀ σ' H', N σ' H' → ∃ m', m' < m ∧ W (i + 1) m' σ' H') ∧ ∀ x H', (Itk a o kvs).yld i H x H' → g x σ H' fun σ2 H2 => tb { D with nx := N, ct := N, bk := D.nx } σ2 H2) := by
  refine ⟨fun i m σ H => m = kvs.length - i ∧ i ≤ kvs.length ∧ Pv i σ H, ⟨kvs.length, by simp, Nat.zero_le _, h0⟩, ?_⟩
  rintro i m σ H ⟨rfl, hi, p⟩
  have q := hl i σ H hi p
  by_cases hlt : i < kvs.length
  · refine .inr ⟨⟨q, hlt⟩, Pv (i + 1), fun σ' H' p' => ⟨kvs.length - (i + 1), by omega, rfl, hlt, p'⟩, fun x H' y => ?_⟩
    obtain ⟨e, k, hk, ex⟩ := y
    subst e ex
    exact hs i k σ _ hk p
  · have e : i = kvs.length := by omega
    subst e
    exact .inl ⟨⟨q, rfl⟩, hd σ H p⟩
end
end L2
namespace L2
open PySem
section
variable {X : Cx}
/-- what holds behind a statement, named once -/
def tPost (t : TS) : TS := fun D σ H => ∃ Post : St → Hp → Prop, t { D with nx := Post } σ H ∧ ∀ σ' H', Post σ' H' → D.nx σ' H'
theorem ps_post {st : Stmt} {t : TS} (h : PS X st t) : PS X st (tPost t) := fun pins s σ H D I ⟨Post, q, k⟩ =>
  thn (h pins s σ H _ I q) fun f s1 z => by
    cases f with
    | next => obtain ⟨σ1, H1, I1, p⟩ := z; exact ⟨σ1, H1, I1, k _ _ p⟩
    | brk => exact z
    | cont => exact z
    | ret u => exact z
/-- the same of a value, and of a test -/
def tPostE (t : TE) : TE := fun σ H Q => ∃ Post : V → Hp → Prop, t σ H Post ∧ ∀ v H', Post v H' → Q v H'
theorem pe_post {e : Expr} {t : TE} (h : PE X e t) : PE X e (tPostE t) := fun pins s σ H Q I ⟨Post, q, k⟩ =>
  thn (h pins s σ H _ I q) fun u s1 ⟨v, H1, I1, r, p⟩ => ⟨v, H1, I1, r, k v H1 p⟩
def tPostT (t : TT) : TT := fun σ H Q => ∃ Post : Bool → Hp → Prop, t σ H Post ∧ ∀ b H', Post b H' → Q b H'
theorem pt_post {e : Expr} {t : TT} (h : PT X e t) : PT X e (tPostT t) := fun pins s σ H Q I ⟨Post, q, k⟩ =>
  thn (h pins s σ H _ I q) fun b s1 ⟨H1, I1, p⟩ => ⟨H1, I1, k b H1 p⟩
end
end L2
namespace L2
open PySem PySem.Spec PyProof.Rows
/-! ### try with two clauses, both as n -/
def tTryAs2 (K : PySem.W.Frag) (c c' : Value) (i : Nat) (tb : Ends → St → Hp → (St → XK) → Prop) (th th' : Addr → Obj → TS) : TS := fun D σ H =>
  tb D σ H fun σ' cls dd H' => (PySem.W.exmOne K cls c = some true ∧ ∀ ea oe vs, oe.cls = cls → oe.dict = dd → oe.data = .fields vs → H' ea = none →
    th ea oe { nx := fun σ2 H2 => D.nx (σ2.set i none) H2, rt := D.rt, bk := fun σ2 H2 => D.bk (σ2.set i none) H2, ct := fun σ2 H2 => D.ct (σ2.set i none) H2 } (σ'.set i (some (.ref ea))) H') ∨
    (PySem.W.exmOne K cls c = some false ∧ PySem.W.exmOne K cls c' = some true ∧ ∀ ea oe vs, oe.cls = cls → oe.dict = dd → oe.data = .fields vs → H' ea = none →
    th' ea oe { nx := fun σ2 H2 => D.nx (σ2.set i none) H2, rt := D.rt, bk := fun σ2 H2 => D.bk (σ2.set i none) H2, ct := fun σ2 H2 => D.ct (σ2.set i none) H2 } (σ'.set i (some (.ref ea))) H')
theorem ps_tryAs2 {X : Cx} {body : List Stmt} {b₀ b₁ : Stmt} {suite suite' : List Stmt} {y y' n : Str} {c c' : Value} {np np' hpos hpos' pos : Pos} {i : Nat} {tb : Ends → St → Hp → (St → XK) → Prop} {th th' : Addr → Obj → TS} (hst : X.stack = X.env :: X.outer) (hfm : X.env.frame = some X.env.locals)
    (hN : X.N.Nodup) (hi : X.N[i]? = some n) (hk : X.env.kindOf n = some .local) (hg : Gl X y) (hm : X.mg y = some c) (hg' : Gl X y') (hm' : X.mg y' = some c') (hb : PBx X body tb) (hh : ∀ ea oe, PSs (X.hand ea oe) (b₀ :: suite) (th ea oe)) (hh' : ∀ ea oe, PSs (X.hand ea oe) (b₁ :: suite') (th' ea oe))
    (hdb : (y == ("__debug__" : Str)) = false := by decide) (hdb' : (y' == ("__debug__" : Str)) = false := by decide) :
    PS X (.Try body [.ExceptHandler (some (.Name y np)) (some n) (b₀ :: suite) hpos, .ExceptHandler (some (.Name y' np')) (some n) (b₁ :: suite') hpos'] [] [] pos) (tTryAs2 X.K c c' i tb th th') := by
  intro pins s σ H D I h
  refine wpAny_Try_except (wpAny_mono (hb pins s σ H D _ I h) (fun f s1 q => ?_) fun ev s1 ⟨σ1, e, cls, dd, ch, H1, ee, I1, fly, hch, q⟩ => ?_)
  · cases f with
    | next => exact wpAny_execs_nil q
    | ret v => exact q
    | brk => exact q
    | cont => exact q
  subst ee
  have I1s : s1.heap.FunFrames X.base (X.env :: X.outer) := hst ▸ I1.stack
  refine note_step (base := X.base) (hst ▸ I1.ok.frames) I1s hfm fly fun h2 ch2 fly2 mv2 new2 => ?_
  have I2 := I1.excStep (h' := h2) (hst ▸ mv2) fun b hb => ⟨(hch b hb).1, (hch b hb).2.1, (hch b hb).2.2, fly.rec b hb⟩
  have hch2 : ∀ b ∈ ch2, X.s₀.heap.get? b = none ∧ H1 b = none ∧ ∀ p ∈ X.pn ++ pins, p.1 ≠ b := fun b hb => by
    rcases new2 b hb with z | z
    · exact hch b z
    · refine ⟨Heap.get?_none_of_le (Nat.le_trans I1.sz z), I1.hok.fresh z, fun p hp z2 => ?_⟩
      have := Heap.lt_size (I1.pin p hp).1
      rw [z2] at this
      exact absurd this (Nat.not_lt.mpr z)
  have ty : PySem.W.Looks (model X.prog X.w) h2 (typeOf (.ref e)) cls := by
    obtain ⟨oe, vs, he, hc, _⟩ := fly2
    exact hc ▸ (PySem.W.Looks.ld he).andThen .now
  have eH : H1 e = none := (hch2 e fly2.mem).2.1
  obtain ⟨oe2, vs2, he2, hc2, hd2, hf2, _⟩ := id fly2
  have J2 := I2.hand (ea := e) (oe := oe2) he2 hf2 eH
  rcases q with ⟨hmt, q⟩ | ⟨hmf, hmt, q⟩
  · refine wpAny_handleBy_cons (codeAny_handlers_test ?_) (by intro z; cases z)
    refine ld_glob J2 hg hm ?_ hdb
    refine PySem.W.exm_one I2.kIn ty hmt (X.A.mark (some (.ref e))) _ _ ⟨h2, s1.gens, s1.drawn, s1.toks, s1.os⟩ (fun _ _ z => z) ?_
    refine codeAny_handlers_suite_as ?_
    refine land_step (fs := frs X.stack) fly2 fun h3 fly3 mv3 => ?_
    have I3 := I2.excStep (h' := h3) mv3 fun b hb => ⟨(hch2 b hb).1, (hch2 b hb).2.1, (hch2 b hb).2.2, fly2.rec b hb⟩
    obtain ⟨oe, vs, he, hc, hd, hf, _⟩ := id fly3
    have J3 := I3.hand (ea := e) (oe := oe) he hf eH
    refine store_ok (X := X.hand e oe) J3 hN hi (.inl hk) (v := .ref e) rfl (fun s4 J4 => ?_) (.inr hk)
    refine wpAny_mono (hh e oe pins s4 _ H1 _ J4 (q e oe vs hc hd hf eH)) (fun f s5 q5 => ?_) fun _ _ z => False.elim z
    dsimp only
    cases f with
    | next =>
      obtain ⟨σ5, H5, J5, q5⟩ := q5
      exact gone_ok (J5.unhand I.ok) hN hi hk fun s6 I6 => ⟨_, H5, I6, q5⟩
    | brk =>
      obtain ⟨σ5, H5, J5, q5⟩ := q5
      exact gone_ok (J5.unhand I.ok) hN hi hk fun s6 I6 => ⟨_, H5, I6, q5⟩
    | cont =>
      obtain ⟨σ5, H5, J5, q5⟩ := q5
      exact gone_ok (J5.unhand I.ok) hN hi hk fun s6 I6 => ⟨_, H5, I6, q5⟩
    | ret u =>
      obtain ⟨v, σ5, H5, J5, rv, q5⟩ := q5
      exact gone_ok (J5.unhand I.ok) hN hi hk fun s6 I6 => ⟨v, _, H5, I6, rv, q5⟩
  · refine wpAny_handleBy_cons (codeAny_handlers_test ?_) (by intro z; cases z)
    refine ld_glob J2 hg hm ?_ hdb
    refine PySem.W.exm_one I2.kIn ty hmf (X.A.mark (some (.ref e))) _ _ ⟨h2, s1.gens, s1.drawn, s1.toks, s1.os⟩ (fun _ _ z => z) ?_
    refine wpAny_handleBy_cons (codeAny_handlers_test ?_) (by intro z; cases z)
    refine ld_glob J2 hg' hm' ?_ hdb'
    refine PySem.W.exm_one I2.kIn ty hmt (X.A.mark (some (.ref e))) _ _ ⟨h2, s1.gens, s1.drawn, s1.toks, s1.os⟩ (fun _ _ z => z) ?_
    refine codeAny_handlers_suite_as ?_
    refine land_step (fs := frs X.stack) fly2 fun h3 fly3 mv3 => ?_
    have I3 := I2.excStep (h' := h3) mv3 fun b hb => ⟨(hch2 b hb).1, (hch2 b hb).2.1, (hch2 b hb).2.2, fly2.rec b hb⟩
    obtain ⟨oe, vs, he, hc, hd, hf, _⟩ := id fly3
    have J3 := I3.hand (ea := e) (oe := oe) he hf eH
    refine store_ok (X := X.hand e oe) J3 hN hi (.inl hk) (v := .ref e) rfl (fun s4 J4 => ?_) (.inr hk)
    refine wpAny_mono (hh' e oe pins s4 _ H1 _ J4 (q e oe vs hc hd hf eH)) (fun f s5 q5 => ?_) fun _ _ z => False.elim z
    dsimp only
    cases f with
    | next =>
      obtain ⟨σ5, H5, J5, q5⟩ := q5
      exact gone_ok (J5.unhand I.ok) hN hi hk fun s6 I6 => ⟨_, H5, I6, q5⟩
    | brk =>
      obtain ⟨σ5, H5, J5, q5⟩ := q5
      exact gone_ok (J5.unhand I.ok) hN hi hk fun s6 I6 => ⟨_, H5, I6, q5⟩
    | cont =>
      obtain ⟨σ5, H5, J5, q5⟩ := q5
      exact gone_ok (J5.unhand I.ok) hN hi hk fun s6 I6 => ⟨_, H5, I6, q5⟩
    | ret u =>
      obtain ⟨v, σ5, H5, J5, rv, q5⟩ := q5
      exact gone_ok (J5.unhand I.ok) hN hi hk fun s6 I6 => ⟨v, _, H5, I6, rv, q5⟩
end L2
namespace L2
open PySem PySem.Spec PyProof.Rows
/-! ### sum(a list of whole numbers) -/
theorem ints_are : ∀ {ns : List Int} {us : List Value}, Vals (ns.map V.int) us → IntsAre us ns
  | [], _, .nil => .nil
  | n :: ns, _, .cons r t => by
    obtain ⟨tk, e⟩ := (show ∃ t, _ = Value.int n t from r)
    subst e
    exact .cons n tk (ints_are t)
theorem call_sum {X : Cx} (hc : X.calm = true) : CallR X (.builtin "sum") (fun xs H Q => ∃ (p : Addr) (ns : List Int), xs = [.ref p] ∧ SqL X.K H p (ns.map V.int) ∧ Q (.int ns.sum) H) := by
  intro pins s σ H xs us Q I r h
  obtain ⟨p, ns, rfl, hq, q⟩ := h
  obtain ⟨u, rfl, rx⟩ := vals1 r
  cases rx
  obtain ⟨its, rv, pl, hz⟩ := I.list hq
  have hi := ints_are rv
  obtain ⟨xs, hx⟩ := hi.allInts.items
  have hl' : s.heap.IsList p (intItems xs) := hx ▸ pl.isList
  refine sum_intListG (I.ok.hd hc) hl' fun h' tk t' hk => ?_
  have e1 : ns = xs.toList.map (·.1) := by
    rw [← nums_intItems, ← hx]
    exact (show numsOf its.toArray.toList = ns from hi.numsOf).symm
  have e2 : preSum (numAt xs) xs.size = ns.sum := by
    rw [preSum_eq, List.take_of_length_le (by simp), e1]
  rw [e2]
  exact ⟨.int ns.sum, H, I.kept hk, ⟨_, rfl⟩, q⟩
end L2
namespace L2
open PySem PySem.Spec PyProof.Rows
/-! ### a def whose parameters may have default values -/
structure FunD (K : PySem.W.Frag) (x qual : Str) (st : Stmt) (f : Addr) (fd : FuncData) : Prop where
  ex : ∃ (oc : Value) (od : Option Addr) (dV kV doc pm : Value) (an : Option Addr) (cdv ct : Value) (osl : Array (Option Value)),
    fd = PySem.W.fnOf x qual (defArgs st) (defBody st) (defScope st) dV kV doc pm an cdv ct ∧ K.lookup f = some ⟨oc, od, .func fd, osl⟩ ∧ PySem.W.codeIn K cdv qual = true
  kp : PySem.W.keepIn K (.ref f) = true
section
variable {P : Program} {w : World} {K : PySem.W.Frag} {mg : Str → Option Value} {base : Heap}
theorem FunD.okX {x qual : Str} {st : Stmt} {f : Addr} {fd : FuncData} {N ps : List Str} {k : Nat} {sp : Sp} (F : FunD K x qual st f fd) (S : FnScope N ps (defScope st)) (len : ∀ vs H Q E, sp vs H Q E → vs.length = ps.length)
    (hbody : ∀ (cdv : Value) (A : Around) (outer : List Env) (s : Shared) (H : Hp) (vs : List V) (Q : VK) (E : XK), Room k (A.deeper (envOfC qual (defScope st) s.heap.objs.size f cdv)) → sp vs H Q E →
      ∃ t, PSs (cxOf (CXe P w) P w K mg base N qual (defScope st) f cdv A outer s H E) (defBody st) t ∧ t { nx := fun _ H' => Q .non H', rt := Q } (start N vs) H) : FnOk P w K mg base (CXe P w) (k + 1) f fd ps sp := by
  obtain ⟨oc, od, dV, kV, doc, pm, an, cdv, ct, osl, rfl, lk, hcd⟩ := F.ex
  exact fn_of lk hcd S len fun A outer s H vs Q E hr hsp => hbody cdv A outer s H vs Q E hr hsp
end
end L2
namespace L2
open PySem
/-- a comprehension by an invariant -/
theorem comp_gen {J : It} {g : TG} {tt : TT} {te : TE} {σ0 : St} {H : Hp} {Q : VK} (n : Nat) (hn : n < sizeLine) (W : Nat → List V → Hp → Prop) (h0 : W 0 [] H) (hlen : ∀ i acc H', W i acc H' → acc.length ≤ i)
    (turn : ∀ i acc H', i < n → W i acc H' → J.go i H' ∧ ∀ x H2, J.yld i H' x H2 → g x σ0 H2 fun σ2 H3 => tt σ2 H3 fun b H4 => if b = true then te σ2 H4 fun y H5 => W (i + 1) (acc ++ [y]) H5 else W (i + 1) acc H4)
    (stop : ∀ acc H', W n acc H' → J.stop n H' ∧ ∀ D, H' D = none → Q (.ref D) (upd H' D (.lst acc))) : CompR J g tt te σ0 Q H := by
  refine ⟨fun i m acc H' => m = n - i ∧ i ≤ n ∧ W i acc H', ⟨n, by simp, Nat.zero_le _, h0⟩, ?_⟩
  rintro i m acc H' ⟨rfl, hi, w⟩
  refine ⟨by have := hlen i acc H' w; omega, ?_⟩
  by_cases hlt : i < n
  · obtain ⟨go, q⟩ := turn i acc H' hlt w
    exact .inr ⟨go, fun acc' H2 => W (i + 1) acc' H2, fun acc' H2 w2 => ⟨n - (i + 1), by omega, rfl, hlt, w2⟩, q⟩
  · have e : i = n := by omega
    subst e
    exact .inl (stop acc H' w)
theorem Same.new {H H' : Hp} {a : Addr} {o : HO} (h : Same H H') (n : H' a = none) : Same H (upd H' a o) := fun b u e => by rw [upd_ne (ne_of_none (h _ _ e) n)]; exact h _ _ e
end L2
namespace K46
open PySem L2
def top (i : Nat) : Stmt := PySem.Challenge.pw_wormyard_k46_posted.main.body.getD i (.Pass ⟨0, 0, 0, 0⟩)
abbrev sNR2 : Stmt := inClass (top 10) 0
abbrev sTM : Stmt := inClass (top 4) 0
abbrev sNR : Stmt := inClass (top 5) 0
abbrev sLnI : Stmt := inClass (top 13) 0
abbrev sLnT : Stmt := inClass (top 13) 6
abbrev sHas : Stmt := top 15
abbrev sMem : Stmt := top 16
abbrev sSet : Stmt := top 17
abbrev sWhole : Stmt := top 19
abbrev sWithin : Stmt := top 20
abbrev sTwo : Stmt := top 24
abbrev sInit : Stmt := inClass (top 25) 0
abbrev sStart : Stmt := inClass (top 25) 1
abbrev sEnd : Stmt := inClass (top 25) 2
abbrev sOut : Stmt := inClass (top 25) 3
abbrev sInto : Stmt := inClass (top 25) 4
abbrev sTab : Stmt := inClass (top 28) 0
abbrev sRooms : Stmt := top 33
abbrev sWord : Stmt := top 34
abbrev sLetI : Stmt := inClass (top 35) 0
abbrev sYdI : Stmt := inClass (top 36) 0
abbrev sPost : Stmt := inClass (top 36) 1
abbrev sEnded : Stmt := inClass (top 36) 15
abbrev sLaneT : Stmt := inClass (top 36) 16
abbrev sLetT : Stmt := inClass (top 36) 17
abbrev sWayT : Stmt := inClass (top 36) 18
abbrev sPosted : Stmt := inClass (top 36) 20
abbrev sHist : Stmt := inClass (top 36) 21
abbrev sHow : Stmt := top 38
abbrev sNl : Stmt := top 39
abbrev sNear : Stmt := inClass (top 40) 0
abbrev sWays : Stmt := inClass (top 40) 1
abbrev sCell : Stmt := top 42
abbrev sMix : Stmt := top 43
abbrev sLanes : Stmt := top 44
abbrev sNoR : Stmt := top 45
abbrev sRef : Stmt := top 46
abbrev sLRooms : Stmt := top 47
abbrev sBad : Stmt := top 48
abbrev sFull : Stmt := top 49
abbrev sLaw : Stmt := top 50
structure Txt (mg : Str → Option Value) : Prop where
  isi : mg "isinstance" = none
  int : mg "int" = none
  bool : mg "bool" = none
  len : mg "len" = none
  enum : mg "enumerate" = none
  tuple : mg "tuple" = none
  range : mg "range" = none
  list : mg "list" = none
  all : mg "all" = none
  sum : mg "sum" = none
  abs : mg "abs" = none
  verr : mg "ValueError" = none
/-! lanes in the heap -/
def LnV (H : Hp) (v : V) (p : Int × Int) : Prop := ∃ t, v = .ref t ∧ H t = some (.tup [.int p.1, .int p.2])
abbrev Lns (H : Hp) : List V → List (Int × Int) → Prop := Paired (LnV H)
theorem Lns.same {H H' : Hp} (h : Same H H') : ∀ {vs : List V} {ps : List (Int × Int)}, Lns H vs ps → Lns H' vs ps
  | _, _, .nil => .nil
  | _, _, .cons ⟨t, e, q⟩ r => .cons ⟨t, e, h _ _ q⟩ (Lns.same h r)
theorem Lns.get {H : Hp} : ∀ {vs : List V} {ps : List (Int × Int)} {i : Nat} {v : V}, Lns H vs ps → vs[i]? = some v → ∃ p, ps[i]? = some p ∧ LnV H v p
  | _, _, _, _, .nil, e => by simp at e
  | _, _, 0, _, .cons h _, e => by simp at e; subst e; exact ⟨_, rfl, h⟩
  | _, _, i + 1, _, .cons _ r, e => by
    obtain ⟨p, e1, h⟩ := Lns.get (i := i) r (by simpa using e)
    exact ⟨p, by simpa using e1, h⟩
theorem Lns.get2 {H : Hp} : ∀ {vs : List V} {ps : List (Int × Int)} {i : Nat} {p : Int × Int}, Lns H vs ps → ps[i]? = some p → ∃ v, vs[i]? = some v ∧ LnV H v p
  | _, _, _, _, .nil, e => by simp at e
  | _, _, 0, _, .cons h _, e => by simp at e; subst e; exact ⟨_, rfl, h⟩
  | _, _, i + 1, _, .cons _ r, e => by
    obtain ⟨p, e1, h⟩ := Lns.get2 (i := i) r (by simpa using e)
    exact ⟨p, by simpa using e1, h⟩
theorem Lns.snoc {H : Hp} {v : V} {p : Int × Int} (h : LnV H v p) : ∀ {vs : List V} {ps : List (Int × Int)}, Lns H vs ps → Lns H (vs ++ [v]) (ps ++ [p])
  | _, _, .nil => .cons h .nil
  | _, _, .cons q r => .cons q (Lns.snoc h r)
def okP (n : Int) (p : Int × Int) : Bool := decide (0 ≤ p.1 ∧ p.1 ≤ n - 1) && (decide (0 ≤ p.2 ∧ p.2 ≤ n - 1) && !decide (p.1 = p.2))
/-! the promises -/
def spWhole : Sp := fun vs H Q _ => ∃ i : Int, vs = [.int i] ∧ Q (.bl true) H
def spWithin : Sp := fun vs H Q _ => ∃ i a b : Int, vs = [.int i, .int a, .int b] ∧ Q (.bl (decide (a ≤ i ∧ i ≤ b))) H
def spTwo : Sp := fun vs H Q _ => ∃ n a b : Int, vs = [.int n, .int a, .int b] ∧ Q (.bl (okP n (a, b))) H
section
variable {P : Program} {w : World} {K : PySem.W.Frag} {mg : Str → Option Value} {base : Heap}
theorem scWhole : FnScope ["value"] ["value"] (defScope sWhole) := ⟨rfl, rfl, rfl, by decide +kernel, rfl, by decide +kernel, by decide +kernel⟩
theorem ok_whole {f : Addr} {fd : FuncData} (F : Fun K "is_whole" "is_whole" sWhole f fd) (T : Txt mg) : FnOk P w K mg base CX0 1 f fd ["value"] spWhole := by
  refine F.ok scWhole (fun vs H Q E h => ?_) (fun cdv A outer s H vs Q E hr h => ?_)
  · obtain ⟨m, rfl, _⟩ := h
    rfl
  · obtain ⟨i, rfl, q⟩ := h
    refine ⟨_, pss_one (ps_ret (pe_and (pe_callB call_isi rfl T.isi PyProof.Rows.boot_isinstance (pa_cons (pv 0) (pa_cons (pe_bltn (v := .ty "int") rfl T.int PySem.Pv.boot_int rfl) pa_nil)))
      (pe_one (pe_not (pe_callB call_isi rfl T.isi PyProof.Rows.boot_isinstance (pa_cons (pv 0) (pa_cons (pe_bltn (v := .ty "bool") rfl T.bool PySem.Pv.boot_bool rfl) pa_nil))))))), ?_⟩
    refine ⟨_, rfl, .inl ⟨i, rfl, true, rfl, ?_⟩⟩
    refine iteT ?_
    exact ⟨_, rfl, .inr (.inl ⟨i, rfl, false, rfl, q⟩)⟩
theorem scWithin : FnScope ["value", "least", "most"] ["value", "least", "most"] (defScope sWithin) := ⟨rfl, rfl, rfl, by decide +kernel, rfl, by decide +kernel, by decide +kernel⟩
theorem ok_within {f fh : Addr} {fd fdh : FuncData} (F : Fun K "is_within" "is_within" sWithin f fd) (T : Txt mg) (mh : mg "is_whole" = some (.ref fh)) (Fh : Fun K "is_whole" "is_whole" sWhole fh fdh) (bh : Binds K fdh ["value"] []) :
    FnOk P w K mg base CX0 2 f fd ["value", "least", "most"] spWithin := by
  have G : FnOk P w K mg base CX0 1 fh fdh ["value"] spWhole := ok_whole Fh T
  refine F.ok scWithin (fun vs H Q E h => ?_) (fun cdv A outer s H vs Q E hr h => ?_)
  · obtain ⟨i, a, b, rfl, _⟩ := h
    rfl
  · obtain ⟨i, a, b, rfl, q⟩ := h
    refine ⟨_, pss_one (ps_ret (pe_and (pe_call G hr rfl mh Fh.kp bh .nil pass0 (pa_cons (pv 0) pa_nil)) (pe_one (pe_chain op_le op_le (pv 1) (pv 0) (pv 2))))), ?_⟩
    refine ⟨_, rfl, i, rfl, true, rfl, iteT ?_⟩
    refine ⟨_, rfl, _, rfl, _, _, rfl, rfl, _, rfl, ?_⟩
    by_cases h1 : a ≤ i
    · rw [decide_eq_true h1]
      refine iteT ⟨_, rfl, _, _, rfl, rfl, ?_⟩
      show Q (V.bl (decide (i ≤ b))) H
      by_cases h2 : i ≤ b
      · rw [decide_eq_true h2]; rw [decide_eq_true ⟨h1, h2⟩] at q; exact q
      · rw [decide_eq_false h2]; rw [decide_eq_false fun z => h2 z.2] at q; exact q
    · rw [decide_eq_false h1]
      refine iteF ?_
      rw [decide_eq_false fun z => h1 z.1] at q; exact q
theorem scTwo : FnScope ["places", "one", "other", "last"] ["places", "one", "other"] (defScope sTwo) := ⟨rfl, rfl, rfl, by decide +kernel, rfl, by decide +kernel, by decide +kernel⟩
theorem ok_two {f fh : Addr} {fd fdh : FuncData} (F : Fun K "are_two_places" "are_two_places" sTwo f fd) (mh : mg "is_within" = some (.ref fh)) (kh : PySem.W.keepIn K (.ref fh) = true) (bh : Binds K fdh ["value", "least", "most"] [])
    (G : FnOk P w K mg base CX0 2 fh fdh ["value", "least", "most"] spWithin) :
    FnOk P w K mg base CX0 3 f fd ["places", "one", "other"] spTwo := by
  refine F.ok scTwo (fun vs H Q E h => ?_) (fun cdv A outer s H vs Q E hr h => ?_)
  · obtain ⟨i, a, b, rfl, _⟩ := h
    rfl
  · obtain ⟨n, a, b, rfl, q⟩ := h
    refine ⟨_, pss_cons (ps_set (i := 3) scTwo.nd rfl (Or.inl rfl) (pe_op op_sub (pv 0) pe_int))
      (pss_one (ps_ret (pe_and (pe_call G hr rfl mh kh bh .nil pass0 (pa_cons (pv 1) (pa_cons pe_int (pa_cons (pv 3) pa_nil))))
        (pe_and (pe_call G hr rfl mh kh bh .nil pass0 (pa_cons (pv 2) (pa_cons pe_int (pa_cons (pv 3) pa_nil)))) (pe_one (pe_cmpR op_ne (pv 1) (pv 2) (nomark _))))))), ?_⟩
    refine ⟨_, rfl, _, _, rfl, rfl, ?_⟩
    refine ⟨_, rfl, _, rfl, a, 0, n - 1, rfl, _, rfl, ?_⟩
    unfold okP at q
    dsimp only at q
    by_cases h1 : 0 ≤ a ∧ a ≤ n - 1
    · rw [decide_eq_true h1] at q ⊢
      rw [Bool.true_and] at q
      refine iteT ⟨_, rfl, _, rfl, b, 0, n - 1, rfl, _, rfl, ?_⟩
      by_cases h2 : 0 ≤ b ∧ b ≤ n - 1
      · rw [decide_eq_true h2] at q ⊢
        rw [Bool.true_and] at q
        refine iteT ⟨_, rfl, _, rfl, rfl, ?_⟩
        have e : decide (V.int a = V.int b) = decide (a = b) := by
          by_cases h : a = b
          · rw [h]; simp
          · rw [decide_eq_false h, decide_eq_false fun z => h (by injection z)]
        show Q (V.bl (!decide (V.int a = V.int b))) H
        rw [e]; exact q
      · rw [decide_eq_false h2] at q ⊢
        exact iteF q
    · rw [decide_eq_false h1] at q ⊢
      exact iteF q
end
end K46
namespace L2
open PySem
theorem made_heap {H1 : Hp} {e d : Addr} {o o' x : HO} (he : H1 e = none) (hd : upd H1 e o d = none) :
    Same H1 (del (upd (upd (upd H1 e o) d x) e o') e) ∧ (del (upd (upd (upd H1 e o) d x) e o') e) d = some x ∧ (upd (upd (upd H1 e o) d x) e o') e = some o' := by
  have hde : d ≠ e := fun z => by rw [z, upd_same] at hd; cases hd
  have hd1 : H1 d = none := by rw [upd_ne hde] at hd; exact hd
  refine ⟨fun b u q => ?_, ?_, upd_same⟩
  · have hbe : b ≠ e := ne_of_none q he
    have hbd : b ≠ d := ne_of_none q hd1
    rw [del_ne hbe, upd_ne hbe, upd_ne hbd, upd_ne hbe]; exact q
  · rw [del_ne hde, upd_ne hde, upd_same]
end L2
namespace K46
open PySem L2
inductive Due | places | many (k : Nat) | lane (k : Nat) | good
def badIx (n : Int) (ps : List (Int × Int)) : Option Nat := ps.findIdx? fun p => !okP n p
def dueOf (n : Int) (ps : List (Int × Int)) : Due := if decide (1 ≤ n ∧ n ≤ 12) = false then .places else if 40 < ps.length then .many ps.length else match badIx n ps with | some k => .lane k | none => .good
structure Cs where
  np : Addr
  tm : Addr
  nr : Addr
  land : Addr
def spXi (K : PySem.W.Frag) (fld : Str) : Sp := fun vs H Q _ => ∃ e C tt v, vs = [.ref e, v] ∧ H e = some (ExcAt e C tt none) ∧ XCls K C ∧ PySem.W.findIn K (.ref C) fld = some none ∧ ∀ d, H d = none → Q .non (upd (upd H d (.xd [(fld, v)])) e (ExcAt e C tt (some d)))
def LandAt (H : Hp) (c : Cs) (x dx t : Addr) (n : Int) (tvs : List V) (ps : List (Int × Int)) : Prop := H x = some (.ins c.land dx [("places", .int n), ("lanes", .ref t)]) ∧ H t = some (.tup tvs) ∧ Lns H tvs ps
def spInit (K : PySem.W.Frag) (c : Cs) : Sp := fun vs H Q E => ∃ x dx n p lvs ps, vs = [.ref x, .int n, .ref p] ∧ H x = some (.ins c.land dx []) ∧ SqL K H p lvs ∧ Lns H lvs ps ∧ lvs.length ≤ 1000 ∧
  (dueOf n ps = .places → ∀ H', Same H H' → E (.ref c.np) none H') ∧
  (∀ k, dueOf n ps = .many k → ∀ H' d, Same H H' → H' d = some (.xd [("many", .int k)]) → E (.ref c.tm) (some d) H') ∧
  (∀ k, dueOf n ps = .lane k → ∀ H' d, Same H H' → H' d = some (.xd [("lane", .int k)]) → E (.ref c.nr) (some d) H') ∧
  (dueOf n ps = .good → ∀ H' t tvs, (∀ b o, b ≠ x → H b = some o → H' b = some o) → LandAt H' c x dx t n tvs ps → Q .non H')
def tupScope (s : Stmt) : Scope := match s with
  | .Assign _ (.Call _ [.ListComp _ _ sc _] _ _) _ => sc
  | _ => { kind := .function, names := [], isGenerator := false, isCoroutine := false }
def retScope (s : Stmt) : Scope := match defBody s with
  | .Return (some (.ListComp _ _ sc _)) _ :: _ => sc
  | _ => { kind := .function, names := [], isGenerator := false, isCoroutine := false }
abbrev NI : List Str := ["self", "places", "lanes", "lane", "pair"]
structure Exc (K : PySem.W.Frag) (mg : Str → Option Value) (c : Cs) (f1 f2 : Addr) (d1 d2 : FuncData) : Prop where
  mnp : mg "NoPlaces" = some (.ref c.np)
  xnp : excInI K c.np none = true
  knp : PySem.W.keepIn K (.ref c.np) = true
  mtm : mg "TooMany" = some (.ref c.tm)
  xtm : excInI K c.tm (some (.ref f1)) = true
  ktm : PySem.W.keepIn K (.ref c.tm) = true
  ctm : XCls K c.tm
  ntm : PySem.W.findIn K (.ref c.tm) "many" = some none
  itm : PySem.W.isFn K (.ref f1) = true
  Ftm : Fun K "__init__" "TooMany.__init__" sTM f1 d1
  btm : Binds K d1 ["self", "many"] []
  mnr : mg "NoRoad" = some (.ref c.nr)
  xnr : excInI K c.nr (some (.ref f2)) = true
  knr : PySem.W.keepIn K (.ref c.nr) = true
  cnr : XCls K c.nr
  nnr : PySem.W.findIn K (.ref c.nr) "lane" = some none
  inr : PySem.W.isFn K (.ref f2) = true
  Fnr : Fun K "__init__" "NoRoad.__init__" sNR f2 d2
  bnr : Binds K d2 ["self", "lane"] []
structure Lnd (K : PySem.W.Frag) (c : Cs) : Prop where
  cl : Cls K c.land
  np : NoAttr K c.land "places"
  nl : NoAttr K c.land "lanes"
theorem badIx_none {n : Int} {ps : List (Int × Int)} (h : ∀ p ∈ ps, okP n p = true) : badIx n ps = none := by
  unfold badIx
  rw [List.findIdx?_eq_none_iff]
  intro p hp
  rw [h p hp]; rfl
theorem badIx_some {n : Int} {ps : List (Int × Int)} {i : Nat} {p : Int × Int} (h : ∀ q ∈ ps.take i, okP n q = true) (hi : ps[i]? = some p) (hb : okP n p = false) : badIx n ps = some i := by
  unfold badIx
  rw [List.findIdx?_eq_some_iff_getElem]
  obtain ⟨hlt, e⟩ := List.getElem?_eq_some_iff.mp hi
  refine ⟨hlt, by rw [e, hb]; rfl, fun j hj => ?_⟩
  have hm : ps[j]'(Nat.lt_trans hj hlt) ∈ ps.take i := List.mem_take_iff_getElem.mpr ⟨j, by omega, rfl⟩
  rw [h _ hm]; simp
/-- all but the instance at x is as it was -/
def Off (x : Addr) (H H' : Hp) : Prop := ∀ b o, b ≠ x → H b = some o → H' b = some o
theorem Off.sq {K : PySem.W.Frag} {H H' : Hp} {x p C dx : Addr} {fs : List (Str × V)} {xs : List V} (o : Off x H H') (hx : H x = some (.ins C dx fs)) (h : SqL K H p xs) : SqL K H' p xs := by
  rcases h with (h | ⟨ob, h⟩) | h
  · exact .inl (.inl (o _ _ (ne_of h hx (by intro z; cases z)) h))
  · exact .inl (.inr ⟨ob, o _ _ (ne_of h hx (by intro z; cases z)) h⟩)
  · exact .inr h
theorem Off.lns {H H' : Hp} {x C dx : Addr} {fs : List (Str × V)} (o : Off x H H') (hx : H x = some (.ins C dx fs)) : ∀ {vs : List V} {ps : List (Int × Int)}, Lns H vs ps → Lns H' vs ps
  | _, _, .nil => .nil
  | _, _, .cons ⟨t, e, q⟩ r => .cons ⟨t, e, o _ _ (ne_of q hx (by intro z; cases z)) q⟩ (Off.lns o hx r)
theorem Off.same {H H1 H2 : Hp} {x : Addr} (a : Off x H H1) (b : Same H1 H2) : Off x H H2 := fun c o n e => b _ _ (a c o n e)
section
variable {P : Program} {w : World} {K : PySem.W.Frag} {mg : Str → Option Value} {base : Heap}
theorem scTM : FnScope ["self", "many"] ["self", "many"] (defScope sTM) := ⟨rfl, rfl, rfl, by decide +kernel, rfl, by decide +kernel, by decide +kernel⟩
theorem scNR : FnScope ["self", "lane"] ["self", "lane"] (defScope sNR) := ⟨rfl, rfl, rfl, by decide +kernel, rfl, by decide +kernel, by decide +kernel⟩
theorem ok_tm {f : Addr} {fd : FuncData} (F : Fun K "__init__" "TooMany.__init__" sTM f fd) : FnOk P w K mg base CX0 1 f fd ["self", "many"] (spXi K "many") := by
  refine F.ok scTM (fun vs H Q E h => ?_) (fun cdv A outer s H vs Q E hr h => ?_)
  · obtain ⟨e, C, tt, v, rfl, _⟩ := h
    rfl
  · obtain ⟨e, C, tt, v, rfl, h1, h2, h3, q⟩ := h
    refine ⟨_, pss_one (ps_fldX (pv 0) (pv 1) rfl), ?_⟩
    exact ⟨_, rfl, _, rfl, e, C, tt, rfl, h1, h2, h3, q⟩
theorem ok_nr {f : Addr} {fd : FuncData} (F : Fun K "__init__" "NoRoad.__init__" sNR f fd) : FnOk P w K mg base CX0 1 f fd ["self", "lane"] (spXi K "lane") := by
  refine F.ok scNR (fun vs H Q E h => ?_) (fun cdv A outer s H vs Q E hr h => ?_)
  · obtain ⟨e, C, tt, v, rfl, _⟩ := h
    rfl
  · obtain ⟨e, C, tt, v, rfl, h1, h2, h3, q⟩ := h
    refine ⟨_, pss_one (ps_fldX (pv 0) (pv 1) rfl), ?_⟩
    exact ⟨_, rfl, _, rfl, e, C, tt, rfl, h1, h2, h3, q⟩
theorem scInit : FnScope NI ["self", "places", "lanes"] (defScope sInit) := ⟨rfl, rfl, rfl, by decide +kernel, rfl, by decide +kernel, by decide +kernel⟩
theorem bkInit : Blk NI (defScope sInit) (tupScope ((defBody sInit).getD 4 (.Pass ⟨0, 0, 0, 0⟩))) [] [] := ⟨rfl, by decide +kernel, by decide +kernel, by decide +kernel, rfl, by decide +kernel⟩
theorem ndPair : (["pair"] : List Str).Nodup := by decide +kernel
theorem ok_init {c : Cs} {f fw ft f1 f2 : Addr} {fd dw dt d1 d2 : FuncData} {t1 t2 : Tok} (F : Fun K "__init__" "Land.__init__" sInit f fd) (T : Txt mg) (L : Lnd K c) (X : Exc K mg c f1 f2 d1 d2)
    (mw : mg "is_within" = some (.ref fw)) (kw : PySem.W.keepIn K (.ref fw) = true) (bw : Binds K dw ["value", "least", "most"] []) (Gw : FnOk P w K mg base CX0 2 fw dw ["value", "least", "most"] spWithin)
    (mt : mg "are_two_places" = some (.ref ft)) (kt : PySem.W.keepIn K (.ref ft) = true) (bt : Binds K dt ["places", "one", "other"] []) (Gt : FnOk P w K mg base CX0 3 ft dt ["places", "one", "other"] spTwo)
    (mp : mg "MOST_PLACES" = some (.int 12 t1)) (ml : mg "MOST_LANES" = some (.int 40 t2)) :
    FnOk P w K mg base (CXe P w) 4 f fd ["self", "places", "lanes"] (spInit K c) := by
  have Gm : FnOk P w K mg base CX0 1 f1 d1 ["self", "many"] (spXi K "many") := ok_tm X.Ftm
  have Gr : FnOk P w K mg base CX0 1 f2 d2 ["self", "lane"] (spXi K "lane") := ok_nr X.Fnr
  refine F.okX scInit (fun vs H Q E h => ?_) (fun cdv A outer s H vs Q E hr h => ?_)
  · obtain ⟨x, dx, n, p, lvs, ps, rfl, _⟩ := h
    rfl
  · obtain ⟨x, dx, n, p, lvs, ps, rfl, hx, hp, hl, hlen, h1, h2, h3, h4⟩ := h
    have hr2 : Room 2 _ := hr.mono (by decide)
    refine ⟨_, pss_cons (ps_if (pt_not (pt_val (pe_call Gw hr2 rfl mw kw bw .nil pass0 (pa_cons (pv 1) (pa_cons pe_int (pa_cons (pe_glob (v := .int 12) rfl mp ⟨_, rfl⟩) pa_nil))))))
        (pss_one (ps_raise rfl X.xnp passX_def (px_plain X.xnp X.knp rfl rfl X.mnp (pa_cons pe_str pa_nil)))) pss_nil)
      (pss_cons (ps_if (pt_cmpR op_gt (pe_callB call_len_seq rfl T.len PySem.boot_len (pa_cons (pv 2) pa_nil)) (pe_glob (v := .int 40) rfl ml ⟨_, rfl⟩) (nomark _))
        (pss_one (ps_raise rfl X.xtm passX_def (px_init X.xtm X.itm X.ktm Gm hr2 X.btm rfl X.mtm (pa_cons (pe_callB call_len_seq rfl T.len PySem.boot_len (pa_cons (pv 2) pa_nil)) pa_nil)))) pss_nil)
      (pss_cons (ps_for own_def rfl (pi_enumL rfl T.enum (pa_cons (pv 2) pa_nil)) (pg_tup rfl (pgs_cons (pg_name (i := 3) scInit.nd rfl (Or.inl rfl)) (pgs_cons (pg_name (i := 4) scInit.nd rfl (Or.inl rfl)) pgs_nil)))
        (pss_one (ps_if (pt_not (pt_val (pe_call Gt hr rfl mt kt bt .nil pass0 (pa_cons (pv 1) (pa_cons (pe_ix ix_tup (pv 4) pe_int (fun _ _ => rfl)) (pa_cons (pe_ix ix_tup (pv 4) pe_int (fun _ _ => rfl)) pa_nil))))))
          (pss_one (ps_raise rfl X.xnr passX_def (px_init X.xnr X.inr X.knr Gr hr2 X.bnr rfl X.mnr (pa_cons (pv 3) pa_nil)))) pss_nil)))
      (pss_cons (ps_fld (pv 0) (pv 1) rfl)
      (pss_one (ps_fld (pv 0) (pe_callTy call_tuple_of rfl T.tuple PySem.Pv.boot_tuple (pa_cons (pe_comp (own := ["pair"]) (capN := []) (cap := []) bkInit rfl (pi_list (pv 2))
        (fun C s' H' fp => ⟨pg_name (i := 0) ndPair rfl (Or.inl rfl), pts_nil, pe_tup (pa_cons (pe_ix (show IxR _ (rIxT K) from ix_tup) (pv 0) pe_int (fun _ _ => rfl)) (pa_cons (pe_ix (show IxR _ (rIxT K) from ix_tup) (pv 0) pe_int (fun _ _ => rfl)) pa_nil))⟩)) pa_nil)) rfl))))), ?_⟩
    -- 1. the places
    refine ⟨_, rfl, n, 1, 12, rfl, _, rfl, ?_⟩
    by_cases hn : 1 ≤ n ∧ n ≤ 12
    rotate_left
    · rw [decide_eq_false hn]
      refine iteT ⟨by show 1 ≤ sizeLine; decide, ?_⟩
      exact h1 (by unfold dueOf; rw [if_pos (decide_eq_false hn)]) H (Same.refl H)
    rw [decide_eq_true hn]
    refine iteF ?_
    have hps : lvs.length = ps.length := Paired.length hl
    -- 2. how many
    refine ⟨_, rfl, p, _, rfl, .inl hp, _, _, rfl, rfl, _, rfl, ?_⟩
    by_cases hm : 40 < ps.length
    · rw [decide_eq_true (show (40 : Int) < (lvs.length : Nat) by omega)]
      refine iteT ⟨_, rfl, p, _, rfl, .inl hp, by show 1 ≤ sizeLine; decide, fun e tt he => ⟨e, _, tt, _, rfl, upd_same, X.ctm, X.ntm, fun d hd => ⟨rfl, ?_⟩⟩⟩
      obtain ⟨m1, m2, m3⟩ := made_heap (o := ExcAt e c.tm tt none) (o' := ExcAt e c.tm tt (some d)) (x := .xd [("many", .int (lvs.length : Nat))]) he hd
      refine ⟨some d, m3, h2 ps.length ?_ _ d m1 (by rw [m2, hps])⟩
      unfold dueOf
      rw [decide_eq_true hn, if_neg (by decide), if_pos hm]
    rw [decide_eq_false (show ¬ (40 : Int) < (lvs.length : Nat) by omega)]
    refine iteF ?_
    -- 3. each lane
    refine ⟨_, rfl, p, rfl, ⟨_, hp⟩, for_enum (sq := fun H => SqL K H p) (xs := lvs) (fun i σ H2 => ∃ a b : Option V, Same H H2 ∧ σ = [some (.ref x), some (.int n), some (.ref p), a, b] ∧ ∀ q ∈ ps.take i, okP n q = true)
      ⟨none, none, Same.refl H, rfl, fun q hq => by simp at hq⟩ (fun i σ H2 _ ⟨a, b, s2, _⟩ => s2.seq hp) ?_ ?_⟩
    · rintro i v q σ H2 hv ⟨a, b, s2, rfl, hall⟩ hq
      obtain ⟨pr, hpr, t, rfl, ht⟩ := Lns.get hl hv
      have s3 : Same H (upd H2 q (.tup [.int i, .ref t])) := s2.new hq
      refine ⟨q, _, rfl, SqT.of upd_same, rfl, _, _, rfl, _, _, rfl, rfl, ?_⟩
      have htt : SqT K (upd H2 q (.tup [.int i, .ref t])) t [.int pr.1, .int pr.2] := SqT.of (s3 _ _ ht)
      refine ⟨_, rfl, _, rfl, t, _, 0, _, rfl, rfl, htt, atI_nat (j := 0) rfl, ?_⟩
      refine ⟨_, rfl, t, _, 1, _, rfl, rfl, htt, atI_nat (j := 1) rfl, n, pr.1, pr.2, rfl, _, rfl, ?_⟩
      cases ho : okP n (pr.1, pr.2) with
      | true =>
        refine iteF ⟨some (.int i), some (.ref t), s3, rfl, fun z hz => ?_⟩
        rw [List.take_succ, hpr] at hz
        rcases List.mem_append.mp hz with hz | hz
        · exact hall z hz
        · have : z = pr := by simpa using hz
          rw [this]; exact ho
      | false =>
        refine iteT ⟨_, rfl, by show 1 ≤ sizeLine; decide, fun e tt he => ⟨e, _, tt, _, rfl, upd_same, X.cnr, X.nnr, fun d hd => ⟨rfl, ?_⟩⟩⟩
        obtain ⟨m1, m2, m3⟩ := made_heap (o := ExcAt e c.nr tt none) (o' := ExcAt e c.nr tt (some d)) (x := .xd [("lane", .int i)]) he hd
        refine ⟨some d, m3, h3 i ?_ _ d (s3.trans m1) m2⟩
        unfold dueOf
        rw [decide_eq_true hn, if_neg (by decide), if_neg hm, badIx_some hall hpr ho]
    · rintro σ H2 ⟨a, b, s2, rfl, hall⟩
      have hgood : dueOf n ps = .good := by
        unfold dueOf
        rw [decide_eq_true hn, if_neg (by decide), if_neg hm, badIx_none (fun z hz => hall z (by rw [hps, List.take_length]; exact hz))]
      -- 4. the places are stored
      have hx2 := s2 _ _ hx
      refine ⟨_, rfl, _, rfl, x, c.land, dx, _, rfl, hx2, L.cl, L.np, by show 0 < 1000; decide, ?_⟩
      -- 5. the lanes
      generalize hH3 : upd H2 x (.ins c.land dx (putF "places" (.int n) [])) = H3
      have o3 : Off x H H3 := fun b o hb e => by rw [← hH3, upd_ne hb]; exact s2 _ _ e
      have x3 : H3 x = some (.ins c.land dx [("places", .int n)]) := by rw [← hH3, upd_same]; rfl
      have l3 : Lns H3 lvs ps := o3.lns hx hl
      have p3 : SqL K H3 p lvs := o3.sq hx hp
      refine ⟨_, rfl, p, rfl, ⟨_, p3⟩, comp_gen lvs.length (by rw [PySem.sizeLine_eq]; omega) (fun i acc H4 => Same H3 H4 ∧ acc.length = i ∧ Lns H4 acc (ps.take i)) ⟨Same.refl _, rfl, .nil⟩ (fun i acc H4 h => Nat.le_of_eq h.2.1) ?_ ?_⟩
      · rintro i acc H4 hi ⟨s4, ha, hA⟩
        have q4 := s4.seq p3
        refine ⟨⟨lvs, lvs[i], q4, by simp [hi]⟩, fun y H5 ⟨e5, hy⟩ => ?_⟩
        subst e5
        have hy := hy lvs q4
        obtain ⟨pr, hpr, t, rfl, ht⟩ := Lns.get l3 hy
        have htt : SqT K H5 t [.int pr.1, .int pr.2] := SqT.of (s4 _ _ ht)
        refine ⟨_, rfl, t, _, 0, _, rfl, rfl, htt, atI_nat (j := 0) rfl, ?_⟩
        refine ⟨_, rfl, t, _, 1, _, rfl, rfl, htt, atI_nat (j := 1) rfl, by show 2 ≤ sizeLine; decide, fun r hr' => ?_⟩
        refine ⟨s4.new hr', by rw [List.length_append, ha]; rfl, ?_⟩
        rw [List.take_succ, hpr]
        exact Lns.snoc ⟨r, rfl, upd_same⟩ (Lns.same (Same.new (Same.refl _) hr') hA)
      · rintro acc H4 ⟨s4, ha, hA⟩
        have q4 := s4.seq p3
        refine ⟨⟨lvs, q4, Nat.le_refl _⟩, fun D hD => ?_⟩
        have s5 : Same H3 (upd H4 D (.lst acc)) := s4.new hD
        refine ⟨D, acc, rfl, .inl ⟨SqL.of upd_same, fun t ht => ?_⟩⟩
        have s6 : Same H3 (upd (upd H4 D (.lst acc)) t (.tup acc)) := s5.new ht
        have x6 := s6 _ _ x3
        refine ⟨_, rfl, x, c.land, dx, _, rfl, x6, L.cl, L.nl, by show 1 < 1000; decide, ?_⟩
        have htx : t ≠ x := fun z => by rw [z, s5 _ _ x3] at ht; cases ht
        refine h4 hgood _ t acc (fun b o hb e => ?_) ⟨by rw [upd_same]; rfl, by rw [upd_ne htx, upd_same], ?_⟩
        · rw [upd_ne hb]; exact s6 _ _ (o3 b o hb e)
        · have hA' : Lns H4 acc ps := by rw [hps, List.take_length] at hA; exact hA
          have x4 := s4 _ _ x3
          have hA6 : Lns (upd (upd H4 D (.lst acc)) t (.tup acc)) acc ps := Lns.same (Same.new (Same.new (Same.refl _) hD) ht) hA'
          exact Off.lns (x := x) (fun b o hb e => by rw [upd_ne hb]; exact e) x6 hA6
end
end K46
namespace K46
open PySem L2
def spAt (c : Cs) (sel : Int × Int → Int) : Sp := fun vs H Q _ => ∃ (x dx t : Addr) (n : Int) (tvs : List V) (ps : List (Int × Int)) (k : Nat) (pr : Int × Int), vs = [.ref x, .int k] ∧ LandAt H c x dx t n tvs ps ∧ ps[k]? = some pr ∧ Q (.int (sel pr)) H
def ixV (sel : Int × Int → Int) (ps : List (Int × Int)) (pl : Int) (m : Nat) : List V := ((List.range m).filter fun k => decide (sel (ps.getD k (0, 0)) = pl)).map fun k : Nat => V.int k
def spIx (c : Cs) (sel : Int × Int → Int) : Sp := fun vs H Q _ => ∃ (x dx t : Addr) (n : Int) (tvs : List V) (ps : List (Int × Int)) (pl : Int), vs = [.ref x, .int pl] ∧ LandAt H c x dx t n tvs ps ∧ ps.length ≤ 1000 ∧
  ∀ H' D, Same H H' → H' D = none → Q (.ref D) (upd H' D (.lst (ixV sel ps pl ps.length)))
theorem ixV_succ {sel : Int × Int → Int} {ps : List (Int × Int)} {pl : Int} {i : Nat} {pr : Int × Int} (h : ps[i]? = some pr) : ixV sel ps pl (i + 1) = if decide (sel pr = pl) then ixV sel ps pl i ++ [V.int i] else ixV sel ps pl i := by
  have e : ps.getD i (0, 0) = pr := by rw [List.getD_eq_getElem?_getD, h]; rfl
  unfold ixV
  rw [List.range_succ, List.filter_append]
  by_cases hs : sel pr = pl
  · rw [if_pos (decide_eq_true hs), List.filter_cons_of_pos (by rw [e]; exact decide_eq_true hs)]; simp
  · rw [if_neg (by rw [decide_eq_false hs]; decide), List.filter_cons_of_neg (by rw [e, decide_eq_false hs]; decide)]; simp
theorem ixV_len {sel : Int × Int → Int} {ps : List (Int × Int)} {pl : Int} {i : Nat} : (ixV sel ps pl i).length ≤ i := by
  unfold ixV
  rw [List.length_map]
  have := List.length_filter_le (fun k => decide (sel (ps.getD k (0, 0)) = pl)) (List.range i)
  rwa [List.length_range] at this
section
variable {P : Program} {w : World} {K : PySem.W.Frag} {mg : Str → Option Value} {base : Heap}
theorem scStart : FnScope ["self", "lane"] ["self", "lane"] (defScope sStart) := ⟨rfl, rfl, rfl, by decide +kernel, rfl, by decide +kernel, by decide +kernel⟩
theorem scEnd : FnScope ["self", "lane"] ["self", "lane"] (defScope sEnd) := ⟨rfl, rfl, rfl, by decide +kernel, rfl, by decide +kernel, by decide +kernel⟩
theorem ok_start {c : Cs} {f : Addr} {fd : FuncData} (F : Fun K "start_of" "Land.start_of" sStart f fd) (L : Lnd K c) : FnOk P w K mg base CX0 1 f fd ["self", "lane"] (spAt c Prod.fst) := by
  refine F.ok scStart (fun vs H Q E h => ?_) (fun cdv A outer s H vs Q E hr h => ?_)
  · obtain ⟨x, dx, t, n, tvs, ps, k, pr, rfl, _⟩ := h
    rfl
  · obtain ⟨x, dx, t, n, tvs, ps, k, pr, rfl, ⟨hx, ht, hl⟩, hk, q⟩ := h
    refine ⟨_, pss_one (ps_ret (pe_ix ix_tup (pe_ix ix_tup (pe_fld (pv 0) rfl) (pv 1) (fun _ _ => rfl)) pe_int (fun _ _ => rfl))), ?_⟩
    obtain ⟨v, hv, u, rfl, hu⟩ := Lns.get2 hl hk
    refine ⟨_, rfl, x, c.land, dx, _, _, rfl, hx, L.cl, L.nl, rfl, _, rfl, t, _, _, _, rfl, rfl, SqT.of ht, atI_nat hv, u, _, 0, _, rfl, rfl, SqT.of hu, atI_nat (j := 0) rfl, q⟩
theorem ok_end {c : Cs} {f : Addr} {fd : FuncData} (F : Fun K "end_of" "Land.end_of" sEnd f fd) (L : Lnd K c) : FnOk P w K mg base CX0 1 f fd ["self", "lane"] (spAt c Prod.snd) := by
  refine F.ok scEnd (fun vs H Q E h => ?_) (fun cdv A outer s H vs Q E hr h => ?_)
  · obtain ⟨x, dx, t, n, tvs, ps, k, pr, rfl, _⟩ := h
    rfl
  · obtain ⟨x, dx, t, n, tvs, ps, k, pr, rfl, ⟨hx, ht, hl⟩, hk, q⟩ := h
    refine ⟨_, pss_one (ps_ret (pe_ix ix_tup (pe_ix ix_tup (pe_fld (pv 0) rfl) (pv 1) (fun _ _ => rfl)) pe_int (fun _ _ => rfl))), ?_⟩
    obtain ⟨v, hv, u, rfl, hu⟩ := Lns.get2 hl hk
    refine ⟨_, rfl, x, c.land, dx, _, _, rfl, hx, L.cl, L.nl, rfl, _, rfl, t, _, _, _, rfl, rfl, SqT.of ht, atI_nat hv, u, _, 1, _, rfl, rfl, SqT.of hu, atI_nat (j := 1) rfl, q⟩
theorem scOut : FnScope ["self", "place"] ["self", "place"] (defScope sOut) := ⟨rfl, rfl, rfl, by decide +kernel, rfl, by decide +kernel, by decide +kernel⟩
theorem bkOut : Blk ["self", "place"] (defScope sOut) (retScope sOut) ["place"] [1] := ⟨rfl, by decide +kernel, by decide +kernel, by decide +kernel, rfl, by decide +kernel⟩
theorem scInto : FnScope ["self", "place"] ["self", "place"] (defScope sInto) := ⟨rfl, rfl, rfl, by decide +kernel, rfl, by decide +kernel, by decide +kernel⟩
theorem bkInto : Blk ["self", "place"] (defScope sInto) (retScope sInto) ["place"] [1] := ⟨rfl, by decide +kernel, by decide +kernel, by decide +kernel, rfl, by decide +kernel⟩
theorem ndOut : (["lane", "pair", "place"] : List Str).Nodup := by decide +kernel
theorem int_eq (a b : Int) : decide (V.int a = V.int b) = decide (a = b) := by
  by_cases h : a = b
  · rw [h]; simp
  · rw [decide_eq_false h, decide_eq_false fun z => h (by injection z)]
theorem ok_out {c : Cs} {f : Addr} {fd : FuncData} (F : Fun K "out_of" "Land.out_of" sOut f fd) (T : Txt mg) (L : Lnd K c) : FnOk P w K mg base CX0 1 f fd ["self", "place"] (spIx c Prod.fst) := by
  refine F.ok scOut (fun vs H Q E h => ?_) (fun cdv A outer s H vs Q E hr h => ?_)
  · obtain ⟨x, dx, t, n, tvs, ps, pl, rfl, _⟩ := h
    rfl
  · obtain ⟨x, dx, t, n, tvs, ps, pl, rfl, ⟨hx, ht, hl⟩, hlen, q⟩ := h
    refine ⟨_, pss_one (ps_ret (pe_comp (own := ["lane", "pair"]) (capN := ["place"]) (cap := [1]) bkOut rfl (pi_enumT rfl T.enum (pa_cons (pe_fld (pv 0) rfl) pa_nil))
      (fun C s' H' fp => ⟨(show PG _ _ (gTup K 2 _) from pg_tup rfl (pgs_cons (pg_name (i := 0) ndOut rfl (Or.inl rfl)) (pgs_cons (pg_name (i := 1) ndOut rfl (Or.inl rfl)) pgs_nil))),
        pts_one (pt_cmpR op_eq (pe_ix (show IxR _ (rIxT K) from ix_tup) (pv 1) pe_int (fun _ _ => rfl)) (pv 2) (nomark _)), pv 0⟩))), ?_⟩
    have hps : tvs.length = ps.length := Paired.length hl
    refine ⟨_, rfl, x, c.land, dx, _, _, rfl, hx, L.cl, L.nl, rfl, t, rfl, ⟨_, SqT.of ht⟩, comp_gen ps.length (by rw [PySem.sizeLine_eq]; omega) (fun i acc H4 => Same H H4 ∧ acc = ixV Prod.fst ps pl i) ⟨Same.refl _, rfl⟩ (fun i acc H4 h => by rw [h.2]; exact ixV_len) ?_ ?_⟩
    · rintro i acc H4 hi ⟨s4, rfl⟩
      have q4 : SqT K H4 t tvs := SqT.of (s4 _ _ ht)
      refine ⟨⟨tvs, tvs[i]'(by omega), q4, by simp [hps, hi]⟩, fun y H5 ⟨r, hr4, ey, h5⟩ => ?_⟩
      obtain ⟨v, hv, rfl⟩ := h5 tvs q4
      subst ey
      obtain ⟨pr, hpr, u, rfl, hu⟩ := Lns.get hl hv
      have s5 : Same H (upd H4 r (.tup [.int i, .ref u])) := s4.new hr4
      refine ⟨r, _, rfl, SqT.of upd_same, rfl, _, _, rfl, _, _, rfl, rfl, ?_⟩
      refine ⟨_, rfl, u, _, 0, _, rfl, rfl, SqT.of (s5 _ _ hu), atI_nat (j := 0) rfl, _, rfl, rfl, _, rfl, ?_⟩
      rw [int_eq, ixV_succ hpr]
      cases hd : decide (pr.1 = pl) with
      | true => exact iteT ⟨_, rfl, s5, by simp [hd]⟩
      | false => exact iteF ⟨s5, by simp [hd]⟩
    · rintro acc H4 ⟨s4, rfl⟩
      exact ⟨⟨tvs, SqT.of (s4 _ _ ht), hps⟩, fun D hD => q H4 D s4 hD⟩
theorem ok_into {c : Cs} {f : Addr} {fd : FuncData} (F : Fun K "into" "Land.into" sInto f fd) (T : Txt mg) (L : Lnd K c) : FnOk P w K mg base CX0 1 f fd ["self", "place"] (spIx c Prod.snd) := by
  refine F.ok scInto (fun vs H Q E h => ?_) (fun cdv A outer s H vs Q E hr h => ?_)
  · obtain ⟨x, dx, t, n, tvs, ps, pl, rfl, _⟩ := h
    rfl
  · obtain ⟨x, dx, t, n, tvs, ps, pl, rfl, ⟨hx, ht, hl⟩, hlen, q⟩ := h
    refine ⟨_, pss_one (ps_ret (pe_comp (own := ["lane", "pair"]) (capN := ["place"]) (cap := [1]) bkInto rfl (pi_enumT rfl T.enum (pa_cons (pe_fld (pv 0) rfl) pa_nil))
      (fun C s' H' fp => ⟨(show PG _ _ (gTup K 2 _) from pg_tup rfl (pgs_cons (pg_name (i := 0) ndOut rfl (Or.inl rfl)) (pgs_cons (pg_name (i := 1) ndOut rfl (Or.inl rfl)) pgs_nil))),
        pts_one (pt_cmpR op_eq (pe_ix (show IxR _ (rIxT K) from ix_tup) (pv 1) pe_int (fun _ _ => rfl)) (pv 2) (nomark _)), pv 0⟩))), ?_⟩
    have hps : tvs.length = ps.length := Paired.length hl
    refine ⟨_, rfl, x, c.land, dx, _, _, rfl, hx, L.cl, L.nl, rfl, t, rfl, ⟨_, SqT.of ht⟩, comp_gen ps.length (by rw [PySem.sizeLine_eq]; omega) (fun i acc H4 => Same H H4 ∧ acc = ixV Prod.snd ps pl i) ⟨Same.refl _, rfl⟩ (fun i acc H4 h => by rw [h.2]; exact ixV_len) ?_ ?_⟩
    · rintro i acc H4 hi ⟨s4, rfl⟩
      have q4 : SqT K H4 t tvs := SqT.of (s4 _ _ ht)
      refine ⟨⟨tvs, tvs[i]'(by omega), q4, by simp [hps, hi]⟩, fun y H5 ⟨r, hr4, ey, h5⟩ => ?_⟩
      obtain ⟨v, hv, rfl⟩ := h5 tvs q4
      subst ey
      obtain ⟨pr, hpr, u, rfl, hu⟩ := Lns.get hl hv
      have s5 : Same H (upd H4 r (.tup [.int i, .ref u])) := s4.new hr4
      refine ⟨r, _, rfl, SqT.of upd_same, rfl, _, _, rfl, _, _, rfl, rfl, ?_⟩
      refine ⟨_, rfl, u, _, 1, _, rfl, rfl, SqT.of (s5 _ _ hu), atI_nat (j := 1) rfl, _, rfl, rfl, _, rfl, ?_⟩
      rw [int_eq, ixV_succ hpr]
      cases hd : decide (pr.2 = pl) with
      | true => exact iteT ⟨_, rfl, s5, by simp [hd]⟩
      | false => exact iteF ⟨s5, by simp [hd]⟩
    · rintro acc H4 ⟨s4, rfl⟩
      exact ⟨⟨tvs, SqT.of (s4 _ _ ht), hps⟩, fun D hD => q H4 D s4 hD⟩
end
end K46
namespace K46
open PySem L2
def spHas : Sp := fun vs H Q _ => ∃ m k : Nat, vs = [.int m, .int k] ∧ Q (.bl (m.testBit k)) H
def memV (m : Nat) : List V := (Yd.memN m (Builtin.Int.intBits (m : Int))).map fun k : Nat => V.int k
def spMem : Sp := fun vs H Q _ => ∃ m : Nat, vs = [.int m] ∧ m < 2 ^ 400 ∧ ∀ p, H p = none → Q (.ref p) (upd H p (.lst (memV m)))
def spSet (K : PySem.W.Frag) : Sp := fun vs H Q _ => ∃ (a : Addr) (ks : List Nat), vs = [.ref a] ∧ SqL K H a (ks.map fun k : Nat => V.int k) ∧ (∀ k ∈ ks, k ≤ 1000) ∧ Q (.int (Yd.setN ks 0 : Nat)) H
section
variable {P : Program} {w : World} {K : PySem.W.Frag} {mg : Str → Option Value} {base : Heap}
theorem scHas : FnScope ["some", "number"] ["some", "number"] (defScope sHas) := ⟨rfl, rfl, rfl, by decide +kernel, rfl, by decide +kernel, by decide +kernel⟩
theorem ok_has {f : Addr} {fd : FuncData} (F : Fun K "has" "has" sHas f fd) : FnOk P w K mg base CX0 1 f fd ["some", "number"] spHas := by
  refine F.ok scHas (fun vs H Q E h => ?_) (fun cdv A outer s H vs Q E hr h => ?_)
  · obtain ⟨m, k, rfl, _⟩ := h
    rfl
  · obtain ⟨m, k, rfl, q⟩ := h
    refine ⟨_, pss_one (ps_ret (pe_and (pe_cmpR op_ge (pv 1) pe_int (nomark _)) (pe_one (pe_cmpR op_eq (pe_op op_and (pe_op op_shr (pv 0) (pv 1)) pe_int) pe_int (nomark _))))), ?_⟩
    refine ⟨_, rfl, _, _, rfl, rfl, _, rfl, ?_⟩
    rw [decide_eq_true (show (0 : Int) ≤ (k : Int) by omega)]
    refine iteT ?_
    refine ⟨_, rfl, _, rfl, _, _, rfl, rfl, (show (0 : Int) ≤ (k : Int) by omega), _, _, rfl, rfl, rfl, ?_⟩
    have e : decide (V.int (Builtin.bitAnd ((m : Int) / 2 ^ (k : Int).toNat) 1) = V.int 1) = m.testBit k := by
      rw [Int.toNat_natCast, ← Yd.has_bit m k]
      by_cases h : Builtin.bitAnd ((m : Int) / 2 ^ k) 1 = 1
      · rw [h]; simp
      · rw [decide_eq_false h, decide_eq_false fun z => h (by injection z)]
    rw [e]
    exact q
theorem natV_get {ks : List Nat} {i : Nat} {x : V} (h : (ks.map fun k : Nat => V.int k)[i]? = some x) : ∃ k, ks[i]? = some k ∧ x = V.int k := by
  rw [List.getElem?_map] at h
  cases e : ks[i]? with
  | none => rw [e] at h; cases h
  | some k => rw [e] at h; exact ⟨k, rfl, (Option.some.inj h).symm⟩
theorem scSet : FnScope ["numbers", "some", "number"] ["numbers"] (defScope sSet) := ⟨rfl, rfl, rfl, by decide +kernel, rfl, by decide +kernel, by decide +kernel⟩
theorem ok_set {f : Addr} {fd : FuncData} (F : Fun K "set_of" "set_of" sSet f fd) : FnOk P w K mg base CX0 1 f fd ["numbers"] (spSet K) := by
  refine F.ok scSet (fun vs H Q E h => ?_) (fun cdv A outer s H vs Q E hr h => ?_)
  · obtain ⟨a, ks, rfl, _⟩ := h
    rfl
  · obtain ⟨a, ks, rfl, hS, hk, q⟩ := h
    refine ⟨_, pss_cons (ps_set (i := 1) scSet.nd rfl (Or.inl rfl) pe_int)
      (pss_cons (ps_for PassesOwn.never rfl (pi_list (pv 0)) (pg_name (i := 2) scSet.nd rfl (Or.inl rfl))
        (pss_one (ps_set (i := 1) scSet.nd rfl (Or.inl rfl) (pe_op op_or (pv 1) (pe_op op_shl pe_int (pv 2))))))
      (pss_one (ps_ret (pv 1)))), ?_⟩
    refine ⟨_, rfl, a, rfl, ⟨_, hS⟩, for_list (K := K) (a := a) (xs := ks.map fun k : Nat => V.int k) (fun i σ H2 => ∃ v : Option V, H2 = H ∧ σ = [some (.ref a), some (.int (Yd.setN (ks.take i) 0 : Nat)), v])
      ⟨none, rfl, rfl⟩ (fun i σ H2 _ ⟨_, e, _⟩ => by rw [e]; exact hS) ?_ ?_⟩
    · rintro i x σ H2 hx ⟨v, rfl, rfl⟩
      obtain ⟨k, ek, rfl⟩ := natV_get hx
      have hk' := hk k (List.mem_of_getElem? ek)
      refine ⟨_, rfl, _, rfl, _, _, rfl, rfl, ⟨(show (0 : Int) ≤ (k : Int) by omega), (show (k : Int) ≤ 1000000 by omega), (by decide)⟩, _, _, rfl, rfl, some (.int k), rfl, ?_⟩
      have e : Builtin.bitOr ((Yd.setN (ks.take i) 0 : Nat) : Int) (1 * 2 ^ (k : Int).toNat) = ((Yd.setN (ks.take (i + 1)) 0 : Nat) : Int) := by
        rw [List.take_succ, ek, Int.toNat_natCast, Int.one_mul, show (2 : Int) ^ k = ((2 ^ k : Nat) : Int) by rw [Int.natCast_pow]; rfl, Yd.bitOr_nat, Yd.setN_app]
        rfl
      show [some (V.ref a), some (V.int _), some (V.int k)] = _
      rw [e]
    · rintro σ H2 ⟨v, rfl, rfl⟩
      refine ⟨_, rfl, ?_⟩
      rw [List.length_map, List.take_length]
      exact q
theorem scMem : FnScope ["some"] ["some"] (defScope sMem) := ⟨rfl, rfl, rfl, by decide +kernel, rfl, by decide +kernel, by decide +kernel⟩
theorem ndMem : (["number", "some"] : List Str).Nodup := by decide +kernel
theorem bkMem : Blk ["some"] (defScope sMem) (retScope sMem) ["some"] [0] := ⟨rfl, by decide +kernel, by decide +kernel, by decide +kernel, rfl, by decide +kernel⟩
theorem ok_mem {f fh : Addr} {fd fdh : FuncData} (F : Fun K "members" "members" sMem f fd) (T : Txt mg) (mh : mg "has" = some (.ref fh)) (Fh : Fun K "has" "has" sHas fh fdh) (bh : Binds K fdh ["some", "number"] []) : FnOk P w K mg base CX0 2 f fd ["some"] spMem := by
  have G : FnOk P w K mg base CX0 1 fh fdh ["some", "number"] spHas := ok_has Fh
  refine F.ok scMem (fun vs H Q E h => ?_) (fun cdv A outer s H vs Q E hr h => ?_)
  · obtain ⟨m, rfl, _⟩ := h
    rfl
  · obtain ⟨m, rfl, hm, q⟩ := h
    refine ⟨_, pss_one (ps_ret (pe_comp (own := ["number"]) (capN := ["some"]) (cap := [0]) bkMem rfl
      (pi_range1 rfl T.range (pa_cons (pe_bm0 PySem.F.plainAttrs_int PySem.F.slot_int_bit_length PySem.F.type_int_bit_length mt_bits (pv 0)) pa_nil))
      (fun C s' H' fp => ⟨pg_name (i := 0) ndMem rfl (Or.inl rfl), pts_one (pt_val (pe_call G hr rfl mh Fh.kp bh .nil pass0 (pa_cons (pv 1) (pa_cons (pv 0) pa_nil)))), pv 0⟩))), ?_⟩
    have hb : Builtin.Int.intBits (m : Int) ≤ 400 := Yd.bits_le hm
    refine ⟨_, rfl, rfl, _, rfl, rfl, (Builtin.Int.intBits (m : Int) : Nat), rfl, by omega, by omega, ?_⟩
    rw [Int.toNat_natCast]
    refine comp_rng (fun k => m.testBit k) (fun k => V.int k) (by rw [PySem.sizeLine_eq]; omega) (fun i acc N hi h => ?_) q
    refine ⟨_, rfl, _, rfl, m, i, by simp, _, rfl, ?_⟩
    cases e : m.testBit i with
    | true =>
      rw [e] at h
      refine iteT ⟨_, rfl, ?_⟩
      simpa using h
    | false =>
      rw [e] at h
      exact iteF (by simpa using h)
end
/-- the ints of a list of numbers -/
def iz (ks : List Nat) : List Int := ks.map fun k : Nat => (k : Int)
theorem iz_V (ks : List Nat) : (iz ks).map V.int = ks.map fun k : Nat => V.int k := by rw [iz, List.map_map]; rfl
theorem memV_iz (m : Nat) : memV m = (iz (Yd.memN m (Builtin.Int.intBits (m : Int)))).map V.int := by rw [iz_V]; rfl
theorem iz_rise {ks : List Nat} (h : ks.Pairwise (· < ·)) : (iz ks).Pairwise (· < ·) := by
  unfold iz
  rw [List.pairwise_map]
  exact h.imp fun z => by omega
theorem iz_mem {ks : List Nat} {k : Int} : k ∈ iz ks ↔ ∃ n ∈ ks, (n : Int) = k := List.mem_map
/-- the numbers told are the sorted ones -/
theorem mem_sorted {ks : List Nat} {ms : List Int} (h1 : ms.Pairwise (· < ·)) (h2 : ∀ k, k ∈ ms ↔ k ∈ iz ks) : iz (Yd.memN (Yd.setN ks 0) (Builtin.Int.intBits ((Yd.setN ks 0 : Nat) : Int))) = ms := by
  refine Yd.rise_ext (iz_rise (Yd.memN_rise _ _)) h1 fun k => ?_
  rw [h2 k, iz_mem, iz_mem]
  constructor
  · rintro ⟨n, hn, e⟩
    rw [Yd.memN_mem (Yd.bits_lt _), Yd.setN_bit] at hn
    exact ⟨n, by simpa using hn, e⟩
  · rintro ⟨n, hn, e⟩
    refine ⟨n, ?_, e⟩
    rw [Yd.memN_mem (Yd.bits_lt _), Yd.setN_bit]
    simpa using hn
theorem set_lt {ks : List Nat} {b : Nat} (h : ∀ k ∈ ks, k < b) : Yd.setN ks 0 < 2 ^ b := by
  rw [← Yd.due_set h]
  exact Yd.dueN_lt ks b
end K46
namespace K46
/-! ### how far: the rounds -/
abbrev Es := List (Nat × Nat)
def lk (fs : Es) (p : Nat) : Option Nat := (fs.find? fun x => decide (x.1 = p)).map (·.2)
theorem lk_some {fs : Es} {p d : Nat} (h : lk fs p = some d) : (p, d) ∈ fs := by
  unfold lk at h
  cases e : fs.find? (fun x => decide (x.1 = p)) with
  | none => rw [e] at h; cases h
  | some x =>
    rw [e] at h
    have h1 := List.find?_some e
    have h2 := List.mem_of_find?_eq_some e
    have h3 : x.2 = d := Option.some.inj h
    have h4 : x.1 = p := of_decide_eq_true h1
    rw [← h3, ← h4]; exact h2
theorem lk_none {fs : Es} {p : Nat} : lk fs p = none ↔ p ∉ fs.map (·.1) := by
  unfold lk
  rw [Option.map_eq_none_iff, List.find?_eq_none]
  constructor
  · intro h m
    obtain ⟨x, hx, e⟩ := List.mem_map.mp m
    exact h x hx (decide_eq_true e)
  · intro h x hx e
    exact h (List.mem_map.mpr ⟨x, hx, of_decide_eq_true e⟩)
theorem lk_mem {fs : Es} (hn : (fs.map (·.1)).Nodup) {p d : Nat} (h : (p, d) ∈ fs) : lk fs p = some d := by
  cases e : lk fs p with
  | none => exact absurd (List.mem_map.mpr ⟨_, h, rfl⟩) (lk_none.mp e)
  | some d' =>
    have h' := lk_some e
    have : ∀ {l : Es}, (l.map (·.1)).Nodup → (p, d) ∈ l → (p, d') ∈ l → d' = d := by
      intro l
      induction l with
      | nil => intro _ h; cases h
      | cons x l ih =>
        intro hn h1 h2
        rw [List.map_cons, List.nodup_cons] at hn
        rcases List.mem_cons.mp h1 with h1 | h1
        · rcases List.mem_cons.mp h2 with h2 | h2
          · rw [← h1] at h2; exact (Prod.mk.inj h2).2
          · exact absurd (List.mem_map.mpr ⟨_, h2, by rw [← h1]⟩) hn.1
        · rcases List.mem_cons.mp h2 with h2 | h2
          · exact absurd (List.mem_map.mpr ⟨_, h1, by rw [← h2]⟩) hn.1
          · exact ih hn.2 h1 h2
    rw [this hn h h']
theorem nodup_le : ∀ (n : Nat) (l : List Nat), l.Nodup → (∀ x ∈ l, x < n) → l.length ≤ n
  | 0, l, _, h => by
    cases l with
    | nil => exact Nat.le_refl _
    | cons x l => exact absurd (h x List.mem_cons_self) (Nat.not_lt_zero _)
  | n + 1, l, hn, h => by
    by_cases hm : n ∈ l
    · have e := List.length_erase_of_mem hm
      have := nodup_le n (l.erase n) (hn.erase n) fun x hx => by
        have hx' := (hn.mem_erase_iff).mp hx
        have := h x hx'.2
        have := hx'.1
        omega
      omega
    · have := nodup_le n l hn fun x hx => by
        have := h x hx
        have : x ≠ n := fun z => hm (by rw [← z]; exact hx)
        omega
      omega
/-- what the rounds keep: es the lanes, g the goal, i how many are looked at -/
structure Bfs (n : Nat) (es : Es) (g : Nat) (fs : Es) (i : Nat) : Prop where
  nd : (fs.map (·.1)).Nodup
  lt : ∀ x ∈ fs, x.1 < n
  g0 : (g, 0) ∈ fs
  up : ∀ p d, (p, d) ∈ fs → (p = g ∧ d = 0) ∨ ∃ q d', d = d' + 1 ∧ (q, d') ∈ fs ∧ (p, q) ∈ es
  sorted : fs.Pairwise fun x y => x.2 ≤ y.2
  near : ∀ y, fs[i]? = some y → ∀ x ∈ fs, x.2 ≤ y.2 + 1
  cl : ∀ k q d : Nat, k < i → fs[k]? = some (q, d) → ∀ s, (s, q) ∈ es → ∃ d', (s, d') ∈ fs ∧ d' ≤ d + 1
  ix : ∀ j p d : Nat, fs[j]? = some (p, d) → d ≤ j
  le : i ≤ fs.length
theorem Bfs.few {n : Nat} {es : Es} {g : Nat} {fs : Es} {i : Nat} (b : Bfs n es g fs i) : fs.length ≤ n := by
  have := nodup_le n (fs.map (·.1)) b.nd fun x hx => by
    obtain ⟨y, hy, rfl⟩ := List.mem_map.mp hx
    exact b.lt y hy
  rwa [List.length_map] at this
theorem bfs_start {n : Nat} {es : Es} {g : Nat} (hg : g < n) : Bfs n es g [(g, 0)] 0 where
  nd := by simp
  lt := fun x hx => by rw [List.mem_singleton.mp hx]; exact hg
  g0 := List.mem_singleton.mpr rfl
  up := fun p d h => by
    have := List.mem_singleton.mp h
    exact .inl (Prod.mk.inj this)
  sorted := by simp
  near := fun y hy x hx => by rw [List.mem_singleton.mp hx]; exact Nat.zero_le _
  cl := fun k _ _ h => absurd h (Nat.not_lt_zero _)
  ix := fun j p d h => by
    cases j with
    | zero => have := Option.some.inj h; have := (Prod.mk.inj this).2; omega
    | succ j => simp at h
  le := Nat.zero_le _
/-- one more, beneath the place that is looked at -/
theorem Bfs.push {n : Nat} {es : Es} {g : Nat} {fs : Es} {i s p d : Nat} (b : Bfs n es g fs i) (hy : fs[i]? = some (p, d)) (hs : s < n) (hl : (s, p) ∈ es) (hn : lk fs s = none) : Bfs n es g (fs ++ [(s, d + 1)]) i where
  nd := by
    rw [List.map_append, List.nodup_append]
    refine ⟨b.nd, by simp, fun a ha c hc => ?_⟩
    have hc : c = s := by simpa using hc
    intro z
    rw [z, hc] at ha
    exact lk_none.mp hn ha
  lt := fun x hx => by
    rcases List.mem_append.mp hx with h | h
    · exact b.lt x h
    · rw [List.mem_singleton.mp h]; exact hs
  g0 := List.mem_append_left _ b.g0
  up := fun q e h => by
    rcases List.mem_append.mp h with h | h
    · rcases b.up q e h with h | ⟨q', d', h1, h2, h3⟩
      · exact .inl h
      · exact .inr ⟨q', d', h1, List.mem_append_left _ h2, h3⟩
    · obtain ⟨h1, h2⟩ := Prod.mk.inj (List.mem_singleton.mp h)
      subst h1 h2
      exact .inr ⟨p, d, rfl, List.mem_append_left _ (List.mem_of_getElem? hy), hl⟩
  sorted := by
    rw [List.pairwise_append]
    refine ⟨b.sorted, by simp, fun x hx y hy' => ?_⟩
    rw [List.mem_singleton.mp hy']
    exact b.near _ hy x hx
  near := fun y hy' x hx => by
    have hi : i < fs.length := (List.getElem?_eq_some_iff.mp hy).1
    rw [List.getElem?_append_left hi, hy] at hy'
    rw [← Option.some.inj hy']
    rcases List.mem_append.mp hx with h | h
    · exact b.near _ hy x h
    · rw [List.mem_singleton.mp h]; exact Nat.le_refl _
  cl := fun k q e hk hq t ht => by
    have hi : i < fs.length := (List.getElem?_eq_some_iff.mp hy).1
    rw [List.getElem?_append_left (by omega)] at hq
    obtain ⟨d', h1, h2⟩ := b.cl k q e hk hq t ht
    exact ⟨d', List.mem_append_left _ h1, h2⟩
  ix := fun j q e h => by
    have hi : i < fs.length := (List.getElem?_eq_some_iff.mp hy).1
    have hd := b.ix i p d hy
    rcases Nat.lt_or_ge j fs.length with hj | hj
    · rw [List.getElem?_append_left hj] at h; exact b.ix j q e h
    · rw [List.getElem?_append_right hj] at h
      have hj0 : j - fs.length = 0 := by
        have := (List.getElem?_eq_some_iff.mp h).1
        simp at this; omega
      rw [hj0] at h
      have := (Prod.mk.inj (Option.some.inj h)).2
      omega
  le := Nat.le_trans b.le (by rw [List.length_append]; omega)
/-- the next one is looked at -/
theorem Bfs.next {n : Nat} {es : Es} {g : Nat} {fs : Es} {i p d : Nat} (b : Bfs n es g fs i) (hy : fs[i]? = some (p, d)) (hc : ∀ s, (s, p) ∈ es → s ∈ fs.map (·.1)) : Bfs n es g fs (i + 1) where
  nd := b.nd
  lt := b.lt
  g0 := b.g0
  up := b.up
  sorted := b.sorted
  near := fun y hy' x hx => by
    have hi : i < fs.length := (List.getElem?_eq_some_iff.mp hy).1
    have hi' : i + 1 < fs.length := (List.getElem?_eq_some_iff.mp hy').1
    have h1 := b.near _ hy x hx
    have h2 := List.pairwise_iff_getElem.mp b.sorted i (i + 1) hi hi' (Nat.lt_succ_self _)
    have e1 : fs[i] = (p, d) := (List.getElem?_eq_some_iff.mp hy).2
    have e2 : fs[i + 1] = y := (List.getElem?_eq_some_iff.mp hy').2
    rw [e1, e2] at h2
    have h2 : d ≤ y.2 := h2
    have h1 : x.2 ≤ d + 1 := h1
    omega
  cl := fun k q e hk hq s hs => by
    rcases Nat.lt_or_ge k i with h | h
    · exact b.cl k q e h hq s hs
    · have : k = i := by omega
      subst this
      rw [hy] at hq
      obtain ⟨h1, h2⟩ := Prod.mk.inj (Option.some.inj hq)
      subst h1 h2
      obtain ⟨x, hx, e⟩ := List.mem_map.mp (hc s hs)
      exact ⟨x.2, by rw [← e]; exact hx, b.near _ hy x hx⟩
  ix := b.ix
  le := (List.getElem?_eq_some_iff.mp hy).1
/-- far as it comes out -/
structure Far (n : Nat) (es : Es) (g : Nat) (fs : Es) : Prop where
  nd : (fs.map (·.1)).Nodup
  lt : ∀ x ∈ fs, x.1 < n
  g0 : lk fs g = some 0
  up : ∀ p d, lk fs p = some d → (p = g ∧ d = 0) ∨ ∃ q d', d = d' + 1 ∧ lk fs q = some d' ∧ (p, q) ∈ es
  cl : ∀ s q d, (s, q) ∈ es → lk fs q = some d → ∃ d', lk fs s = some d' ∧ d' ≤ d + 1
  few : ∀ p d, lk fs p = some d → d < n
theorem Bfs.far {n : Nat} {es : Es} {g : Nat} {fs : Es} (b : Bfs n es g fs fs.length) : Far n es g fs where
  nd := b.nd
  lt := b.lt
  g0 := lk_mem b.nd b.g0
  up := fun p d h => by
    rcases b.up p d (lk_some h) with h | ⟨q, d', h1, h2, h3⟩
    · exact .inl h
    · exact .inr ⟨q, d', h1, lk_mem b.nd h2, h3⟩
  cl := fun s q d hs hq => by
    obtain ⟨k, hk⟩ := List.getElem?_of_mem (lk_some hq)
    obtain ⟨d', h1, h2⟩ := b.cl k q d (List.getElem?_eq_some_iff.mp hk).1 hk s hs
    exact ⟨d', lk_mem b.nd h1, h2⟩
  few := fun p d h => by
    obtain ⟨k, hk⟩ := List.getElem?_of_mem (lk_some h)
    have h1 := b.ix k p d hk
    have h2 := (List.getElem?_eq_some_iff.mp hk).1
    have h3 := b.few
    omega
/-! ### the law's own rounds -/
def D (n : Nat) (fs : Es) (p : Nat) : Nat := (lk fs p).getD (n + 1)
def relax (F : List Nat) (e : Nat × Nat) : List Nat := F.set e.1 (min (F.getD e.1 0) (F.getD e.2 0 + 1))
/-- after k whole rounds and the lanes of pre -/
structure Rnd (n : Nat) (es : Es) (fs : Es) (k : Nat) (pre : Es) (F : List Nat) : Prop where
  len : F.length = n
  lo : ∀ p, p < n → D n fs p ≤ F.getD p 0
  hi : ∀ p, p < n → F.getD p 0 ≤ n + 1
  at_ : ∀ p d, lk fs p = some d → d ≤ k → F.getD p 0 ≤ d
  on : ∀ s q d, (s, q) ∈ pre → lk fs q = some d → d ≤ k → F.getD s 0 ≤ d + 1
end K46
namespace K46
open PySem L2
def nV (ps : List Nat) : List V := ps.map fun q : Nat => V.int (q : Int)
theorem nV_len (ps : List Nat) : (nV ps).length = ps.length := by simp [nV]
theorem nV_get {ps : List Nat} {k q : Nat} (h : ps[k]? = some q) : (nV ps)[k]? = some (V.int (q : Int)) := by simp [nV, h]
theorem nV_app (a b : List Nat) : nV (a ++ b) = nV a ++ nV b := by unfold nV; rw [List.map_append]
theorem nV_mem {ps : List Nat} {v : V} (h : v ∈ nV ps) : ∃ q : Nat, q ∈ ps ∧ v = .int (q : Int) := by
  obtain ⟨q, hq, e⟩ := List.mem_map.mp h
  exact ⟨q, hq, e.symm⟩
def fk (x : Nat × Nat) : Key × V := (Sum.inl (x.1 : Int), V.int (x.2 : Int))
def zp (x : Nat × Nat) : Int × Int := ((x.1 : Int), (x.2 : Int))
theorem valV_fk (p : Nat) : ∀ fs : Es, valV (fs.map fk) (Sum.inl (p : Int)) = (lk fs p).map fun d : Nat => V.int (d : Int)
  | [] => rfl
  | x :: fs => by
    have ih := valV_fk p fs
    unfold valV lk at ih ⊢
    rw [List.map_cons, List.find?_cons, List.find?_cons]
    by_cases h : x.1 = p
    · have h1 : (fk x).1 = (Sum.inl (p : Int) : Key) := by rw [← h]; rfl
      rw [decide_eq_true h, decide_eq_true h1]; rfl
    · have h1 : ¬ (fk x).1 = (Sum.inl (p : Int) : Key) := fun z => h (by have := Sum.inl.inj z; omega)
      rw [decide_eq_false h, decide_eq_false h1]; exact ih
theorem put_fk {fs : Es} {s d : Nat} (h : lk fs s = none) : putK (fs.map fk) (Sum.inl (s : Int)) (V.int (d : Int)) = (fs ++ [(s, d)]).map fk := by
  rw [putK_new _ (by rw [valV_fk, h]; rfl), List.map_append]; rfl
def inIx (es : Es) (p : Nat) : List Nat := (List.range es.length).filter fun k => decide ((es.getD k (0, 0)).2 = p)
def outIx (es : Es) (p : Nat) : List Nat := (List.range es.length).filter fun k => decide ((es.getD k (0, 0)).1 = p)
theorem zp_getD (es : Es) (k : Nat) : (es.map zp).getD k (0, 0) = zp (es.getD k (0, 0)) := by
  rw [List.getD_eq_getElem?_getD, List.getD_eq_getElem?_getD, List.getElem?_map]
  cases es[k]? <;> rfl
theorem in_eq (es : Es) (p : Nat) : ixV Prod.snd (es.map zp) (p : Int) (es.map zp).length = nV (inIx es p) := by
  unfold ixV inIx nV
  rw [List.length_map]
  congr 1
  refine List.filter_congr fun k _ => ?_
  rw [zp_getD]
  show decide (((es.getD k (0, 0)).2 : Int) = (p : Int)) = decide ((es.getD k (0, 0)).2 = p)
  by_cases h : (es.getD k (0, 0)).2 = p
  · rw [decide_eq_true h, decide_eq_true (by omega)]
  · rw [decide_eq_false h, decide_eq_false (by omega)]
theorem out_eq (es : Es) (p : Nat) : ixV Prod.fst (es.map zp) (p : Int) (es.map zp).length = nV (outIx es p) := by
  unfold ixV outIx nV
  rw [List.length_map]
  congr 1
  refine List.filter_congr fun k _ => ?_
  rw [zp_getD]
  show decide (((es.getD k (0, 0)).1 : Int) = (p : Int)) = decide ((es.getD k (0, 0)).1 = p)
  by_cases h : (es.getD k (0, 0)).1 = p
  · rw [decide_eq_true h, decide_eq_true (by omega)]
  · rw [decide_eq_false h, decide_eq_false (by omega)]
theorem out_len (es : Es) (p : Nat) : (outIx es p).length ≤ es.length := by
  unfold outIx
  exact Nat.le_trans (List.length_filter_le _ _) (by rw [List.length_range]; exact Nat.le_refl _)
theorem in_at {es : Es} {p k : Nat} (h : k ∈ inIx es p) : ∃ s, es[k]? = some (s, p) ∧ es.getD k (0, 0) = (s, p) := by
  obtain ⟨h1, h2⟩ := List.mem_filter.mp h
  have hk := List.mem_range.mp h1
  have e := List.getElem?_eq_getElem hk
  have e2 : es.getD k (0, 0) = es[k] := by rw [List.getD_eq_getElem?_getD, e]; rfl
  have h2 : (es.getD k (0, 0)).2 = p := of_decide_eq_true h2
  refine ⟨es[k].1, ?_, ?_⟩
  · rw [e, ← h2, e2]
  · rw [e2, ← h2, e2]
/-- a table of lanes among n places -/
def Lok (n : Nat) (es : Es) : Prop := ∀ e ∈ es, e.1 < n ∧ e.2 < n
def spHow (c : Cs) : Sp := fun vs H Q _ => ∃ (lx ldx lt : Addr) (tvs : List V) (n : Nat) (es : Es) (g : Nat), vs = [.ref lx, .int g] ∧ LandAt H c lx ldx lt (n : Int) tvs (es.map zp) ∧ Lok n es ∧ es.length ≤ 100 ∧ n ≤ 100 ∧ g < n ∧
  ∀ (fa : Addr) (fs : Es) (H' : Hp), Same H H' → H fa = none → Far n es g fs → H' fa = some (.dK (fs.map fk)) → Q (.ref fa) H'
structure Lm (K : PySem.W.Frag) (c : Cs) (fs fe fo fi : Addr) (ds de do' di : FuncData) : Prop where
  ms : Meth K c.land "start_of" fs
  bs : Binds K ds ["self", "lane"] []
  me : Meth K c.land "end_of" fe
  be : Binds K de ["self", "lane"] []
  mo : Meth K c.land "out_of" fo
  bo : Binds K do' ["self", "place"] []
  mi : Meth K c.land "into" fi
  bi : Binds K di ["self", "place"] []
abbrev NH : List Str := ["land", "goal", "far", "line", "looked_at", "place", "lane", "start"]
section
variable {P : Program} {w : World} {K : PySem.W.Frag} {mg : Str → Option Value} {base : Heap}
theorem scH : FnScope NH ["land", "goal"] (defScope sHow) := ⟨rfl, rfl, rfl, by decide +kernel, rfl, by decide +kernel, by decide +kernel⟩
theorem ok_how {c : Cs} {f f1 f2 f3 f4 : Addr} {fd d1 d2 d3 d4 : FuncData} (F : Fun K "how_far" "how_far" sHow f fd) (T : Txt mg) (L : Lnd K c) (M : Lm K c f1 f2 f3 f4 d1 d2 d3 d4)
    (Gs : FnOk P w K mg base CX0 1 f1 d1 ["self", "lane"] (spAt c Prod.fst)) (Gi : FnOk P w K mg base CX0 1 f4 d4 ["self", "place"] (spIx c Prod.snd)) : FnOk P w K mg base CX0 2 f fd ["land", "goal"] (spHow c) := by
  refine F.ok scH (fun vs H Q E h => ?_) (fun cdv A outer s H vs Q E hr h => ?_)
  · obtain ⟨lx, ldx, lt, tvs, n, es, g, rfl, _⟩ := h
    rfl
  · obtain ⟨lx, ldx, lt, tvs, n, es, g, rfl, hL, hlok, hel, hn, hg, q⟩ := h
    have hu := hu_of hr
    refine ⟨_, pss_cons (ps_set (i := 2) scH.nd rfl (Or.inl rfl) (pe_disp (pps_cons (pv 1) pe_int pps_nil) rfl rfl (by intro z; cases z) (by decide)))
      (pss_cons (ps_set (i := 3) scH.nd rfl (Or.inl rfl) (pe_lst (pa_cons (pv 1) pa_nil)))
      (pss_cons (ps_set (i := 4) scH.nd rfl (Or.inl rfl) pe_int)
      (pss_cons (ps_while PassesOwn.never (pt_cmpR op_lt (pv 4) (pe_callB call_len_seq rfl T.len PySem.boot_len (pa_cons (pv 3) pa_nil)) (nomark _))
        (pss_cons (ps_set (i := 5) scH.nd rfl (Or.inl rfl) (pe_ix ix_list (pv 3) (pv 4) (fun _ _ => rfl)))
        (pss_cons (ps_aug (i := 4) scH.nd rfl (Or.inl rfl) pe_int ip_add)
        (pss_one (ps_for PassesOwn.never rfl (pi_list (pe_meth (pv 0) L.cl M.mi Gi hr M.bi .nil pass0 (pa_cons (pv 5) pa_nil))) (pg_name (i := 6) scH.nd rfl (Or.inl rfl))
          (pss_cons (ps_set (i := 7) scH.nd rfl (Or.inl rfl) (pe_meth (pv 0) L.cl M.ms Gs hr M.bs .nil pass0 (pa_cons (pv 6) pa_nil)))
          (pss_one (ps_if (pt_cmp (pc_dnotin hu (pv 7) (pv 2)))
            (pss_cons (ps_dput hu (pv 2) (pv 7) (pe_op op_add (pe_dget hu (pv 2) (pv 5) (fun _ _ => rfl)) pe_int) rfl)
            (pss_one (ps_expr (pe_bm PySem.F.plainAttrs_list PySem.F.slot_list_append PySem.F.type_list_append mt_append (pv 3) (pa_cons (pv 7) pa_nil))))) pss_nil))))))))
      (pss_one (ps_ret (pv 2)))))), ?_⟩
    have land : ∀ {H' : Hp}, Same H H' → LandAt H' c lx ldx lt (n : Int) tvs (es.map zp) := fun s' => ⟨s' _ _ hL.1, s' _ _ hL.2.1, Lns.same s' hL.2.2⟩
    refine fun fa hfa => ⟨_, rfl, upd_same, [fk (g, 0)], rfl, (by show 1 ≤ 15; decide), ?_⟩
    have s0 : Same H (upd (upd H fa (.dK [])) fa (.dK (mergeK [] [fk (g, 0)]))) := fun b o e => by rw [upd_ne (ne_of_none e hfa), upd_ne (ne_of_none e hfa)]; exact e
    have gf0 : (upd (upd H fa (.dK [])) fa (.dK (mergeK [] [fk (g, 0)]))) fa = some (.dK ([(g, 0)].map fk)) := upd_same
    generalize upd (upd H fa (.dK [])) fa (.dK (mergeK [] [fk (g, 0)])) = H0 at s0 gf0 ⊢
    refine ⟨_, rfl, by show 1 ≤ sizeLine; decide, fun ln hln => ?_⟩
    have s1 := s0.new (o := .lst [.int g]) hln
    have hlnH : H ln = none := s0.free hln
    have gl1 : (upd H0 ln (.lst [.int g])) ln = some (.lst (nV ([(g, 0)].map (·.1)))) := upd_same
    have gf1 : (upd H0 ln (.lst [.int g])) fa = some (.dK ([(g, 0)].map fk)) := by rw [upd_ne (ne_of_none gf0 hln)]; exact gf0
    generalize upd H0 ln (.lst [.int g]) = H1 at s1 gl1 gf1 ⊢
    refine ⟨fun m σ H' => ∃ (fs : Es) (i : Nat) (a5 a6 a7 : Option V), m = n - i ∧ Bfs n es g fs i ∧ Same H H' ∧ H' fa = some (.dK (fs.map fk)) ∧ H' ln = some (.lst (nV (fs.map (·.1)))) ∧ σ = [some (.ref lx), some (.int g), some (.ref fa), some (.ref ln), some (.int (i : Nat)), a5, a6, a7],
      ⟨n - 0, [(g, 0)], 0, none, none, none, rfl, bfs_start hg, s1, gf1, gl1, rfl⟩, ?_⟩
    rintro m σ H2 ⟨fs, i, a5, a6, a7, rfl, hB, s2, gf, gl, rfl⟩
    have hfew := hB.few
    refine ⟨_, rfl, _, rfl, ln, _, rfl, .inl (SqL.of gl), _, _, rfl, rfl, _, rfl, ?_⟩
    by_cases hi : i < fs.length
    rotate_left
    · have e : i = fs.length := by have := hB.le; omega
      subst e
      rw [decide_eq_false (by rw [nV_len, List.length_map]; omega)]
      exact iteF ⟨_, rfl, q fa fs H2 s2 hfa hB.far gf⟩
    rw [decide_eq_true (by rw [nV_len, List.length_map]; omega)]
    have hy := List.getElem?_eq_getElem hi
    generalize fs[i] = pd at hy
    obtain ⟨p, d⟩ := pd
    have hp : p < n := hB.lt _ (List.mem_of_getElem? hy)
    have hpl : (nV (fs.map (·.1)))[i]? = some (.int (p : Int)) := nV_get (by rw [List.getElem?_map, hy]; rfl)
    refine iteT ⟨fun σ' H' => ∃ (fs' : Es) (a5 a6 a7 : Option V), Bfs n es g fs' (i + 1) ∧ Same H H' ∧ H' fa = some (.dK (fs'.map fk)) ∧ H' ln = some (.lst (nV (fs'.map (·.1)))) ∧ σ' = [some (.ref lx), some (.int g), some (.ref fa), some (.ref ln), some (.int ((i : Int) + 1)), a5, a6, a7],
      fun σ' H' ⟨fs', a5, a6, a7, h1, h2, h3, h4, h5⟩ => ⟨n - (i + 1), by omega, fs', i + 1, a5, a6, a7, rfl, h1, h2, h3, h4, h5⟩, ?_⟩
    refine ⟨_, rfl, _, rfl, ln, _, _, _, rfl, rfl, SqL.of gl, atI_nat hpl, ?_⟩
    refine ⟨_, rfl, _, _, rfl, rfl, ?_⟩
    refine ⟨_, rfl, lx, ldx, _, rfl, (land s2).1, rfl, _, rfl, lx, ldx, lt, (n : Int), tvs, es.map zp, (p : Int), rfl, land s2, by rw [List.length_map]; omega, fun H3 Ia s3 hIa => ?_⟩
    rw [in_eq]
    have u3 := s3.new (o := .lst (nV (inIx es p))) hIa
    have gI : (upd H3 Ia (.lst (nV (inIx es p)))) Ia = some (.lst (nV (inIx es p))) := upd_same
    have nIl : Ia ≠ ln := Ne.symm (ne_of_none (s3 _ _ gl) hIa)
    have nIf : Ia ≠ fa := Ne.symm (ne_of_none (s3 _ _ gf) hIa)
    have nlf : ln ≠ fa := ne_of gl gf (by intro z; cases z)
    generalize upd H3 Ia (.lst (nV (inIx es p))) = H4 at u3 gI ⊢
    refine ⟨Ia, rfl, ⟨_, SqL.of gI⟩, ?_⟩
    refine for_list (K := K) (a := Ia) (xs := nV (inIx es p)) (fun m σ H5 => ∃ (fs' : Es) (a6 a7 : Option V), Bfs n es g fs' i ∧ fs'[i]? = some (p, d) ∧ (∀ k ∈ (inIx es p).take m, (es.getD k (0, 0)).1 ∈ fs'.map (·.1)) ∧ Same H H5 ∧ H5 Ia = some (.lst (nV (inIx es p))) ∧ H5 fa = some (.dK (fs'.map fk)) ∧ H5 ln = some (.lst (nV (fs'.map (·.1)))) ∧
        σ = [some (.ref lx), some (.int g), some (.ref fa), some (.ref ln), some (.int ((i : Int) + 1)), some (.int p), a6, a7])
      ⟨fs, _, _, hB, hy, fun k hk => by simp at hk, s2.trans u3, gI, u3 _ _ gf, u3 _ _ gl, rfl⟩ (fun m σ H5 _ ⟨_, _, _, _, _, _, _, g5, _⟩ => SqL.of g5) ?_ ?_
    · rintro m v σ H5 hv ⟨fs', a6, a7, hB', hy', hall, s5, gI5, gf5, gl5, rfl⟩
      have hm : m < (inIx es p).length := by have := (List.getElem?_eq_some_iff.mp hv).1; rw [nV_len] at this; exact this
      have hk0 := List.getElem?_eq_getElem hm
      have hv' := nV_get hk0
      rw [hv'] at hv
      have hv := Option.some.inj hv
      subst hv
      generalize hke : (inIx es p)[m] = k at hk0
      obtain ⟨st, hk1, hk2⟩ := in_at (List.mem_of_getElem? hk0)
      have hmem := List.mem_of_getElem? hk1
      have hst := (hlok _ hmem).1
      have step : ∀ {fs2 : Es}, (∀ x ∈ fs'.map (·.1), x ∈ fs2.map (·.1)) → st ∈ fs2.map (·.1) → ∀ k ∈ (inIx es p).take (m + 1), (es.getD k (0, 0)).1 ∈ fs2.map (·.1) := fun hsub hin k' hk' => by
        rw [List.take_succ, hk0] at hk'
        rcases List.mem_append.mp hk' with h | h
        · exact hsub _ (hall k' h)
        · have : k' = k := by simpa using h
          rw [this, hk2]; exact hin
      refine ⟨_, rfl, lx, ldx, _, rfl, (land s5).1, rfl, _, rfl, lx, ldx, lt, (n : Int), tvs, es.map zp, k, zp (st, p), rfl, land s5, by rw [List.getElem?_map, hk1]; rfl, ?_⟩
      refine ⟨_, rfl, _, rfl, fa, _, rfl, DGet.k (k := Sum.inl (st : Int)) gf5, _, rfl, ?_⟩
      rw [valV_fk]
      have hfew' := hB'.few
      cases hlk : lk fs' st with
      | some d' => exact iteF ⟨fs', _, _, hB', hy', step (fun x hx => hx) (List.mem_map.mpr ⟨_, lk_some hlk, rfl⟩), s5, gI5, gf5, gl5, rfl⟩
      | none =>
        refine iteT ?_
        refine ⟨_, rfl, _, rfl, fa, .int (d : Int), rfl, ?_, _, _, rfl, rfl, _, rfl, _, rfl, fa, _, rfl, DPut.k (k := Sum.inl (st : Int)) gf5 (by rw [PySem.sizeLine_eq, List.length_map]; omega), ?_⟩
        · have := DGet.k (k := Sum.inl (p : Int)) gf5
          rw [valV_fk, lk_mem hB'.nd (List.mem_of_getElem? hy')] at this
          exact this
        dsimp only
        have ep : putK (fs'.map fk) (Sum.inl (st : Int)) (V.int ((d : Int) + 1)) = (fs' ++ [(st, d + 1)]).map fk := put_fk (d := d + 1) hlk
        have gI6 : (upd H5 fa (.dK (putK (fs'.map fk) (Sum.inl (st : Int)) (V.int ((d : Int) + 1))))) Ia = some (.lst (nV (inIx es p))) := by rw [upd_ne nIf]; exact gI5
        have gl6 : (upd H5 fa (.dK (putK (fs'.map fk) (Sum.inl (st : Int)) (V.int ((d : Int) + 1))))) ln = some (.lst (nV (fs'.map (·.1)))) := by rw [upd_ne nlf]; exact gl5
        have gf6 : (upd H5 fa (.dK (putK (fs'.map fk) (Sum.inl (st : Int)) (V.int ((d : Int) + 1))))) fa = some (.dK ((fs' ++ [(st, d + 1)]).map fk)) := by rw [upd_same, ep]
        have s6 : Same H (upd H5 fa (.dK (putK (fs'.map fk) (Sum.inl (st : Int)) (V.int ((d : Int) + 1))))) := fun b o e => by rw [upd_ne (ne_of_none e hfa)]; exact s5 _ _ e
        generalize upd H5 fa (.dK (putK (fs'.map fk) (Sum.inl (st : Int)) (V.int ((d : Int) + 1)))) = H6 at gI6 gl6 gf6 s6 ⊢
        refine ⟨_, rfl, .inl ⟨rfl, _, SqL.of gl6⟩, _, rfl, ln, _, _, rfl, rfl, gl6, by rw [PySem.sizeLine_eq, nV_len, List.length_map]; omega, ?_⟩
        have hi' : i < fs'.length := (List.getElem?_eq_some_iff.mp hy').1
        refine ⟨fs' ++ [(st, d + 1)], _, _, hB'.push hy' hst hmem hlk, by rw [List.getElem?_append_left hi']; exact hy', step (fun x hx => by rw [List.map_append]; exact List.mem_append_left _ hx) (by rw [List.map_append]; exact List.mem_append_right _ (by simp)), fun b o e => by rw [upd_ne (ne_of_none e hlnH)]; exact s6 _ _ e, by rw [upd_ne nIl]; exact gI6, by rw [upd_ne (Ne.symm nlf)]; exact gf6, ?_, rfl⟩
        rw [upd_same, List.map_append, nV_app]; rfl
    · rintro σ H5 ⟨fs', a6, a7, hB', hy', hall, s5, gI5, gf5, gl5, rfl⟩
      rw [nV_len, List.take_length] at hall
      refine ⟨fs', _, _, _, hB'.next hy' (fun st hst => ?_), s5, gf5, gl5, rfl⟩
      obtain ⟨k, hk⟩ := List.getElem?_of_mem hst
      have hk1 : es.getD k (0, 0) = (st, p) := by rw [List.getD_eq_getElem?_getD, hk]; rfl
      have := hall k (List.mem_filter.mpr ⟨List.mem_range.mpr (List.getElem?_eq_some_iff.mp hk).1, by rw [hk1]; exact decide_eq_true rfl⟩)
      rw [hk1] at this
      exact this
end
end K46
namespace K46
open PySem L2
def nearK (fs : Es) (d : Nat) (e : Nat) : Bool := match lk fs e with
  | some d' => decide (d' + 1 = d)
  | none => false
def nearIx (es fs : Es) (p d : Nat) : List Nat := (outIx es p).filter fun k => nearK fs d (es.getD k (0, 0)).2
theorem out_rise (es : Es) (p : Nat) : (outIx es p).Pairwise (· < ·) := List.Pairwise.filter _ List.pairwise_lt_range
theorem near_rise (es fs : Es) (p d : Nat) : (nearIx es fs p d).Pairwise (· < ·) := List.Pairwise.filter _ (out_rise es p)
theorem near_lt {es fs : Es} {p d k : Nat} (h : k ∈ nearIx es fs p d) : k < es.length := List.mem_range.mp (List.mem_filter.mp (List.mem_filter.mp h).1).1
theorem mem_rise {ks : List Nat} (h : ks.Pairwise (· < ·)) : memV (Yd.setN ks 0) = nV ks := by
  rw [memV_iz, mem_sorted (ks := ks) (ms := iz ks) ?_ (fun k => Iff.rfl), iz_V]; rfl
  unfold iz
  exact List.Pairwise.map _ (fun a b hab => by show (a : Int) < (b : Int); omega) h
theorem out_at {es : Es} {p k : Nat} (h : k ∈ outIx es p) : ∃ e, es[k]? = some (p, e) ∧ es.getD k (0, 0) = (p, e) := by
  obtain ⟨h1, h2⟩ := List.mem_filter.mp h
  have hk := List.mem_range.mp h1
  have e := List.getElem?_eq_getElem hk
  have e2 : es.getD k (0, 0) = es[k] := by rw [List.getD_eq_getElem?_getD, e]; rfl
  have h2 : (es.getD k (0, 0)).1 = p := of_decide_eq_true h2
  refine ⟨es[k].2, ?_, ?_⟩
  · rw [e, ← h2, e2]
  · rw [e2, ← h2, e2]
def vN : V → Nat
  | .int z => z.toNat
  | _ => 0
theorem near_filter (es fs : Es) (d : Nat) : ∀ l : List Nat, ((nV l).filter fun v => nearK fs d (es.getD (vN v) (0, 0)).2).map (fun v => v) = nV (l.filter fun k => nearK fs d (es.getD k (0, 0)).2)
  | [] => rfl
  | x :: l => by
    have ih := near_filter es fs d l
    show ((V.int (x : Int) :: nV l).filter _).map _ = _
    rw [List.filter_cons, List.filter_cons]
    have e : vN (V.int (x : Int)) = x := Int.toNat_natCast x
    rw [e]
    cases nearK fs d (es.getD x (0, 0)).2 with
    | true => rw [if_pos rfl, if_pos rfl, List.map_cons, ih]; rfl
    | false => rw [if_neg (by decide), if_neg (by decide), ih]
def spNl (c : Cs) : Sp := fun vs H Q _ => ∃ (lx ldx lt fa : Addr) (tvs : List V) (n : Nat) (es fs : Es) (g p d : Nat), vs = [.ref lx, .ref fa, .int p] ∧ LandAt H c lx ldx lt (n : Int) tvs (es.map zp) ∧ es.length ≤ 100 ∧ Rd H fa (.dK (fs.map fk)) ∧ Far n es g fs ∧ lk fs p = some d ∧
  ∀ (D : Addr) (H' : Hp), Same H H' → H D = none → H' D = some (.lst (nV (nearIx es fs p d))) → Q (.ref D) H'
theorem rd_get {H : Hp} {fa : Addr} {fs : Es} (h : Rd H fa (.dK (fs.map fk))) (p : Nat) : DGet H fa (.int (p : Int)) ((lk fs p).map fun d : Nat => V.int (d : Int)) := .inl ⟨_, Sum.inl (p : Int), h, rfl, (valV_fk p fs).symm⟩
theorem rd_same {H H' : Hp} {a : Addr} {u : HO} (s : Same H H') (h : Rd H a u) : Rd H' a u := by
  rcases h with h | ⟨o, h⟩
  · exact .inl (s _ _ h)
  · exact .inr ⟨o, s _ _ h⟩
def retC (s : Stmt) : Scope := match defBody s with
  | .Return (some (.ListComp _ _ sc _)) _ :: _ => sc
  | _ => { kind := .function, names := [], isGenerator := false, isCoroutine := false }
section
variable {P : Program} {w : World} {K : PySem.W.Frag} {mg : Str → Option Value} {base : Heap}
theorem scNl : FnScope ["land", "far", "place"] ["land", "far", "place"] (defScope sNl) := ⟨rfl, rfl, rfl, by decide +kernel, rfl, by decide +kernel, by decide +kernel⟩
theorem bkNl : Blk ["land", "far", "place"] (defScope sNl) (retC sNl) ["land", "far", "place"] [0, 1, 2] := ⟨rfl, by decide +kernel, by decide +kernel, by decide +kernel, rfl, by decide +kernel⟩
theorem ndNl : (["lane", "land", "far", "place"] : List Str).Nodup := by decide +kernel
theorem ok_nl {c : Cs} {f f1 f2 f3 f4 : Addr} {fd d1 d2 d3 d4 : FuncData} (F : Fun K "nearer_lanes" "nearer_lanes" sNl f fd) (T : Txt mg) (L : Lnd K c) (M : Lm K c f1 f2 f3 f4 d1 d2 d3 d4)
    (Ge : FnOk P w K mg base CX0 1 f2 d2 ["self", "lane"] (spAt c Prod.snd)) (Go : FnOk P w K mg base CX0 1 f3 d3 ["self", "place"] (spIx c Prod.fst)) : FnOk P w K mg base CX0 2 f fd ["land", "far", "place"] (spNl c) := by
  refine F.ok scNl (fun vs H Q E h => ?_) (fun cdv A outer s H vs Q E hr h => ?_)
  · obtain ⟨lx, ldx, lt, fa, tvs, n, es, fs, g, p, d, rfl, _⟩ := h
    rfl
  · obtain ⟨lx, ldx, lt, fa, tvs, n, es, fs, g, p, d, rfl, hL, hel, hfa, hF, hlk, q⟩ := h
    have hu := hu_of hr
    refine ⟨_, pss_one (ps_ret (pe_comp (own := ["lane"]) (capN := ["land", "far", "place"]) (cap := [0, 1, 2]) bkNl rfl (pi_list (pe_meth (pv 0) L.cl M.mo Go hr M.bo .nil pass0 (pa_cons (pv 2) pa_nil)))
      (fun C s' H' fp => ⟨pg_name (i := 0) ndNl rfl (Or.inl rfl), pts_one (pt_cmpR op_eq (pe_dget1 hu (pv 2) (pe_meth (pv 1) L.cl M.me Ge hr M.be .nil pass0 (pa_cons (pv 0) pa_nil)) ⟨rfl, rfl, rfl, rfl⟩) (pe_op op_sub (pe_dget hu (pv 2) (pv 3) (fun _ _ => rfl)) pe_int) (nomark _)), pv 0⟩))), ?_⟩
    refine ⟨_, rfl, lx, ldx, _, rfl, hL.1, rfl, _, rfl, lx, ldx, lt, (n : Int), tvs, es.map zp, (p : Int), rfl, hL, by rw [List.length_map]; omega, fun H1 O s1 hO => ?_⟩
    rw [out_eq]
    have s2 := s1.new (o := .lst (nV (outIx es p))) hO
    have gO : (upd H1 O (.lst (nV (outIx es p)))) O = some (.lst (nV (outIx es p))) := upd_same
    generalize upd H1 O (.lst (nV (outIx es p))) = H2 at s2 gO ⊢
    have hol := out_len es p
    refine ⟨O, rfl, ⟨_, SqL.of gO⟩, comp_lst (fun v => nearK fs d (es.getD (vN v) (0, 0)).2) (fun v => v) (by rw [PySem.sizeLine_eq, nV_len]; omega) (SqL.of gO) ?_ ?_⟩
    · intro v acc N hv hN
      obtain ⟨k, hk, rfl⟩ := nV_mem hv
      obtain ⟨e, he1, he2⟩ := out_at hk
      have ek : vN (V.int (k : Int)) = k := Int.toNat_natCast k
      rw [ek, he2] at hN
      have hN : N (if nearK fs d e = true then acc ++ [V.int (k : Int)] else acc) H2 := hN
      have gd := rd_get (rd_same s2 hfa) p
      rw [hlk] at gd
      refine ⟨_, rfl, fa, rfl, .inl ⟨_, rd_same s2 hfa⟩, _, rfl, lx, ldx, _, rfl, s2 _ _ hL.1, rfl, _, rfl, lx, ldx, lt, (n : Int), tvs, es.map zp, k, zp (p, e), rfl, ⟨s2 _ _ hL.1, s2 _ _ hL.2.1, Lns.same s2 hL.2.2⟩, by rw [List.getElem?_map, he1]; rfl, _, rd_get (rd_same s2 hfa) e, ?_⟩
      refine ⟨_, rfl, _, rfl, fa, _, rfl, gd, _, _, rfl, rfl, ?_⟩
      unfold nearK at hN
      cases hle : lk fs e with
      | none =>
        rw [hle] at hN
        refine ⟨rfl, _, rfl, ?_⟩
        exact iteF hN
      | some d' =>
        rw [hle] at hN
        refine ⟨rfl, _, rfl, ?_⟩
        show (if decide (V.int (d' : Int) = V.int ((d : Int) - 1)) = true then _ else _)
        by_cases hd : d' + 1 = d
        · have hN : N (if decide (d' + 1 = d) = true then acc ++ [V.int (k : Int)] else acc) H2 := hN
          rw [decide_eq_true hd, if_pos rfl] at hN
          rw [decide_eq_true (by rw [show (d : Int) - 1 = (d' : Int) by omega])]
          exact iteT ⟨_, rfl, hN⟩
        · have hN : N (if decide (d' + 1 = d) = true then acc ++ [V.int (k : Int)] else acc) H2 := hN
          rw [decide_eq_false hd, if_neg (by decide)] at hN
          rw [decide_eq_false (fun z => hd (by injection z with z; omega))]
          exact iteF hN
    · intro D hD
      rw [near_filter]
      exact q D _ (s2.new hD) (s2.free hD) upd_same
end
end K46
namespace K46
open PySem L2
structure Ts where
  tab : Addr
  near : Addr
def kk (p g : Nat) : Oks := [some (p : Int), some (g : Int)]
theorem kk_inj {p g p' g' : Nat} : kk p g = kk p' g' ↔ p = p' ∧ g = g' := by
  unfold kk
  constructor
  · intro h
    have h1 := List.cons.inj h
    have h2 := List.cons.inj h1.2
    have e1 := Option.some.inj h1.1
    have e2 := Option.some.inj h2.1
    omega
  · rintro ⟨rfl, rfl⟩; rfl
def entV (es fs : Es) (p : Nat) : Option V := (lk fs p).map fun d => V.int (Yd.setN (nearIx es fs p d) 0 : Nat)
def Ent0 (n : Nat) (es : Es) (kvs : List Ent) (G : Nat) : Prop := (∀ g, g < G → ∃ fs, Far n es g fs ∧ ∀ p, valO kvs (kk p g) = entV es fs p) ∧ ∀ g, G ≤ g → ∀ p, valO kvs (kk p g) = none
def Ent1 (n : Nat) (es : Es) (kvs : List Ent) (G : Nat) (fs : Es) (j : Nat) : Prop := (∀ g, g < G → ∃ fs, Far n es g fs ∧ ∀ p, valO kvs (kk p g) = entV es fs p) ∧ (∀ p, valO kvs (kk p G) = if p ∈ (fs.take j).map (·.1) then entV es fs p else none) ∧ ∀ g, G < g → ∀ p, valO kvs (kk p g) = none
theorem ent_start {n : Nat} {es : Es} {kvs : List Ent} {G : Nat} {fs : Es} (h : Ent0 n es kvs G) : Ent1 n es kvs G fs 0 :=
  ⟨h.1, fun p => by rw [h.2 G (Nat.le_refl _) p, if_neg (by simp)], fun g hg p => h.2 g (by omega) p⟩
theorem ent_end {n : Nat} {es : Es} {kvs : List Ent} {G : Nat} {fs : Es} (f : Far n es G fs) (h : Ent1 n es kvs G fs fs.length) : Ent0 n es kvs (G + 1) := by
  refine ⟨fun g hg => ?_, fun g hg p => h.2.2 g (by omega) p⟩
  rcases Nat.lt_or_ge g G with h1 | h1
  · exact h.1 g h1
  · have e : g = G := by omega
    subst e
    refine ⟨fs, f, fun p => ?_⟩
    rw [h.2.1 p, List.take_length]
    by_cases hp : p ∈ fs.map (·.1)
    · rw [if_pos hp]
    · rw [if_neg hp]; unfold entV; rw [lk_none.mpr hp]; rfl
theorem ent_step {n : Nat} {es : Es} {kvs : List Ent} {G : Nat} {fs : Es} {j p d : Nat} {b : Addr} (hn : (fs.map (·.1)).Nodup) (hj : fs[j]? = some (p, d)) (h : Ent1 n es kvs G fs j) :
    Ent1 n es (putO kvs (kk p G) b (.int (Yd.setN (nearIx es fs p d) 0 : Nat))) G fs (j + 1) := by
  have hlk := lk_mem hn (List.mem_of_getElem? hj)
  refine ⟨fun g hg => ?_, fun p' => ?_, fun g hg p' => ?_⟩
  · obtain ⟨fs', f', h'⟩ := h.1 g hg
    refine ⟨fs', f', fun p' => ?_⟩
    rw [valO_put, if_neg (fun z => by have := (kk_inj.mp z).2; omega), h' p']
  · rw [valO_put]
    by_cases e : p' = p
    · subst e
      rw [if_pos rfl, if_pos (by rw [List.take_succ, hj, List.map_append]; exact List.mem_append_right _ (by simp))]
      unfold entV; rw [hlk]; rfl
    · rw [if_neg (fun z => e (kk_inj.mp z).1), h.2.1 p', List.take_succ, hj, List.map_append]
      by_cases hm : p' ∈ (fs.take j).map (·.1)
      · rw [if_pos hm, if_pos (List.mem_append_left _ hm)]
      · rw [if_neg hm, if_neg]
        intro z
        rcases List.mem_append.mp z with z | z
        · exact hm z
        · exact e (by simpa using z)
  · rw [valO_put, if_neg (fun z => by have := (kk_inj.mp z).2; omega), h.2.2 g hg p']
def NrAt (P : Program) (w : World) (H : Hp) (ts : Ts) (x dx : Addr) (lx : Addr) (de : Addr) (kvs : List Ent) : Prop := H x = some (.ins ts.near dx [("land", .ref lx), ("entries", .ref de)]) ∧ DicAt P w H de kvs
def spTab (K : PySem.W.Frag) : Sp := fun vs H Q _ => ∃ (x C dx : Addr) (lv : V), vs = [.ref x, lv] ∧ H x = some (.ins C dx []) ∧ Cls K C ∧ NoAttr K C "land" ∧ Q .non (upd H x (.ins C dx [("land", lv)]))
def spNear (P : Program) (w : World) (c : Cs) (ts : Ts) : Sp := fun vs H Q _ => ∃ (x dx lx ldx lt : Addr) (tvs : List V) (n : Nat) (es : Es), vs = [.ref x, .ref lx] ∧ H x = some (.ins ts.near dx []) ∧ LandAt H c lx ldx lt (n : Int) tvs (es.map zp) ∧ Lok n es ∧ es.length ≤ 100 ∧ n ≤ 100 ∧
  ∀ H' de kvs, Off x H H' → NrAt P w H' ts x dx lx de kvs → Ent0 n es kvs n → Q .non H'
structure Tbl (K : PySem.W.Frag) (mg : Str → Option Value) (ts : Ts) (f1 : Addr) (d1 : FuncData) : Prop where
  cl : Cls K ts.near
  n1 : NoAttr K ts.near "land"
  n2 : NoAttr K ts.near "entries"
  mt : mg "Table" = some (.ref ts.tab)
  cm : CMeth K ts.tab "__init__" f1
  bt : Binds K d1 ["self", "land"] []
theorem Off.land {H H' : Hp} {x C dx : Addr} (o : Off x H H') (hx : H x = some (.ins C dx [])) {c : Cs} {lx ldx lt : Addr} {n : Int} {tvs : List V} {ps : List (Int × Int)} (h : LandAt H c lx ldx lt n tvs ps) : LandAt H' c lx ldx lt n tvs ps :=
  ⟨o _ _ (ne_of h.1 hx (by intro z; cases z)) h.1, o _ _ (ne_of h.2.1 hx (by intro z; cases z)) h.2.1, o.lns hx h.2.2⟩
abbrev NNr : List Str := ["self", "land", "goal", "far", "place"]
section
variable {P : Program} {w : World} {K : PySem.W.Frag} {mg : Str → Option Value} {base : Heap}
theorem scTab : FnScope ["self", "land"] ["self", "land"] (defScope sTab) := ⟨rfl, rfl, rfl, by decide +kernel, rfl, by decide +kernel, by decide +kernel⟩
theorem ok_tab {f : Addr} {fd : FuncData} (F : Fun K "__init__" "Table.__init__" sTab f fd) : FnOk P w K mg base CX0 1 f fd ["self", "land"] (spTab K) := by
  refine F.ok scTab (fun vs H Q E h => ?_) (fun cdv A outer s H vs Q E hr h => ?_)
  · obtain ⟨x, C, dx, lv, rfl, _⟩ := h
    rfl
  · obtain ⟨x, C, dx, lv, rfl, hx, cl, na, q⟩ := h
    refine ⟨_, pss_one (ps_fld (pv 0) (pv 1) rfl), ?_⟩
    exact ⟨_, rfl, _, rfl, x, C, dx, [], rfl, hx, cl, na, by show 0 < 1000; decide, q⟩
theorem scNr : FnScope NNr ["self", "land"] (defScope sNear) := ⟨rfl, rfl, rfl, by decide +kernel, rfl, by decide +kernel, by decide +kernel⟩
theorem ok_near {c : Cs} {ts : Ts} {f ft fh fn fs : Addr} {fd dt dh dn ds : FuncData} (F : Fun K "__init__" "Nearer.__init__" sNear f fd) (T : Txt mg) (L : Lnd K c) (B : Tbl K mg ts ft dt) (G1 : FnOk P w K mg base CX0 1 ft dt ["self", "land"] (spTab K))
    (mh : mg "how_far" = some (.ref fh)) (kh : PySem.W.keepIn K (.ref fh) = true) (bh : Binds K dh ["land", "goal"] []) (Gh : FnOk P w K mg base CX0 2 fh dh ["land", "goal"] (spHow c))
    (mn : mg "nearer_lanes" = some (.ref fn)) (kn : PySem.W.keepIn K (.ref fn) = true) (bn : Binds K dn ["land", "far", "place"] []) (Gn : FnOk P w K mg base CX0 2 fn dn ["land", "far", "place"] (spNl c))
    (ms : mg "set_of" = some (.ref fs)) (ks : PySem.W.keepIn K (.ref fs) = true) (bs : Binds K ds ["numbers"] []) (Gs : FnOk P w K mg base CX0 1 fs ds ["numbers"] (spSet K)) :
    FnOk P w K mg base CX0 3 f fd ["self", "land"] (spNear P w c ts) := by
  refine F.ok scNr (fun vs H Q E h => ?_) (fun cdv A outer s H vs Q E hr h => ?_)
  · obtain ⟨x, dx, lx, ldx, lt, tvs, n, es, rfl, _⟩ := h
    rfl
  · obtain ⟨x, dx, lx, ldx, lt, tvs, n, es, rfl, hx, hL, hlok, hel, hn, q⟩ := h
    have hr1 : Room 1 _ := hr.mono (by decide)
    have hu := hu_of hr
    refine ⟨_, pss_cons (ps_expr (pe_cmeth (pe_glob (v := .ref ts.tab) rfl B.mt rfl) B.cm G1 hr1 B.bt .nil pass0 (pa_cons (pv 0) (pa_cons (pv 1) pa_nil))))
      (pss_cons (ps_fld (pv 0) (show PE _ _ (tONew P w) from pe_onew) rfl)
      (pss_one (ps_for PassesOwn.never rfl (pi_range1 rfl T.range (pa_cons (pe_fld (pv 1) rfl) pa_nil)) (pg_name (i := 2) scNr.nd rfl (Or.inl rfl))
        (pss_cons (ps_set (i := 3) scNr.nd rfl (Or.inl rfl) (pe_call Gh hr rfl mh kh bh .nil pass0 (pa_cons (pv 1) (pa_cons (pv 2) pa_nil))))
        (pss_one (ps_for PassesOwn.never rfl (pi_keys (pv 3)) (pg_name (i := 4) scNr.nd rfl (Or.inl rfl))
          (pss_one (ps_oput hu (pe_fld (pv 0) rfl) (pe_tup (pa_cons (pv 4) (pa_cons (pv 2) pa_nil))) (pe_call Gs hr1 rfl ms ks bs .nil pass0 (pa_cons (pe_call Gn hr rfl mn kn bn .nil pass0 (pa_cons (pv 1) (pa_cons (pv 3) (pa_cons (pv 4) pa_nil)))) pa_nil)) rfl)))))))), ?_⟩
    refine ⟨rfl, _, rfl, _, rfl, x, ts.near, dx, _, rfl, hx, B.cl, B.n1, ?_⟩
    refine fun de hde => ⟨_, rfl, x, ts.near, dx, [("land", .ref lx)], rfl, by rw [upd_ne (ne_of_none upd_same hde)]; exact upd_same, B.cl, B.n2, by show 1 < 1000; decide, ?_⟩
    have nde : x ≠ de := ne_of_none upd_same hde
    have hde0 : H de = none := by rw [upd_ne (Ne.symm nde)] at hde; exact hde
    generalize hH2 : upd (upd (upd H x (.ins ts.near dx [("land", .ref lx)])) de (DicO P w de [])) x (.ins ts.near dx (putF "entries" (.ref de) [("land", .ref lx)])) = H2
    have o2 : Off x H H2 := fun b o hb e => by rw [← hH2, upd_ne hb, upd_ne (ne_of_none e hde0), upd_ne hb]; exact e
    have x2 : H2 x = some (.ins ts.near dx [("land", .ref lx), ("entries", .ref de)]) := by rw [← hH2, upd_same]; rfl
    have d2 : DicAt P w H2 de [] := ⟨by rw [← hH2, upd_ne (Ne.symm nde), upd_same], fun y hy => by cases hy⟩
    have hL2 := Off.land o2 hx hL
    refine ⟨_, rfl, lx, c.land, ldx, _, _, rfl, hL2.1, L.cl, L.np, rfl, (n : Int), rfl, by omega, by omega, ?_⟩
    rw [Int.toNat_natCast]
    refine for_range (n := n) (fun G σ H3 => ∃ (a2 a3 a4 : Option V) (kvs : List Ent), Off x H H3 ∧ NrAt P w H3 ts x dx lx de kvs ∧ kvs.length ≤ G * 100 ∧ Ent0 n es kvs G ∧ σ = [some (.ref x), some (.ref lx), a2, a3, a4])
      ⟨none, none, none, [], o2, ⟨x2, d2⟩, Nat.zero_le _, ⟨fun g hg => absurd hg (Nat.not_lt_zero _), fun g _ p => rfl⟩, rfl⟩ ?_ ?_
    · rintro G σ H3 hG ⟨a2, a3, a4, kvs, o3, n3, l3, e3, rfl⟩
      rw [Int.zero_add]
      have hL3 := Off.land o3 hx hL
      refine ⟨_, rfl, _, rfl, lx, ldx, lt, tvs, n, es, G, rfl, hL3, hlok, hel, hn, hG, fun fa fs' H4 s4 hfa hF gfa => ?_⟩
      have hfew : fs'.length ≤ n := by
        have := nodup_le n (fs'.map (·.1)) hF.nd fun y hy => by
          obtain ⟨z, hz, rfl⟩ := List.mem_map.mp hy
          exact hF.lt z hz
        rwa [List.length_map] at this
      refine ⟨_, rfl, fa, _, rfl, gfa, fun ob => ?_⟩
      have gfz : (upd H4 fa (.frz ob (.dK (fs'.map fk)))) fa = some (.frz ob (.dK (fs'.map fk))) := upd_same
      have s5 : Same H3 (upd H4 fa (.frz ob (.dK (fs'.map fk)))) := fun b o e => by rw [upd_ne (ne_of_none e hfa)]; exact s4 _ _ e
      generalize upd H4 fa (.frz ob (.dK (fs'.map fk))) = H5 at gfz s5 ⊢
      have nfa : H fa = none ∨ fa = x := by
        by_cases h : fa = x
        · exact .inr h
        · exact .inl (by cases e : H fa with | none => rfl | some o => rw [o3 _ _ h e] at hfa; cases hfa)
      refine for_keys (a := fa) (o := ob) (kvs := fs'.map fk) (fun j σ H6 => ∃ (a4 : Option V) (kvs : List Ent), Off x H H6 ∧ NrAt P w H6 ts x dx lx de kvs ∧ kvs.length ≤ G * 100 + j ∧ Ent1 n es kvs G fs' j ∧ H6 fa = some (.frz ob (.dK (fs'.map fk))) ∧ σ = [some (.ref x), some (.ref lx), some (.int G), some (.ref fa), a4])
        ⟨_, kvs, o3.same s5, ⟨s5 _ _ n3.1, n3.2.same s5⟩, l3, ent_start e3, gfz, rfl⟩ (fun j σ H6 _ ⟨_, _, _, _, _, _, g6, _⟩ => g6) ?_ ?_
      · rintro j k σ H6 hk ⟨a4, kvs, o6, n6, l6, e6, g6, rfl⟩
        have hj : j < fs'.length := by have := (List.getElem?_eq_some_iff.mp hk).1; simpa using this
        have hjp := List.getElem?_eq_getElem hj
        generalize fs'[j] = pd at hjp
        obtain ⟨p, d⟩ := pd
        have ek : k = Sum.inl (p : Int) := by
          rw [List.getElem?_map, List.getElem?_map, hjp] at hk
          exact (Option.some.inj hk).symm
        subst ek
        rw [show kV (Sum.inl (p : Int)) = V.int (p : Int) from rfl]
        have hlk := lk_mem hF.nd (List.mem_of_getElem? hjp)
        have hL6 := Off.land o6 hx hL
        refine ⟨_, rfl, _, rfl, _, rfl, lx, ldx, lt, fa, tvs, n, es, fs', G, p, d, rfl, hL6, hel, .inr ⟨_, g6⟩, hF, hlk, fun O H7 s7 hO gO => ?_⟩
        refine ⟨O, nearIx es fs' p d, rfl, SqL.of gO, fun k hk => by have := near_lt hk; omega, ?_⟩
        have n7x := s7 _ _ n6.1
        refine ⟨_, rfl, x, ts.near, dx, _, _, rfl, n7x, B.cl, B.n2, rfl, _, rfl, _, rfl, by show 2 ≤ sizeLine; decide, fun kt hkt => ?_⟩
        have s8 := s7.new (o := .tup [.int p, .int G]) hkt
        have k8 : (upd H7 kt (.tup [.int p, .int G])) kt = some (.tup ((kk p G).map okV)) := upd_same
        generalize upd H7 kt (.tup [.int p, .int G]) = H8 at s8 k8 ⊢
        have d8 := n6.2.same s8
        refine ⟨de, kvs, kk p G, kt, rfl, d8, rfl, k8, by rw [PySem.sizeLine_eq]; have : G * 100 ≤ 100 * 100 := Nat.mul_le_mul_right _ (by omega); omega, ?_⟩
        have nfd : fa ≠ de := fun z => by
          have h1 := s8 _ _ g6
          rw [z, d8.1] at h1
          cases h1
        have tup8 : ∀ b ks, H8 b = some (.tup ks) → (upd H8 de (DicO P w de (putO kvs (kk p G) kt (.int (Yd.setN (nearIx es fs' p d) 0 : Nat))))) b = some (.tup ks) := fun b ks e => by
          rw [upd_ne (fun z => by rw [z, d8.1] at e; cases e)]; exact e
        refine ⟨_, putO kvs (kk p G) kt (.int (Yd.setN (nearIx es fs' p d) 0 : Nat)), fun b o hb e => ?_, ⟨?_, upd_same, putO_keys (F := fun k a => (upd H8 de (DicO P w de (putO kvs (kk p G) kt (.int (Yd.setN (nearIx es fs' p d) 0 : Nat))))) a = some (.tup (k.map okV))) (fun y hy => tup8 _ _ (d8.2 y hy)) (tup8 _ _ k8)⟩, ?_, ent_step hF.nd hjp e6, ?_, rfl⟩
        · rw [upd_ne (ne_of_none e hde0)]; exact s8 _ _ (o6 _ _ hb e)
        · rw [upd_ne nde]; exact s8 _ _ n6.1
        · have := putO_length (kvs := kvs) (k := kk p G) (b := kt) (v := .int (Yd.setN (nearIx es fs' p d) 0 : Nat)); omega
        · rw [upd_ne nfd]; exact s8 _ _ g6
      · rintro σ H6 ⟨a4, kvs, o6, n6, l6, e6, g6, rfl⟩
        rw [List.length_map] at l6 e6
        refine ⟨_, _, _, kvs, o6, n6, ?_, ent_end hF e6, rfl⟩
        rw [Nat.succ_mul]; omega
    · rintro σ H3 ⟨a2, a3, a4, kvs, o3, n3, l3, e3, rfl⟩
      exact q H3 de kvs o3 n3 e3
end
end K46
namespace K46
open PySem L2
def isI : V → Bool
  | .int _ => true
  | _ => false
def okv : V → Int → Int → Bool
  | .int i, a, b => decide (a ≤ i ∧ i ≤ b)
  | _, _, _ => false
inductive Sca : V → Prop
  | int (i : Int) : Sca (.int i)
  | bl (b : Bool) : Sca (.bl b)
  | non : Sca .non
structure Kinds (K : PySem.W.Frag) : Prop where
  ii : PySem.W.kitOne K (.type "int") (.type "int") = some true
  ib : PySem.W.kitOne K (.type "int") (.type "bool") = some false
  bi : PySem.W.kitOne K (.type "bool") (.type "int") = some true
  bb : PySem.W.kitOne K (.type "bool") (.type "bool") = some true
  ni : PySem.W.kitOne K (.type "NoneType") (.type "int") = some false
def spWholeV : Sp := fun vs H Q _ => ∃ v, vs = [v] ∧ Sca v ∧ Q (.bl (isI v)) H
def spWithinV : Sp := fun vs H Q _ => ∃ (v : V) (a b : Int), vs = [v, .int a, .int b] ∧ Sca v ∧ Q (.bl (okv v a b)) H
def wayF (es fs : Es) (p : Nat) : List Nat := match lk fs p with
  | some d => nearIx es fs p d
  | none => []
theorem way_rise (es fs : Es) (p : Nat) : (wayF es fs p).Pairwise (· < ·) := by
  unfold wayF
  split
  · exact near_rise _ _ _ _
  · exact List.Pairwise.nil
theorem way_lt {es fs : Es} {p k : Nat} (h : k ∈ wayF es fs p) : k < es.length := by
  unfold wayF at h
  split at h
  · exact near_lt h
  · cases h
def spWays (P : Program) (w : World) (ts : Ts) : Sp := fun vs H Q _ => ∃ (x dx lx de : Addr) (kvs : List Ent) (n : Nat) (es : Es) (p g : Nat) (cv : V), vs = [.ref x, .int p, .int g, cv] ∧ NrAt P w H ts x dx lx de kvs ∧ Ent0 n es kvs n ∧ g < n ∧ es.length ≤ 100 ∧
  ∀ fs, Far n es g fs → ∀ (D : Addr) (H' : Hp), Same H H' → H D = none → H' D = some (.lst (nV (wayF es fs p))) → Q (.ref D) H'
def spCell (K : PySem.W.Frag) : Sp := fun vs H Q _ => ∃ (a : Addr) (ns : List Int) (k : Nat), vs = [.ref a, .int k] ∧ SqL K H a (ns.map V.int) ∧ ∀ d, Q (.int d) H
def spMix : Sp := fun vs H Q _ => ∃ (c : Int) (k : Nat), vs = [.int c, .int k] ∧ k ≤ 100 ∧ ∀ d : Int, 0 ≤ d → Q (.int d) H
theorem lns_off {H : Hp} {l : Addr} {xs : List V} {o : HO} (hl : H l = some (.lst xs)) : ∀ {vs : List V} {ps : List (Int × Int)}, Lns H vs ps → Lns (upd H l o) vs ps
  | _, _, .nil => .nil
  | _, _, .cons ⟨t, e, q⟩ r => .cons ⟨t, e, by rw [upd_ne (ne_of q hl (by intro z; cases z))]; exact q⟩ (lns_off hl r)
theorem int_eq' (a b : Int) : decide (V.int a = V.int b) = decide (a = b) := by
  by_cases h : a = b
  · rw [h]; simp
  · rw [decide_eq_false h, decide_eq_false fun z => h (by injection z)]
theorem Lns.imp {H H' : Hp} (h : ∀ v p, LnV H v p → LnV H' v p) : ∀ {vs : List V} {ps : List (Int × Int)}, Lns H vs ps → Lns H' vs ps
  | _, _, .nil => .nil
  | _, _, .cons z r => .cons (h _ _ z) (Lns.imp h r)
def hV : Option Int → V
  | none => .non
  | some z => .int z
abbrev Fs := List (Str × V)
def fs4 (r b : Int) (h : V) (pa : Addr) : Fs := [("rights", .int r), ("returning", .int b), ("holder", h), ("pieces", .ref pa)]
structure LaneAt (H : Hp) (C x dx pa : Addr) (r b : Int) (h : Option Int) (pvs : List V) (qs : List (Int × Int)) : Prop where
  ins : H x = some (.ins C dx (fs4 r b (hV h) pa))
  lst : H pa = some (.lst pvs)
  pcs : Lns H pvs qs
theorem LaneAt.same {H H' : Hp} {C x dx pa : Addr} {r b : Int} {h : Option Int} {pvs : List V} {qs : List (Int × Int)} (L : LaneAt H C x dx pa r b h pvs qs) (s : Same H H') : LaneAt H' C x dx pa r b h pvs qs := ⟨s _ _ L.ins, s _ _ L.lst, Lns.same s L.pcs⟩
structure Lne (K : PySem.W.Frag) (C : Addr) : Prop where
  cl : Cls K C
  n1 : NoAttr K C "rights"
  n2 : NoAttr K C "returning"
  n3 : NoAttr K C "holder"
  n4 : NoAttr K C "pieces"
def spLnI (C : Addr) : Sp := fun vs H Q _ => ∃ (x dx : Addr) (room : Int), vs = [.ref x, .int room] ∧ H x = some (.ins C dx []) ∧ ∀ (pa : Addr) (H' : Hp), H pa = none → (∀ a o, a ≠ x → H a = some o → H' a = some o) → LaneAt H' C x dx pa room 0 none [] [] → Q .non H'
def spLnT (C : Addr) : Sp := fun vs H Q _ => ∃ (x dx pa : Addr) (r b : Int) (h : Option Int) (pvs : List V) (qs : List (Int × Int)), vs = [.ref x] ∧ LaneAt H C x dx pa r b h pvs qs ∧
  ∀ (t ql : Addr) (H' : Hp), Same H H' → H ql = none → H' t = some (.tup [.int r, .int b, hV h, .ref ql]) → H' ql = some (.lst pvs) → Q (.ref t) H'
section
variable {P : Program} {w : World} {K : PySem.W.Frag} {mg : Str → Option Value} {base : Heap}
theorem ok_wholeV {f : Addr} {fd : FuncData} (F : Fun K "is_whole" "is_whole" sWhole f fd) (T : Txt mg) (Z : Kinds K) : FnOk P w K mg base CX0 1 f fd ["value"] spWholeV := by
  refine F.ok scWhole (fun vs H Q E h => ?_) (fun cdv A outer s H vs Q E hr h => ?_)
  · obtain ⟨m, rfl, _⟩ := h
    rfl
  · obtain ⟨v, rfl, hv, q⟩ := h
    refine ⟨_, pss_one (ps_ret (pe_and (pe_callB call_isV rfl T.isi PyProof.Rows.boot_isinstance (pa_cons (pv 0) (pa_cons (pe_bltn (v := .ty "int") rfl T.int PySem.Pv.boot_int rfl) pa_nil)))
      (pe_one (pe_not (pe_callB call_isV rfl T.isi PyProof.Rows.boot_isinstance (pa_cons (pv 0) (pa_cons (pe_bltn (v := .ty "bool") rfl T.bool PySem.Pv.boot_bool rfl) pa_nil))))))), ?_⟩
    cases hv with
    | int i => exact ⟨_, rfl, .int i, _, "int", true, rfl, .int i, Z.ii, true, rfl, iteT ⟨_, rfl, .int i, _, "bool", false, rfl, .int i, Z.ib, false, rfl, q⟩⟩
    | bl b => exact ⟨_, rfl, .bl b, _, "int", true, rfl, .bl b, Z.bi, true, rfl, iteT ⟨_, rfl, .bl b, _, "bool", true, rfl, .bl b, Z.bb, true, rfl, q⟩⟩
    | non => exact ⟨_, rfl, .non, _, "int", false, rfl, .non, Z.ni, false, rfl, iteF q⟩
theorem ok_withinV {f fh : Addr} {fd fdh : FuncData} (F : Fun K "is_within" "is_within" sWithin f fd) (T : Txt mg) (Z : Kinds K) (mh : mg "is_whole" = some (.ref fh)) (Fh : Fun K "is_whole" "is_whole" sWhole fh fdh) (bh : Binds K fdh ["value"] []) :
    FnOk P w K mg base CX0 2 f fd ["value", "least", "most"] spWithinV := by
  have G : FnOk P w K mg base CX0 1 fh fdh ["value"] spWholeV := ok_wholeV Fh T Z
  refine F.ok scWithin (fun vs H Q E h => ?_) (fun cdv A outer s H vs Q E hr h => ?_)
  · obtain ⟨i, a, b, rfl, _⟩ := h
    rfl
  · obtain ⟨v, a, b, rfl, hv, q⟩ := h
    refine ⟨_, pss_one (ps_ret (pe_and (pe_call G hr rfl mh Fh.kp bh .nil pass0 (pa_cons (pv 0) pa_nil)) (pe_one (pe_chain op_le op_le (pv 1) (pv 0) (pv 2))))), ?_⟩
    cases hv with
    | bl x => exact ⟨_, rfl, _, rfl, .bl x, false, rfl, iteF q⟩
    | non => exact ⟨_, rfl, _, rfl, .non, false, rfl, iteF q⟩
    | int i =>
      refine ⟨_, rfl, _, rfl, .int i, true, rfl, iteT ?_⟩
      refine ⟨_, rfl, _, rfl, _, _, rfl, rfl, _, rfl, ?_⟩
      have q : Q (V.bl (decide (a ≤ i ∧ i ≤ b))) H := q
      by_cases h1 : a ≤ i
      · rw [decide_eq_true h1]
        refine iteT ⟨_, rfl, _, _, rfl, rfl, ?_⟩
        show Q (V.bl (decide (i ≤ b))) H
        by_cases h2 : i ≤ b
        · rw [decide_eq_true h2]; rw [decide_eq_true ⟨h1, h2⟩] at q; exact q
        · rw [decide_eq_false h2]; rw [decide_eq_false fun z => h2 z.2] at q; exact q
      · rw [decide_eq_false h1]
        refine iteF ?_
        rw [decide_eq_false fun z => h1 z.1] at q; exact q
theorem scWy : FnScope ["self", "place", "goal", "came"] ["self", "place", "goal", "came"] (defScope sWays) := ⟨rfl, rfl, rfl, by decide +kernel, rfl, by decide +kernel, by decide +kernel⟩
theorem scCell : FnScope ["_law_script", "_law_k"] ["_law_script", "_law_k"] (defScope sCell) := ⟨rfl, rfl, rfl, by decide +kernel, rfl, by decide +kernel, by decide +kernel⟩
theorem ok_cell {f : Addr} {fd : FuncData} (F : Fun K "_law_cell_at" "_law_cell_at" sCell f fd) (T : Txt mg) : FnOk P w K mg base CX0 1 f fd ["_law_script", "_law_k"] (spCell K) := by
  refine F.ok scCell (fun vs H Q E h => ?_) (fun cdv A outer s H vs Q E hr h => ?_)
  · obtain ⟨a, ns, k, rfl, _⟩ := h
    rfl
  · obtain ⟨a, ns, k, rfl, hS, q⟩ := h
    refine ⟨_, pss_cons (ps_if (pt_cmpR op_lt (pv 1) (pe_callB call_len_seq rfl T.len PySem.boot_len (pa_cons (pv 0) pa_nil)) (nomark _))
        (pss_one (ps_ret (pe_ix ix_list (pv 0) (pv 1) (fun _ _ => rfl)))) pss_nil) (pss_one (ps_ret pe_int)), ?_⟩
    refine ⟨_, rfl, _, rfl, a, _, rfl, .inl hS, _, _, rfl, rfl, _, rfl, ?_⟩
    refine ite2 (fun h => ?_) fun _ => q _
    have h' : (k : Int) < ((ns.map V.int).length : Nat) := of_decide_eq_true h
    rw [List.length_map] at h'
    have hk : k < ns.length := by omega
    exact ⟨_, rfl, _, rfl, a, _, k, V.int ns[k], rfl, rfl, hS, atI_nat (by simp [hk]), q _⟩
theorem scMix : FnScope ["_law_cell", "_law_k", "_law_number"] ["_law_cell", "_law_k"] (defScope sMix) := ⟨rfl, rfl, rfl, by decide +kernel, rfl, by decide +kernel, by decide +kernel⟩
theorem ok_mix {f : Addr} {fd : FuncData} (F : Fun K "_law_mixed" "_law_mixed" sMix f fd) : FnOk P w K mg base CX0 1 f fd ["_law_cell", "_law_k"] spMix := by
  refine F.ok scMix (fun vs H Q E h => ?_) (fun cdv A outer s H vs Q E hr h => ?_)
  · obtain ⟨c, k, rfl, _⟩ := h
    rfl
  · obtain ⟨c, k, rfl, hk, q⟩ := h
    refine ⟨_, pss_cons (ps_set (i := 2) scMix.nd rfl (Or.inl rfl) (pe_op op_mod (pe_op op_mul (pe_op op_add (pe_op op_add (pe_op op_mod (pv 0) pe_int) (pe_op op_mul pe_int (pv 1))) pe_int) pe_int) pe_int))
      (pss_one (ps_ret (pe_op op_mod (pe_op op_mul (pv 2) (pe_op op_add (pe_op op_fdiv (pv 2) pe_int) pe_int)) pe_int))), ?_⟩
    have pos : (0 : Int) < 2147483647 := by decide
    refine ⟨_, rfl, _, _, rfl, rfl, pos, _, rfl, _, _, rfl, rfl, .inl ⟨by decide, by decide⟩, _, _, rfl, rfl, _, _, rfl, rfl, _, _, rfl, rfl, .inr ⟨by decide, by decide⟩, _, _, rfl, rfl, pos, ?_⟩
    dsimp only
    have h1 := Int.emod_nonneg ((c % 2147483647 + 7919 * (k : Int) + 1) * 48271) (show (2147483647 : Int) ≠ 0 by decide)
    have h2 := Int.emod_lt_of_pos ((c % 2147483647 + 7919 * (k : Int) + 1) * 48271) pos
    generalize (c % 2147483647 + 7919 * (k : Int) + 1) * 48271 % 2147483647 = m at h1 h2
    refine ⟨_, rfl, _, rfl, _, _, rfl, rfl, ⟨by decide, by decide⟩, _, _, rfl, rfl, _, _, rfl, rfl, .inl ⟨by omega, by omega⟩, _, _, rfl, rfl, pos, ?_⟩
    exact q _ (Int.emod_nonneg _ (by decide))
theorem scLnI : FnScope ["self", "room"] ["self", "room"] (defScope sLnI) := ⟨rfl, rfl, rfl, by decide +kernel, rfl, by decide +kernel, by decide +kernel⟩
theorem ok_lnI {C f : Addr} {fd : FuncData} (F : Fun K "__init__" "Lane.__init__" sLnI f fd) (L : Lne K C) : FnOk P w K mg base CX0 1 f fd ["self", "room"] (spLnI C) := by
  refine F.ok scLnI (fun vs H Q E h => ?_) (fun cdv A outer s H vs Q E hr h => ?_)
  · obtain ⟨x, dx, room, rfl, _⟩ := h
    rfl
  · obtain ⟨x, dx, room, rfl, hx, q⟩ := h
    refine ⟨_, pss_cons (ps_fld (pv 0) (pv 1) rfl) (pss_cons (ps_fld (pv 0) pe_int rfl) (pss_cons (ps_fld (pv 0) pe_non rfl) (pss_one (ps_fld (pv 0) (pe_lst pa_nil) rfl)))), ?_⟩
    refine ⟨_, rfl, _, rfl, x, C, dx, _, rfl, hx, L.cl, L.n1, by show 0 < 1000; decide, ?_⟩
    refine ⟨_, rfl, x, C, dx, _, rfl, upd_same, L.cl, L.n2, by show 1 < 1000; decide, ?_⟩
    refine ⟨_, rfl, x, C, dx, _, rfl, upd_same, L.cl, L.n3, by show 2 < 1000; decide, ?_⟩
    refine ⟨Nat.zero_le _, fun pa hpa => ?_⟩
    have npx : x ≠ pa := ne_of_none upd_same hpa
    refine ⟨_, rfl, x, C, dx, _, rfl, by rw [upd_ne npx]; exact upd_same, L.cl, L.n4, by show 3 < 1000; decide, ?_⟩
    have hpa0 : H pa = none := by
      rw [upd_ne (Ne.symm npx), upd_ne (Ne.symm npx), upd_ne (Ne.symm npx)] at hpa
      exact hpa
    refine q pa _ hpa0 (fun a o ha e => ?_) ⟨upd_same, by rw [upd_ne (Ne.symm npx)]; exact upd_same, .nil⟩
    have nap : a ≠ pa := fun z => by
      rw [z, hpa0] at e
      cases e
    rw [upd_ne ha, upd_ne nap, upd_ne ha, upd_ne ha, upd_ne ha]
    exact e
theorem scLnT : FnScope ["self"] ["self"] (defScope sLnT) := ⟨rfl, rfl, rfl, by decide +kernel, rfl, by decide +kernel, by decide +kernel⟩
theorem ok_lnT {C f : Addr} {fd : FuncData} (F : Fun K "told" "Lane.told" sLnT f fd) (T : Txt mg) (L : Lne K C) : FnOk P w K mg base CX0 1 f fd ["self"] (spLnT C) := by
  refine F.ok scLnT (fun vs H Q E h => ?_) (fun cdv A outer s H vs Q E hr h => ?_)
  · obtain ⟨x, dx, pa, r, b, h, pvs, qs, rfl, _⟩ := h
    rfl
  · obtain ⟨x, dx, pa, r, b, h, pvs, qs, rfl, hL, q⟩ := h
    refine ⟨_, pss_one (ps_ret (pe_tup (pa_cons (pe_fld (pv 0) rfl) (pa_cons (pe_fld (pv 0) rfl) (pa_cons (pe_fld (pv 0) rfl) (pa_cons (pe_callTy call_list_of rfl T.list PySem.Pv.boot_list (pa_cons (pe_fld (pv 0) rfl) pa_nil)) pa_nil)))))), ?_⟩
    refine ⟨_, rfl, x, C, dx, _, _, rfl, hL.ins, L.cl, L.n1, rfl, _, rfl, x, C, dx, _, _, rfl, hL.ins, L.cl, L.n2, rfl, _, rfl, x, C, dx, _, _, rfl, hL.ins, L.cl, L.n3, rfl, _, rfl, x, C, dx, _, _, rfl, hL.ins, L.cl, L.n4, rfl, pa, _, rfl, .inl (SqL.of hL.lst), fun ql hql => ?_⟩
    have s1 := (Same.refl H).new (o := .lst pvs) hql
    have g1 : (upd H ql (.lst pvs)) ql = some (.lst pvs) := upd_same
    generalize upd H ql (.lst pvs) = H1 at s1 g1 ⊢
    refine ⟨by show 4 ≤ sizeLine; decide, fun t ht => ?_⟩
    have s2 := s1.new (o := .tup [.int r, .int b, hV h, .ref ql]) ht
    exact q t ql _ s2 hql upd_same (by rw [upd_ne (ne_of_none g1 ht)]; exact g1)
end
end K46
namespace K46
open PySem L2
/-! ### the rooms, words, an exception with two attributes, letters -/
def okR (m : Nat) (rvs : List V) : Bool := decide (rvs.length = m) && rvs.all fun v => okv v 1 60
def Sq (K : PySem.W.Frag) (H : Hp) (a : Addr) (xs : List V) : Prop := SqL K H a xs ∨ SqT K H a xs
def spRooms (K : PySem.W.Frag) (c : Cs) (nr : Addr) : Sp := fun vs H Q E => ∃ (lx ldx lt : Addr) (n : Int) (tvs : List V) (ps : List (Int × Int)) (rv : V), vs = [.ref lx, rv] ∧ LandAt H c lx ldx lt n tvs ps ∧ ps.length ≤ 1000 ∧
  ((rv = .non ∧ ∀ t H', Same H H' → H' t = some (.tup (List.replicate ps.length (.int 1))) → Q (.ref t) H') ∨
   (∃ ra rvs, rv = .ref ra ∧ Sq K H ra rvs ∧ rvs.length ≤ 1000 ∧ (∀ v ∈ rvs, Sca v) ∧ (okR ps.length rvs = false → ∀ H', Same H H' → E (.ref nr) none H') ∧ (okR ps.length rvs = true → ∀ t H', Same H H' → SqT K H' t rvs → Q (.ref t) H')))
def ifRetC (s : Stmt) : Scope := match s with
  | .If _ (.Return (some (.Call _ [.ListComp _ _ sc _] _ _)) _ :: _) _ _ => sc
  | _ => { kind := .function, names := [], isGenerator := false, isCoroutine := false }
def orNotC (s : Stmt) : Scope := match s with
  | .If (.BoolOp _ [_, .UnaryOp _ (.Call _ [.ListComp _ _ sc _] _ _) _] _) _ _ _ => sc
  | _ => { kind := .function, names := [], isGenerator := false, isCoroutine := false }
def okW : V → Bool
  | .int i => decide ((if i < 0 then -i else i) < 10 ^ (60 : Int).toNat)
  | _ => false
def spWord : Sp := fun vs H Q _ => ∃ v, vs = [v] ∧ Sca v ∧ Q (.bl (okW v)) H
def spXi2 (K : PySem.W.Frag) (f1 f2 : Str) : Sp := fun vs H Q _ => ∃ e C tt v1 v2, vs = [.ref e, v1, v2] ∧ H e = some (ExcAt e C tt none) ∧ XCls K C ∧ PySem.W.findIn K (.ref C) f1 = some none ∧ PySem.W.findIn K (.ref C) f2 = some none ∧ ∀ d H', H d = none → (∀ b o, b ≠ e → H b = some o → H' b = some o) → H' e = some (ExcAt e C tt (some d)) → H' d = some (.xd [(f1, v1), (f2, v2)]) → Q .non H'
theorem same_seqT {K : PySem.W.Frag} {H H' : Hp} {a : Addr} {xs : List V} (e : Same H H') (h : SqT K H a xs) : SqT K H' a xs := by
  rcases h with h | h
  · refine .inl ?_
    rcases h with h | ⟨o, h⟩
    · exact .inl (e _ _ h)
    · exact .inr ⟨o, e _ _ h⟩
  · exact .inr h
theorem pi_or {X : Cx} {tg it : Expr} {a b : TI} (h1 : PI X tg it a) (h2 : PI X tg it b) : PI X tg it (fun σ H R => a σ H R ∨ b σ H R) := fun pins s σ H R I h => h.elim (h1 pins s σ H R I) (h2 pins s σ H R I)
/-- a comprehension over a list or a tuple -/
theorem comp_any {J : It} {xs : List V} {g : TG} {te : TE} {σ0 : St} {H : Hp} {Q : VK} (f : V → V) (hn : xs.length < sizeLine) (hgo : ∀ i, i < xs.length → J.go i H) (hst : J.stop xs.length H) (hy : ∀ i x H', J.yld i H x H' → H' = H ∧ xs[i]? = some x)
    (hs : ∀ (x : V) (N : V → Hp → Prop), x ∈ xs → N (f x) H → g x σ0 H fun σ2 H2 => te σ2 H2 N)
    (hq : ∀ D, H D = none → Q (.ref D) (upd H D (.lst (xs.map f)))) : CompR J g tYes te σ0 Q H := by
  refine comp_gen xs.length hn (fun i acc H' => H' = H ∧ acc = (xs.take i).map f) ⟨rfl, rfl⟩ (fun i acc H' h => by rw [h.2, List.length_map]; exact List.length_take_le _ _) (fun i acc H' hi h => ?_) (fun acc H' h => ?_)
  · obtain ⟨rfl, rfl⟩ := h
    refine ⟨hgo i hi, fun v H2 y => ?_⟩
    obtain ⟨e, hx⟩ := hy i v H2 y
    subst e
    exact hs v (fun y H4 => H4 = H2 ∧ (xs.take i).map f ++ [y] = (xs.take (i + 1)).map f) (List.mem_of_getElem? hx) ⟨rfl, by rw [List.take_succ, hx, List.map_append]; rfl⟩
  · obtain ⟨rfl, rfl⟩ := h
    rw [List.take_length]
    exact ⟨hst, hq⟩
theorem comp_L {K : PySem.W.Frag} {a : Addr} {xs : List V} {g : TG} {te : TE} {σ0 : St} {H : Hp} {Q : VK} (f : V → V) (hn : xs.length < sizeLine) (ha : SqL K H a xs) (hs : ∀ (x : V) (N : V → Hp → Prop), x ∈ xs → N (f x) H → g x σ0 H fun σ2 H2 => te σ2 H2 N)
    (hq : ∀ D, H D = none → Q (.ref D) (upd H D (.lst (xs.map f)))) : CompR (Itl K a) g tYes te σ0 Q H :=
  comp_any f hn (fun i hi => ⟨xs, xs[i], ha, by simp [hi]⟩) ⟨xs, ha, Nat.le_refl _⟩ (fun i x H' y => ⟨y.1, y.2 xs ha⟩) hs hq
theorem comp_T {K : PySem.W.Frag} {a : Addr} {xs : List V} {g : TG} {te : TE} {σ0 : St} {H : Hp} {Q : VK} (f : V → V) (hn : xs.length < sizeLine) (ha : SqT K H a xs) (hs : ∀ (x : V) (N : V → Hp → Prop), x ∈ xs → N (f x) H → g x σ0 H fun σ2 H2 => te σ2 H2 N)
    (hq : ∀ D, H D = none → Q (.ref D) (upd H D (.lst (xs.map f)))) : CompR (Itt K a) g tYes te σ0 Q H :=
  comp_any f hn (fun i hi => ⟨xs, xs[i], ha, by simp [hi]⟩) ⟨xs, ha, Nat.le_refl _⟩ (fun i x H' y => ⟨y.1, y.2 xs ha⟩) hs hq
structure ExP (K : PySem.W.Frag) (mg : Str → Option Value) (x : Str) (C : Addr) : Prop where
  m : mg x = some (.ref C)
  x : excInI K C none = true
  k : PySem.W.keepIn K (.ref C) = true
section
variable {P : Program} {w : World} {K : PySem.W.Frag} {mg : Str → Option Value} {base : Heap}
theorem scRo : FnScope ["land", "rooms"] ["land", "rooms"] (defScope sRooms) := ⟨rfl, rfl, rfl, by decide +kernel, rfl, by decide +kernel, by decide +kernel⟩
theorem bkR1 : Blk ["land", "rooms"] (defScope sRooms) (ifRetC ((defBody sRooms).getD 0 (.Pass ⟨0, 0, 0, 0⟩))) [] [] := ⟨rfl, by decide +kernel, by decide +kernel, by decide +kernel, rfl, by decide +kernel⟩
theorem bkR2 : Blk ["land", "rooms"] (defScope sRooms) (orNotC ((defBody sRooms).getD 1 (.Pass ⟨0, 0, 0, 0⟩))) [] [] := ⟨rfl, by decide +kernel, by decide +kernel, by decide +kernel, rfl, by decide +kernel⟩
theorem ndR1 : (["lane"] : List Str).Nodup := by decide +kernel
theorem ndR2 : (["room"] : List Str).Nodup := by decide +kernel
theorem ok_rooms {c : Cs} {f fw nr : Addr} {fd dw : FuncData} {t1 : Tok} (F : Fun K "rooms_of" "rooms_of" sRooms f fd) (T : Txt mg) (L : Lnd K c) (X : ExP K mg "NoRooms" nr)
    (mw : mg "is_within" = some (.ref fw)) (kw : PySem.W.keepIn K (.ref fw) = true) (bw : Binds K dw ["value", "least", "most"] []) (Gw : FnOk P w K mg base CX0 2 fw dw ["value", "least", "most"] spWithinV) (mp : mg "MOST_ROOM" = some (.int 60 t1)) :
    FnOk P w K mg base (CXe P w) 3 f fd ["land", "rooms"] (spRooms K c nr) := by
  refine F.okX scRo (fun vs H Q E h => ?_) (fun cdv A outer s H vs Q E hr h => ?_)
  · obtain ⟨lx, ldx, lt, n, tvs, ps, rv, rfl, _⟩ := h
    rfl
  · obtain ⟨lx, ldx, lt, n, tvs, ps, rv, rfl, hL, hpl, hh⟩ := h
    refine ⟨_, pss_cons (ps_if (pt_cmpR op_isN (pv 1) pe_non (nomark _)) (pss_one (ps_ret (pe_callTy call_tuple_of rfl T.tuple PySem.Pv.boot_tuple (pa_cons (pe_comp (own := ["lane"]) (capN := []) (cap := []) bkR1 rfl (pi_tup (pe_fld (pv 0) rfl))
          (fun C s' H' fp => ⟨pg_name (i := 0) ndR1 rfl (Or.inl rfl), pts_nil, pe_int⟩)) pa_nil)))) pss_nil)
      (pss_cons (ps_if (pt_post (PW.pt (pw_or (pt_cmpR op_ne (pe_callB call_len_seq rfl T.len PySem.boot_len (pa_cons (pv 1) pa_nil)) (pe_callB call_len_seq rfl T.len PySem.boot_len (pa_cons (pe_fld (pv 0) rfl) pa_nil)) (nomark _))
          (pw_or1 (pt_not (pt_val (pe_callB (call_all rfl) rfl T.all PyProof.Rows.boot_all (pa_cons (pe_comp (own := ["room"]) (capN := []) (cap := []) bkR2 rfl (pi_or (pi_list (pv 1)) (pi_tup (pv 1)))
            (fun C s' H' fp => ⟨pg_name (i := 0) ndR2 rfl (Or.inl rfl), pts_nil, pe_call Gw hr rfl mw kw bw .nil pass0 (pa_cons (pv 0) (pa_cons pe_int (pa_cons (pe_glob (v := .int 60) rfl mp ⟨_, rfl⟩) pa_nil)))⟩)) pa_nil))))))))
        (pss_one (ps_raise rfl X.x passX_def (px_plain X.x X.k rfl rfl X.m (pa_cons pe_str pa_nil)))) pss_nil)
      (pss_one (ps_ret (pe_callTy call_tuple_of rfl T.tuple PySem.Pv.boot_tuple (pa_cons (pv 1) pa_nil))))), ?_⟩
    have hll : tvs.length = ps.length := Paired.length hL.2.2
    refine ⟨_, rfl, rfl, _, rfl, ?_⟩
    rcases hh with ⟨rfl, q⟩ | ⟨ra, rvs, rfl, hR, hrl, hsc, qE, q⟩
    · refine iteT ⟨_, rfl, lx, c.land, ldx, _, _, rfl, hL.1, L.cl, L.nl, rfl, lt, rfl, ⟨_, SqT.of hL.2.1⟩, ?_⟩
      refine comp_T (fun _ => .int 1) (by rw [PySem.sizeLine_eq]; omega) (SqT.of hL.2.1) (fun x N hx h => h) (fun D hD => ?_)
      have s1 := (Same.refl H).new (o := .lst (tvs.map fun _ => V.int 1)) hD
      refine ⟨D, _, rfl, .inl ⟨SqL.of upd_same, fun t ht => q t _ (s1.new ht) ?_⟩⟩
      rw [upd_same, List.map_const', hll]
    · refine iteF ?_
      have len1 : ∀ {H : Hp}, Sq K H ra rvs → (SqL K H ra rvs ∨ SqT K H ra rvs) := fun h => h
      refine ⟨fun b H' => Same H H' ∧ b = !okR ps.length rvs, ?_, ?_⟩
      · refine ⟨_, rfl, ra, rvs, rfl, hR, _, rfl, lx, c.land, ldx, _, _, rfl, hL.1, L.cl, L.nl, rfl, lt, _, rfl, .inr (SqT.of hL.2.1), rfl, _, rfl, ?_⟩
        rw [int_eq', hll]
        by_cases hlr : rvs.length = ps.length
        rotate_left
        · rw [decide_eq_false (show ¬ ((rvs.length : Nat) : Int) = (ps.length : Nat) by omega)]
          refine iteT ⟨Same.refl H, ?_⟩
          unfold okR
          rw [decide_eq_false hlr]; rfl
        rw [decide_eq_true (show ((rvs.length : Nat) : Int) = (ps.length : Nat) by omega)]
        have step : ∀ (x : V) (N : V → Hp → Prop), x ∈ rvs → N (.bl (okv x 1 60)) H → Sca x := fun x _ hx _ => hsc x hx
        have fin : ∀ D, H D = none → ∃ (p : Addr) (bs : List Bool), [V.ref D] = [.ref p] ∧ SqL K (upd H D (.lst (rvs.map fun v => V.bl (okv v 1 60)))) p (bs.map V.bl) ∧ ∃ cc, V.bl (bs.all id) = .bl cc ∧ (Same H (upd H D (.lst (rvs.map fun v => V.bl (okv v 1 60)))) ∧ (!cc) = !okR ps.length rvs) := fun D hD => by
          refine ⟨D, rvs.map fun v => okv v 1 60, rfl, SqL.of (by rw [upd_same, List.map_map]; rfl), _, rfl, (Same.refl H).new hD, ?_⟩
          unfold okR
          rw [decide_eq_true hlr, Bool.true_and, List.all_map]; rfl
        refine iteF ?_
        rcases hR with hR | hR
        · refine .inl ⟨_, rfl, ra, rfl, ⟨_, hR⟩, ?_⟩
          exact comp_L (fun v => .bl (okv v 1 60)) (by rw [PySem.sizeLine_eq]; omega) hR (fun x N hx h => ⟨_, rfl, x, 1, 60, rfl, hsc x hx, h⟩) fin
        · refine .inr ⟨_, rfl, ra, rfl, ⟨_, hR⟩, ?_⟩
          exact comp_T (fun v => .bl (okv v 1 60)) (by rw [PySem.sizeLine_eq]; omega) hR (fun x N hx h => ⟨_, rfl, x, 1, 60, rfl, hsc x hx, h⟩) fin
      rintro b H' ⟨s', rfl⟩
      cases hok : okR ps.length rvs with
      | false => exact iteT ⟨by show 1 ≤ sizeLine; decide, qE hok H' s'⟩
      | true =>
        refine iteF ⟨_, rfl, ra, rvs, rfl, ?_⟩
        rcases hR with hR | hR
        · exact .inl ⟨s'.seq hR, fun t ht => q hok t _ (s'.new ht) (SqT.of upd_same)⟩
        · exact .inr ⟨same_seqT s' hR, q hok ra _ s' (same_seqT s' hR)⟩
theorem scWo : FnScope ["word"] ["word"] (defScope sWord) := ⟨rfl, rfl, rfl, by decide +kernel, rfl, by decide +kernel, by decide +kernel⟩
theorem ok_word {f fh : Addr} {fd dh : FuncData} (F : Fun K "is_word" "is_word" sWord f fd) (T : Txt mg) (mh : mg "is_whole" = some (.ref fh)) (kh : PySem.W.keepIn K (.ref fh) = true) (bh : Binds K dh ["value"] []) (G : FnOk P w K mg base CX0 1 fh dh ["value"] spWholeV) :
    FnOk P w K mg base CX0 2 f fd ["word"] spWord := by
  refine F.ok scWo (fun vs H Q E h => ?_) (fun cdv A outer s H vs Q E hr h => ?_)
  · obtain ⟨v, rfl, _⟩ := h
    rfl
  · obtain ⟨v, rfl, hv, q⟩ := h
    refine ⟨_, pss_one (ps_ret (pe_and (pe_call G hr rfl mh kh bh .nil pass0 (pa_cons (pv 0) pa_nil)) (pe_one (pe_cmpR op_lt (pe_callB call_abs rfl T.abs PyProof.Rows.boot_abs (pa_cons (pv 0) pa_nil)) (pe_op op_pow pe_int pe_int) (nomark _))))), ?_⟩
    cases hv with
    | int i => exact ⟨_, rfl, _, rfl, .int i, true, rfl, iteT ⟨_, rfl, i, rfl, _, _, rfl, rfl, ⟨by decide, by decide, by decide⟩, _, _, rfl, rfl, q⟩⟩
    | bl b => exact ⟨_, rfl, _, rfl, .bl b, false, rfl, iteF q⟩
    | non => exact ⟨_, rfl, _, rfl, .non, false, rfl, iteF q⟩
theorem scNw : FnScope ["self", "start", "goal"] ["self", "start", "goal"] (defScope sNR2) := ⟨rfl, rfl, rfl, by decide +kernel, rfl, by decide +kernel, by decide +kernel⟩
theorem ok_nw {f : Addr} {fd : FuncData} (F : Fun K "__init__" "NoWay.__init__" sNR2 f fd) : FnOk P w K mg base CX0 1 f fd ["self", "start", "goal"] (spXi2 K "start" "goal") := by
  refine F.ok scNw (fun vs H Q E h => ?_) (fun cdv A outer s H vs Q E hr h => ?_)
  · obtain ⟨e, C, tt, v1, v2, rfl, _⟩ := h
    rfl
  · obtain ⟨e, C, tt, v1, v2, rfl, he, hx, n1, n2, q⟩ := h
    refine ⟨_, pss_cons (ps_fldXa (pv 0) (pv 1) rfl) (pss_one (ps_fldXb (pv 0) (pv 2) rfl)), ?_⟩
    refine ⟨_, rfl, _, rfl, e, C, tt, rfl, he, hx, n1, fun d hd => ?_⟩
    have ned : e ≠ d := ne_of_none he hd
    refine ⟨_, rfl, _, rfl, e, C, tt, d, [("start", v1)], rfl, upd_same, by rw [upd_ne (Ne.symm ned)]; exact upd_same, by show 1 < 1000; decide, hx, n2, ?_⟩
    refine q d _ hd (fun b o nb eb => ?_) (by rw [upd_ne ned]; exact upd_same) (by rw [upd_same]; rfl)
    have nbd : b ≠ d := ne_of_none eb hd
    rw [upd_ne nbd, upd_ne nb, upd_ne nbd]
    exact eb
end
end K46
namespace K46
open PySem L2
/-! ### a table, whatever its class -/
def cV : Option Nat → V
  | none => .non
  | some k => .int k
abbrev Wf := Nat → Nat → Option Nat → List Nat
abbrev TJ := Hp → Addr → Nat → Wf → Prop
/-- neither a list nor an instance that is being made -/
def NL : HO → Prop
  | .lst _ => False
  | .ins _ _ [] => False
  | _ => True
/-- all but lists and instances that are being made stays -/
def KeepN (H H' : Hp) : Prop := ∀ b o, H b = some o → NL o → H' b = some o
theorem Same.keepN {H H' : Hp} (s : Same H H') : KeepN H H' := fun b o e _ => s b o e
theorem KeepN.trans {H H1 H2 : Hp} (a : KeepN H H1) (b : KeepN H1 H2) : KeepN H H2 := fun x o e n => b x o (a x o e n) n
theorem KeepN.lns {H H' : Hp} (k : KeepN H H') {vs : List V} {ps : List (Int × Int)} (h : Lns H vs ps) : Lns H' vs ps := Lns.imp (fun _ _ ⟨t, e, q⟩ => ⟨t, e, k _ _ q True.intro⟩) h
structure TbIn (c : Cs) (C : Addr) (J : TJ) (H : Hp) (x lx ldx lt : Addr) (n : Nat) (tvs : List V) (ps : List (Int × Int)) (wy : Wf) : Prop where
  j : J H x n wy
  i : ∃ dx fs, H x = some (.ins C dx fs) ∧ fs.lookup ("land" : Str) = some (.ref lx) ∧ fs.lookup ("ways" : Str) = none
  l : LandAt H c lx ldx lt (n : Int) tvs ps
  n12 : n ≤ 12
  few : ps.length ≤ 40
  ok : ∀ p g k, p < n → g < n → ∀ z ∈ wy p g k, z < ps.length
structure Wy (K : PySem.W.Frag) (C fw : Addr) (dw : FuncData) (J : TJ) : Prop where
  cl : Cls K C
  nl : NoAttr K C "land"
  m : Meth K C "ways" fw
  b : Binds K dw ["self", "place", "goal", "came"] []
  stay : ∀ H H' x n wy, J H x n wy → KeepN H H' → J H' x n wy
theorem TbIn.keep {K : PySem.W.Frag} {c : Cs} {C fw : Addr} {dw : FuncData} {J : TJ} {H H' : Hp} {x lx ldx lt : Addr} {n : Nat} {tvs : List V} {ps : List (Int × Int)} {wy : Wf} (W : Wy K C fw dw J) (h : TbIn c C J H x lx ldx lt n tvs ps wy) (k : KeepN H H') : TbIn c C J H' x lx ldx lt n tvs ps wy :=
  ⟨W.stay _ _ _ _ _ h.j k, let ⟨dx, fs, h1, h2⟩ := h.i; ⟨dx, fs, k _ _ h1 (by cases fs with | nil => cases h2.1 | cons _ _ => exact True.intro), h2⟩, ⟨k _ _ h.l.1 True.intro, k _ _ h.l.2.1 True.intro, k.lns h.l.2.2⟩, h.n12, h.few, h.ok⟩
def spWaysA (J : TJ) : Sp := fun vs H Q _ => ∃ (x : Addr) (n : Nat) (wy : Wf) (p g : Nat) (k : Option Nat), vs = [.ref x, .int p, .int g, cV k] ∧ J H x n wy ∧ p < n ∧ g < n ∧ ∀ (D : Addr) (H' : Hp), Same H H' → H D = none → H' D = some (.lst (nV (wy p g k))) → Q (.ref D) H'
/-! ### how a yard stands -/
structure LnS where
  r : Int
  b : Int
  h : Option Int
  qs : List (Int × Int)
structure LtS where
  start : Int
  goal : Int
  len : Int
  word : Int
  gone : Int
  way : List Nat
structure YS where
  rooms : List V
  lanes : List LnS
  letters : List LtS
  lies : List (List (Int × Int))
  done : List (List V)
structure Ys where
  yard : Addr
  lane : Addr
  letter : Addr
def LaneV (H : Hp) (C : Addr) (ex : List Addr) (v : V) (s : LnS) : Prop := ∃ x dx pa pvs, v = .ref x ∧ LaneAt H C x dx pa s.r s.b s.h pvs s.qs ∧ pa ∉ ex
def ltF (s : LtS) (wa : Addr) : Fs := [("start", .int s.start), ("goal", .int s.goal), ("length", .int s.len), ("word", .int s.word), ("gone", .int s.gone), ("way", .ref wa)]
def LetV (H : Hp) (C : Addr) (ex : List Addr) (v : V) (s : LtS) : Prop := ∃ x dx wa, v = .ref x ∧ H x = some (.ins C dx (ltF s wa)) ∧ H wa = some (.lst (nV s.way)) ∧ wa ∉ ex
def LieV (H : Hp) (v : V) (qs : List (Int × Int)) : Prop := ∃ t vs, v = .ref t ∧ H t = some (.tup vs) ∧ Lns H vs qs
def MvV (H : Hp) (v : V) (m : List V) : Prop := ∃ t, v = .ref t ∧ H t = some (.tup m)
theorem Paired.mono {α β : Type} {R R' : α → β → Prop} (h : ∀ a b, R a b → R' a b) : ∀ {as : List α} {bs : List β}, Paired R as bs → Paired R' as bs
  | _, _, .nil => .nil
  | _, _, .cons x r => .cons (h _ _ x) (Paired.mono h r)
theorem Paired.snoc {α β : Type} {R : α → β → Prop} {a : α} {b : β} (h : R a b) : ∀ {as : List α} {bs : List β}, Paired R as bs → Paired R (as ++ [a]) (bs ++ [b])
  | _, _, .nil => .cons h .nil
  | _, _, .cons x r => .cons x (Paired.snoc h r)
theorem Paired.at {α β : Type} {R : α → β → Prop} : ∀ {as : List α} {bs : List β} {i : Nat} {a : α}, Paired R as bs → as[i]? = some a → ∃ b, bs[i]? = some b ∧ R a b
  | _, _, _, _, .nil, h => by cases h
  | _, _, 0, _, .cons x _, h => by cases h; exact ⟨_, rfl, x⟩
  | _, _, i + 1, _, .cons _ r, h => Paired.at (i := i) r h
theorem Paired.at2 {α β : Type} {R : α → β → Prop} : ∀ {as : List α} {bs : List β} {i : Nat} {b : β}, Paired R as bs → bs[i]? = some b → ∃ a, as[i]? = some a ∧ R a b
  | _, _, _, _, .nil, h => by cases h
  | _, _, 0, _, .cons x _, h => by cases h; exact ⟨_, rfl, x⟩
  | _, _, i + 1, _, .cons _ r, h => Paired.at2 (i := i) r h
/-- all but these addresses stays -/
def OffE (ex : List Addr) (H H' : Hp) : Prop := ∀ b o, b ∉ ex → H b = some o → H' b = some o
theorem Same.offE {ex : List Addr} {H H' : Hp} (s : Same H H') : OffE ex H H' := fun b o _ e => s b o e
theorem OffE.trans {ex : List Addr} {H H1 H2 : Hp} (a : OffE ex H H1) (b : OffE ex H1 H2) : OffE ex H H2 := fun x o n e => b x o n (a x o n e)
theorem Lns.offE {ex : List Addr} {H H' : Hp} (hx : ∀ b ∈ ex, ∃ xs, H b = some (.lst xs)) (o : OffE ex H H') {vs : List V} {ps : List (Int × Int)} (h : Lns H vs ps) : Lns H' vs ps :=
  Lns.imp (fun _ _ ⟨t, e, q⟩ => ⟨t, e, o _ _ (fun z => by obtain ⟨xs, hz⟩ := hx _ z; rw [q] at hz; cases hz) q⟩) h
theorem OffE.keep' {ex : List Addr} {H H' : Hp} (hx : ∀ b ∈ ex, ∃ o, H b = some o ∧ ¬ NL o) (o : OffE ex H H') : KeepN H H' := fun b u e n => o b u (fun z => by obtain ⟨o', hz, hn⟩ := hx _ z; rw [e] at hz; cases hz; exact hn n) e
theorem OffE.keepN {ex : List Addr} {H H' : Hp} (hx : ∀ b ∈ ex, ∃ xs, H b = some (.lst xs)) (o : OffE ex H H') : KeepN H H' := o.keep' fun b hb => let ⟨xs, hz⟩ := hx b hb; ⟨_, hz, id⟩
theorem LaneV.offE {ex : List Addr} {H H' : Hp} {C : Addr} {v : V} {s : LnS} (hx : ∀ b ∈ ex, ∃ xs, H b = some (.lst xs)) (o : OffE ex H H') (h : LaneV H C ex v s) : LaneV H' C ex v s := by
  obtain ⟨x, dx, pa, pvs, e, L, n⟩ := h
  have k := o.keepN hx
  exact ⟨x, dx, pa, pvs, e, ⟨k _ _ L.ins True.intro, o _ _ n L.lst, Lns.offE hx o L.pcs⟩, n⟩
theorem LetV.offE {ex : List Addr} {H H' : Hp} {C : Addr} {v : V} {s : LtS} (hx : ∀ b ∈ ex, ∃ xs, H b = some (.lst xs)) (o : OffE ex H H') (h : LetV H C ex v s) : LetV H' C ex v s := by
  obtain ⟨x, dx, wa, e, h1, h2, n⟩ := h
  exact ⟨x, dx, wa, e, o.keepN hx _ _ h1 True.intro, o _ _ n h2, n⟩
theorem LieV.keep {H H' : Hp} {v : V} {qs : List (Int × Int)} (k : KeepN H H') (h : LieV H v qs) : LieV H' v qs := by
  obtain ⟨t, vs, e, h1, h2⟩ := h
  exact ⟨t, vs, e, k _ _ h1 True.intro, k.lns h2⟩
theorem MvV.keep {H H' : Hp} {v : V} {m : List V} (k : KeepN H H') (h : MvV H v m) : MvV H' v m := by
  obtain ⟨t, e, h1⟩ := h
  exact ⟨t, e, k _ _ h1 True.intro⟩
def ydF (tb ro la le li dn : Addr) : Fs := [("table", .ref tb), ("rooms", .ref ro), ("lanes", .ref la), ("letters", .ref le), ("lies", .ref li), ("done", .ref dn)]
structure YardAt (K : PySem.W.Frag) (ys : Ys) (H : Hp) (y dy tb ro la le li dn : Addr) (s : YS) : Prop where
  ins : H y = some (.ins ys.yard dy (ydF tb ro la le li dn))
  hro : SqT K H ro s.rooms
  hla : ∃ vs, H la = some (.lst vs) ∧ Paired (LaneV H ys.lane [la, le, li, dn]) vs s.lanes
  hle : ∃ vs, H le = some (.lst vs) ∧ Paired (LetV H ys.letter [la, le, li, dn]) vs s.letters
  hli : ∃ vs, H li = some (.lst vs) ∧ Paired (LieV H) vs s.lies
  hdn : ∃ vs, H dn = some (.lst vs) ∧ Paired (MvV H) vs s.done
  ne : [la, le, li, dn].Nodup
theorem YardAt.lsts {K : PySem.W.Frag} {ys : Ys} {H : Hp} {y dy tb ro la le li dn : Addr} {s : YS} (h : YardAt K ys H y dy tb ro la le li dn s) : ∀ b ∈ [la, le, li, dn], ∃ xs, H b = some (.lst xs) := by
  intro b hb
  obtain ⟨v1, h1, _⟩ := h.hla
  obtain ⟨v2, h2, _⟩ := h.hle
  obtain ⟨v3, h3, _⟩ := h.hli
  obtain ⟨v4, h4, _⟩ := h.hdn
  simp only [List.mem_cons, List.not_mem_nil, or_false] at hb
  rcases hb with rfl | rfl | rfl | rfl
  · exact ⟨_, h1⟩
  · exact ⟨_, h2⟩
  · exact ⟨_, h3⟩
  · exact ⟨_, h4⟩
theorem YardAt.same {K : PySem.W.Frag} {ys : Ys} {H H' : Hp} {y dy tb ro la le li dn : Addr} {s : YS} (h : YardAt K ys H y dy tb ro la le li dn s) (e : Same H H') : YardAt K ys H' y dy tb ro la le li dn s := by
  have hx := h.lsts
  obtain ⟨v1, h1, p1⟩ := h.hla
  obtain ⟨v2, h2, p2⟩ := h.hle
  obtain ⟨v3, h3, p3⟩ := h.hli
  obtain ⟨v4, h4, p4⟩ := h.hdn
  have o : OffE [la, le, li, dn] H H' := Same.offE e
  exact ⟨e _ _ h.ins, same_seqT e h.hro, ⟨v1, e _ _ h1, Paired.mono (fun _ _ z => z.offE hx o) p1⟩, ⟨v2, e _ _ h2, Paired.mono (fun _ _ z => z.offE hx o) p2⟩, ⟨v3, e _ _ h3, Paired.mono (fun _ _ z => z.keep (Same.keepN e)) p3⟩, ⟨v4, e _ _ h4, Paired.mono (fun _ _ z => z.keep (Same.keepN e)) p4⟩, h.ne⟩
structure Yrd (K : PySem.W.Frag) (ys : Ys) : Prop where
  cl : Cls K ys.yard
  n1 : NoAttr K ys.yard "table"
  n2 : NoAttr K ys.yard "rooms"
  n3 : NoAttr K ys.yard "lanes"
  n4 : NoAttr K ys.yard "letters"
  n5 : NoAttr K ys.yard "lies"
  n6 : NoAttr K ys.yard "done"
  ct : Cls K ys.letter
  t1 : NoAttr K ys.letter "start"
  t2 : NoAttr K ys.letter "goal"
  t3 : NoAttr K ys.letter "length"
  t4 : NoAttr K ys.letter "word"
  t5 : NoAttr K ys.letter "gone"
  t6 : NoAttr K ys.letter "way"
  L : Lne K ys.lane
def spLtI (C : Addr) : Sp := fun vs H Q _ => ∃ (x dx : Addr) (a b l u : Int), vs = [.ref x, .int a, .int b, .int l, .int u] ∧ H x = some (.ins C dx []) ∧ ∀ (wa : Addr) (H' : Hp), H wa = none → (∀ z o, z ≠ x → H z = some o → H' z = some o) → H' x = some (.ins C dx (ltF ⟨a, b, l, u, 0, []⟩ wa)) → H' wa = some (.lst (nV [])) → Q .non H'
section
variable {P : Program} {w : World} {K : PySem.W.Frag} {mg : Str → Option Value} {base : Heap}
theorem scLtI : FnScope ["self", "start", "goal", "length", "word"] ["self", "start", "goal", "length", "word"] (defScope sLetI) := ⟨rfl, rfl, rfl, by decide +kernel, rfl, by decide +kernel, by decide +kernel⟩
theorem ok_ltI {ys : Ys} {f : Addr} {fd : FuncData} (F : Fun K "__init__" "Letter.__init__" sLetI f fd) (Y : Yrd K ys) : FnOk P w K mg base CX0 1 f fd ["self", "start", "goal", "length", "word"] (spLtI ys.letter) := by
  refine F.ok scLtI (fun vs H Q E h => ?_) (fun cdv A outer s H vs Q E hr h => ?_)
  · obtain ⟨x, dx, a, b, l, u, rfl, _⟩ := h
    rfl
  · obtain ⟨x, dx, a, b, l, u, rfl, hx, q⟩ := h
    refine ⟨_, pss_cons (ps_fld (pv 0) (pv 1) rfl) (pss_cons (ps_fld (pv 0) (pv 2) rfl) (pss_cons (ps_fld (pv 0) (pv 3) rfl) (pss_cons (ps_fld (pv 0) (pv 4) rfl) (pss_cons (ps_fld (pv 0) pe_int rfl) (pss_one (ps_fld (pv 0) (pe_lst pa_nil) rfl)))))), ?_⟩
    refine ⟨_, rfl, _, rfl, x, ys.letter, dx, _, rfl, hx, Y.ct, Y.t1, by show 0 < 1000; decide, ?_⟩
    refine ⟨_, rfl, _, rfl, x, ys.letter, dx, _, rfl, upd_same, Y.ct, Y.t2, by show 1 < 1000; decide, ?_⟩
    refine ⟨_, rfl, _, rfl, x, ys.letter, dx, _, rfl, upd_same, Y.ct, Y.t3, by show 2 < 1000; decide, ?_⟩
    refine ⟨_, rfl, _, rfl, x, ys.letter, dx, _, rfl, upd_same, Y.ct, Y.t4, by show 3 < 1000; decide, ?_⟩
    refine ⟨_, rfl, x, ys.letter, dx, _, rfl, upd_same, Y.ct, Y.t5, by show 4 < 1000; decide, ?_⟩
    refine ⟨Nat.zero_le _, fun wa hwa => ?_⟩
    have nwx : x ≠ wa := ne_of_none upd_same hwa
    refine ⟨_, rfl, x, ys.letter, dx, _, rfl, by rw [upd_ne nwx]; exact upd_same, Y.ct, Y.t6, by show 5 < 1000; decide, ?_⟩
    have hwa0 : H wa = none := by
      rw [upd_ne (Ne.symm nwx), upd_ne (Ne.symm nwx), upd_ne (Ne.symm nwx), upd_ne (Ne.symm nwx), upd_ne (Ne.symm nwx)] at hwa
      exact hwa
    refine q wa _ hwa0 (fun z o nz e => ?_) upd_same (by rw [upd_ne (Ne.symm nwx)]; exact upd_same)
    have nzw : z ≠ wa := ne_of_none e hwa0
    rw [upd_ne nz, upd_ne nzw, upd_ne nz, upd_ne nz, upd_ne nz, upd_ne nz, upd_ne nz]
    exact e
end
end K46
namespace K46
open PySem L2
def vI : V → Int
  | .int i => i
  | _ => 0
def ln0 (v : V) : LnS := ⟨vI v, 0, none, []⟩
def Y0 (rooms : List V) (n : Nat) : YS := ⟨rooms, rooms.map ln0, [], List.replicate n [], []⟩
/-- a new lane -/
def LaneN (H0 H : Hp) (C : Addr) (v : V) (s : LnS) : Prop := ∃ x dx pa, v = .ref x ∧ LaneAt H C x dx pa s.r s.b s.h [] [] ∧ s.qs = [] ∧ H0 x = none ∧ H0 pa = none
theorem LaneN.same {H0 H H' : Hp} {C : Addr} {v : V} {s : LnS} (h : LaneN H0 H C v s) (e : Same H H') : LaneN H0 H' C v s := by
  obtain ⟨x, dx, pa, h1, h2, h3⟩ := h
  exact ⟨x, dx, pa, h1, h2.same e, h3⟩
/-- a new lane of a yard that is being made -/
def LaneX (y : Addr) (ex : List Addr) (H : Hp) (C : Addr) (v : V) (s : LnS) : Prop := ∃ x dx pa, v = .ref x ∧ LaneAt H C x dx pa s.r s.b s.h [] [] ∧ s.qs = [] ∧ x ≠ y ∧ pa ≠ y ∧ pa ∉ ex
theorem LaneN.laneX {H0 H : Hp} {C y : Addr} {v : V} {s : LnS} {u : HO} (h : LaneN H0 H C v s) (hy : H0 y = some u) : LaneX y [] H C v s := by
  obtain ⟨x, dx, pa, h1, h2, h3, h4, h5⟩ := h
  exact ⟨x, dx, pa, h1, h2, h3, (fun z => by rw [z, hy] at h4; cases h4), (fun z => by rw [z, hy] at h5; cases h5), List.not_mem_nil⟩
theorem LaneX.same {y : Addr} {ex : List Addr} {H H' : Hp} {C : Addr} {v : V} {s : LnS} (h : LaneX y ex H C v s) (e : Same H H') : LaneX y ex H' C v s := by
  obtain ⟨x, dx, pa, h1, h2, h3⟩ := h
  exact ⟨x, dx, pa, h1, h2.same e, h3⟩
theorem LaneX.upd {y : Addr} {ex : List Addr} {H : Hp} {C : Addr} {v : V} {s : LnS} {o : HO} (h : LaneX y ex H C v s) : LaneX y ex (upd H y o) C v s := by
  obtain ⟨x, dx, pa, h1, h2, h3, h4, h5, h6⟩ := h
  exact ⟨x, dx, pa, h1, ⟨by rw [upd_ne h4]; exact h2.ins, by rw [upd_ne h5]; exact h2.lst, .nil⟩, h3, h4, h5, h6⟩
theorem LaneX.new {y a : Addr} {ex : List Addr} {H : Hp} {C : Addr} {v : V} {s : LnS} {o : HO} (h : LaneX y ex H C v s) (ha : H a = none) : LaneX y (a :: ex) (L2.upd H a o) C v s := by
  obtain ⟨x, dx, pa, h1, h2, h3, h4, h5, h6⟩ := h
  exact ⟨x, dx, pa, h1, h2.same ((Same.refl H).new ha), h3, h4, h5, fun z => (List.mem_cons.mp z).elim (fun z => by rw [z] at h2; rw [h2.lst] at ha; cases ha) h6⟩
theorem LaneX.laneV {y : Addr} {ex ex' : List Addr} {H : Hp} {C : Addr} {v : V} {s : LnS} (h : LaneX y ex H C v s) (hs : ∀ a ∈ ex', a ∈ ex) : LaneV H C ex' v s := by
  obtain ⟨x, dx, pa, h1, h2, h3, h4, h5, h6⟩ := h
  exact ⟨x, dx, pa, [], h1, by rw [h3]; exact h2, fun z => h6 (hs _ z)⟩
theorem comp_lanes {K : PySem.W.Frag} {ro C : Addr} {rvs : List V} {g : TG} {te : TE} {σ0 : St} {H : Hp} {Q : VK} (hn : rvs.length < sizeLine) (ha : SqT K H ro rvs) (hint : ∀ v ∈ rvs, ∃ r, v = .int r)
    (hs : ∀ (r : Int) (H1 : Hp) (N : V → Hp → Prop), Same H H1 → (∀ x dx pa H2, H1 x = none → H1 pa = none → Same H1 H2 → LaneAt H2 C x dx pa r 0 none [] [] → N (.ref x) H2) → g (.int r) σ0 H1 fun σ2 H2 => te σ2 H2 N)
    (hq : ∀ D vs H1, Same H H1 → H1 D = none → Paired (LaneN H H1 C) vs (rvs.map ln0) → Q (.ref D) (upd H1 D (.lst vs))) : CompR (Itt K ro) g tYes te σ0 Q H := by
  refine comp_gen rvs.length hn (fun i acc H' => Same H H' ∧ Paired (LaneN H H' C) acc ((rvs.take i).map ln0)) ⟨Same.refl _, .nil⟩ (fun i acc H' h => by have := Paired.length h.2; rw [this, List.length_map]; exact List.length_take_le _ _) (fun i acc H' hi h => ?_) (fun acc H' h => ?_)
  · obtain ⟨s, hL⟩ := h
    refine ⟨⟨rvs, rvs[i], same_seqT s ha, by simp [hi]⟩, fun v H2 y => ?_⟩
    obtain ⟨e, y⟩ := y
    subst e
    have hv := y _ (same_seqT s ha)
    obtain ⟨r, rfl⟩ := hint v (List.mem_of_getElem? hv)
    refine hs r H2 (fun y H4 => Same H H4 ∧ Paired (LaneN H H4 C) (acc ++ [y]) ((rvs.take (i + 1)).map ln0)) s fun x dx pa H3 nx npa s3 hL3 => ⟨s.trans s3, ?_⟩
    rw [List.take_succ, hv, Option.toList_some, List.map_append]
    exact Paired.snoc (b := ln0 (.int r)) ⟨x, dx, pa, rfl, hL3, rfl, s.free nx, s.free npa⟩ (Paired.mono (fun _ _ z => z.same s3) hL)
  · obtain ⟨s, hL⟩ := h
    rw [List.take_length] at hL
    exact ⟨⟨rvs, same_seqT s ha, Nat.le_refl _⟩, fun D hD => hq D acc H' s hD hL⟩
theorem comp_lies {n : Nat} {g : TG} {te : TE} {σ0 : St} {H : Hp} {Q : VK} (hn : n ≤ 1000)
    (hs : ∀ (i : Nat) (H1 : Hp) (N : V → Hp → Prop), Same H H1 → (∀ t, H1 t = none → N (.ref t) (upd H1 t (.tup []))) → g (.int (0 + i)) σ0 H1 fun σ2 H2 => te σ2 H2 N)
    (hq : ∀ D vs H1, Same H H1 → H1 D = none → Paired (LieV H1) vs (List.replicate n []) → Q (.ref D) (upd H1 D (.lst vs))) : CompR (Itr 0 n) g tYes te σ0 Q H := by
  refine comp_gen n (by rw [PySem.sizeLine_eq]; omega) (fun i acc H' => Same H H' ∧ Paired (LieV H') acc (List.replicate i [])) ⟨Same.refl _, .nil⟩ (fun i acc H' h => by have := Paired.length h.2; rw [this, List.length_replicate]; exact Nat.le_refl _) (fun i acc H' hi h => ?_) (fun acc H' h => ?_)
  · obtain ⟨s, hL⟩ := h
    refine ⟨hi, fun v H2 y => ?_⟩
    obtain ⟨e1, e2⟩ := y
    subst e1 e2
    refine hs i H2 (fun y H4 => Same H H4 ∧ Paired (LieV H4) (acc ++ [y]) (List.replicate (i + 1) [])) s fun t ht => ⟨s.new ht, ?_⟩
    rw [List.replicate_succ']
    exact Paired.snoc ⟨t, [], rfl, upd_same, .nil⟩ (Paired.mono (fun _ _ z => z.keep (Same.keepN ((Same.refl H2).new ht))) hL)
  · obtain ⟨s, hL⟩ := h
    exact ⟨Nat.le_refl n, fun D hD => hq D acc H' s hD hL⟩
theorem sqT_upd {K : PySem.W.Frag} {H : Hp} {a y C d : Addr} {fs : Fs} {o : HO} {xs : List V} (hy : H y = some (.ins C d fs)) (h : SqT K H a xs) : SqT K (upd H y o) a xs := by
  rcases h with h | h
  · refine .inl ?_
    rcases h with h | ⟨u, h⟩
    · exact .inl (by rw [upd_ne (ne_of h hy (by intro z; cases z))]; exact h)
    · exact .inr ⟨u, by rw [upd_ne (ne_of h hy (by intro z; cases z))]; exact h⟩
  · exact .inr h
theorem sqL_upd {K : PySem.W.Frag} {H : Hp} {a y C d : Addr} {fs : Fs} {o : HO} {xs : List V} (hy : H y = some (.ins C d fs)) (h : SqL K H a xs) : SqL K (upd H y o) a xs := by
  rcases h with h | h
  · refine .inl ?_
    rcases h with h | ⟨u, h⟩
    · exact .inl (by rw [upd_ne (ne_of h hy (by intro z; cases z))]; exact h)
    · exact .inr ⟨u, by rw [upd_ne (ne_of h hy (by intro z; cases z))]; exact h⟩
  · exact .inr h
def spYdI (K : PySem.W.Frag) (c : Cs) (TC : Addr) (J : TJ) (ys : Ys) (nr : Addr) : Sp := fun vs H Q E => ∃ (y dy tb lx ldx lt : Addr) (n : Nat) (tvs : List V) (ps : List (Int × Int)) (wy : Wf) (rv : V) (rvs : List V), vs = [.ref y, .ref tb, rv] ∧ H y = some (.ins ys.yard dy []) ∧ TbIn c TC J H tb lx ldx lt n tvs ps wy ∧
  ((rv = .non ∧ rvs = List.replicate ps.length (.int 1)) ∨ (∃ ra, rv = .ref ra ∧ Sq K H ra rvs ∧ rvs.length ≤ 1000 ∧ (∀ v ∈ rvs, Sca v) ∧ (okR ps.length rvs = false → ∀ H', OffE [y] H H' → E (.ref nr) none H'))) ∧
  (okR ps.length rvs = true → ∀ (ro la le li dn : Addr) (H' : Hp), OffE [y] H H' → H la = none → H le = none → H li = none → H dn = none → YardAt K ys H' y dy tb ro la le li dn (Y0 rvs n) → Q .non H')
def fldC (s : Stmt) : Scope := match s with
  | .Assign _ (.ListComp _ _ sc _) _ => sc
  | _ => { kind := .function, names := [], isGenerator := false, isCoroutine := false }
theorem okv_int {v : V} {a b : Int} (h : okv v a b = true) : ∃ r, v = .int r := by
  cases v <;> first | exact ⟨_, rfl⟩ | cases h
section
variable {P : Program} {w : World} {K : PySem.W.Frag} {mg : Str → Option Value} {base : Heap}
theorem scYI : FnScope ["self", "table", "rooms"] ["self", "table", "rooms"] (defScope sYdI) := ⟨rfl, rfl, rfl, by decide +kernel, rfl, by decide +kernel, by decide +kernel⟩
theorem bkYI1 : Blk ["self", "table", "rooms"] (defScope sYdI) (fldC ((defBody sYdI).getD 2 (.Pass ⟨0, 0, 0, 0⟩))) [] [] := ⟨rfl, by decide +kernel, by decide +kernel, by decide +kernel, rfl, by decide +kernel⟩
theorem bkYI2 : Blk ["self", "table", "rooms"] (defScope sYdI) (fldC ((defBody sYdI).getD 4 (.Pass ⟨0, 0, 0, 0⟩))) [] [] := ⟨rfl, by decide +kernel, by decide +kernel, by decide +kernel, rfl, by decide +kernel⟩
theorem ndYI2 : (["place"] : List Str).Nodup := by decide +kernel
theorem ok_ydI {c : Cs} {ys : Ys} {J : TJ} {TC f fw2 fr fl nr : Addr} {fd dw2 dr dl : FuncData} (F : FunD K "__init__" "Yard.__init__" sYdI f fd) (T : Txt mg) (L : Lnd K c) (Y : Yrd K ys) (W : Wy K TC fw2 dw2 J)
    (mr : mg "rooms_of" = some (.ref fr)) (kr : PySem.W.keepIn K (.ref fr) = true) (br : Binds K dr ["land", "rooms"] []) (Gr : FnOk P w K mg base (CXe P w) 3 fr dr ["land", "rooms"] (spRooms K c nr))
    (ml : mg "Lane" = some (.ref ys.lane)) (Ml : Mk K ys.lane fl) (bl : Binds K dl ["self", "room"] []) (Gl : FnOk P w K mg base CX0 1 fl dl ["self", "room"] (spLnI ys.lane)) :
    FnOk P w K mg base (CXe P w) 4 f fd ["self", "table", "rooms"] (spYdI K c TC J ys nr) := by
  refine F.okX scYI (fun vs H Q E h => ?_) (fun cdv A outer s H vs Q E hr h => ?_)
  · obtain ⟨y, dy, tb, lx, ldx, lt, n, tvs, ps, wy, rv, rvs, rfl, _⟩ := h
    rfl
  · obtain ⟨y, dy, tb, lx, ldx, lt, n, tvs, ps, wy, rv, rvs, rfl, hy, hT, hrv, q⟩ := h
    have hr2 : Room 2 _ := hr.mono (by decide)
    refine ⟨_, pss_cons (ps_fld (pv 0) (pv 1) rfl)
      (pss_cons (ps_fld (pv 0) (pe_post (pe_call Gr hr rfl mr kr br .nil (PassX.passes passX_def rfl) (pa_cons (pe_fld (pv 1) rfl) (pa_cons (pv 2) pa_nil)))) rfl)
      (pss_cons (ps_fld (pv 0) (pe_comp (own := ["room"]) (capN := []) (cap := []) bkYI1 rfl (pi_tup (pe_fld (pv 0) rfl)) (fun C s' H' fp => ⟨pg_name (i := 0) ndR2 rfl (Or.inl rfl), pts_nil, pe_make Ml Gl hr2 rfl ml bl .nil pass0 (pa_cons (pv 0) pa_nil)⟩)) rfl)
      (pss_cons (ps_fld (pv 0) (pe_lst pa_nil) rfl)
      (pss_cons (ps_fld (pv 0) (pe_comp (own := ["place"]) (capN := []) (cap := []) bkYI2 rfl (pi_range1 rfl T.range (pa_cons (pe_fld (pe_fld (pv 1) rfl) rfl) pa_nil)) (fun C s' H' fp => ⟨pg_name (i := 0) ndYI2 rfl (Or.inl rfl), pts_nil, pe_tup pa_nil⟩)) rfl)
      (pss_one (ps_fld (pv 0) (pe_lst pa_nil) rfl)))))), ?_⟩
    have hm40 := hT.few
    have hn12 := hT.n12
    obtain ⟨dxt, fst, htb, hland, _⟩ := hT.i
    have kp : ∀ {H' : Hp}, OffE [y] H H' → KeepN H H' := fun o => o.keep' fun b hb => by rw [List.mem_singleton.mp hb]; exact ⟨_, hy, id⟩
    have ntb : tb ≠ y := ne_of htb hy (fun z => by injection z with _ _ z3; rw [z3] at hland; cases hland)
    -- the table
    refine ⟨_, rfl, _, rfl, y, ys.yard, dy, _, rfl, hy, Y.cl, Y.n1, by show 0 < 1000; decide, ?_⟩
    have o1 : OffE [y] H (upd H y (.ins ys.yard dy (putF "table" (.ref tb) []))) := fun b o nb e => by rw [upd_ne (fun z => nb (by rw [z]; exact List.mem_singleton.mpr rfl))]; exact e
    have g1 : (upd H y (.ins ys.yard dy (putF "table" (.ref tb) []))) y = some (.ins ys.yard dy [("table", .ref tb)]) := upd_same
    have sq1 : ∀ ra, Sq K H ra rvs → Sq K (upd H y (.ins ys.yard dy (putF "table" (.ref tb) []))) ra rvs := fun ra h => h.elim (fun h => .inl (sqL_upd hy h)) fun h => .inr (sqT_upd hy h)
    show _
    generalize upd H y (.ins ys.yard dy (putF "table" (.ref tb) [])) = A1 at o1 g1 sq1 ⊢
    have hT1 := hT.keep W (kp o1)
    -- the rooms
    have ofy : ∀ {Ha Hb : Hp} {o : HO}, OffE [y] Ha Hb → OffE [y] Ha (upd Hb y o) := fun {Ha Hb o} h b u nb e => by rw [upd_ne (fun z => nb (by rw [z]; exact List.mem_singleton.mpr rfl))]; exact h b u nb e
    refine ⟨fun v A2 => ∃ ro, v = .ref ro ∧ Same A1 A2 ∧ SqT K A2 ro rvs ∧ okR ps.length rvs = true, ?_, ?_⟩
    · refine ⟨_, rfl, tb, TC, dxt, fst, _, rfl, o1 _ _ (fun z => ntb (List.mem_singleton.mp z)) htb, W.cl, W.nl, hland, _, rfl, lx, ldx, lt, (n : Int), tvs, ps, rv, rfl, hT1.l, by omega, ?_⟩
      rcases hrv with ⟨rfl, rfl⟩ | ⟨ra, rfl, hR, hrl, hsc, qE⟩
      · refine .inl ⟨rfl, fun t A2 s2 ht => ⟨t, rfl, s2, SqT.of ht, ?_⟩⟩
        unfold okR
        rw [List.length_replicate, decide_eq_true rfl, Bool.true_and, List.all_eq_true]
        intro v hv
        rw [List.eq_of_mem_replicate hv]; rfl
      · have hR1 : Sq K A1 ra rvs := sq1 ra hR
        exact .inr ⟨ra, rvs, rfl, hR1, hrl, hsc, fun hok A2 s2 => qE hok A2 (o1.trans (Same.offE s2)), fun hok t A2 s2 ht => ⟨t, rfl, s2, ht, hok⟩⟩
    rintro v A2 ⟨ro, rfl, s2, hro, hok⟩
    have hall : rvs.length = ps.length ∧ ∀ v ∈ rvs, ∃ r, v = .int r := by
      unfold okR at hok
      rw [Bool.and_eq_true, decide_eq_true_eq, List.all_eq_true] at hok
      exact ⟨hok.1, fun v hv => okv_int (hok.2 v hv)⟩
    have o2 : OffE [y] H A2 := o1.trans (Same.offE s2)
    have g2 := s2 _ _ g1
    refine ⟨_, rfl, y, ys.yard, dy, _, rfl, g2, Y.cl, Y.n2, by show 1 < 1000; decide, ?_⟩
    have o3 := ofy (o := .ins ys.yard dy (putF "rooms" (.ref ro) [("table", .ref tb)])) o2
    have g3 : (upd A2 y (.ins ys.yard dy (putF "rooms" (.ref ro) [("table", .ref tb)]))) y = some (.ins ys.yard dy [("table", .ref tb), ("rooms", .ref ro)]) := upd_same
    have hro3 : SqT K (upd A2 y (.ins ys.yard dy (putF "rooms" (.ref ro) [("table", .ref tb)]))) ro rvs := sqT_upd g2 hro
    show _
    generalize upd A2 y (.ins ys.yard dy (putF "rooms" (.ref ro) [("table", .ref tb)])) = A3 at o3 g3 hro3 ⊢
    -- the lanes
    refine ⟨_, rfl, y, ys.yard, dy, _, _, rfl, g3, Y.cl, Y.n2, rfl, ro, rfl, ⟨_, hro3⟩, ?_⟩
    refine comp_lanes (C := ys.lane) (by rw [PySem.sizeLine_eq]; omega) hro3 hall.2 (fun r B N sB hN => ?_) (fun la lvs A4 s4 hla hLn => ?_)
    · refine ⟨_, rfl, fun x dx nx ndx nex => ⟨x, dx, r, rfl, upd_same, fun pa B2 hpa off hL => ⟨rfl, ?_⟩⟩⟩
      have npx : B pa = none := by
        by_cases e1 : pa = x
        · rw [e1, upd_same] at hpa; cases hpa
        · by_cases e2 : pa = dx
          · rw [e2, upd_ne nex, upd_same] at hpa; cases hpa
          · rw [upd_ne e1, upd_ne e2] at hpa; exact hpa
      refine hN x dx pa B2 nx npx (fun b o e => off b o (ne_of_none e nx) ?_) hL
      rw [upd_ne (ne_of_none e nx), upd_ne (ne_of_none e ndx)]
      exact e
    have o4 : OffE [y] H A4 := o3.trans (Same.offE s4)
    have g4 := s4 _ _ g3
    have nla : la ≠ y := Ne.symm (ne_of_none g4 hla)
    have la0 : H la = none := by
      cases e : H la with
      | none => rfl
      | some u => rw [o4 _ _ (fun z => nla (List.mem_singleton.mp z)) e] at hla; cases hla
    have hX5 : Paired (LaneX y [la] (upd A4 la (.lst lvs)) ys.lane) lvs (rvs.map ln0) := Paired.mono (fun _ _ z => (z.laneX g3).new hla) hLn
    have o5 : OffE [y] H (upd A4 la (.lst lvs)) := o4.trans (Same.offE ((Same.refl A4).new hla))
    have g5 : (upd A4 la (.lst lvs)) y = some (.ins ys.yard dy [("table", .ref tb), ("rooms", .ref ro)]) := by rw [upd_ne (Ne.symm nla)]; exact g4
    have gla5 : (upd A4 la (.lst lvs)) la = some (.lst lvs) := upd_same
    have hro5 : SqT K (upd A4 la (.lst lvs)) ro rvs := same_seqT ((Same.refl A4).new hla) (same_seqT s4 hro3)
    refine ⟨_, rfl, y, ys.yard, dy, _, rfl, g5, Y.cl, Y.n3, by show 2 < 1000; decide, ?_⟩
    generalize upd A4 la (.lst lvs) = A5 at hX5 o5 g5 gla5 hro5 ⊢
    have hX6 : Paired (LaneX y [la] (upd A5 y (.ins ys.yard dy (putF "lanes" (.ref la) [("table", .ref tb), ("rooms", .ref ro)]))) ys.lane) lvs (rvs.map ln0) := Paired.mono (fun _ _ z => z.upd) hX5
    have o6 := ofy (o := .ins ys.yard dy (putF "lanes" (.ref la) [("table", .ref tb), ("rooms", .ref ro)])) o5
    have g6 : (upd A5 y (.ins ys.yard dy (putF "lanes" (.ref la) [("table", .ref tb), ("rooms", .ref ro)]))) y = some (.ins ys.yard dy [("table", .ref tb), ("rooms", .ref ro), ("lanes", .ref la)]) := upd_same
    have gla6 : (upd A5 y (.ins ys.yard dy (putF "lanes" (.ref la) [("table", .ref tb), ("rooms", .ref ro)]))) la = some (.lst lvs) := by rw [upd_ne nla]; exact gla5
    have hro6 := sqT_upd (o := .ins ys.yard dy (putF "lanes" (.ref la) [("table", .ref tb), ("rooms", .ref ro)])) g5 hro5
    generalize upd A5 y (.ins ys.yard dy (putF "lanes" (.ref la) [("table", .ref tb), ("rooms", .ref ro)])) = A6 at hX6 o6 g6 gla6 hro6 ⊢
    -- the letters
    refine ⟨Nat.zero_le _, fun le hle => ?_⟩
    have nle : le ≠ y := Ne.symm (ne_of_none g6 hle)
    have nlale : la ≠ le := ne_of_none gla6 hle
    have le0 : H le = none := by
      cases e : H le with
      | none => rfl
      | some u => rw [o6 _ _ (fun z => nle (List.mem_singleton.mp z)) e] at hle; cases hle
    have hX7 : Paired (LaneX y [le, la] (upd A6 le (.lst [])) ys.lane) lvs (rvs.map ln0) := Paired.mono (fun _ _ z => z.new hle) hX6
    have o7 : OffE [y] H (upd A6 le (.lst [])) := o6.trans (Same.offE ((Same.refl A6).new hle))
    have g7 : (upd A6 le (.lst [])) y = some (.ins ys.yard dy [("table", .ref tb), ("rooms", .ref ro), ("lanes", .ref la)]) := by rw [upd_ne (Ne.symm nle)]; exact g6
    have gla7 : (upd A6 le (.lst [])) la = some (.lst lvs) := by rw [upd_ne nlale]; exact gla6
    have gle7 : (upd A6 le (.lst [])) le = some (.lst []) := upd_same
    have hro7 : SqT K (upd A6 le (.lst [])) ro rvs := same_seqT ((Same.refl A6).new hle) hro6
    refine ⟨_, rfl, y, ys.yard, dy, _, rfl, g7, Y.cl, Y.n4, by show 3 < 1000; decide, ?_⟩
    generalize upd A6 le (.lst []) = A7 at hX7 o7 g7 gla7 gle7 hro7 ⊢
    have hX8 : Paired (LaneX y [le, la] (upd A7 y (.ins ys.yard dy (putF "letters" (.ref le) [("table", .ref tb), ("rooms", .ref ro), ("lanes", .ref la)]))) ys.lane) lvs (rvs.map ln0) := Paired.mono (fun _ _ z => z.upd) hX7
    have o8 := ofy (o := .ins ys.yard dy (putF "letters" (.ref le) [("table", .ref tb), ("rooms", .ref ro), ("lanes", .ref la)])) o7
    have g8 : (upd A7 y (.ins ys.yard dy (putF "letters" (.ref le) [("table", .ref tb), ("rooms", .ref ro), ("lanes", .ref la)]))) y = some (.ins ys.yard dy [("table", .ref tb), ("rooms", .ref ro), ("lanes", .ref la), ("letters", .ref le)]) := upd_same
    have gla8 : (upd A7 y (.ins ys.yard dy (putF "letters" (.ref le) [("table", .ref tb), ("rooms", .ref ro), ("lanes", .ref la)]))) la = some (.lst lvs) := by rw [upd_ne nla]; exact gla7
    have gle8 : (upd A7 y (.ins ys.yard dy (putF "letters" (.ref le) [("table", .ref tb), ("rooms", .ref ro), ("lanes", .ref la)]))) le = some (.lst []) := by rw [upd_ne nle]; exact gle7
    have hro8 := sqT_upd (o := .ins ys.yard dy (putF "letters" (.ref le) [("table", .ref tb), ("rooms", .ref ro), ("lanes", .ref la)])) g7 hro7
    generalize upd A7 y (.ins ys.yard dy (putF "letters" (.ref le) [("table", .ref tb), ("rooms", .ref ro), ("lanes", .ref la)])) = A8 at hX8 o8 g8 gla8 gle8 hro8 ⊢
    have hT8 := hT.keep W (kp o8)
    -- what lies
    refine ⟨_, rfl, tb, TC, dxt, fst, _, rfl, o8 _ _ (fun z => ntb (List.mem_singleton.mp z)) htb, W.cl, W.nl, hland, lx, c.land, ldx, _, _, rfl, hT8.l.1, L.cl, L.np, rfl, (n : Int), rfl, by omega, by omega, ?_⟩
    rw [Int.toNat_natCast]
    refine comp_lies (by omega) (fun i B N sB hN => ⟨Nat.zero_le _, fun t ht => hN t ht⟩) (fun li hvs A9 s9 hli hLi => ?_)
    have g9 := s9 _ _ g8
    have o9 : OffE [y] H A9 := o8.trans (Same.offE s9)
    have nli : li ≠ y := Ne.symm (ne_of_none g9 hli)
    have nlali : la ≠ li := ne_of_none (s9 _ _ gla8) hli
    have nleli : le ≠ li := ne_of_none (s9 _ _ gle8) hli
    have li0 : H li = none := by
      cases e : H li with
      | none => rfl
      | some u => rw [o9 _ _ (fun z => nli (List.mem_singleton.mp z)) e] at hli; cases hli
    have t10 := (Same.refl A9).new (o := .lst hvs) hli
    have hX10 : Paired (LaneX y [li, le, la] (upd A9 li (.lst hvs)) ys.lane) lvs (rvs.map ln0) := Paired.mono (fun _ _ z => (z.same s9).new hli) hX8
    have hLi10 : Paired (LieV (upd A9 li (.lst hvs))) hvs (List.replicate n []) := Paired.mono (fun _ _ z => z.keep (Same.keepN t10)) hLi
    have gli10 : (upd A9 li (.lst hvs)) li = some (.lst hvs) := upd_same
    have o10 : OffE [y] H (upd A9 li (.lst hvs)) := o9.trans (Same.offE t10)
    have g10 := t10 _ _ g9
    have gla10 := t10 _ _ (s9 _ _ gla8)
    have gle10 := t10 _ _ (s9 _ _ gle8)
    have hro10 := same_seqT t10 (same_seqT s9 hro8)
    refine ⟨_, rfl, y, ys.yard, dy, _, rfl, g10, Y.cl, Y.n5, by show 4 < 1000; decide, ?_⟩
    generalize upd A9 li (.lst hvs) = A10 at hX10 hLi10 gli10 o10 g10 gla10 gle10 hro10 ⊢
    have lieU : ∀ {B : Hp} {o : HO} {C d : Addr} {fs : Fs} {v : V} {qs : List (Int × Int)}, B y = some (.ins C d fs) → LieV B v qs → LieV (upd B y o) v qs := fun {B o C d fs v qs} hB h => by
      obtain ⟨t, ws, e, h1, h2⟩ := h
      exact ⟨t, ws, e, by rw [upd_ne (ne_of h1 hB (by intro z; cases z))]; exact h1, Lns.imp (fun _ _ ⟨t', e', q'⟩ => ⟨t', e', by rw [upd_ne (ne_of q' hB (by intro z; cases z))]; exact q'⟩) h2⟩
    have hX11 : Paired (LaneX y [li, le, la] (upd A10 y (.ins ys.yard dy (putF "lies" (.ref li) [("table", .ref tb), ("rooms", .ref ro), ("lanes", .ref la), ("letters", .ref le)]))) ys.lane) lvs (rvs.map ln0) := Paired.mono (fun _ _ z => z.upd) hX10
    have hLi11 : Paired (LieV (upd A10 y (.ins ys.yard dy (putF "lies" (.ref li) [("table", .ref tb), ("rooms", .ref ro), ("lanes", .ref la), ("letters", .ref le)])))) hvs (List.replicate n []) := Paired.mono (fun _ _ z => lieU g10 z) hLi10
    have o11 := ofy (o := .ins ys.yard dy (putF "lies" (.ref li) [("table", .ref tb), ("rooms", .ref ro), ("lanes", .ref la), ("letters", .ref le)])) o10
    have g11 : (upd A10 y (.ins ys.yard dy (putF "lies" (.ref li) [("table", .ref tb), ("rooms", .ref ro), ("lanes", .ref la), ("letters", .ref le)]))) y = some (.ins ys.yard dy [("table", .ref tb), ("rooms", .ref ro), ("lanes", .ref la), ("letters", .ref le), ("lies", .ref li)]) := upd_same
    have gla11 : (upd A10 y (.ins ys.yard dy (putF "lies" (.ref li) [("table", .ref tb), ("rooms", .ref ro), ("lanes", .ref la), ("letters", .ref le)]))) la = some (.lst lvs) := by rw [upd_ne nla]; exact gla10
    have gle11 : (upd A10 y (.ins ys.yard dy (putF "lies" (.ref li) [("table", .ref tb), ("rooms", .ref ro), ("lanes", .ref la), ("letters", .ref le)]))) le = some (.lst []) := by rw [upd_ne nle]; exact gle10
    have gli11 : (upd A10 y (.ins ys.yard dy (putF "lies" (.ref li) [("table", .ref tb), ("rooms", .ref ro), ("lanes", .ref la), ("letters", .ref le)]))) li = some (.lst hvs) := by rw [upd_ne nli]; exact gli10
    have hro11 := sqT_upd (o := .ins ys.yard dy (putF "lies" (.ref li) [("table", .ref tb), ("rooms", .ref ro), ("lanes", .ref la), ("letters", .ref le)])) g10 hro10
    generalize upd A10 y (.ins ys.yard dy (putF "lies" (.ref li) [("table", .ref tb), ("rooms", .ref ro), ("lanes", .ref la), ("letters", .ref le)])) = A11 at hX11 hLi11 o11 g11 gla11 gle11 gli11 hro11 ⊢
    -- what was done
    refine ⟨Nat.zero_le _, fun dn hdn => ?_⟩
    have ndn : dn ≠ y := Ne.symm (ne_of_none g11 hdn)
    have nladn : la ≠ dn := ne_of_none gla11 hdn
    have nledn : le ≠ dn := ne_of_none gle11 hdn
    have nlidn : li ≠ dn := ne_of_none gli11 hdn
    have dn0 : H dn = none := by
      cases e : H dn with
      | none => rfl
      | some u => rw [o11 _ _ (fun z => ndn (List.mem_singleton.mp z)) e] at hdn; cases hdn
    have t12 := (Same.refl A11).new (o := .lst []) hdn
    have g12 := t12 _ _ g11
    refine ⟨_, rfl, y, ys.yard, dy, _, rfl, g12, Y.cl, Y.n6, by show 5 < 1000; decide, ?_⟩
    refine q hok ro la le li dn _ (ofy (o11.trans (Same.offE t12))) la0 le0 li0 dn0 ⟨upd_same, sqT_upd g12 (same_seqT t12 hro11), ⟨lvs, by rw [upd_ne nla]; exact t12 _ _ gla11, ?_⟩, ⟨[], by rw [upd_ne nle]; exact t12 _ _ gle11, .nil⟩, ⟨hvs, by rw [upd_ne nli]; exact t12 _ _ gli11, Paired.mono (fun _ _ z => lieU g12 (z.keep (Same.keepN t12))) hLi11⟩, ⟨[], by rw [upd_ne ndn]; exact upd_same, .nil⟩, ?_⟩
    · refine Paired.mono (fun _ _ z => ((z.new hdn).upd).laneV fun a ha => ?_) hX11
      simp only [List.mem_cons, List.not_mem_nil, or_false] at ha ⊢
      rcases ha with rfl | rfl | rfl | rfl
      · exact .inr (.inr (.inr rfl))
      · exact .inr (.inr (.inl rfl))
      · exact .inr (.inl rfl)
      · exact .inl rfl
    · simp only [List.nodup_cons, List.mem_cons, List.not_mem_nil, or_false, not_or, not_false_eq_true, and_true, List.nodup_nil]
      exact ⟨⟨nlale, nlali, nladn⟩, ⟨nleli, nledn⟩, nlidn⟩
end
end K46
namespace K46
open PySem L2
theorem YardAt.off {K : PySem.W.Frag} {ys : Ys} {H H' : Hp} {y dy tb ro la le li dn : Addr} {s : YS} (h : YardAt K ys H y dy tb ro la le li dn s) (o : OffE [la, le, li, dn] H H') : H' y = some (.ins ys.yard dy (ydF tb ro la le li dn)) ∧ SqT K H' ro s.rooms ∧ (∀ vs ss, Paired (LaneV H ys.lane [la, le, li, dn]) vs ss → Paired (LaneV H' ys.lane [la, le, li, dn]) vs ss) ∧ (∀ vs ss, Paired (LetV H ys.letter [la, le, li, dn]) vs ss → Paired (LetV H' ys.letter [la, le, li, dn]) vs ss) ∧ (∀ vs ss, Paired (LieV H) vs ss → Paired (LieV H') vs ss) ∧ ∀ vs ss, Paired (MvV H) vs ss → Paired (MvV H') vs ss := by
  have hx := h.lsts
  have k := o.keepN hx
  refine ⟨k _ _ h.ins True.intro, ?_, fun vs ss => Paired.mono fun _ _ z => z.offE hx o, fun vs ss => Paired.mono fun _ _ z => z.offE hx o, fun vs ss => Paired.mono fun _ _ z => z.keep k, fun vs ss => Paired.mono fun _ _ z => z.keep k⟩
  rcases h.hro with r | r
  · refine .inl ?_
    rcases r with r | ⟨u, r⟩
    · exact .inl (k _ _ r True.intro)
    · exact .inr ⟨u, k _ _ r True.intro⟩
  · exact .inr r
theorem upd_off {ex : List Addr} {a : Addr} {H : Hp} {o : HO} (ha : a ∈ ex) : OffE ex H (upd H a o) := fun b u nb e => by rw [upd_ne (fun z => nb (by rw [z]; exact ha))]; exact e
theorem YardAt.pushL {K : PySem.W.Frag} {ys : Ys} {H : Hp} {y dy tb ro la le li dn : Addr} {s : YS} (h : YardAt K ys H y dy tb ro la le li dn s) {vs : List V} {v : V} {t : LtS} (hv : H le = some (.lst vs)) (hL : LetV H ys.letter [la, le, li, dn] v t) : YardAt K ys (upd H le (.lst (vs ++ [v]))) y dy tb ro la le li dn { s with letters := s.letters ++ [t] } := by
  obtain ⟨h1, h2, f1, f2, f3, f4⟩ := h.off (upd_off (a := le) (o := .lst (vs ++ [v])) (by simp))
  obtain ⟨v1, a1, p1⟩ := h.hla
  obtain ⟨v2, a2, p2⟩ := h.hle
  obtain ⟨v3, a3, p3⟩ := h.hli
  obtain ⟨v4, a4, p4⟩ := h.hdn
  rw [hv] at a2
  cases a2
  have ne := h.ne
  simp only [List.nodup_cons, List.mem_cons, List.not_mem_nil, or_false, not_or, not_false_eq_true, and_true, List.nodup_nil] at ne
  have hL' : Paired (LetV (upd H le (.lst (vs ++ [v]))) ys.letter [la, le, li, dn]) [v] [t] := f2 [v] [t] (.cons hL .nil)
  exact ⟨h1, h2, ⟨v1, by rw [upd_ne ne.1.1]; exact a1, f1 _ _ p1⟩, ⟨vs ++ [v], upd_same, Paired.snoc (by cases hL' with | cons z _ => exact z) (f2 _ _ p2)⟩, ⟨v3, by rw [upd_ne (Ne.symm ne.2.1.1)]; exact a3, f3 _ _ p3⟩, ⟨v4, by rw [upd_ne (Ne.symm ne.2.1.2)]; exact a4, f4 _ _ p4⟩, h.ne⟩
theorem YardAt.pushD {K : PySem.W.Frag} {ys : Ys} {H : Hp} {y dy tb ro la le li dn : Addr} {s : YS} (h : YardAt K ys H y dy tb ro la le li dn s) {vs : List V} {v : V} {t : List V} (hv : H dn = some (.lst vs)) (hL : MvV H v t) : YardAt K ys (upd H dn (.lst (vs ++ [v]))) y dy tb ro la le li dn { s with done := s.done ++ [t] } := by
  obtain ⟨h1, h2, f1, f2, f3, f4⟩ := h.off (upd_off (a := dn) (o := .lst (vs ++ [v])) (by simp))
  obtain ⟨v1, a1, p1⟩ := h.hla
  obtain ⟨v2, a2, p2⟩ := h.hle
  obtain ⟨v3, a3, p3⟩ := h.hli
  obtain ⟨v4, a4, p4⟩ := h.hdn
  rw [hv] at a4
  cases a4
  have ne := h.ne
  simp only [List.nodup_cons, List.mem_cons, List.not_mem_nil, or_false, not_or, not_false_eq_true, and_true, List.nodup_nil] at ne
  have hL' : Paired (MvV (upd H dn (.lst (vs ++ [v])))) [v] [t] := f4 [v] [t] (.cons hL .nil)
  exact ⟨h1, h2, ⟨v1, by rw [upd_ne ne.1.2.2]; exact a1, f1 _ _ p1⟩, ⟨v2, by rw [upd_ne ne.2.1.2]; exact a2, f2 _ _ p2⟩, ⟨v3, by rw [upd_ne ne.2.2]; exact a3, f3 _ _ p3⟩, ⟨vs ++ [v], upd_same, Paired.snoc (by cases hL' with | cons z _ => exact z) (f4 _ _ p4)⟩, h.ne⟩
/-! ### a letter posted -/
inductive Pd
  | place | length | word | way | full | good
def pdue (n : Nat) (wy : Wf) (m : Nat) (sv gv lv wv : V) : Pd :=
  if (okv sv 0 ((n : Int) - 1) && okv gv 0 ((n : Int) - 1)) = false then .place else if okv lv 1 60 = false then .length else if okW wv = false then .word
  else if vI sv = vI gv ∨ wy (vI sv).toNat (vI gv).toNat none = [] then .way else if 60 ≤ m then .full else .good
structure Xs where
  place : Addr
  length : Addr
  word : Addr
  way : Addr
  full : Addr
def postS (s : YS) (a b l u : Int) : YS := { s with letters := s.letters ++ [⟨a, b, l, u, 0, []⟩], done := s.done ++ [[.str "post", .int a, .int b, .int l, .int u]] }
def spPost (K : PySem.W.Frag) (c : Cs) (TC : Addr) (J : TJ) (ys : Ys) (x : Xs) : Sp := fun vs H Q E => ∃ (y dy tb ro la le li dn lx ldx lt : Addr) (n : Nat) (tvs : List V) (ps : List (Int × Int)) (wy : Wf) (s : YS) (sv gv lv wv : V), vs = [.ref y, sv, gv, lv, wv] ∧ YardAt K ys H y dy tb ro la le li dn s ∧ TbIn c TC J H tb lx ldx lt n tvs ps wy ∧ Sca sv ∧ Sca gv ∧ Sca lv ∧ Sca wv ∧ s.letters.length ≤ 900 ∧ s.done.length ≤ 10000 ∧
  (pdue n wy s.letters.length sv gv lv wv = .place → ∀ H', Same H H' → E (.ref x.place) none H') ∧
  (pdue n wy s.letters.length sv gv lv wv = .length → ∀ H', Same H H' → E (.ref x.length) none H') ∧
  (pdue n wy s.letters.length sv gv lv wv = .word → ∀ H', Same H H' → E (.ref x.word) none H') ∧
  (pdue n wy s.letters.length sv gv lv wv = .way → ∀ H' d, Same H H' → H' d = some (.xd [("start", sv), ("goal", gv)]) → E (.ref x.way) (some d) H') ∧
  (pdue n wy s.letters.length sv gv lv wv = .full → ∀ H', Same H H' → E (.ref x.full) none H') ∧
  (pdue n wy s.letters.length sv gv lv wv = .good → ∀ H', OffE [le, dn] H H' → YardAt K ys H' y dy tb ro la le li dn (postS s (vI sv) (vI gv) (vI lv) (vI wv)) → Q (.int s.letters.length) H')
structure ExW (K : PySem.W.Frag) (mg : Str → Option Value) (C f : Addr) (d : FuncData) : Prop where
  m : mg "NoWay" = some (.ref C)
  x : excInI K C (some (.ref f)) = true
  k : PySem.W.keepIn K (.ref C) = true
  c : XCls K C
  n1 : PySem.W.findIn K (.ref C) "start" = some none
  n2 : PySem.W.findIn K (.ref C) "goal" = some none
  i : PySem.W.isFn K (.ref f) = true
  F : Fun K "__init__" "NoWay.__init__" sNR2 f d
  b : Binds K d ["self", "start", "goal"] []
abbrev NPo : List Str := ["self", "start", "goal", "length", "word", "last_place"]
abbrev PPo : List Str := ["self", "start", "goal", "length", "word"]
section
variable {P : Program} {w : World} {K : PySem.W.Frag} {mg : Str → Option Value} {base : Heap}
theorem scPo : FnScope NPo PPo (defScope sPost) := ⟨rfl, rfl, rfl, by decide +kernel, rfl, by decide +kernel, by decide +kernel⟩
theorem ok_post {c : Cs} {ys : Ys} {x : Xs} {J : TJ} {TC f fw2 fw fwo fl fnw : Addr} {fd dw2 dw dwo dl dnw : FuncData} {t1 t2 : Tok} (F : FunD K "post" "Yard.post" sPost f fd) (T : Txt mg) (L : Lnd K c) (Y : Yrd K ys) (W : Wy K TC fw2 dw2 J) (Gway : FnOk P w K mg base CX0 3 fw2 dw2 ["self", "place", "goal", "came"] (spWaysA J))
    (mw : mg "is_within" = some (.ref fw)) (kw : PySem.W.keepIn K (.ref fw) = true) (bw : Binds K dw ["value", "least", "most"] []) (Gw : FnOk P w K mg base CX0 2 fw dw ["value", "least", "most"] spWithinV)
    (mwo : mg "is_word" = some (.ref fwo)) (kwo : PySem.W.keepIn K (.ref fwo) = true) (bwo : Binds K dwo ["word"] []) (Gwo : FnOk P w K mg base CX0 2 fwo dwo ["word"] spWord)
    (ml : mg "Letter" = some (.ref ys.letter)) (Ml : Mk K ys.letter fl) (bl : Binds K dl ["self", "start", "goal", "length", "word"] []) (Gl : FnOk P w K mg base CX0 1 fl dl ["self", "start", "goal", "length", "word"] (spLtI ys.letter))
    (mL : mg "MOST_LENGTH" = some (.int 60 t1)) (mM : mg "MOST_LETTERS" = some (.int 60 t2)) (X1 : ExP K mg "NoPlace" x.place) (X2 : ExP K mg "NoLength" x.length) (X3 : ExP K mg "NoWord" x.word) (X4 : ExW K mg x.way fnw dnw) (X5 : ExP K mg "Full" x.full) :
    FnOk P w K mg base (CXe P w) 4 f fd PPo (spPost K c TC J ys x) := by
  have Gnw : FnOk P w K mg base CX0 1 fnw dnw ["self", "start", "goal"] (spXi2 K "start" "goal") := ok_nw X4.F
  refine F.okX scPo (fun vs H Q E h => ?_) (fun cdv A outer s H vs Q E hr h => ?_)
  · obtain ⟨y, dy, tb, ro, la, le, li, dn, lx, ldx, lt, n, tvs, ps, wy, s, sv, gv, lv, wv, rfl, _⟩ := h
    rfl
  · obtain ⟨y, dy, tb, ro, la, le, li, dn, lx, ldx, lt, n, tvs, ps, wy, st, sv, gv, lv, wv, rfl, hY, hT, cs, cg, cl, cw, hl9, hd9, e1, e2, e3, e4, e5, q⟩ := h
    have hr2 : Room 2 _ := hr.mono (by decide)
    refine ⟨_, pss_cons (ps_set (i := 5) scPo.nd rfl (Or.inl rfl) (pe_op op_sub (pe_fld (pe_fld (pe_fld (pv 0) rfl) rfl) rfl) pe_int))
      (pss_cons (ps_if (PW.pt (pw_or (pt_not (pt_val (pe_call Gw hr2 rfl mw kw bw .nil pass0 (pa_cons (pv 1) (pa_cons pe_int (pa_cons (pv 5) pa_nil)))))) (pw_or1 (pt_not (pt_val (pe_call Gw hr2 rfl mw kw bw .nil pass0 (pa_cons (pv 2) (pa_cons pe_int (pa_cons (pv 5) pa_nil)))))))))
        (pss_one (ps_raise rfl X1.x passX_def (px_plain X1.x X1.k rfl rfl X1.m (pa_cons pe_str pa_nil)))) pss_nil)
      (pss_cons (ps_if (pt_not (pt_val (pe_call Gw hr2 rfl mw kw bw .nil pass0 (pa_cons (pv 3) (pa_cons pe_int (pa_cons (pe_glob (v := .int 60) rfl mL ⟨_, rfl⟩) pa_nil))))))
        (pss_one (ps_raise rfl X2.x passX_def (px_plain X2.x X2.k rfl rfl X2.m (pa_cons pe_str pa_nil)))) pss_nil)
      (pss_cons (ps_if (pt_not (pt_val (pe_call Gwo hr2 rfl mwo kwo bwo .nil pass0 (pa_cons (pv 4) pa_nil))))
        (pss_one (ps_raise rfl X3.x passX_def (px_plain X3.x X3.k rfl rfl X3.m (pa_cons pe_str pa_nil)))) pss_nil)
      (pss_cons (ps_if (pt_post (PW.pt (pw_or (pt_cmpR op_eq (pv 1) (pv 2) (nomark _)) (pw_or1 (pt_not (pt_truth (pe_meth (pe_fld (pv 0) rfl) W.cl W.m Gway hr W.b .nil pass0 (pa_cons (pv 1) (pa_cons (pv 2) (pa_cons pe_non pa_nil)))) (fun _ => rfl)))))))
        (pss_one (ps_raise rfl X4.x passX_def (px_init X4.x X4.i X4.k Gnw hr2 X4.b rfl X4.m (pa_cons (pv 1) (pa_cons (pv 2) pa_nil))))) pss_nil)
      (pss_cons (ps_if (pt_cmpR op_ge (pe_callB call_len_seq rfl T.len PySem.boot_len (pa_cons (pe_fld (pv 0) rfl) pa_nil)) (pe_glob (v := .int 60) rfl mM ⟨_, rfl⟩) (nomark _))
        (pss_one (ps_raise rfl X5.x passX_def (px_plain X5.x X5.k rfl rfl X5.m (pa_cons pe_str pa_nil)))) pss_nil)
      (pss_cons (ps_expr (pe_bm PySem.F.plainAttrs_list PySem.F.slot_list_append PySem.F.type_list_append mt_append (pe_fld (pv 0) rfl) (pa_cons (pe_make Ml Gl hr2 rfl ml bl .nil pass0 (pa_cons (pv 1) (pa_cons (pv 2) (pa_cons (pv 3) (pa_cons (pv 4) pa_nil))))) pa_nil)))
      (pss_cons (ps_expr (pe_bm PySem.F.plainAttrs_list PySem.F.slot_list_append PySem.F.type_list_append mt_append (pe_fld (pv 0) rfl) (pa_cons (pe_tup (pa_cons pe_str (pa_cons (pv 1) (pa_cons (pv 2) (pa_cons (pv 3) (pa_cons (pv 4) pa_nil)))))) pa_nil)))
      (pss_one (ps_ret (pe_op op_sub (pe_callB call_len_seq rfl T.len PySem.boot_len (pa_cons (pe_fld (pv 0) rfl) pa_nil)) pe_int)))))))))), ?_⟩
    obtain ⟨dxt, fst, htb, hland, hways⟩ := hT.i
    unfold pdue at e1 e2 e3 e4 e5 q
    refine ⟨_, rfl, y, ys.yard, dy, _, _, rfl, hY.ins, Y.cl, Y.n1, rfl, tb, TC, dxt, fst, _, rfl, htb, W.cl, W.nl, hland, lx, c.land, ldx, _, _, rfl, hT.l.1, L.cl, L.np, rfl, _, _, rfl, rfl, ?_⟩
    -- the places
    refine ⟨_, rfl, _, rfl, sv, 0, (n : Int) - 1, rfl, cs, _, rfl, ?_⟩
    cases h1 : okv sv 0 ((n : Int) - 1) with
    | false =>
      refine iteT (iteT ⟨by show 1 ≤ sizeLine; decide, ?_⟩)
      exact e1 (by rw [h1, Bool.false_and, if_pos rfl]) H (Same.refl H)
    | true =>
    refine iteF ⟨_, rfl, _, rfl, gv, 0, (n : Int) - 1, rfl, cg, _, rfl, ?_⟩
    cases h2 : okv gv 0 ((n : Int) - 1) with
    | false =>
      refine iteT ⟨by show 1 ≤ sizeLine; decide, ?_⟩
      exact e1 (by rw [h1, h2, Bool.and_false, if_pos rfl]) H (Same.refl H)
    | true =>
    rw [h1, h2, Bool.true_and, if_neg (by decide)] at e2 e3 e4 e5 q
    refine iteF ⟨_, rfl, lv, 1, 60, rfl, cl, _, rfl, ?_⟩
    cases h3 : okv lv 1 60 with
    | false =>
      refine iteT ⟨by show 1 ≤ sizeLine; decide, ?_⟩
      exact e2 (by rw [h3, if_pos rfl]) H (Same.refl H)
    | true =>
    rw [h3, if_neg (by decide)] at e3 e4 e5 q
    refine iteF ⟨_, rfl, wv, rfl, cw, _, rfl, ?_⟩
    cases h4 : okW wv with
    | false =>
      refine iteT ⟨by show 1 ≤ sizeLine; decide, ?_⟩
      exact e3 (by rw [h4, if_pos rfl]) H (Same.refl H)
    | true =>
    rw [h4, if_neg (by decide)] at e4 e5 q
    refine iteF ?_
    obtain ⟨a, rfl⟩ := okv_int h1
    obtain ⟨b, rfl⟩ := okv_int h2
    obtain ⟨l, rfl⟩ := okv_int h3
    obtain ⟨u, rfl⟩ : ∃ u, wv = .int u := by
      cases wv <;> first | exact ⟨_, rfl⟩ | cases h4
    have ha : 0 ≤ a ∧ a ≤ (n : Int) - 1 := of_decide_eq_true h1
    have hb : 0 ≤ b ∧ b ≤ (n : Int) - 1 := of_decide_eq_true h2
    obtain ⟨a', rfl⟩ : ∃ a' : Nat, a = (a' : Int) := ⟨a.toNat, by omega⟩
    obtain ⟨b', rfl⟩ : ∃ b' : Nat, b = (b' : Int) := ⟨b.toNat, by omega⟩
    have ev : ∀ z : Int, vI (.int z) = z := fun _ => rfl
    rw [ev, ev, Int.toNat_natCast, Int.toNat_natCast] at e4 e5 q
    -- the first lanes
    refine ⟨fun k H1 => Same H H1 ∧ k = decide ((a' : Int) = (b' : Int) ∨ wy a' b' none = []), ?_, ?_⟩
    · refine ⟨_, rfl, _, rfl, rfl, _, rfl, ?_⟩
      rw [int_eq']
      by_cases hab : (a' : Int) = (b' : Int)
      · rw [decide_eq_true hab]
        exact iteT ⟨Same.refl H, by rw [decide_eq_true (Or.inl hab)]⟩
      · rw [decide_eq_false hab]
        refine iteF ⟨_, rfl, y, ys.yard, dy, _, _, rfl, hY.ins, Y.cl, Y.n1, rfl, tb, dxt, fst, rfl, htb, hways, _, rfl, _, rfl, tb, n, wy, a', b', none, rfl, hT.j, by omega, by omega, fun D H1 s1 hD gD => ⟨_, .inl ⟨_, SqL.of gD, rfl⟩, s1, ?_⟩⟩
        cases hw : wy a' b' none with
        | nil => rw [decide_eq_true (Or.inr rfl)]; rfl
        | cons z zs => rw [decide_eq_false (fun z => z.elim hab fun z => by cases z)]; rfl
    rintro k H1 ⟨s1, rfl⟩
    have hY1 := hY.same s1
    by_cases hway : (a' : Int) = (b' : Int) ∨ wy a' b' none = []
    · rw [decide_eq_true hway]
      refine iteT ⟨_, rfl, _, rfl, by show 2 ≤ sizeLine; decide, fun e tt he => ⟨e, _, tt, _, _, rfl, upd_same, X4.c, X4.n1, X4.n2, fun d H2 hd off he2 hd2 => ⟨rfl, some d, he2, ?_⟩⟩⟩
      have nde : d ≠ e := fun z => by rw [z, upd_same] at hd; cases hd
      refine e4 (by rw [if_pos hway]) _ d (fun z o ez => ?_) (by rw [del_ne nde]; exact hd2)
      have nze : z ≠ e := ne_of_none (s1 _ _ ez) he
      rw [del_ne nze]
      exact off z o nze (by rw [upd_ne nze]; exact s1 _ _ ez)
    rw [decide_eq_false hway]
    rw [if_neg hway] at e5 q
    refine iteF ?_
    -- how many
    obtain ⟨tvs', gle, pl⟩ := hY1.hle
    have hll : tvs'.length = st.letters.length := Paired.length pl
    refine ⟨_, rfl, y, ys.yard, dy, _, _, rfl, hY1.ins, Y.cl, Y.n4, rfl, le, _, rfl, .inl (SqL.of gle), _, _, rfl, rfl, _, rfl, ?_⟩
    by_cases hfull : 60 ≤ st.letters.length
    · rw [decide_eq_true (show (60 : Int) ≤ (tvs'.length : Nat) by omega)]
      refine iteT ⟨by show 1 ≤ sizeLine; decide, ?_⟩
      exact e5 (by rw [if_pos hfull]) H1 s1
    rw [decide_eq_false (show ¬ (60 : Int) ≤ (tvs'.length : Nat) by omega)]
    rw [if_neg hfull] at q
    refine iteF ?_
    -- the letter
    refine ⟨_, rfl, y, ys.yard, dy, _, _, rfl, hY1.ins, Y.cl, Y.n4, rfl, .inl ⟨rfl, _, SqL.of gle⟩, _, rfl, _, rfl, _, rfl, _, rfl, fun xl dxl nx ndx nex => ⟨xl, dxl, (a' : Int), (b' : Int), l, u, rfl, upd_same, fun wa H2 hwa off hx2 hw2 => ⟨rfl, ?_⟩⟩⟩
    have s12 : Same H1 H2 := fun z o ez => off z o (ne_of_none ez nx) (by rw [upd_ne (ne_of_none ez nx), upd_ne (ne_of_none ez ndx)]; exact ez)
    have hwa1 : H1 wa = none := by
      by_cases z1 : wa = xl
      · rw [z1, upd_same] at hwa; cases hwa
      · by_cases z2 : wa = dxl
        · rw [z2, upd_ne nex, upd_same] at hwa; cases hwa
        · rw [upd_ne z1, upd_ne z2] at hwa; exact hwa
    have hY2 := hY1.same s12
    have gle2 := s12 _ _ gle
    have hlv : LetV H2 ys.letter [la, le, li, dn] (.ref xl) ⟨(a' : Int), (b' : Int), l, u, 0, []⟩ := ⟨xl, dxl, wa, rfl, hx2, hw2, fun z => by obtain ⟨xs, hz⟩ := hY1.lsts wa z; rw [hwa1] at hz; cases hz⟩
    refine ⟨le, _, _, rfl, rfl, gle2, by rw [PySem.sizeLine_eq]; omega, ?_⟩
    have hY3 := hY2.pushL gle2 hlv
    have o3 : OffE [le, dn] H (upd H2 le (.lst (tvs' ++ [.ref xl]))) := (Same.offE (s1.trans s12)).trans (upd_off (by simp))
    generalize upd H2 le (.lst (tvs' ++ [.ref xl])) = H3 at hY3 o3 ⊢
    -- what was done
    obtain ⟨dvs, gdn, pd⟩ := hY3.hdn
    have hdl : dvs.length = st.done.length := Paired.length pd
    refine ⟨_, rfl, y, ys.yard, dy, _, _, rfl, hY3.ins, Y.cl, Y.n6, rfl, .inl ⟨rfl, _, SqL.of gdn⟩, _, rfl, _, rfl, _, rfl, _, rfl, by show 5 ≤ sizeLine; decide, fun t ht => ?_⟩
    have s34 := (Same.refl H3).new (o := .tup [.str "post", .int (a' : Int), .int (b' : Int), .int l, .int u]) ht
    have gt4 : (upd H3 t (.tup [.str "post", .int (a' : Int), .int (b' : Int), .int l, .int u])) t = some (.tup [.str "post", .int (a' : Int), .int (b' : Int), .int l, .int u]) := upd_same
    generalize upd H3 t (.tup [.str "post", .int (a' : Int), .int (b' : Int), .int l, .int u]) = H4 at s34 gt4 ⊢
    have hY4 := hY3.same s34
    have gdn4 := s34 _ _ gdn
    refine ⟨dn, _, _, rfl, rfl, gdn4, by rw [PySem.sizeLine_eq]; omega, ?_⟩
    have hY5 := hY4.pushD gdn4 ⟨t, rfl, gt4⟩
    have o5 : OffE [le, dn] H (upd H4 dn (.lst (dvs ++ [.ref t]))) := (o3.trans (Same.offE s34)).trans (upd_off (by simp))
    generalize upd H4 dn (.lst (dvs ++ [.ref t])) = H5 at hY5 o5 ⊢
    obtain ⟨tv5, gle5, pl5⟩ := hY5.hle
    have hl5 : tv5.length = st.letters.length + 1 := by rw [Paired.length pl5, List.length_append]; rfl
    refine ⟨_, rfl, y, ys.yard, dy, _, _, rfl, hY5.ins, Y.cl, Y.n4, rfl, le, _, rfl, .inl (SqL.of gle5), _, _, rfl, rfl, ?_⟩
    have er : ((tv5.length : Nat) : Int) - 1 = (st.letters.length : Int) := by omega
    dsimp only
    rw [er]
    exact q rfl H5 o5 hY5
end
end K46
namespace K46
open PySem L2
theorem comp_lstI {K : PySem.W.Frag} {a : Addr} {xs : List V} {g : TG} {te : TE} {σ0 : St} {H : Hp} {Q : VK} (f : Nat → V) (hn : xs.length < sizeLine) (ha : SqL K H a xs)
    (hs : ∀ (i : Nat) (x : V) (N : V → Hp → Prop), xs[i]? = some x → N (f i) H → g x σ0 H fun σ2 H2 => te σ2 H2 N)
    (hq : ∀ D, H D = none → Q (.ref D) (upd H D (.lst ((List.range xs.length).map f)))) : CompR (Itl K a) g tYes te σ0 Q H := by
  refine comp_gen xs.length hn (fun i acc H' => H' = H ∧ acc = (List.range i).map f) ⟨rfl, rfl⟩ (fun i acc H' h => by rw [h.2, List.length_map, List.length_range]; exact Nat.le_refl _) (fun i acc H' hi h => ?_) (fun acc H' h => ?_)
  · obtain ⟨rfl, rfl⟩ := h
    refine ⟨⟨xs, xs[i], ha, by simp [hi]⟩, fun v H2 y => ?_⟩
    obtain ⟨e, y⟩ := y
    subst e
    exact hs i v (fun y H4 => H4 = H2 ∧ (List.range i).map f ++ [y] = (List.range (i + 1)).map f) (y xs ha) ⟨rfl, by rw [List.range_succ, List.map_append]; rfl⟩
  · obtain ⟨rfl, rfl⟩ := h
    exact ⟨⟨xs, ha, Nat.le_refl _⟩, hq⟩
theorem range_getD {α β : Type} (xs : List α) (d : α) (f : α → β) : (List.range xs.length).map (fun i => f (xs.getD i d)) = xs.map f := by
  refine List.ext_getElem (by simp) fun i h1 h2 => ?_
  simp only [List.getElem_map, List.getElem_range]
  rw [List.getD_eq_getElem?_getD, List.getElem?_eq_getElem (by simpa using h2)]; rfl
def rLen (K : PySem.W.Frag) : List V → Hp → VK → Prop := fun xs H Q => ∃ (p : Addr) (ys : List V), xs = [.ref p] ∧ (SqL K H p ys ∨ SqT K H p ys) ∧ Q (.int (ys.length : Nat)) H
def endB (s : YS) : Bool := decide ((s.letters.map (·.len)).sum = (s.lies.map fun q => (q.length : Int)).sum)
def eqC1 (s : Stmt) : Scope := match s with
  | .Return (some (.Compare (.Call _ [.ListComp _ _ sc _] _ _) _ _ _)) _ => sc
  | _ => { kind := .function, names := [], isGenerator := false, isCoroutine := false }
def eqC2 (s : Stmt) : Scope := match s with
  | .Return (some (.Compare _ _ [.Call _ [.ListComp _ _ sc _] _ _] _)) _ => sc
  | _ => { kind := .function, names := [], isGenerator := false, isCoroutine := false }
def spEnded (K : PySem.W.Frag) (ys : Ys) : Sp := fun vs H Q _ => ∃ (y dy tb ro la le li dn : Addr) (s : YS), vs = [.ref y] ∧ YardAt K ys H y dy tb ro la le li dn s ∧ s.letters.length ≤ 900 ∧ s.lies.length ≤ 900 ∧ ∀ H', Same H H' → Q (.bl (endB s)) H'
def spLaneT (K : PySem.W.Frag) (ys : Ys) : Sp := fun vs H Q _ => ∃ (y dy tb ro la le li dn : Addr) (s : YS) (k : Nat) (ln : LnS), vs = [.ref y, .int k] ∧ YardAt K ys H y dy tb ro la le li dn s ∧ s.lanes[k]? = some ln ∧ ∀ (t ql : Addr) (pvs : List V) (H' : Hp), Same H H' → H ql = none → H' t = some (.tup [.int ln.r, .int ln.b, hV ln.h, .ref ql]) → H' ql = some (.lst pvs) → Lns H' pvs ln.qs → Q (.ref t) H'
def spLetT (K : PySem.W.Frag) (ys : Ys) : Sp := fun vs H Q _ => ∃ (y dy tb ro la le li dn : Addr) (s : YS) (k : Nat) (lt : LtS), vs = [.ref y, .int k] ∧ YardAt K ys H y dy tb ro la le li dn s ∧ s.letters[k]? = some lt ∧ ∀ (t : Addr) (H' : Hp), Same H H' → H' t = some (.tup [.int lt.start, .int lt.goal, .int lt.len, .int lt.word]) → Q (.ref t) H'
def spWayT (K : PySem.W.Frag) (ys : Ys) : Sp := fun vs H Q _ => ∃ (y dy tb ro la le li dn : Addr) (s : YS) (k : Nat) (lt : LtS), vs = [.ref y, .int k] ∧ YardAt K ys H y dy tb ro la le li dn s ∧ s.letters[k]? = some lt ∧ ∀ (t : Addr) (H' : Hp), Same H H' → H t = none → H' t = some (.lst (nV lt.way)) → Q (.ref t) H'
def spPosted (K : PySem.W.Frag) (ys : Ys) : Sp := fun vs H Q _ => ∃ (y dy tb ro la le li dn : Addr) (s : YS), vs = [.ref y] ∧ YardAt K ys H y dy tb ro la le li dn s ∧ Q (.int s.letters.length) H
def spHist (K : PySem.W.Frag) (ys : Ys) : Sp := fun vs H Q _ => ∃ (y dy tb ro la le li dn : Addr) (s : YS), vs = [.ref y] ∧ YardAt K ys H y dy tb ro la le li dn s ∧ ∀ (t : Addr) (vs : List V) (H' : Hp), Same H H' → H t = none → H' t = some (.lst vs) → Paired (MvV H') vs s.done → Q (.ref t) H'
section
variable {P : Program} {w : World} {K : PySem.W.Frag} {mg : Str → Option Value} {base : Heap}
theorem scEd : FnScope ["self"] ["self"] (defScope sEnded) := ⟨rfl, rfl, rfl, by decide +kernel, rfl, by decide +kernel, by decide +kernel⟩
theorem bkE1 : Blk ["self"] (defScope sEnded) (eqC1 ((defBody sEnded).getD 0 (.Pass ⟨0, 0, 0, 0⟩))) [] [] := ⟨rfl, by decide +kernel, by decide +kernel, by decide +kernel, rfl, by decide +kernel⟩
theorem bkE2 : Blk ["self"] (defScope sEnded) (eqC2 ((defBody sEnded).getD 0 (.Pass ⟨0, 0, 0, 0⟩))) [] [] := ⟨rfl, by decide +kernel, by decide +kernel, by decide +kernel, rfl, by decide +kernel⟩
theorem ndE1 : (["letter"] : List Str).Nodup := by decide +kernel
theorem ndE2 : (["pieces"] : List Str).Nodup := by decide +kernel
theorem ok_ended {ys : Ys} {f : Addr} {fd : FuncData} (F : Fun K "ended" "Yard.ended" sEnded f fd) (T : Txt mg) (Y : Yrd K ys) : FnOk P w K mg base CX0 1 f fd ["self"] (spEnded K ys) := by
  refine F.ok scEd (fun vs H Q E h => ?_) (fun cdv A outer s H vs Q E hr h => ?_)
  · obtain ⟨y, dy, tb, ro, la, le, li, dn, st, rfl, _⟩ := h
    rfl
  · obtain ⟨y, dy, tb, ro, la, le, li, dn, st, rfl, hY, h9, h92, q⟩ := h
    refine ⟨_, pss_one (ps_ret (pe_cmpR op_eq (pe_callB (call_sum rfl) rfl T.sum PyProof.Rows.boot_sum (pa_cons (pe_comp (own := ["letter"]) (capN := []) (cap := []) bkE1 rfl (pi_list (pe_fld (pv 0) rfl)) (fun C s' H' fp => ⟨pg_name (i := 0) ndE1 rfl (Or.inl rfl), pts_nil, (show PE _ _ (tFld K (tVar 0) "length") from pe_fld (pv 0) rfl)⟩)) pa_nil))
      (pe_callB (call_sum rfl) rfl T.sum PyProof.Rows.boot_sum (pa_cons (pe_comp (own := ["pieces"]) (capN := []) (cap := []) bkE2 rfl (pi_list (pe_fld (pv 0) rfl)) (fun C s' H' fp => ⟨pg_name (i := 0) ndE2 rfl (Or.inl rfl), pts_nil, pe_callB (show CallR _ (.builtin "len") (rLen K) from call_len_seq) rfl T.len PySem.boot_len (pa_cons (pv 0) pa_nil)⟩)) pa_nil)) (nomark _))), ?_⟩
    obtain ⟨tvs, gle, pl⟩ := hY.hle
    have hll := Paired.length pl
    refine ⟨_, rfl, y, ys.yard, dy, _, _, rfl, hY.ins, Y.cl, Y.n4, rfl, le, rfl, ⟨_, SqL.of gle⟩, ?_⟩
    refine comp_lstI (fun i => .int (st.letters.getD i ⟨0, 0, 0, 0, 0, []⟩).len) (by rw [PySem.sizeLine_eq]; omega) (SqL.of gle) (fun i x N hx h => ?_) (fun D hD => ?_)
    · obtain ⟨lt, hlt, x', dx, wa, rfl, hx', _⟩ := Paired.at pl hx
      rw [List.getD_eq_getElem?_getD, hlt] at h
      exact ⟨_, rfl, x', ys.letter, dx, _, _, rfl, hx', Y.ct, Y.t3, rfl, h⟩
    have e1 : (List.range tvs.length).map (fun i => V.int (st.letters.getD i ⟨0, 0, 0, 0, 0, []⟩).len) = (st.letters.map (·.len)).map V.int := by
      rw [hll, List.map_map]
      exact range_getD st.letters _ fun s => V.int s.len
    rw [e1]
    have s1 := (Same.refl H).new (o := .lst ((st.letters.map (·.len)).map V.int)) hD
    have gD : (upd H D (.lst ((st.letters.map (·.len)).map V.int))) D = some (.lst ((st.letters.map (·.len)).map V.int)) := upd_same
    generalize upd H D (.lst ((st.letters.map (·.len)).map V.int)) = H1 at s1 gD ⊢
    refine ⟨D, _, rfl, SqL.of gD, ?_⟩
    have hY1 := hY.same s1
    obtain ⟨hvs, gli, ph⟩ := hY1.hli
    have hhl := Paired.length ph
    refine ⟨_, rfl, y, ys.yard, dy, _, _, rfl, hY1.ins, Y.cl, Y.n5, rfl, li, rfl, ⟨_, SqL.of gli⟩, ?_⟩
    refine comp_lstI (fun i => .int ((st.lies.getD i []).length : Nat)) (by rw [PySem.sizeLine_eq]; omega) (SqL.of gli) (fun i x N hx h => ?_) (fun D2 hD2 => ?_)
    · obtain ⟨qs, hqs, t, vs, rfl, ht, hL⟩ := Paired.at ph hx
      rw [List.getD_eq_getElem?_getD, hqs] at h
      have hvl : vs.length = qs.length := Paired.length hL
      refine ⟨_, rfl, t, vs, rfl, .inr (SqT.of ht), ?_⟩
      rw [hvl]
      exact h
    have e2 : (List.range hvs.length).map (fun i => V.int ((st.lies.getD i []).length : Nat)) = (st.lies.map fun q => (q.length : Int)).map V.int := by
      rw [hhl, List.map_map]
      exact range_getD st.lies _ fun q => V.int (q.length : Nat)
    rw [e2]
    refine ⟨D2, _, rfl, SqL.of upd_same, rfl, ?_⟩
    rw [int_eq']
    exact q _ (s1.new hD2)
theorem scLT : FnScope ["self", "lane"] ["self", "lane"] (defScope sLaneT) := ⟨rfl, rfl, rfl, by decide +kernel, rfl, by decide +kernel, by decide +kernel⟩
theorem ok_laneT {ys : Ys} {f ft : Addr} {fd dt : FuncData} (F : Fun K "lane_told" "Yard.lane_told" sLaneT f fd) (Y : Yrd K ys) (mt : Meth K ys.lane "told" ft) (bt : Binds K dt ["self"] []) (Gt : FnOk P w K mg base CX0 1 ft dt ["self"] (spLnT ys.lane)) :
    FnOk P w K mg base CX0 2 f fd ["self", "lane"] (spLaneT K ys) := by
  refine F.ok scLT (fun vs H Q E h => ?_) (fun cdv A outer s H vs Q E hr h => ?_)
  · obtain ⟨y, dy, tb, ro, la, le, li, dn, st, k, ln, rfl, _⟩ := h
    rfl
  · obtain ⟨y, dy, tb, ro, la, le, li, dn, st, k, ln, rfl, hY, hk, q⟩ := h
    refine ⟨_, pss_one (ps_ret (pe_meth0 (pe_ix ix_list (pe_fld (pv 0) rfl) (pv 1) (fun _ _ => rfl)) Y.L.cl mt Gt hr bt .nil pass0)), ?_⟩
    obtain ⟨lvs, gla, pl⟩ := hY.hla
    obtain ⟨v, hv, x, dx, pa, pvs, rfl, hL, _⟩ := Paired.at2 pl hk
    refine ⟨_, rfl, y, ys.yard, dy, _, _, rfl, hY.ins, Y.cl, Y.n3, rfl, _, rfl, la, lvs, (k : Int), _, rfl, rfl, SqL.of gla, atI_nat hv, x, dx, _, rfl, hL.ins, rfl, ?_⟩
    exact ⟨x, dx, pa, ln.r, ln.b, ln.h, pvs, ln.qs, rfl, hL, fun t ql H' s' hql gt gql => q t ql pvs H' s' hql gt gql (Lns.same s' hL.pcs)⟩
theorem scTT : FnScope ["self", "number", "letter"] ["self", "number"] (defScope sLetT) := ⟨rfl, rfl, rfl, by decide +kernel, rfl, by decide +kernel, by decide +kernel⟩
theorem ok_letT {ys : Ys} {f : Addr} {fd : FuncData} (F : Fun K "letter_told" "Yard.letter_told" sLetT f fd) (Y : Yrd K ys) : FnOk P w K mg base CX0 1 f fd ["self", "number"] (spLetT K ys) := by
  refine F.ok scTT (fun vs H Q E h => ?_) (fun cdv A outer s H vs Q E hr h => ?_)
  · obtain ⟨y, dy, tb, ro, la, le, li, dn, st, k, ln, rfl, _⟩ := h
    rfl
  · obtain ⟨y, dy, tb, ro, la, le, li, dn, st, k, lt, rfl, hY, hk, q⟩ := h
    refine ⟨_, pss_cons (ps_set (i := 2) scTT.nd rfl (Or.inl rfl) (pe_ix ix_list (pe_fld (pv 0) rfl) (pv 1) (fun _ _ => rfl))) (pss_one (ps_ret (pe_tup (pa_cons (pe_fld (pv 2) rfl) (pa_cons (pe_fld (pv 2) rfl) (pa_cons (pe_fld (pv 2) rfl) (pa_cons (pe_fld (pv 2) rfl) pa_nil))))))), ?_⟩
    obtain ⟨tvs, gle, pl⟩ := hY.hle
    obtain ⟨v, hv, x, dx, wa, rfl, hx, _⟩ := Paired.at2 pl hk
    refine ⟨_, rfl, y, ys.yard, dy, _, _, rfl, hY.ins, Y.cl, Y.n4, rfl, _, rfl, le, tvs, (k : Int), _, rfl, rfl, SqL.of gle, atI_nat hv, ?_⟩
    refine ⟨_, rfl, x, ys.letter, dx, _, _, rfl, hx, Y.ct, Y.t1, rfl, _, rfl, x, ys.letter, dx, _, _, rfl, hx, Y.ct, Y.t2, rfl, _, rfl, x, ys.letter, dx, _, _, rfl, hx, Y.ct, Y.t3, rfl, _, rfl, x, ys.letter, dx, _, _, rfl, hx, Y.ct, Y.t4, rfl, by show 4 ≤ sizeLine; decide, fun t ht => ?_⟩
    exact q t _ ((Same.refl H).new ht) upd_same
theorem scWT : FnScope ["self", "number"] ["self", "number"] (defScope sWayT) := ⟨rfl, rfl, rfl, by decide +kernel, rfl, by decide +kernel, by decide +kernel⟩
theorem ok_wayT {ys : Ys} {f : Addr} {fd : FuncData} (F : Fun K "way_told" "Yard.way_told" sWayT f fd) (T : Txt mg) (Y : Yrd K ys) : FnOk P w K mg base CX0 1 f fd ["self", "number"] (spWayT K ys) := by
  refine F.ok scWT (fun vs H Q E h => ?_) (fun cdv A outer s H vs Q E hr h => ?_)
  · obtain ⟨y, dy, tb, ro, la, le, li, dn, st, k, ln, rfl, _⟩ := h
    rfl
  · obtain ⟨y, dy, tb, ro, la, le, li, dn, st, k, lt, rfl, hY, hk, q⟩ := h
    refine ⟨_, pss_one (ps_ret (pe_callTy call_list_of rfl T.list PySem.Pv.boot_list (pa_cons (pe_fld (pe_ix ix_list (pe_fld (pv 0) rfl) (pv 1) (fun _ _ => rfl)) rfl) pa_nil))), ?_⟩
    obtain ⟨tvs, gle, pl⟩ := hY.hle
    obtain ⟨v, hv, x, dx, wa, rfl, hx, hw, _⟩ := Paired.at2 pl hk
    refine ⟨_, rfl, y, ys.yard, dy, _, _, rfl, hY.ins, Y.cl, Y.n4, rfl, _, rfl, le, tvs, (k : Int), _, rfl, rfl, SqL.of gle, atI_nat hv, x, ys.letter, dx, _, _, rfl, hx, Y.ct, Y.t6, rfl, wa, _, rfl, .inl (SqL.of hw), fun t ht => ?_⟩
    exact q t _ ((Same.refl H).new ht) ht upd_same
theorem scPd : FnScope ["self"] ["self"] (defScope sPosted) := ⟨rfl, rfl, rfl, by decide +kernel, rfl, by decide +kernel, by decide +kernel⟩
theorem ok_posted {ys : Ys} {f : Addr} {fd : FuncData} (F : Fun K "posted" "Yard.posted" sPosted f fd) (T : Txt mg) (Y : Yrd K ys) : FnOk P w K mg base CX0 1 f fd ["self"] (spPosted K ys) := by
  refine F.ok scPd (fun vs H Q E h => ?_) (fun cdv A outer s H vs Q E hr h => ?_)
  · obtain ⟨y, dy, tb, ro, la, le, li, dn, st, rfl, _⟩ := h
    rfl
  · obtain ⟨y, dy, tb, ro, la, le, li, dn, st, rfl, hY, q⟩ := h
    refine ⟨_, pss_one (ps_ret (pe_callB call_len_seq rfl T.len PySem.boot_len (pa_cons (pe_fld (pv 0) rfl) pa_nil))), ?_⟩
    obtain ⟨tvs, gle, pl⟩ := hY.hle
    refine ⟨_, rfl, y, ys.yard, dy, _, _, rfl, hY.ins, Y.cl, Y.n4, rfl, le, _, rfl, .inl (SqL.of gle), ?_⟩
    rw [Paired.length pl]
    exact q
theorem scHi : FnScope ["self"] ["self"] (defScope sHist) := ⟨rfl, rfl, rfl, by decide +kernel, rfl, by decide +kernel, by decide +kernel⟩
theorem ok_hist {ys : Ys} {f : Addr} {fd : FuncData} (F : Fun K "history" "Yard.history" sHist f fd) (T : Txt mg) (Y : Yrd K ys) : FnOk P w K mg base CX0 1 f fd ["self"] (spHist K ys) := by
  refine F.ok scHi (fun vs H Q E h => ?_) (fun cdv A outer s H vs Q E hr h => ?_)
  · obtain ⟨y, dy, tb, ro, la, le, li, dn, st, rfl, _⟩ := h
    rfl
  · obtain ⟨y, dy, tb, ro, la, le, li, dn, st, rfl, hY, q⟩ := h
    refine ⟨_, pss_one (ps_ret (pe_callTy call_list_of rfl T.list PySem.Pv.boot_list (pa_cons (pe_fld (pv 0) rfl) pa_nil))), ?_⟩
    obtain ⟨dvs, gdn, pd⟩ := hY.hdn
    refine ⟨_, rfl, y, ys.yard, dy, _, _, rfl, hY.ins, Y.cl, Y.n6, rfl, dn, _, rfl, .inl (SqL.of gdn), fun t ht => ?_⟩
    exact q t dvs _ ((Same.refl H).new ht) ht upd_same (Paired.mono (fun _ _ z => z.keep (Same.keepN ((Same.refl H).new ht))) pd)
end
end K46
namespace K46
open PySem L2
/-! ### Nearer as a table -/
def mN (m : Nat) : List Nat := Yd.memN m (Builtin.Int.intBits (m : Int))
theorem nV_inj : ∀ {a b : List Nat}, nV a = nV b → a = b
  | [], [], _ => rfl
  | [], _ :: _, h => by cases h
  | _ :: _, [], h => by cases h
  | x :: a, y :: b, h => by
    unfold nV at h
    rw [List.map_cons, List.map_cons] at h
    injection h with h1 h2
    injection h1 with h1
    rw [nV_inj (a := a) (b := b) h2, show x = y by omega]
theorem mN_rise {ks : List Nat} (h : ks.Pairwise (· < ·)) : mN (Yd.setN ks 0) = ks := nV_inj (mem_rise h)
/-- what the entries tell -/
def wyE (kvs : List Ent) : Wf := fun p g _ => mN (vN ((valO kvs (kk p g)).getD (.int 0)))
def NrJ (P : Program) (w : World) (ts : Ts) : TJ := fun H x n wy => ∃ (dx lx de : Addr) (kvs : List Ent) (es : Es), NrAt P w H ts x dx lx de kvs ∧ Ent0 n es kvs n ∧ es.length ≤ 100 ∧ wy = wyE kvs
theorem wyE_way {n : Nat} {es : Es} {kvs : List Ent} (h : Ent0 n es kvs n) {g : Nat} (hg : g < n) (p : Nat) (k : Option Nat) : ∃ fs, Far n es g fs ∧ wyE kvs p g k = wayF es fs p ∧ (valO kvs (kk p g)).getD (.int 0) = .int (Yd.setN (wayF es fs p) 0 : Nat) := by
  obtain ⟨fs, hF, hv⟩ := h.1 g hg
  have ev : (valO kvs (kk p g)).getD (.int 0) = .int (Yd.setN (wayF es fs p) 0 : Nat) := by
    rw [hv p]
    unfold entV wayF
    cases lk fs p <;> rfl
  refine ⟨fs, hF, ?_, ev⟩
  unfold wyE
  rw [ev]
  show mN (((Yd.setN (wayF es fs p) 0 : Nat) : Int)).toNat = _
  rw [Int.toNat_natCast, mN_rise (way_rise es fs p)]
theorem wyE_lt {n : Nat} {es : Es} {kvs : List Ent} (h : Ent0 n es kvs n) {g p z : Nat} {k : Option Nat} (hg : g < n) (hz : z ∈ wyE kvs p g k) : z < es.length := by
  obtain ⟨fs, _, e, _⟩ := wyE_way h hg p k
  rw [e] at hz
  exact way_lt hz
theorem NrJ.keep {P : Program} {w : World} {ts : Ts} {H H' : Hp} {x : Addr} {n : Nat} {wy : Wf} (h : NrJ P w ts H x n wy) (k : KeepN H H') : NrJ P w ts H' x n wy := by
  obtain ⟨dx, lx, de, kvs, es, ⟨h1, h2, h3⟩, h4⟩ := h
  exact ⟨dx, lx, de, kvs, es, ⟨k _ _ h1 True.intro, k _ _ h2 True.intro, fun y hy => k _ _ (h3 y hy) True.intro⟩, h4⟩
def spLanes : Sp := fun vs H Q _ => ∃ (n m : Nat) (c : Int), vs = [.int n, .int m, .int c] ∧ 2 ≤ n ∧ n ≤ 12 ∧ m ≤ 100 ∧ ∀ (D : Addr) (lvs : List V) (es : Es) (H' : Hp), Same H H' → H D = none → H' D = some (.lst lvs) → Lns H' lvs (es.map zp) → Lok n es → (∀ e ∈ es, e.1 ≠ e.2) → es.length = m → Q (.ref D) H'
abbrev NLn : List Str := ["_law_places", "_law_amount", "_law_cell", "_law_lanes_here", "_law_k", "_law_draw", "_law_start"]
section
variable {P : Program} {w : World} {K : PySem.W.Frag} {mg : Str → Option Value} {base : Heap}
theorem ok_waysA {ts : Ts} {f fm f1 : Addr} {fd dm d1 : FuncData} (F : Fun K "ways" "Nearer.ways" sWays f fd) (B : Tbl K mg ts f1 d1) (mm : mg "members" = some (.ref fm)) (km : PySem.W.keepIn K (.ref fm) = true) (bm : Binds K dm ["some"] [])
    (Gm : FnOk P w K mg base CX0 2 fm dm ["some"] spMem) : FnOk P w K mg base CX0 3 f fd ["self", "place", "goal", "came"] (spWaysA (NrJ P w ts)) := by
  refine F.ok scWy (fun vs H Q E h => ?_) (fun cdv A outer s H vs Q E hr h => ?_)
  · obtain ⟨x, n, wy, p, g, k, rfl, _⟩ := h
    rfl
  · obtain ⟨x, n, wy, p, g, k, rfl, ⟨dx, lx, de, kvs, es, hx, hE, hel, rfl⟩, hp, hg, q⟩ := h
    have hu := hu_of hr
    refine ⟨_, pss_one (ps_ret (pe_call Gm hr rfl mm km bm .nil pass0 (pa_cons (pe_oget2 hu (pe_fld (pv 0) rfl) (pa_cons (pe_tup (pa_cons (pv 1) (pa_cons (pv 2) pa_nil))) (pa_cons pe_int pa_nil))) pa_nil))), ?_⟩
    refine ⟨_, rfl, x, ts.near, dx, _, _, rfl, hx.1, B.cl, B.n2, rfl, de, kvs, rfl, hx.2, ?_⟩
    refine ⟨_, rfl, _, rfl, by show 2 ≤ sizeLine; decide, fun t ht => ?_⟩
    have s1 : Same H (upd H t (.tup [.int p, .int g])) := (Same.refl H).new ht
    refine ⟨_, _, valO kvs (kk p g), rfl, ⟨kvs, kk p g, t, hx.2.same s1, rfl, upd_same, rfl⟩, ?_⟩
    obtain ⟨fs, hF, ew, ev⟩ := wyE_way hE hg p k
    rw [ev]
    refine ⟨_, rfl, Nat.lt_of_lt_of_le (set_lt fun k hk => way_lt hk) (Nat.pow_le_pow_right (by decide) (by omega)), fun D hD => ?_⟩
    exact q D _ (s1.new hD) (s1.free hD) (by rw [upd_same, mem_rise (way_rise es fs p), ew])
theorem scLn : FnScope NLn ["_law_places", "_law_amount", "_law_cell"] (defScope sLanes) := ⟨rfl, rfl, rfl, by decide +kernel, rfl, by decide +kernel, by decide +kernel⟩
theorem ok_lanes {f fm : Addr} {fd dm : FuncData} (F : Fun K "_law_lanes" "_law_lanes" sLanes f fd) (T : Txt mg) (mm : mg "_law_mixed" = some (.ref fm)) (km : PySem.W.keepIn K (.ref fm) = true) (bm : Binds K dm ["_law_cell", "_law_k"] [])
    (Gm : FnOk P w K mg base CX0 1 fm dm ["_law_cell", "_law_k"] spMix) : FnOk P w K mg base CX0 2 f fd ["_law_places", "_law_amount", "_law_cell"] spLanes := by
  refine F.ok scLn (fun vs H Q E h => ?_) (fun cdv A outer s H vs Q E hr h => ?_)
  · obtain ⟨n, m, c, rfl, _⟩ := h
    rfl
  · obtain ⟨n, m, c, rfl, hn2, hn12, hm, q⟩ := h
    refine ⟨_, pss_cons (ps_set (i := 3) scLn.nd rfl (Or.inl rfl) (pe_lst pa_nil))
      (pss_cons (ps_for PassesOwn.never rfl (pi_range1 rfl T.range (pa_cons (pv 1) pa_nil)) (pg_name (i := 4) scLn.nd rfl (Or.inl rfl))
        (pss_cons (ps_set (i := 5) scLn.nd rfl (Or.inl rfl) (pe_call Gm hr rfl mm km bm .nil pass0 (pa_cons (pv 2) (pa_cons (pv 4) pa_nil))))
        (pss_cons (ps_set (i := 6) scLn.nd rfl (Or.inl rfl) (pe_op op_mod (pv 5) (pv 0)))
        (pss_one (ps_expr (pe_bm PySem.F.plainAttrs_list PySem.F.slot_list_append PySem.F.type_list_append mt_append (pv 3) (pa_cons (pe_tup (pa_cons (pv 6) (pa_cons (pe_op op_mod (pe_op op_add (pe_op op_add (pv 6) pe_int) (pe_op op_mod (pe_op op_fdiv (pv 5) pe_int) (pe_op op_sub (pv 0) pe_int))) (pv 0)) pa_nil))) pa_nil)))))))
      (pss_one (ps_ret (pv 3)))), ?_⟩
    have two : (2 : Nat) ≤ sizeLine := by decide
    refine ⟨Nat.zero_le _, fun D hD => ?_⟩
    have s0 := (Same.refl H).new (o := .lst []) hD
    refine ⟨_, rfl, (m : Int), rfl, by omega, by omega, ?_⟩
    rw [Int.toNat_natCast]
    refine for_range (n := m) (fun i σ H2 => ∃ (a3 a4 a5 : Option V) (lvs : List V) (es : Es), Same H H2 ∧ H2 D = some (.lst lvs) ∧ Lns H2 lvs (es.map zp) ∧ Lok n es ∧ (∀ e ∈ es, e.1 ≠ e.2) ∧ es.length = i ∧ σ = [some (.int n), some (.int m), some (.int c), some (.ref D), a3, a4, a5])
      ⟨none, none, none, [], [], s0, upd_same, .nil, (fun e he => by cases he), (fun e he => by cases he), rfl, rfl⟩ ?_ ?_
    · rintro i σ H2 hi ⟨a3, a4, a5, lvs, es, s2, gD, hLv, hlok, hne, hl, rfl⟩
      have hn0 : (0 : Int) < (n : Int) := by omega
      have hn1 : (0 : Int) < (n : Int) - 1 := by omega
      rw [Int.zero_add]
      refine ⟨_, rfl, _, rfl, c, i, rfl, by omega, fun d hd => ?_⟩
      refine ⟨_, rfl, _, rfl, _, _, rfl, rfl, hn0, ?_⟩
      refine ⟨_, rfl, .inl ⟨rfl, _, SqL.of gD⟩, _, rfl, _, rfl, _, _, rfl, rfl, _, rfl, _, _, rfl, rfl, ⟨by decide, by decide⟩, _, rfl, _, _, rfl, rfl, _, _, rfl, rfl, hn1, _, _, rfl, rfl, _, rfl, _, _, rfl, rfl, hn0, two, fun t1 h1 => ?_⟩
      dsimp only at h1 ⊢
      have e1 := Int.emod_nonneg d (show (n : Int) ≠ 0 by omega)
      have e2 := Int.emod_lt_of_pos d hn0
      have e3 := Int.emod_nonneg (d / 16) (show (n : Int) - 1 ≠ 0 by omega)
      have e4 := Int.emod_lt_of_pos (d / 16) hn1
      generalize d % (n : Int) = st at e1 e2 h1 ⊢
      generalize d / 16 % ((n : Int) - 1) = of' at e3 e4 h1 ⊢
      have e5 := Int.emod_nonneg (st + 1 + of') (show (n : Int) ≠ 0 by omega)
      have e6 := Int.emod_lt_of_pos (st + 1 + of') hn0
      have e7 : (st + 1 + of') % (n : Int) ≠ st := by
        intro z
        rcases Int.lt_or_le (st + 1 + of') (n : Int) with h | h
        · rw [Int.emod_eq_of_lt (by omega) h] at z; omega
        · have : (st + 1 + of') % (n : Int) = st + 1 + of' - n := by
            rw [show st + 1 + of' = (st + 1 + of' - n) + n by omega, Int.add_emod_right, Int.emod_eq_of_lt (by omega) (by omega)]; omega
          omega
      generalize (st + 1 + of') % (n : Int) = en at e5 e6 e7 h1 ⊢
      obtain ⟨s', hs', hs'n⟩ : ∃ s' : Nat, st = (s' : Int) ∧ s' < n := ⟨st.toNat, by omega, by omega⟩
      obtain ⟨n', hn', hn'n⟩ : ∃ n' : Nat, en = (n' : Int) ∧ n' < n := ⟨en.toNat, by omega, by omega⟩
      subst hs' hn'
      have u1 := (Same.refl H2).new (o := .tup [.int (s' : Int), .int (n' : Int)]) h1
      have v1 : (upd H2 t1 (.tup [.int (s' : Int), .int (n' : Int)])) t1 = some (.tup [.int (s' : Int), .int (n' : Int)]) := upd_same
      have nT : t1 ≠ D := Ne.symm (ne_of_none gD h1)
      generalize upd H2 t1 (.tup [.int (s' : Int), .int (n' : Int)]) = H3 at u1 v1 ⊢
      have gD3 := u1 _ _ gD
      have hll : lvs.length = es.length := by rw [Paired.length hLv, List.length_map]
      refine ⟨D, lvs, _, rfl, rfl, gD3, by rw [PySem.sizeLine_eq]; omega, ?_⟩
      refine ⟨_, _, _, lvs ++ [.ref t1], es ++ [(s', n')], fun b o e => by rw [upd_ne (ne_of_none e hD)]; exact u1 _ _ (s2 _ _ e), upd_same, ?_, fun e he => ?_, fun e he => ?_, by rw [List.length_append, hl]; rfl, rfl⟩
      · rw [List.map_append]
        exact Lns.snoc (p := zp (s', n')) ⟨t1, rfl, by rw [upd_ne nT]; exact v1⟩ (lns_off gD3 (Lns.same u1 hLv))
      · rcases List.mem_append.mp he with he | he
        · exact hlok e he
        · rw [List.mem_singleton.mp he]; exact ⟨hs'n, hn'n⟩
      · rcases List.mem_append.mp he with he | he
        · exact hne e he
        · rw [List.mem_singleton.mp he]; show s' ≠ n'; omega
    · rintro σ H2 ⟨a3, a4, a5, lvs, es, s2, gD, hLv, hlok, hne, hl, rfl⟩
      exact ⟨_, rfl, q D lvs es H2 s2 hD gD hLv hlok hne hl⟩
end
end K46
namespace K46
open PySem L2
/-! ### what is refused -/
structure XN (K : PySem.W.Frag) (yd nr : Addr) : Prop where
  c : XCls K nr
  i : XIsi K nr
  e : PySem.W.exmOne K (.ref nr) (.ref nr) = some true
  k : PySem.W.kitOne K (.ref nr) (.ref yd) = some true
  v : PySem.W.kitOne K (.ref nr) (.type "ValueError") = some true
structure XF (K : PySem.W.Frag) (yd : Addr) (x : Xs) (C : Addr) (b1 b2 b3 b4 : Bool) : Prop where
  c : XCls K C
  i : XIsi K C
  nw : PySem.W.exmOne K (.ref C) (.ref x.way) = some false
  ye : PySem.W.exmOne K (.ref C) (.ref yd) = some true
  v : PySem.W.kitOne K (.ref C) (.type "ValueError") = some true
  k1 : PySem.W.kitOne K (.ref C) (.ref x.place) = some b1
  k2 : PySem.W.kitOne K (.ref C) (.ref x.length) = some b2
  k3 : PySem.W.kitOne K (.ref C) (.ref x.word) = some b3
  k4 : PySem.W.kitOne K (.ref C) (.ref x.full) = some b4
structure XW (K : PySem.W.Frag) (yd : Addr) (x : Xs) : Prop where
  c : XCls K x.way
  i : XIsi K x.way
  nw : PySem.W.exmOne K (.ref x.way) (.ref x.way) = some true
  y : PySem.W.kitOne K (.ref x.way) (.ref yd) = some true
  k1 : PySem.W.kitOne K (.ref x.way) (.ref x.place) = some false
  k2 : PySem.W.kitOne K (.ref x.way) (.ref x.length) = some false
  k3 : PySem.W.kitOne K (.ref x.way) (.ref x.word) = some false
  n1 : PySem.W.findIn K (.ref x.way) "start" = some none
  n2 : PySem.W.findIn K (.ref x.way) "goal" = some none
structure XA (K : PySem.W.Frag) (mg : Str → Option Value) (yd : Addr) (x : Xs) : Prop where
  m0 : mg "YardError" = some (.ref yd)
  m1 : mg "NoPlace" = some (.ref x.place)
  m2 : mg "NoLength" = some (.ref x.length)
  m3 : mg "NoWord" = some (.ref x.word)
  m4 : mg "NoWay" = some (.ref x.way)
  m5 : mg "Full" = some (.ref x.full)
  x1 : XF K yd x x.place true false false false
  x2 : XF K yd x x.length false true false false
  x3 : XF K yd x x.word false false true false
  x4 : XW K yd x
  x5 : XF K yd x x.full false false false true
def refV (sv gv : V) : Pd → List V
  | .place => [.bl true, .bl true, .bl false, .bl false, .bl false]
  | .length => [.bl true, .bl false, .bl true, .bl false, .bl false]
  | .word => [.bl true, .bl false, .bl false, .bl true, .bl false]
  | .way => [.bl true, .bl false, .bl false, .bl false, sv, gv]
  | .full => [.bl true, .bl false, .bl false, .bl false, .bl true]
  | .good => []
def spNoR (K : PySem.W.Frag) (c : Cs) (TC : Addr) (J : TJ) : Sp := fun vs H Q _ => ∃ (tb ra lx ldx lt : Addr) (n : Nat) (tvs : List V) (ps : List (Int × Int)) (wy : Wf) (rvs : List V), vs = [.ref tb, .ref ra] ∧ TbIn c TC J H tb lx ldx lt n tvs ps wy ∧ SqL K H ra rvs ∧ rvs.length ≤ 1000 ∧ (∀ v ∈ rvs, Sca v) ∧ okR ps.length rvs = false ∧ ∀ H', Same H H' → Q (.bl true) H'
def spRefu (K : PySem.W.Frag) (c : Cs) (TC : Addr) (J : TJ) (ys : Ys) : Sp := fun vs H Q _ => ∃ (y dy tb ro la le li dn lx ldx lt : Addr) (n : Nat) (tvs : List V) (ps : List (Int × Int)) (wy : Wf) (s : YS) (sv gv lv wv : V), vs = [.ref y, sv, gv, lv, wv] ∧ YardAt K ys H y dy tb ro la le li dn s ∧ TbIn c TC J H tb lx ldx lt n tvs ps wy ∧ Sca sv ∧ Sca gv ∧ Sca lv ∧ Sca wv ∧ s.letters.length ≤ 900 ∧ s.done.length ≤ 10000 ∧
  pdue n wy s.letters.length sv gv lv wv ≠ .good ∧ ∀ (R : Addr) (H' : Hp), Same H H' → H' R = some (.lst (refV sv gv (pdue n wy s.letters.length sv gv lv wv))) → Q (.ref R) H'
abbrev NNo : List Str := ["_law_table", "_law_rooms_here", "_law_good", "e"]
abbrev PRe : List Str := ["_law_yard", "_law_start", "_law_goal", "_law_length", "_law_word"]
abbrev NRe : List Str := ["_law_yard", "_law_start", "_law_goal", "_law_length", "_law_word", "_law_found", "_law_fields", "e"]
section
variable {P : Program} {w : World} {K : PySem.W.Frag} {mg : Str → Option Value} {base : Heap}
theorem scNo : FnScope NNo ["_law_table", "_law_rooms_here"] (defScope sNoR) := ⟨rfl, rfl, rfl, by decide +kernel, rfl, by decide +kernel, by decide +kernel⟩
theorem ok_noR {c : Cs} {ys : Ys} {J : TJ} {TC f fi yd nr : Addr} {fd di : FuncData} (F : Fun K "_law_no_rooms" "_law_no_rooms" sNoR f fd) (T : Txt mg) (W' : ∃ fw2 dw2, Wy K TC fw2 dw2 J) (mN : mg "NoRooms" = some (.ref nr)) (mY : mg "YardError" = some (.ref yd)) (X : XN K yd nr) (M : Mk K ys.yard fi) (ml : mg "Yard" = some (.ref ys.yard)) {ds : List Value}
    (bi : Binds K di ["self", "table", "rooms"] []) (Gi : FnOk P w K mg base (CXe P w) 4 fi di ["self", "table", "rooms"] (spYdI K c TC J ys nr)) : FnOk P w K mg base CX0 6 f fd ["_law_table", "_law_rooms_here"] (spNoR K c TC J) := by
  obtain ⟨fw2, dw2, W⟩ := W'
  refine F.ok scNo (fun vs H Q E h => ?_) (fun cdv A outer s H vs Q E hr h => ?_)
  · obtain ⟨tb, ra, lx, ldx, lt, n, tvs, ps, wy, rvs, rfl, _⟩ := h
    rfl
  · obtain ⟨tb, ra, lx, ldx, lt, n, tvs, ps, wy, rvs, rfl, hT, hR, hrl, hsc, hbad, q⟩ := h
    refine ⟨_, pss_cons (ps_set (i := 2) scNo.nd rfl (Or.inl rfl) pe_bl)
      (pss_cons (ps_tryAs (i := 3) rfl rfl scNo.nd rfl rfl rfl mN (bx_expr (pex_make M Gi hr rfl ml bi .nil rfl (pa_cons (pv 0) (pa_cons (pv 1) pa_nil))))
        (fun ea oe => pss_one (ps_set (i := 2) scNo.nd rfl (Or.inl rfl) (pe_and (pe_callB call_isX rfl T.isi PyProof.Rows.boot_isinstance (pa_cons (pv 3) (pa_cons (pe_glob (v := .ref yd) rfl mY rfl) pa_nil)))
          (pe_one (pe_callB call_isX rfl T.isi PyProof.Rows.boot_isinstance (pa_cons (pv 3) (pa_cons (pe_bltn (v := .ty "ValueError") rfl T.verr (by decide +kernel) rfl) pa_nil))))))))
      (pss_one (ps_ret (pv 2)))), ?_⟩
    refine ⟨_, rfl, _, rfl, fun y dy ny ndy ney => ?_⟩
    have s0 : Same H (upd (upd H dy (.own y)) y (.ins ys.yard dy [])) := Same.new (Same.new (Same.refl H) ndy) (by rw [upd_ne (Ne.symm ney)]; exact ny)
    refine ⟨y, dy, tb, lx, ldx, lt, n, tvs, ps, wy, _, rvs, rfl, upd_same, hT.keep W (Same.keepN s0), .inr ⟨ra, rfl, .inl (s0.seq hR), hrl, hsc, fun _ H' o' => ⟨X.e, fun ea oe vs hc hd hf hea => ?_⟩⟩, fun ho => by rw [hbad] at ho; cases ho⟩
    have s' : Same H H' := fun b o e => o' b o (fun z => by rw [List.mem_singleton.mp z, ny] at e; cases e) (s0 _ _ e)
    have dct : DictAt H' oe.dict := by rw [hd]; trivial
    refine ⟨_, rfl, ea, oe, _, .ref yd, nr, vs, true, rfl, rfl, .head _, hc, hf, dct, X.c, X.i, X.k, _, rfl, iteT ?_⟩
    refine ⟨_, rfl, ea, oe, _, .type "ValueError", nr, vs, true, rfl, rfl, .head _, hc, hf, dct, X.c, X.i, X.v, ?_⟩
    exact ⟨_, rfl, q _ s'⟩
theorem scRe : FnScope NRe PRe (defScope sRef) := ⟨rfl, rfl, rfl, by decide +kernel, rfl, by decide +kernel, by decide +kernel⟩
theorem ok_refu {c : Cs} {ys : Ys} {x : Xs} {J : TJ} {TC f fp yd : Addr} {fd dp : FuncData} (F : Fun K "_law_refused" "_law_refused" sRef f fd) (T : Txt mg) (W' : ∃ fw2 dw2, Wy K TC fw2 dw2 J) (X : XA K mg yd x) (Y : Yrd K ys) (Mp : Meth K ys.yard "post" fp)
    (bp : Binds K dp PPo []) (Gp : FnOk P w K mg base (CXe P w) 4 fp dp PPo (spPost K c TC J ys x)) : FnOk P w K mg base CX0 5 f fd PRe (spRefu K c TC J ys) := by
  obtain ⟨fw2, dw2, W⟩ := W'
  refine F.ok scRe (fun vs H Q E h => ?_) (fun cdv A outer s H vs Q E hr h => ?_)
  · obtain ⟨y, dy, tb, ro, la, le, li, dn, lx, ldx, lt, n, tvs, ps, wy, s, sv, gv, lv, wv, rfl, _⟩ := h
    rfl
  · obtain ⟨y, dy, tb, ro, la, le, li, dn, lx, ldx, lt, n, tvs, ps, wy, st, sv, gv, lv, wv, rfl, hY, hT, cs, cg, cl, cw, hl9, hd9, hbad, q⟩ := h
    refine ⟨_, pss_cons (ps_set (i := 5) scRe.nd rfl (Or.inl rfl) (pe_lst pa_nil))
      (pss_cons (ps_set (i := 6) scRe.nd rfl (Or.inl rfl) (pe_lst pa_nil))
      (pss_cons (ps_tryAs2 (i := 7) rfl rfl scRe.nd rfl rfl rfl X.m4 rfl X.m0 (bx_expr (pex_meth (pv 0) Y.cl Mp Gp hr bp .nil rfl (pa_cons (pv 1) (pa_cons (pv 2) (pa_cons (pv 3) (pa_cons (pv 4) pa_nil))))))
        (fun ea oe => pss_cons (ps_set (i := 5) scRe.nd rfl (Or.inl rfl) (pe_lst (pa_cons (pe_callB call_isX rfl T.isi PyProof.Rows.boot_isinstance (pa_cons (pv 7) (pa_cons (pe_glob (v := .ref yd) rfl X.m0 rfl) pa_nil))) (pa_cons (pe_callB call_isX rfl T.isi PyProof.Rows.boot_isinstance (pa_cons (pv 7) (pa_cons (pe_glob (v := .ref x.place) rfl X.m1 rfl) pa_nil))) (pa_cons (pe_callB call_isX rfl T.isi PyProof.Rows.boot_isinstance (pa_cons (pv 7) (pa_cons (pe_glob (v := .ref x.length) rfl X.m2 rfl) pa_nil))) (pa_cons (pe_callB call_isX rfl T.isi PyProof.Rows.boot_isinstance (pa_cons (pv 7) (pa_cons (pe_glob (v := .ref x.word) rfl X.m3 rfl) pa_nil))) pa_nil))))))
          (pss_one (ps_set (i := 6) scRe.nd rfl (Or.inl rfl) (pe_lst (pa_cons (pe_xfld (pv 7) rfl) (pa_cons (pe_xfld (pv 7) rfl) pa_nil))))))
        (fun ea oe => pss_cons (ps_set (i := 5) scRe.nd rfl (Or.inl rfl) (pe_lst (pa_cons (pe_callB call_isX rfl T.isi PyProof.Rows.boot_isinstance (pa_cons (pv 7) (pa_cons (pe_bltn (v := .ty "ValueError") rfl T.verr (by decide +kernel) rfl) pa_nil))) (pa_cons (pe_callB call_isX rfl T.isi PyProof.Rows.boot_isinstance (pa_cons (pv 7) (pa_cons (pe_glob (v := .ref x.place) rfl X.m1 rfl) pa_nil))) (pa_cons (pe_callB call_isX rfl T.isi PyProof.Rows.boot_isinstance (pa_cons (pv 7) (pa_cons (pe_glob (v := .ref x.length) rfl X.m2 rfl) pa_nil))) (pa_cons (pe_callB call_isX rfl T.isi PyProof.Rows.boot_isinstance (pa_cons (pv 7) (pa_cons (pe_glob (v := .ref x.word) rfl X.m3 rfl) pa_nil))) pa_nil))))))
          (pss_one (ps_expr (pe_bm PySem.F.plainAttrs_list PySem.F.slot_list_append PySem.F.type_list_append mt_append (pv 5) (pa_cons (pe_callB call_isX rfl T.isi PyProof.Rows.boot_isinstance (pa_cons (pv 7) (pa_cons (pe_glob (v := .ref x.full) rfl X.m5 rfl) pa_nil))) pa_nil))))))
      (pss_one (ps_ret (pe_op op_cat (pv 5) (pv 6)))))), ?_⟩
    refine ⟨Nat.zero_le _, fun Fo hFo => ?_⟩
    have s1 := (Same.refl H).new (o := .lst []) hFo
    have gFo1 : (upd H Fo (.lst [])) Fo = some (.lst []) := upd_same
    generalize upd H Fo (.lst []) = H1 at s1 gFo1 ⊢
    refine ⟨Nat.zero_le _, fun Fi hFi => ?_⟩
    have s2 := s1.new (o := .lst []) hFi
    have gFi2 : (upd H1 Fi (.lst [])) Fi = some (.lst []) := upd_same
    generalize upd H1 Fi (.lst []) = H2 at s2 gFi2 ⊢
    have hY2 := hY.same s2
    have hT2 := hT.keep W (Same.keepN s2)
    have dct0 : ∀ {H' : Hp} {oe : Obj}, oe.dict = none → DictAt H' oe.dict := fun h => by rw [h]; trivial
    refine ⟨_, rfl, y, dy, _, rfl, hY2.ins, rfl, _, rfl, _, rfl, _, rfl, _, rfl, y, dy, tb, ro, la, le, li, dn, lx, ldx, lt, n, tvs, ps, wy, st, sv, gv, lv, wv, rfl, hY2, hT2, cs, cg, cl, cw, hl9, hd9, fun hd H' s' => .inr ⟨X.x1.nw, X.x1.ye, fun ea oe vs hc hdd hf hea => ?_⟩, fun hd H' s' => .inr ⟨X.x2.nw, X.x2.ye, fun ea oe vs hc hdd hf hea => ?_⟩, fun hd H' s' => .inr ⟨X.x3.nw, X.x3.ye, fun ea oe vs hc hdd hf hea => ?_⟩, fun hd H' d s' gd => .inl ⟨X.x4.nw, fun ea oe vs hc hdd hf hea => ?_⟩, fun hd H' s' => .inr ⟨X.x5.nw, X.x5.ye, fun ea oe vs hc hdd hf hea => ?_⟩, fun hd => absurd hd hbad⟩
    · have dct := dct0 (H' := H') hdd
      refine ⟨_, rfl, ea, oe, _, .type "ValueError", x.place, vs, true, rfl, rfl, .head _, hc, hf, dct, X.x1.c, X.x1.i, X.x1.v, _, rfl, ea, oe, _, .ref x.place, x.place, vs, true, rfl, rfl, .head _, hc, hf, dct, X.x1.c, X.x1.i, X.x1.k1, _, rfl, ea, oe, _, .ref x.length, x.place, vs, false, rfl, rfl, .head _, hc, hf, dct, X.x1.c, X.x1.i, X.x1.k2, _, rfl, ea, oe, _, .ref x.word, x.place, vs, false, rfl, rfl, .head _, hc, hf, dct, X.x1.c, X.x1.i, X.x1.k3, by show 4 ≤ sizeLine; decide, fun F2 hF2 => ?_⟩
      have s3 := s'.new (o := .lst [.bl true, .bl true, .bl false, .bl false]) hF2
      have gF2 : (upd H' F2 (.lst [.bl true, .bl true, .bl false, .bl false])) F2 = some (.lst [.bl true, .bl true, .bl false, .bl false]) := upd_same
      have nFi : Fi ≠ F2 := ne_of_none (s' _ _ gFi2) hF2
      generalize upd H' F2 (.lst [.bl true, .bl true, .bl false, .bl false]) = H3 at s3 gF2 ⊢
      have dct := dct0 (H' := H3) hdd
      refine ⟨_, rfl, .inl ⟨rfl, _, SqL.of gF2⟩, _, rfl, ea, oe, _, .ref x.full, x.place, vs, false, rfl, rfl, .head _, hc, hf, dct, X.x1.c, X.x1.i, X.x1.k4, F2, _, _, rfl, rfl, gF2, by show 4 < sizeLine; decide, ?_⟩
      have hF20 : H F2 = none := (s2.trans s').free hF2
      have s4 : Same H (upd H3 F2 (.lst ([.bl true, .bl true, .bl false, .bl false] ++ [.bl false]))) := fun b o e => by rw [upd_ne (ne_of_none e hF20)]; exact s3 _ _ (s2 _ _ e)
      refine ⟨_, rfl, _, rfl, F2, Fi, _, _, rfl, rfl, upd_same, by rw [upd_ne nFi]; exact s3 _ _ gFi2, by show 5 ≤ sizeLine; decide, fun R hR => q R _ (s4.new hR) ?_⟩
      rw [upd_same, hd]; rfl
    · have dct := dct0 (H' := H') hdd
      refine ⟨_, rfl, ea, oe, _, .type "ValueError", x.length, vs, true, rfl, rfl, .head _, hc, hf, dct, X.x2.c, X.x2.i, X.x2.v, _, rfl, ea, oe, _, .ref x.place, x.length, vs, false, rfl, rfl, .head _, hc, hf, dct, X.x2.c, X.x2.i, X.x2.k1, _, rfl, ea, oe, _, .ref x.length, x.length, vs, true, rfl, rfl, .head _, hc, hf, dct, X.x2.c, X.x2.i, X.x2.k2, _, rfl, ea, oe, _, .ref x.word, x.length, vs, false, rfl, rfl, .head _, hc, hf, dct, X.x2.c, X.x2.i, X.x2.k3, by show 4 ≤ sizeLine; decide, fun F2 hF2 => ?_⟩
      have s3 := s'.new (o := .lst [.bl true, .bl false, .bl true, .bl false]) hF2
      have gF2 : (upd H' F2 (.lst [.bl true, .bl false, .bl true, .bl false])) F2 = some (.lst [.bl true, .bl false, .bl true, .bl false]) := upd_same
      have nFi : Fi ≠ F2 := ne_of_none (s' _ _ gFi2) hF2
      generalize upd H' F2 (.lst [.bl true, .bl false, .bl true, .bl false]) = H3 at s3 gF2 ⊢
      have dct := dct0 (H' := H3) hdd
      refine ⟨_, rfl, .inl ⟨rfl, _, SqL.of gF2⟩, _, rfl, ea, oe, _, .ref x.full, x.length, vs, false, rfl, rfl, .head _, hc, hf, dct, X.x2.c, X.x2.i, X.x2.k4, F2, _, _, rfl, rfl, gF2, by show 4 < sizeLine; decide, ?_⟩
      have hF20 : H F2 = none := (s2.trans s').free hF2
      have s4 : Same H (upd H3 F2 (.lst ([.bl true, .bl false, .bl true, .bl false] ++ [.bl false]))) := fun b o e => by rw [upd_ne (ne_of_none e hF20)]; exact s3 _ _ (s2 _ _ e)
      refine ⟨_, rfl, _, rfl, F2, Fi, _, _, rfl, rfl, upd_same, by rw [upd_ne nFi]; exact s3 _ _ gFi2, by show 5 ≤ sizeLine; decide, fun R hR => q R _ (s4.new hR) ?_⟩
      rw [upd_same, hd]; rfl
    · have dct := dct0 (H' := H') hdd
      refine ⟨_, rfl, ea, oe, _, .type "ValueError", x.word, vs, true, rfl, rfl, .head _, hc, hf, dct, X.x3.c, X.x3.i, X.x3.v, _, rfl, ea, oe, _, .ref x.place, x.word, vs, false, rfl, rfl, .head _, hc, hf, dct, X.x3.c, X.x3.i, X.x3.k1, _, rfl, ea, oe, _, .ref x.length, x.word, vs, false, rfl, rfl, .head _, hc, hf, dct, X.x3.c, X.x3.i, X.x3.k2, _, rfl, ea, oe, _, .ref x.word, x.word, vs, true, rfl, rfl, .head _, hc, hf, dct, X.x3.c, X.x3.i, X.x3.k3, by show 4 ≤ sizeLine; decide, fun F2 hF2 => ?_⟩
      have s3 := s'.new (o := .lst [.bl true, .bl false, .bl false, .bl true]) hF2
      have gF2 : (upd H' F2 (.lst [.bl true, .bl false, .bl false, .bl true])) F2 = some (.lst [.bl true, .bl false, .bl false, .bl true]) := upd_same
      have nFi : Fi ≠ F2 := ne_of_none (s' _ _ gFi2) hF2
      generalize upd H' F2 (.lst [.bl true, .bl false, .bl false, .bl true]) = H3 at s3 gF2 ⊢
      have dct := dct0 (H' := H3) hdd
      refine ⟨_, rfl, .inl ⟨rfl, _, SqL.of gF2⟩, _, rfl, ea, oe, _, .ref x.full, x.word, vs, false, rfl, rfl, .head _, hc, hf, dct, X.x3.c, X.x3.i, X.x3.k4, F2, _, _, rfl, rfl, gF2, by show 4 < sizeLine; decide, ?_⟩
      have hF20 : H F2 = none := (s2.trans s').free hF2
      have s4 : Same H (upd H3 F2 (.lst ([.bl true, .bl false, .bl false, .bl true] ++ [.bl false]))) := fun b o e => by rw [upd_ne (ne_of_none e hF20)]; exact s3 _ _ (s2 _ _ e)
      refine ⟨_, rfl, _, rfl, F2, Fi, _, _, rfl, rfl, upd_same, by rw [upd_ne nFi]; exact s3 _ _ gFi2, by show 5 ≤ sizeLine; decide, fun R hR => q R _ (s4.new hR) ?_⟩
      rw [upd_same, hd]; rfl
    · have dct : ∀ {H3 : Hp}, Same H' H3 → DictAt H3 oe.dict := fun s3 => by rw [hdd]; exact ⟨_, s3 _ _ gd⟩
      refine ⟨_, rfl, ea, oe, _, .ref yd, x.way, vs, true, rfl, rfl, .head _, hc, hf, dct (Same.refl _), X.x4.c, X.x4.i, X.x4.y, _, rfl, ea, oe, _, .ref x.place, x.way, vs, false, rfl, rfl, .head _, hc, hf, dct (Same.refl _), X.x4.c, X.x4.i, X.x4.k1, _, rfl, ea, oe, _, .ref x.length, x.way, vs, false, rfl, rfl, .head _, hc, hf, dct (Same.refl _), X.x4.c, X.x4.i, X.x4.k2, _, rfl, ea, oe, _, .ref x.word, x.way, vs, false, rfl, rfl, .head _, hc, hf, dct (Same.refl _), X.x4.c, X.x4.i, X.x4.k3, by show 4 ≤ sizeLine; decide, fun F2 hF2 => ?_⟩
      have s3 := (Same.refl H').new (o := .lst [.bl true, .bl false, .bl false, .bl false]) hF2
      have gF2 : (upd H' F2 (.lst [.bl true, .bl false, .bl false, .bl false])) F2 = some (.lst [.bl true, .bl false, .bl false, .bl false]) := upd_same
      generalize upd H' F2 (.lst [.bl true, .bl false, .bl false, .bl false]) = H3 at s3 gF2 ⊢
      refine ⟨_, rfl, ea, oe, x.way, vs, d, _, _, rfl, .head _, hc, hf, hdd, s3 _ _ gd, X.x4.c, X.x4.n1, rfl, _, rfl, ea, oe, x.way, vs, d, _, _, rfl, .head _, hc, hf, hdd, s3 _ _ gd, X.x4.c, X.x4.n2, rfl, by show 2 ≤ sizeLine; decide, fun F3 hF3 => ?_⟩
      have s4 := (Same.refl H3).new (o := .lst [sv, gv]) hF3
      refine ⟨_, rfl, _, rfl, F2, F3, _, _, rfl, rfl, s4 _ _ gF2, upd_same, by show 6 ≤ sizeLine; decide, fun R hR => q R _ ((s2.trans (s'.trans (s3.trans s4))).new hR) ?_⟩
      rw [upd_same, hd]; rfl
    · have dct := dct0 (H' := H') hdd
      refine ⟨_, rfl, ea, oe, _, .type "ValueError", x.full, vs, true, rfl, rfl, .head _, hc, hf, dct, X.x5.c, X.x5.i, X.x5.v, _, rfl, ea, oe, _, .ref x.place, x.full, vs, false, rfl, rfl, .head _, hc, hf, dct, X.x5.c, X.x5.i, X.x5.k1, _, rfl, ea, oe, _, .ref x.length, x.full, vs, false, rfl, rfl, .head _, hc, hf, dct, X.x5.c, X.x5.i, X.x5.k2, _, rfl, ea, oe, _, .ref x.word, x.full, vs, false, rfl, rfl, .head _, hc, hf, dct, X.x5.c, X.x5.i, X.x5.k3, by show 4 ≤ sizeLine; decide, fun F2 hF2 => ?_⟩
      have s3 := s'.new (o := .lst [.bl true, .bl false, .bl false, .bl false]) hF2
      have gF2 : (upd H' F2 (.lst [.bl true, .bl false, .bl false, .bl false])) F2 = some (.lst [.bl true, .bl false, .bl false, .bl false]) := upd_same
      have nFi : Fi ≠ F2 := ne_of_none (s' _ _ gFi2) hF2
      generalize upd H' F2 (.lst [.bl true, .bl false, .bl false, .bl false]) = H3 at s3 gF2 ⊢
      have dct := dct0 (H' := H3) hdd
      refine ⟨_, rfl, .inl ⟨rfl, _, SqL.of gF2⟩, _, rfl, ea, oe, _, .ref x.full, x.full, vs, true, rfl, rfl, .head _, hc, hf, dct, X.x5.c, X.x5.i, X.x5.k4, F2, _, _, rfl, rfl, gF2, by show 4 < sizeLine; decide, ?_⟩
      have hF20 : H F2 = none := (s2.trans s').free hF2
      have s4 : Same H (upd H3 F2 (.lst ([.bl true, .bl false, .bl false, .bl false] ++ [.bl true]))) := fun b o e => by rw [upd_ne (ne_of_none e hF20)]; exact s3 _ _ (s2 _ _ e)
      refine ⟨_, rfl, _, rfl, F2, Fi, _, _, rfl, rfl, upd_same, by rw [upd_ne nFi]; exact s3 _ _ gFi2, by show 5 ≤ sizeLine; decide, fun R hR => q R _ (s4.new hR) ?_⟩
      rw [upd_same, hd]; rfl
end
end K46
namespace L2
open PySem
mutual
theorem Den.same {K : PySem.W.Frag} {H H' : Hp} (s : Same H H') : ∀ {x : V} {d : PyData}, Den K H x d → Den K H' x d
  | _, _, .non => .non
  | _, _, .bl b => .bl b
  | _, _, .int i => .int i
  | _, _, .str x => .str x
  | _, _, .lst h t => .lst (s.seq h) (Dens.same s t)
  | _, _, .tup h t => .tup (K46.same_seqT s h) (Dens.same s t)
theorem Dens.same {K : PySem.W.Frag} {H H' : Hp} (s : Same H H') : ∀ {xs : List V} {ds : List PyData}, Dens K H xs ds → Dens K H' xs ds
  | _, _, .nil => .nil
  | _, _, .cons h t => .cons (Den.same s h) (Dens.same s t)
end
theorem Dens.snoc {K : PySem.W.Frag} {H : Hp} {v : V} {d : PyData} (h : Den K H v d) : ∀ {xs : List V} {ds : List PyData}, Dens K H xs ds → Dens K H (xs ++ [v]) (ds ++ [d])
  | _, _, .nil => .cons h .nil
  | _, _, .cons a t => .cons a (Dens.snoc h t)
theorem Dens.len {K : PySem.W.Frag} {H : Hp} : ∀ {xs : List V} {ds : List PyData}, Dens K H xs ds → xs.length = ds.length
  | _, _, .nil => rfl
  | _, _, .cons _ t => congrArg (· + 1) (Dens.len t)
/-- a comprehension whose values are known as data -/
theorem comp_den {J : It} {K : PySem.W.Frag} {g : TG} {te : TE} {σ0 : St} {H : Hp} {Q : VK} (ds : List PyData) (hn : ds.length < sizeLine) (hgo : ∀ i H1, i < ds.length → Same H H1 → J.go i H1) (hst : ∀ H1, Same H H1 → J.stop ds.length H1)
    (hs : ∀ (i : Nat) (d : PyData) (x : V) (H1 H2 : Hp) (N : V → Hp → Prop), ds[i]? = some d → Same H H1 → J.yld i H1 x H2 → (∀ v H3, Same H1 H3 → Den K H3 v d → N v H3) → g x σ0 H2 fun σ2 H2 => te σ2 H2 N)
    (hq : ∀ D vs H1, Same H H1 → H1 D = none → Dens K H1 vs ds → Q (.ref D) (upd H1 D (.lst vs))) : CompR J g tYes te σ0 Q H := by
  refine comp_gen ds.length hn (fun i acc H' => Same H H' ∧ Dens K H' acc (ds.take i)) ⟨Same.refl _, .nil⟩ (fun i acc H' h => by rw [Dens.len h.2]; exact List.length_take_le _ _) (fun i acc H' hi h => ?_) (fun acc H' h => ?_)
  · obtain ⟨s, hL⟩ := h
    refine ⟨hgo i H' hi s, fun v H2 y => ?_⟩
    refine hs i ds[i] v H' H2 (fun y H4 => Same H H4 ∧ Dens K H4 (acc ++ [y]) (ds.take (i + 1))) (List.getElem?_eq_getElem hi) s y fun v H3 s3 hd => ⟨s.trans s3, ?_⟩
    rw [List.take_succ, List.getElem?_eq_getElem hi]
    exact Dens.snoc hd (Dens.same s3 hL)
  · obtain ⟨s, hL⟩ := h
    rw [List.take_length] at hL
    exact ⟨hst H' s, fun D hD => hq D acc H' s hD hL⟩
end L2
namespace K46
open PySem L2
theorem cut_from (us : List Nat) {i : Nat} (h : i ≤ us.length) : cutV (nV us) (some (i : Int)) none = nV (us.drop i) := by
  unfold cutV
  rw [show HT.sIx (nV us).length 0 (some (i : Int)) = min i (nV us).length from HT.sIx_nat _ _ i, nV_len, Nat.min_eq_left h]
  have e : HT.sIx us.length us.length none = us.length := rfl
  rw [e, List.take_of_length_le (by rw [List.length_drop, nV_len]; omega)]
  unfold nV
  rw [List.map_drop]
theorem cut_to (us : List Nat) (i : Nat) : cutV (nV us) none (some (i : Int)) = nV (us.take i) := by
  unfold cutV
  have e0 : HT.sIx (nV us).length 0 none = 0 := rfl
  rw [e0, show HT.sIx (nV us).length (nV us).length (some (i : Int)) = min i (nV us).length from HT.sIx_nat _ _ i, nV_len]
  rw [List.drop_zero, Nat.sub_zero]
  unfold nV
  rw [← List.map_take]
  rcases Nat.lt_or_ge i us.length with h | h
  · rw [Nat.min_eq_left (by omega)]
  · rw [Nat.min_eq_right h, List.take_of_length_le h, List.take_of_length_le (Nat.le_refl _)]
/-- rooms by a comprehension -/
theorem comp_rms {m : Nat} {g : TG} {te : TE} {σ0 : St} {H : Hp} {Q : VK} (hm : m ≤ 1000)
    (hs : ∀ (i : Nat) (N : V → Hp → Prop), i < m → (∀ z : Nat, 1 ≤ z → z ≤ 60 → N (.int (z : Int)) H) → g (.int (0 + i)) σ0 H fun σ2 H2 => te σ2 H2 N)
    (hq : ∀ D (us : List Nat), H D = none → us.length = m → (∀ z ∈ us, 1 ≤ z ∧ z ≤ 60) → Q (.ref D) (upd H D (.lst (nV us)))) : CompR (Itr 0 m) g tYes te σ0 Q H := by
  refine comp_gen m (by rw [PySem.sizeLine_eq]; omega) (fun i acc H' => H' = H ∧ ∃ us : List Nat, acc = nV us ∧ us.length = i ∧ ∀ z ∈ us, 1 ≤ z ∧ z ≤ 60) ⟨rfl, [], rfl, rfl, fun z hz => by cases hz⟩ (fun i acc H' h => by obtain ⟨_, us, rfl, rfl, _⟩ := h; rw [nV_len]; exact Nat.le_refl _) (fun i acc H' hi h => ?_) (fun acc H' h => ?_)
  · obtain ⟨rfl, us, rfl, rfl, hu⟩ := h
    refine ⟨hi, fun v H2 y => ?_⟩
    obtain ⟨e1, e2⟩ := y
    subst e1 e2
    refine hs us.length (fun y H4 => H4 = H2 ∧ ∃ n2 : List Nat, nV us ++ [y] = nV n2 ∧ n2.length = us.length + 1 ∧ ∀ z ∈ n2, 1 ≤ z ∧ z ≤ 60) hi fun z h1 h2 => ⟨rfl, us ++ [z], by unfold nV; rw [List.map_append]; rfl, by rw [List.length_append]; rfl, fun y hy => ?_⟩
    rcases List.mem_append.mp hy with hy | hy
    · exact hu y hy
    · rw [List.mem_singleton.mp hy]; exact ⟨h1, h2⟩
  · obtain ⟨rfl, us, rfl, hl, hu⟩ := h
    exact ⟨Nat.le_refl m, fun D hD => hq D us hD hl hu⟩
theorem sca_nV {us : List Nat} : ∀ v ∈ nV us, Sca v := fun v hv => by
  obtain ⟨z, _, rfl⟩ := List.mem_map.mp hv
  exact .int _
theorem okR_nV {us : List Nat} (h : ∀ z ∈ us, 1 ≤ z ∧ z ≤ 60) : okR us.length (nV us) = true := by
  unfold okR
  rw [nV_len, decide_eq_true rfl, Bool.true_and, List.all_eq_true]
  intro v hv
  obtain ⟨z, hz, rfl⟩ := List.mem_map.mp hv
  have := h z hz
  exact decide_eq_true ⟨by omega, by omega⟩
theorem okR_len {m : Nat} {vs : List V} (h : vs.length ≠ m) : okR m vs = false := by
  unfold okR
  rw [decide_eq_false h]; rfl
theorem okR_bad {m : Nat} {vs : List V} {v : V} (hv : v ∈ vs) (h : okv v 1 60 = false) : okR m vs = false := by
  unfold okR
  have : (vs.all fun v => okv v 1 60) = false := by
    rw [List.all_eq_false]
    exact ⟨v, hv, by rw [h]; decide⟩
  rw [this, Bool.and_false]
def rmD (z : Nat) : PyData := .tuple [.int (z : Int), .int 0, .none, .list []]
def spLR (c : Cs) (TC : Addr) (J : TJ) : Sp := fun vs H Q _ => ∃ (tb lx ldx lt : Addr) (n : Nat) (tvs : List V) (ps : List (Int × Int)) (wy : Wf) (d : Int), vs = [.ref tb, .int d] ∧ TbIn c TC J H tb lx ldx lt n tvs ps wy ∧ ∀ H', Same H H' → Q (.bl true) H'
def retEq1 (s : Stmt) : Scope := match s with
  | .Return (some (.Compare (.ListComp _ _ sc _) _ _ _)) _ => sc
  | _ => { kind := .function, names := [], isGenerator := false, isCoroutine := false }
def retEq2 (s : Stmt) : Scope := match s with
  | .Return (some (.Compare _ _ [.ListComp _ _ sc _] _)) _ => sc
  | _ => { kind := .function, names := [], isGenerator := false, isCoroutine := false }
abbrev NLR : List Str := ["_law_table", "_law_cell", "_law_rooms_here", "_law_at", "_law_bad_here", "_law_yard"]
section
variable {P : Program} {w : World} {K : PySem.W.Frag} {mg : Str → Option Value} {base : Heap}
theorem scLR : FnScope NLR ["_law_table", "_law_cell"] (defScope sLRooms) := ⟨rfl, rfl, rfl, by decide +kernel, rfl, by decide +kernel, by decide +kernel⟩
theorem bkLR1 : Blk NLR (defScope sLRooms) (fldC ((defBody sLRooms).getD 0 (.Pass ⟨0, 0, 0, 0⟩))) ["_law_cell"] [1] := ⟨rfl, by decide +kernel, by decide +kernel, by decide +kernel, rfl, by decide +kernel⟩
theorem bkLR2 : Blk NLR (defScope sLRooms) (retEq1 ((defBody sLRooms).getD 4 (.Pass ⟨0, 0, 0, 0⟩))) ["_law_yard"] [5] := ⟨rfl, by decide +kernel, by decide +kernel, by decide +kernel, rfl, by decide +kernel⟩
theorem bkLR3 : Blk NLR (defScope sLRooms) (retEq2 ((defBody sLRooms).getD 4 (.Pass ⟨0, 0, 0, 0⟩))) [] [] := ⟨rfl, by decide +kernel, by decide +kernel, by decide +kernel, rfl, by decide +kernel⟩
theorem ndLR1 : (["_law_k", "_law_cell"] : List Str).Nodup := by decide +kernel
theorem ndLR2 : (["_law_k", "_law_yard"] : List Str).Nodup := by decide +kernel
theorem ndLR3 : (["_law_room"] : List Str).Nodup := by decide +kernel
theorem ok_lrooms {c : Cs} {ys : Ys} {J : TJ} {TC f fm fn fi ft nr : Addr} {fd dm dn di dt : FuncData} (F : Fun K "_law_rooms" "_law_rooms" sLRooms f fd) (T : Txt mg) (L : Lnd K c) (Y : Yrd K ys) (W' : ∃ fw2 dw2, Wy K TC fw2 dw2 J)
    (mm : mg "_law_mixed" = some (.ref fm)) (km : PySem.W.keepIn K (.ref fm) = true) (bm : Binds K dm ["_law_cell", "_law_k"] []) (Gm : FnOk P w K mg base CX0 1 fm dm ["_law_cell", "_law_k"] spMix)
    (mn : mg "_law_no_rooms" = some (.ref fn)) (kn : PySem.W.keepIn K (.ref fn) = true) (bn : Binds K dn ["_law_table", "_law_rooms_here"] []) (GN : FnOk P w K mg base CX0 6 fn dn ["_law_table", "_law_rooms_here"] (spNoR K c TC J))
    (M : Mk K ys.yard fi) (ml : mg "Yard" = some (.ref ys.yard)) (bi : Binds K di ["self", "table", "rooms"] []) (Gi : FnOk P w K mg base (CXe P w) 4 fi di ["self", "table", "rooms"] (spYdI K c TC J ys nr))
    (MT : Meth K ys.yard "lane_told" ft) (bt : Binds K dt ["self", "lane"] []) (GT : FnOk P w K mg base CX0 2 ft dt ["self", "lane"] (spLaneT K ys)) :
    FnOk P w K mg base CX0 7 f fd ["_law_table", "_law_cell"] (spLR c TC J) := by
  obtain ⟨fw2, dw2, W⟩ := W'
  refine F.ok scLR (fun vs H Q E h => ?_) (fun cdv A outer s H vs Q E hr h => ?_)
  · obtain ⟨tb, lx, ldx, lt, n, tvs, ps, wy, d, rfl, _⟩ := h
    rfl
  · obtain ⟨tb, lx, ldx, lt, n, tvs, ps, wy, d, rfl, hT, q⟩ := h
    have hu := hr.units
    have hr1 : Room 1 _ := hr.mono (by decide)
    have hr2 : Room 2 _ := hr.mono (by decide)
    have hr5 : Room 5 _ := hr.mono (by decide)
    refine ⟨_, pss_cons (ps_setComp (i := 2) (own := ["_law_k"]) (capN := ["_law_cell"]) (cap := [1]) bkLR1 rfl scLR.nd rfl rfl (pi_range1 rfl T.range (pa_cons (pe_callB call_len_seq rfl T.len PySem.boot_len (pa_cons (pe_fld (pe_fld (pv 0) rfl) rfl) pa_nil)) pa_nil))
        (fun C s' H' fp => ⟨pg_name (i := 0) ndLR1 rfl (Or.inl rfl), pts_nil, pe_op op_add pe_int (pe_op op_mod (pe_call Gm hr1 rfl mm km bm .nil pass0 (pa_cons (pv 1) (pa_cons (pv 0) pa_nil))) pe_int)⟩))
      (pss_cons (ps_if (pt_not (pt_val (pe_call GN hr rfl mn kn bn .nil pass0 (pa_cons (pv 0) (pa_cons (pe_op op_cat (pv 2) (pe_lst (pa_cons pe_int pa_nil))) pa_nil))))) (pss_one (ps_ret pe_bl)) pss_nil)
      (pss_cons (ps_post (ps_if (pt_cmpR (op_neI hu) (pv 2) (pe_lst pa_nil) (nomark _))
        (pss_cons (ps_set (i := 3) scLR.nd rfl (Or.inl rfl) (pe_op op_mod (pv 1) (pe_callB call_len_seq rfl T.len PySem.boot_len (pa_cons (pv 2) pa_nil))))
        (pss_cons (ps_for PassesOwn.never rfl (pi_list (pe_lst (pa_cons pe_int (pa_cons pe_int (pa_cons (pe_op op_sub (pe_op op_mod (pe_un un_neg (pv 1)) (pe_op op_pow pe_int pe_int)) (pe_op op_pow pe_int pe_int)) (pa_cons (pe_op op_add pe_int (pe_op op_mod (pv 1) (pe_op op_pow pe_int pe_int))) (pa_cons pe_bl pa_nil))))))) (pg_name (i := 4) scLR.nd rfl (Or.inl rfl))
          (pss_one (ps_if (pt_not (pt_val (pe_call GN hr rfl mn kn bn .nil pass0 (pa_cons (pv 0) (pa_cons (pe_op op_cat (pe_op op_cat (pe_slice sl_list (pv 2) po_none (po_some (pv 3))) (pe_lst (pa_cons (pv 4) pa_nil))) (pe_slice sl_list (pv 2) (po_some (pe_op op_add (pv 3) pe_int)) po_none)) pa_nil))))) (pss_one (ps_ret pe_bl)) pss_nil)))
        (pss_one (ps_if (pt_not (pt_val (pe_call GN hr rfl mn kn bn .nil pass0 (pa_cons (pv 0) (pa_cons (pe_slice sl_list (pv 2) (po_some pe_int) po_none) pa_nil))))) (pss_one (ps_ret pe_bl)) pss_nil)))) pss_nil))
      (pss_cons (ps_set (i := 5) scLR.nd rfl (Or.inr rfl) (pe_make M Gi hr5 rfl ml bi .nil passE0 (pa_cons (pv 0) (pa_cons (pv 2) pa_nil))))
      (pss_one (ps_ret (pe_cmpR (op_eqD hu) (pe_comp (own := ["_law_k"]) (capN := ["_law_yard"]) (cap := [5]) bkLR2 rfl (pi_range1 rfl T.range (pa_cons (pe_callB call_len_seq rfl T.len PySem.boot_len (pa_cons (pv 2) pa_nil)) pa_nil)) (fun C s' H' fp => ⟨pg_name (i := 0) ndLR2 rfl (Or.inl rfl), pts_nil, pe_meth (pv 1) Y.cl MT GT hr2 bt .nil pass0 (pa_cons (pv 0) pa_nil)⟩))
        (pe_comp (own := ["_law_room"]) (capN := []) (cap := []) bkLR3 rfl (pi_list (pv 2)) (fun C s' H' fp => ⟨pg_name (i := 0) ndLR3 rfl (Or.inl rfl), pts_nil, pe_tup (pa_cons (pv 0) (pa_cons pe_int (pa_cons pe_non (pa_cons (pe_lst pa_nil) pa_nil))))⟩)) (nomark _))))))), ?_⟩
    have hm40 := hT.few
    obtain ⟨dxt, fst, htb, hland, _⟩ := hT.i
    have hll : tvs.length = ps.length := Paired.length hT.l.2.2
    refine ⟨_, rfl, tb, TC, dxt, fst, _, rfl, htb, W.cl, W.nl, hland, lx, c.land, ldx, _, _, rfl, hT.l.1, L.cl, L.nl, rfl, lt, _, rfl, .inr (SqT.of hT.l.2.1), (tvs.length : Int), rfl, by omega, by omega, ?_⟩
    rw [Int.toNat_natCast, hll]
    refine comp_rms (by omega) (fun i N hi hN => ?_) (fun Rm us hRm hul hus => ?_)
    · rw [Int.zero_add]
      refine ⟨_, rfl, _, rfl, d, i, rfl, by omega, fun e he => ⟨_, _, rfl, rfl, (by show (0 : Int) < 60; decide), _, _, rfl, rfl, ?_⟩⟩
      obtain ⟨z, hz, h1, h2⟩ : ∃ z : Nat, 1 + e % 60 = (z : Int) ∧ 1 ≤ z ∧ z ≤ 60 := ⟨(1 + e % 60).toNat, by omega, by omega, by omega⟩
      show N (V.int (1 + e % 60)) H
      rw [hz]
      exact hN z h1 h2
    have s1 := (Same.refl H).new (o := .lst (nV us)) hRm
    have gRm : (upd H Rm (.lst (nV us))) Rm = some (.lst (nV us)) := upd_same
    show gName 2 (V.ref Rm) _ (upd H Rm (.lst (nV us))) _
    generalize upd H Rm (.lst (nV us)) = H1 at s1 gRm ⊢
    have hT1 := hT.keep W (Same.keepN s1)
    have hok := okR_nV hus
    rw [hul] at hok
    -- one room too many
    refine ⟨_, rfl, _, rfl, by show 1 ≤ sizeLine; decide, fun o1 ho1 => ?_⟩
    have t1 := (Same.refl H1).new (o := .lst [.int 1]) ho1
    have g1 : (upd H1 o1 (.lst [.int 1])) o1 = some (.lst [.int 1]) := upd_same
    generalize upd H1 o1 (.lst [.int 1]) = H2 at t1 g1 ⊢
    refine ⟨Rm, o1, _, _, rfl, rfl, t1 _ _ gRm, g1, by rw [nV_len, PySem.sizeLine_eq]; simp only [List.length_singleton]; omega, fun o2 ho2 => ?_⟩
    have t2 := t1.new (o := .lst (nV us ++ [.int 1])) ho2
    refine ⟨tb, o2, lx, ldx, lt, n, tvs, ps, wy, _, rfl, hT1.keep W (Same.keepN t2), SqL.of upd_same, by rw [List.length_append, nV_len]; simp only [List.length_singleton]; omega, (fun v hv => ?_), okR_len (by rw [List.length_append, nV_len]; simp only [List.length_singleton]; omega), fun H3 s3 => ⟨_, rfl, iteF ?_⟩⟩
    · rcases List.mem_append.mp hv with hv | hv
      · exact sca_nV v hv
      · rw [List.mem_singleton.mp hv]; exact .int 1
    have s13 := t2.trans s3
    -- rooms that are none
    refine ⟨fun σ H9 => ∃ a3 a4 : Option V, Same H1 H9 ∧ σ = [some (.ref tb), some (.int d), some (.ref Rm), a3, a4, none], ?_, ?_⟩
    · refine ⟨_, rfl, Nat.zero_le _, fun e0 he0 => ?_⟩
      have s14 := s13.new (o := .lst []) he0
      have ge0 : (upd H3 e0 (.lst [])) e0 = some (.lst (([] : List Int).map V.int)) := upd_same
      generalize upd H3 e0 (.lst []) = H4 at s14 ge0 ⊢
      refine ⟨Rm, e0, iz us, [], rfl, rfl, SqL.of (by rw [s14 _ _ gRm, iz_V]; rfl), SqL.of ge0, _, rfl, ?_⟩
      refine ite2 (fun hne => ?_) fun _ => ⟨_, _, s14, rfl⟩
      have hpos : 0 < us.length := by
        refine List.length_pos_iff.mpr fun e => ?_
        rw [e] at hne
        exact absurd hne (by decide)
      have np : (0 : Int) < ((us.length : Nat) : Int) := by omega
      obtain ⟨k, hk, hkl⟩ : ∃ k : Nat, d % ((us.length : Nat) : Int) = (k : Int) ∧ k < us.length := by
        have h1 := Int.emod_nonneg d (show ((us.length : Nat) : Int) ≠ 0 by omega)
        have h2 := Int.emod_lt_of_pos d np
        exact ⟨(d % ((us.length : Nat) : Int)).toNat, by omega, by omega⟩
      refine ⟨_, rfl, _, rfl, Rm, _, rfl, .inl (SqL.of (s14 _ _ gRm)), _, _, rfl, rfl, by rw [nV_len]; exact np, ?_⟩
      show gName 3 (V.int (d % (((nV us).length : Nat) : Int))) _ _ _
      rw [nV_len, hk]
      have p40 : (0 : Int) < 10 ^ (40 : Int).toNat := by decide +kernel
      refine ⟨_, rfl, _, rfl, _, _, rfl, rfl, ⟨by decide, by decide, by decide⟩, _, _, rfl, rfl, p40, _, _, rfl, rfl, ⟨by decide, by decide, by decide⟩, _, _, rfl, rfl, _, rfl, _, _, rfl, rfl, ⟨by decide, by decide, by decide⟩, _, _, rfl, rfl, p40, _, _, rfl, rfl, by show 5 ≤ sizeLine; decide, fun Bl hBl => ?_⟩
      have s15 := s14.new (o := .lst [.int 0, .int 61, .int (-d % 10 ^ (40 : Int).toNat - 10 ^ (41 : Int).toNat), .int (61 + d % 10 ^ (40 : Int).toNat), .bl true]) hBl
      have gBl : (upd H4 Bl (.lst [.int 0, .int 61, .int (-d % 10 ^ (40 : Int).toNat - 10 ^ (41 : Int).toNat), .int (61 + d % 10 ^ (40 : Int).toNat), .bl true])) Bl = some (.lst [.int 0, .int 61, .int (-d % 10 ^ (40 : Int).toNat - 10 ^ (41 : Int).toNat), .int (61 + d % 10 ^ (40 : Int).toNat), .bl true]) := upd_same
      have hbad : ∀ v ∈ [V.int 0, .int 61, .int (-d % 10 ^ (40 : Int).toNat - 10 ^ (41 : Int).toNat), .int (61 + d % 10 ^ (40 : Int).toNat), .bl true], Sca v ∧ okv v 1 60 = false := by
        intro v hv
        simp only [List.mem_cons, List.not_mem_nil, or_false] at hv
        rcases hv with rfl | rfl | rfl | rfl | rfl
        · exact ⟨.int _, rfl⟩
        · exact ⟨.int _, rfl⟩
        · refine ⟨.int _, decide_eq_false fun z => ?_⟩
          have h1 := Int.emod_lt_of_pos (-d) p40
          have h2 : (10 : Int) ^ (40 : Int).toNat < 10 ^ (41 : Int).toNat := by decide +kernel
          omega
        · refine ⟨.int _, decide_eq_false fun z => ?_⟩
          have h1 := Int.emod_nonneg d (show (10 : Int) ^ (40 : Int).toNat ≠ 0 by decide +kernel)
          omega
        · exact ⟨.bl _, rfl⟩
      refine ⟨Bl, rfl, ⟨_, SqL.of gBl⟩, ?_⟩
      generalize [V.int 0, .int 61, .int (-d % 10 ^ (40 : Int).toNat - 10 ^ (41 : Int).toNat), .int (61 + d % 10 ^ (40 : Int).toNat), .bl true] = xs at s15 gBl hbad ⊢
      refine for_list (K := K) (a := Bl) (xs := xs) (fun i σ H5 => ∃ a4 : Option V, Same H1 H5 ∧ H5 Bl = some (.lst xs) ∧ σ = [some (.ref tb), some (.int d), some (.ref Rm), some (.int (k : Int)), a4, none])
        ⟨none, s15, gBl, rfl⟩ (fun i σ H5 _ ⟨_, _, g, _⟩ => SqL.of g) ?_ ?_
      · rintro i v σ H5 hv ⟨a4, s5, gB5, rfl⟩
        obtain ⟨hsc, hov⟩ := hbad v (List.mem_of_getElem? hv)
        have gR5 := s5 _ _ gRm
        refine ⟨_, rfl, _, rfl, _, rfl, (k : Int), rfl, Rm, _, rfl, SqL.of gR5, fun R1 hR1 => ?_⟩
        rw [cut_to us k]
        have u1 := (Same.refl H5).new (o := .lst (nV (us.take k))) hR1
        have gR1 : (upd H5 R1 (.lst (nV (us.take k)))) R1 = some (.lst (nV (us.take k))) := upd_same
        generalize upd H5 R1 (.lst (nV (us.take k))) = H6 at u1 gR1 ⊢
        refine ⟨_, rfl, by show 1 ≤ sizeLine; decide, fun R2 hR2 => ?_⟩
        have u2 := u1.new (o := .lst [v]) hR2
        have gR2 : (upd H6 R2 (.lst [v])) R2 = some (.lst [v]) := upd_same
        have gR1' : (upd H6 R2 (.lst [v])) R1 = some (.lst (nV (us.take k))) := by rw [upd_ne (ne_of_none gR1 hR2)]; exact gR1
        generalize upd H6 R2 (.lst [v]) = H7 at u2 gR2 gR1' ⊢
        have htl : (nV (us.take k)).length = k := by rw [nV_len, List.length_take]; omega
        refine ⟨R1, R2, _, _, rfl, rfl, gR1', gR2, by rw [htl, PySem.sizeLine_eq]; simp only [List.length_singleton]; omega, fun R3 hR3 => ?_⟩
        have u3 := u2.new (o := .lst (nV (us.take k) ++ [v])) hR3
        have gR3 : (upd H7 R3 (.lst (nV (us.take k) ++ [v]))) R3 = some (.lst (nV (us.take k) ++ [v])) := upd_same
        generalize upd H7 R3 (.lst (nV (us.take k) ++ [v])) = H8 at u3 gR3 ⊢
        refine ⟨_, rfl, _, rfl, _, _, rfl, rfl, ((k + 1 : Nat) : Int), by rw [Int.natCast_add]; rfl, Rm, _, rfl, SqL.of (u3 _ _ gR5), fun R4 hR4 => ?_⟩
        rw [cut_from us (show k + 1 ≤ us.length by omega)]
        have u4 := u3.new (o := .lst (nV (us.drop (k + 1)))) hR4
        have gR4 : (upd H8 R4 (.lst (nV (us.drop (k + 1))))) R4 = some (.lst (nV (us.drop (k + 1)))) := upd_same
        have gR3' : (upd H8 R4 (.lst (nV (us.drop (k + 1))))) R3 = some (.lst (nV (us.take k) ++ [v])) := by rw [upd_ne (ne_of_none gR3 hR4)]; exact gR3
        generalize upd H8 R4 (.lst (nV (us.drop (k + 1)))) = H9 at u4 gR4 gR3' ⊢
        have hdl : (nV (us.drop (k + 1))).length = us.length - (k + 1) := by rw [nV_len, List.length_drop]
        refine ⟨R3, R4, _, _, rfl, rfl, gR3', gR4, by rw [List.length_append, htl, hdl, PySem.sizeLine_eq]; simp only [List.length_singleton]; omega, fun R5 hR5 => ?_⟩
        have u5 := u4.new (o := .lst (nV (us.take k) ++ [v] ++ nV (us.drop (k + 1)))) hR5
        refine ⟨tb, R5, lx, ldx, lt, n, tvs, ps, wy, _, rfl, hT1.keep W (Same.keepN (s5.trans u5)), SqL.of upd_same, by rw [List.length_append, List.length_append, htl, hdl]; simp only [List.length_singleton]; omega, (fun x hx => ?_), okR_bad (v := v) (List.mem_append_left _ (List.mem_append_right _ List.mem_cons_self)) hov, fun Ha sa => ⟨_, rfl, iteF ⟨_, s5.trans (u5.trans sa), (u5.trans sa) _ _ gB5, rfl⟩⟩⟩
        rcases List.mem_append.mp hx with hx | hx
        · rcases List.mem_append.mp hx with hx | hx
          · exact sca_nV x hx
          · rw [List.mem_singleton.mp hx]; exact hsc
        · exact sca_nV x hx
      · rintro σ H5 ⟨a4, s5, _, rfl⟩
        have gR5 := s5 _ _ gRm
        refine ⟨_, rfl, _, rfl, 1, rfl, Rm, _, rfl, SqL.of gR5, fun R1 hR1 => ?_⟩
        rw [show cutV (nV us) (some 1) none = nV (us.drop 1) from cut_from (i := 1) us hpos]
        have u1 := (Same.refl H5).new (o := .lst (nV (us.drop 1))) hR1
        exact ⟨tb, R1, lx, ldx, lt, n, tvs, ps, wy, _, rfl, hT1.keep W (Same.keepN (s5.trans u1)), SqL.of upd_same, by rw [nV_len, List.length_drop]; omega, sca_nV, okR_len (by rw [nV_len, List.length_drop]; omega), fun Ha sa => ⟨_, rfl, iteF ⟨_, _, s5.trans (u1.trans sa), rfl⟩⟩⟩
    rintro σ H9 ⟨a3, a4, s9, rfl⟩
    -- the yard
    refine ⟨_, rfl, _, rfl, fun y dy ny ndy ney => ?_⟩
    have s10 : Same H9 (upd (upd H9 dy (.own y)) y (.ins ys.yard dy [])) := Same.new (Same.new (Same.refl H9) ndy) (by rw [upd_ne (Ne.symm ney)]; exact ny)
    refine ⟨y, dy, tb, lx, ldx, lt, n, tvs, ps, wy, _, nV us, rfl, upd_same, hT1.keep W (Same.keepN (s9.trans s10)), .inr ⟨Rm, rfl, .inl (SqL.of (s10 _ _ (s9 _ _ gRm))), by rw [nV_len]; omega, sca_nV, fun h => by rw [hok] at h; cases h⟩, fun _ ro la le li dn Hb ob _ _ _ _ hY => ⟨rfl, ?_⟩⟩
    have sb : Same H9 Hb := fun b o e => ob b o (fun z => by rw [List.mem_singleton.mp z, ny] at e; cases e) (s10 _ _ e)
    have gRb := sb _ _ (s9 _ _ gRm)
    have sHb := s1.trans (s9.trans sb)
    have hdsl : (us.map rmD).length = us.length := List.length_map ..
    have dat : ∀ {i : Nat} {e : PyData}, (us.map rmD)[i]? = some e → ∃ z, us[i]? = some z ∧ e = rmD z := fun {i e} h => by
      rw [List.getElem?_map] at h
      cases hz : us[i]? with
      | none => rw [hz] at h; cases h
      | some z => rw [hz] at h; exact ⟨z, rfl, (Option.some.inj h).symm⟩
    refine ⟨_, rfl, Rm, _, rfl, .inl (SqL.of gRb), ((nV us).length : Int), rfl, by rw [nV_len]; omega, by rw [nV_len]; omega, ?_⟩
    rw [Int.toNat_natCast, nV_len]
    refine comp_den (K := K) (us.map rmD) (by rw [hdsl, PySem.sizeLine_eq]; omega) (fun i Hc hi _ => by rw [hdsl] at hi; exact hi) (fun Hc _ => by rw [hdsl]; exact Nat.le_refl _) (fun i e x Hc Hc' N he sc y' hN => ?_) (fun D1 vs1 Hc sc hD1 hden1 => ?_)
    · obtain ⟨e1, e2⟩ := y'
      subst e1 e2
      obtain ⟨z, hz, rfl⟩ := dat he
      have hYc := hY.same sc
      rw [Int.zero_add]
      refine ⟨_, rfl, y, dy, _, rfl, hYc.ins, rfl, _, rfl, y, dy, tb, ro, la, le, li, dn, _, i, ln0 (.int (z : Int)), rfl, hYc, ?_, fun t ql pvs Hd sd hql gt gql hLd => hN _ Hd sd ?_⟩
      · show ((nV us).map ln0)[i]? = _
        rw [List.getElem?_map, nV_get hz]; rfl
      · have : pvs = [] := by
          have := Paired.length hLd
          exact List.length_eq_zero_iff.mp this
        rw [this] at gql
        exact .tup (SqT.of gt) (.cons (.int _) (.cons (.int _) (.cons .non (.cons (.lst (SqL.of gql) .nil) .nil))))
    have sD1 := sc.new (o := .lst vs1) hD1
    have gD1 : (upd Hc D1 (.lst vs1)) D1 = some (.lst vs1) := upd_same
    have hd1 := Dens.same ((Same.refl Hc).new (o := .lst vs1) hD1) hden1
    generalize upd Hc D1 (.lst vs1) = He at sD1 gD1 hd1 ⊢
    have gRe := sD1 _ _ gRb
    refine ⟨_, rfl, Rm, rfl, ⟨_, SqL.of gRe⟩, ?_⟩
    refine comp_den (K := K) (us.map rmD) (by rw [hdsl, PySem.sizeLine_eq]; omega) (fun i Hf hi sf => ⟨nV us, _, SqL.of (sf _ _ gRe), List.getElem?_eq_getElem (by rw [nV_len]; rw [hdsl] at hi; exact hi)⟩) (fun Hf sf => ⟨nV us, SqL.of (sf _ _ gRe), by rw [nV_len, hdsl]; exact Nat.le_refl _⟩) (fun i e x Hf Hf' N he sf y' hN => ?_) (fun D2 vs2 Hf sf hD2 hden2 => ?_)
    · obtain ⟨e1, e2⟩ := y'
      subst e1
      obtain ⟨z, hz, rfl⟩ := dat he
      have hx := e2 _ (SqL.of (sf _ _ gRe))
      rw [nV_get hz] at hx
      have hx := Option.some.inj hx
      subst hx
      refine ⟨_, rfl, Nat.zero_le _, fun o1 ho1 => ?_⟩
      have v1 := (Same.refl Hf').new (o := .lst []) ho1
      have go1 : (upd Hf' o1 (.lst [])) o1 = some (.lst []) := upd_same
      generalize upd Hf' o1 (.lst []) = Hg at v1 go1 ⊢
      refine ⟨by show 4 ≤ sizeLine; decide, fun t ht => hN _ _ (v1.new ht) ?_⟩
      exact .tup (SqT.of upd_same) (.cons (.int _) (.cons (.int _) (.cons .non (.cons (.lst (SqL.of (by rw [upd_ne (ne_of_none go1 ht)]; exact go1)) .nil) .nil))))
    have sD2 := (Same.refl Hf).new (o := .lst vs2) hD2
    refine eqS (d := .list (us.map rmD)) (.lst (SqL.of (sD2 _ _ (sf _ _ gD1))) (Dens.same (sf.trans sD2) hd1)) (.lst (SqL.of upd_same) (Dens.same sD2 hden2)) ?_ (q _ (sHb.trans (sD1.trans (sf.trans sD2))))
    refine (shp_list (m := 2) fun e he => ?_).le (by decide)
    obtain ⟨z, _, rfl⟩ := List.mem_map.mp he
    refine shp_tuple (m := 1) fun e he => ?_
    simp only [List.mem_cons, List.not_mem_nil, or_false] at he
    rcases he with rfl | rfl | rfl | rfl
    · exact (shp_int _).le (by decide)
    · exact (shp_int _).le (by decide)
    · exact shp_none.le (by decide)
    · exact shp_list (m := 0) fun e he => by cases he
end
end K46
namespace K46
open PySem L2
def sD : V → PyData
  | .bl b => .bool b
  | .int i => .int i
  | _ => .none
inductive BI : V → Prop
  | bl (b : Bool) : BI (.bl b)
  | int (i : Int) : BI (.int i)
theorem dens_sD {K : PySem.W.Frag} {H : Hp} : ∀ {vs : List V}, (∀ v ∈ vs, BI v) → Dens K H vs (vs.map sD)
  | [], _ => .nil
  | v :: vs, h => .cons (by cases h v List.mem_cons_self with | bl b => exact .bl b | int i => exact .int i) (dens_sD fun x hx => h x (List.mem_cons_of_mem _ hx))
theorem den_sD {K : PySem.W.Frag} {H : Hp} {R : Addr} {vs : List V} (g : H R = some (.lst vs)) (h : ∀ v ∈ vs, BI v) : Den K H (.ref R) (.list (vs.map sD)) := .lst (SqL.of g) (dens_sD h)
theorem shp_sD {vs : List V} (h : ∀ v ∈ vs, BI v) : Shp (.list (vs.map sD)) 64 := (shp_list (m := 0) fun e he => by
  obtain ⟨v, hv, rfl⟩ := List.mem_map.mp he
  cases h v hv with
  | bl b => exact shp_bool b
  | int i => exact shp_int i).le (by decide)
theorem bi5 {a b c d e : Bool} : ∀ v ∈ [V.bl a, .bl b, .bl c, .bl d, .bl e], BI v := fun v hv => by
  simp only [List.mem_cons, List.not_mem_nil, or_false] at hv
  rcases hv with rfl | rfl | rfl | rfl | rfl <;> exact .bl _
theorem bi6 {a b c d : Bool} {x y : Int} : ∀ v ∈ [V.bl a, .bl b, .bl c, .bl d, .int x, .int y], BI v := fun v hv => by
  simp only [List.mem_cons, List.not_mem_nil, or_false] at hv
  rcases hv with rfl | rfl | rfl | rfl | rfl | rfl
  · exact .bl _
  · exact .bl _
  · exact .bl _
  · exact .bl _
  · exact .int _
  · exact .int _
theorem due_place1 {n m : Nat} {wy : Wf} {sv gv lv wv : V} (h : okv sv 0 ((n : Int) - 1) = false) : pdue n wy m sv gv lv wv = .place := by
  unfold pdue
  rw [h, Bool.false_and, if_pos rfl]
theorem due_place2 {n m : Nat} {wy : Wf} {sv gv lv wv : V} (h : okv gv 0 ((n : Int) - 1) = false) : pdue n wy m sv gv lv wv = .place := by
  unfold pdue
  rw [h, Bool.and_false, if_pos rfl]
theorem okv_in {n a : Nat} (h : a < n) : okv (.int (a : Int)) 0 ((n : Int) - 1) = true := decide_eq_true ⟨by omega, by omega⟩
theorem due_length {n m a b : Nat} {wy : Wf} {lv wv : V} (ha : a < n) (hb : b < n) (h : okv lv 1 60 = false) : pdue n wy m (.int (a : Int)) (.int (b : Int)) lv wv = .length := by
  unfold pdue
  rw [okv_in ha, okv_in hb, if_neg (by decide), h, if_pos rfl]
theorem due_word {n m a b : Nat} {wy : Wf} {lv wv : V} (ha : a < n) (hb : b < n) (hl : okv lv 1 60 = true) (h : okW wv = false) : pdue n wy m (.int (a : Int)) (.int (b : Int)) lv wv = .word := by
  unfold pdue
  rw [okv_in ha, okv_in hb, if_neg (by decide), hl, if_neg (by decide), h, if_pos rfl]
theorem due_way {n m a b : Nat} {wy : Wf} {lv wv : V} (ha : a < n) (hb : b < n) (hl : okv lv 1 60 = true) (hw : okW wv = true) (h : a = b ∨ wy a b none = []) : pdue n wy m (.int (a : Int)) (.int (b : Int)) lv wv = .way := by
  unfold pdue
  rw [okv_in ha, okv_in hb, if_neg (by decide), hl, if_neg (by decide), hw, if_neg (by decide), if_pos]
  show (a : Int) = (b : Int) ∨ wy ((a : Int)).toNat ((b : Int)).toNat none = []
  rw [Int.toNat_natCast, Int.toNat_natCast]
  exact h.imp (fun z => by rw [z]) id
theorem due_full {n m a b : Nat} {wy : Wf} {lv wv : V} (ha : a < n) (hb : b < n) (hl : okv lv 1 60 = true) (hw : okW wv = true) (h : ¬ (a = b ∨ wy a b none = [])) : pdue n wy m (.int (a : Int)) (.int (b : Int)) lv wv = if 60 ≤ m then .full else .good := by
  unfold pdue
  rw [okv_in ha, okv_in hb, if_neg (by decide), hl, if_neg (by decide), hw, if_neg (by decide), if_neg]
  show ¬ ((a : Int) = (b : Int) ∨ wy ((a : Int)).toNat ((b : Int)).toNat none = [])
  rw [Int.toNat_natCast, Int.toNat_natCast]
  exact fun z => h (z.imp (fun z => by omega) id)
theorem okW_big {i : Int} (h : 10 ^ (60 : Int).toNat ≤ i ∨ i ≤ -10 ^ (60 : Int).toNat) : okW (.int i) = false := by
  have p60 : (0 : Int) < 10 ^ (60 : Int).toNat := by decide +kernel
  show decide ((if i < 0 then -i else i) < 10 ^ (60 : Int).toNat) = false
  generalize (10 : Int) ^ (60 : Int).toNat = B at h p60 ⊢
  refine decide_eq_false ?_
  split <;> omega
def spBad (K : PySem.W.Frag) (c : Cs) (TC : Addr) (J : TJ) (ys : Ys) : Sp := fun vs H Q _ => ∃ (y dy tb ro la le li dn lx ldx lt : Addr) (n : Nat) (tvs : List V) (ps : List (Int × Int)) (wy : Wf) (s : YS) (a b : Nat) (d : Int), vs = [.ref y, .int n, .int a, .int b, .int d] ∧ YardAt K ys H y dy tb ro la le li dn s ∧ TbIn c TC J H tb lx ldx lt n tvs ps wy ∧ a < n ∧ b < n ∧ s.letters.length ≤ 900 ∧ s.done.length ≤ 10000 ∧ ∀ H', Same H H' → Q (.bl true) H'
abbrev PBd : List Str := ["_law_yard", "_law_places", "_law_start", "_law_goal", "_law_cell"]
abbrev NBd : List Str := ["_law_yard", "_law_places", "_law_start", "_law_goal", "_law_cell", "_law_far", "_law_lengths", "_law_words", "_law_length", "_law_word", "_law_place"]
section
variable {P : Program} {w : World} {K : PySem.W.Frag} {mg : Str → Option Value} {base : Heap}
theorem scBd : FnScope NBd PBd (defScope sBad) := ⟨rfl, rfl, rfl, by decide +kernel, rfl, by decide +kernel, by decide +kernel⟩
theorem ok_bad {c : Cs} {ys : Ys} {J : TJ} {TC f fr : Addr} {fd dr : FuncData} (F : Fun K "_law_bad" "_law_bad" sBad f fd) (W' : ∃ fw2 dw2, Wy K TC fw2 dw2 J)
    (mr : mg "_law_refused" = some (.ref fr)) (kr : PySem.W.keepIn K (.ref fr) = true) (br : Binds K dr PRe []) (GR : FnOk P w K mg base CX0 5 fr dr PRe (spRefu K c TC J ys)) :
    FnOk P w K mg base CX0 6 f fd PBd (spBad K c TC J ys) := by
  obtain ⟨fw2, dw2, W⟩ := W'
  refine F.ok scBd (fun vs H Q E h => ?_) (fun cdv A outer s H vs Q E hr h => ?_)
  · obtain ⟨y, dy, tb, ro, la, le, li, dn, lx, ldx, lt, n, tvs, ps, wy, st, a, b, d, rfl, _⟩ := h
    rfl
  · obtain ⟨y, dy, tb, ro, la, le, li, dn, lx, ldx, lt, n, tvs, ps, wy, st, a, b, d, rfl, hY, hT, ha, hb, hl9, hd9, q⟩ := h
    have hu := hr.units
    refine ⟨_, pss_cons (ps_set (i := 5) scBd.nd rfl (Or.inl rfl) (pe_op op_add (pv 1) (pe_op op_mod (pv 4) (pe_op op_pow pe_int pe_int))))
      (pss_cons (ps_set (i := 6) scBd.nd rfl (Or.inl rfl) (pe_lst (pa_cons pe_int (pa_cons (pe_un un_neg (pv 5)) (pa_cons pe_int (pa_cons (pe_op op_add pe_int (pv 5)) (pa_cons pe_bl pa_nil)))))))
      (pss_cons (ps_set (i := 7) scBd.nd rfl (Or.inl rfl) (pe_lst (pa_cons (pe_op op_pow pe_int pe_int) (pa_cons (pe_op op_sub (pe_un un_neg (pe_op op_pow pe_int pe_int)) (pv 5)) (pa_cons pe_bl pa_nil)))))
      (pss_cons (ps_set (i := 8) scBd.nd rfl (Or.inl rfl) (pe_ix ix_list (pv 6) (pe_op op_mod (pv 4) pe_int) (fun _ _ => rfl)))
      (pss_cons (ps_set (i := 9) scBd.nd rfl (Or.inl rfl) (pe_ix ix_list (pv 7) (pe_op op_mod (pe_op op_fdiv (pv 4) pe_int) pe_int) (fun _ _ => rfl)))
      (pss_cons (ps_for PassesOwn.never rfl (pi_list (pe_lst (pa_cons (pv 5) (pa_cons (pe_op op_sub (pe_un un_neg pe_int) (pe_op op_mod (pv 4) (pe_op op_pow pe_int pe_int))) pa_nil)))) (pg_name (i := 10) scBd.nd rfl (Or.inl rfl))
        (pss_cons (ps_if (pt_cmpR (op_neD hu) (pe_call GR hr rfl mr kr br .nil pass0 (pa_cons (pv 0) (pa_cons (pv 10) (pa_cons (pv 3) (pa_cons (pv 8) (pa_cons (pv 9) pa_nil)))))) (pe_lst (pa_cons pe_bl (pa_cons pe_bl (pa_cons pe_bl (pa_cons pe_bl (pa_cons pe_bl pa_nil)))))) (nomark _)) (pss_one (ps_ret pe_bl)) pss_nil)
        (pss_one (ps_if (pt_cmpR (op_neD hu) (pe_call GR hr rfl mr kr br .nil pass0 (pa_cons (pv 0) (pa_cons (pv 2) (pa_cons (pv 10) (pa_cons pe_int (pa_cons (pv 9) pa_nil)))))) (pe_lst (pa_cons pe_bl (pa_cons pe_bl (pa_cons pe_bl (pa_cons pe_bl (pa_cons pe_bl pa_nil)))))) (nomark _)) (pss_one (ps_ret pe_bl)) pss_nil))))
      (pss_cons (ps_if (pt_cmpR (op_neD hu) (pe_call GR hr rfl mr kr br .nil pass0 (pa_cons (pv 0) (pa_cons (pv 2) (pa_cons (pv 2) (pa_cons (pv 8) (pa_cons (pv 9) pa_nil)))))) (pe_lst (pa_cons pe_bl (pa_cons pe_bl (pa_cons pe_bl (pa_cons pe_bl (pa_cons pe_bl pa_nil)))))) (nomark _)) (pss_one (ps_ret pe_bl)) pss_nil)
      (pss_cons (ps_if (pt_cmpR (op_neD hu) (pe_call GR hr rfl mr kr br .nil pass0 (pa_cons (pv 0) (pa_cons (pv 2) (pa_cons (pv 2) (pa_cons (pe_op op_add pe_int (pe_op op_mod (pv 4) pe_int)) (pa_cons (pv 9) pa_nil)))))) (pe_lst (pa_cons pe_bl (pa_cons pe_bl (pa_cons pe_bl (pa_cons pe_bl (pa_cons pe_bl pa_nil)))))) (nomark _)) (pss_one (ps_ret pe_bl)) pss_nil)
      (pss_one (ps_ret (pe_cmpR (op_eqD hu) (pe_call GR hr rfl mr kr br .nil pass0 (pa_cons (pv 0) (pa_cons (pv 2) (pa_cons (pv 2) (pa_cons pe_int (pa_cons (pe_op op_mod (pv 4) (pe_op op_pow pe_int pe_int)) pa_nil)))))) (pe_lst (pa_cons pe_bl (pa_cons pe_bl (pa_cons pe_bl (pa_cons pe_bl (pa_cons (pv 2) (pa_cons (pv 2) pa_nil))))))) (nomark _))))))))))), ?_⟩
    have p40 : (0 : Int) < 10 ^ (40 : Int).toNat := by decide +kernel
    have p60 : (0 : Int) < 10 ^ (60 : Int).toNat := by decide +kernel
    have cp : CPow 10 40 ∧ CPow 10 60 := ⟨⟨by decide, by decide, by decide⟩, ⟨by decide, by decide, by decide⟩⟩
    refine ⟨_, rfl, _, rfl, _, _, rfl, rfl, cp.1, _, _, rfl, rfl, p40, _, _, rfl, rfl, ?_⟩
    have h0 := Int.emod_nonneg d (show (10 : Int) ^ (40 : Int).toNat ≠ 0 by decide +kernel)
    show gName 5 (V.int ((n : Int) + d % 10 ^ (40 : Int).toNat)) _ _ _
    obtain ⟨far, hfar, hfn⟩ : ∃ far : Int, (n : Int) + d % 10 ^ (40 : Int).toNat = far ∧ (n : Int) ≤ far := ⟨_, rfl, by omega⟩
    rw [hfar]
    clear hfar
    refine ⟨_, rfl, _, rfl, _, rfl, _, _, rfl, rfl, by show 5 ≤ sizeLine; decide, fun Ls hLs => ?_⟩
    have s1 := (Same.refl H).new (o := .lst [.int 0, .int (-far), .int 61, .int (61 + far), .bl true]) hLs
    have gL : (upd H Ls (.lst [.int 0, .int (-far), .int 61, .int (61 + far), .bl true])) Ls = some (.lst [.int 0, .int (-far), .int 61, .int (61 + far), .bl true]) := upd_same
    show gName 6 (V.ref Ls) _ (upd H Ls (.lst [.int 0, .int (-far), .int 61, .int (61 + far), .bl true])) _
    generalize upd H Ls (.lst [.int 0, .int (-far), .int 61, .int (61 + far), .bl true]) = H1 at s1 gL ⊢
    refine ⟨_, _, rfl, rfl, cp.2, _, _, rfl, rfl, cp.2, _, rfl, _, rfl, _, _, rfl, rfl, by show 3 ≤ sizeLine; decide, fun Ws hWs => ?_⟩
    have s2 := s1.new (o := .lst [.int (10 ^ (60 : Int).toNat), .int (-10 ^ (60 : Int).toNat - far), .bl true]) hWs
    have gW : (upd H1 Ws (.lst [.int (10 ^ (60 : Int).toNat), .int (-10 ^ (60 : Int).toNat - far), .bl true])) Ws = some (.lst [.int (10 ^ (60 : Int).toNat), .int (-10 ^ (60 : Int).toNat - far), .bl true]) := upd_same
    have gL2 : (upd H1 Ws (.lst [.int (10 ^ (60 : Int).toNat), .int (-10 ^ (60 : Int).toNat - far), .bl true])) Ls = some (.lst [.int 0, .int (-far), .int 61, .int (61 + far), .bl true]) := by rw [upd_ne (ne_of_none gL hWs)]; exact gL
    show gName 7 (V.ref Ws) _ (upd H1 Ws (.lst [.int (10 ^ (60 : Int).toNat), .int (-10 ^ (60 : Int).toNat - far), .bl true])) _
    generalize upd H1 Ws (.lst [.int (10 ^ (60 : Int).toNat), .int (-10 ^ (60 : Int).toNat - far), .bl true]) = H2 at s2 gW gL2 ⊢
    obtain ⟨lv, hlv, clv, olv⟩ : ∃ lv, atI [V.int 0, .int (-far), .int 61, .int (61 + far), .bl true] (d % 5) = some lv ∧ Sca lv ∧ okv lv 1 60 = false := by
      rcases (show d % 5 = 0 ∨ d % 5 = 1 ∨ d % 5 = 2 ∨ d % 5 = 3 ∨ d % 5 = 4 by omega) with e | e | e | e | e <;> rw [e]
      · exact ⟨_, rfl, .int _, rfl⟩
      · exact ⟨_, rfl, .int _, decide_eq_false (by omega)⟩
      · exact ⟨_, rfl, .int _, rfl⟩
      · exact ⟨_, rfl, .int _, decide_eq_false (by omega)⟩
      · exact ⟨_, rfl, .bl _, rfl⟩
    obtain ⟨wv, hwv, cwv, owv⟩ : ∃ wv, atI [V.int (10 ^ (60 : Int).toNat), .int (-10 ^ (60 : Int).toNat - far), .bl true] (d / 5 % 3) = some wv ∧ Sca wv ∧ okW wv = false := by
      rcases (show d / 5 % 3 = 0 ∨ d / 5 % 3 = 1 ∨ d / 5 % 3 = 2 by omega) with e | e | e <;> rw [e]
      · exact ⟨_, rfl, .int _, okW_big (.inl (Int.le_refl _))⟩
      · exact ⟨_, rfl, .int _, okW_big (.inr (by omega))⟩
      · exact ⟨_, rfl, .bl _, rfl⟩
    refine ⟨_, rfl, _, rfl, _, _, rfl, rfl, (by show (0 : Int) < 5; decide), Ls, _, _, lv, rfl, rfl, SqL.of gL2, hlv, ?_⟩
    refine ⟨_, rfl, _, rfl, _, _, rfl, rfl, ⟨by decide, by decide⟩, _, _, rfl, rfl, (by show (0 : Int) < 3; decide), Ws, _, _, wv, rfl, rfl, SqL.of gW, hwv, ?_⟩
    refine ⟨_, rfl, _, rfl, _, rfl, _, _, rfl, rfl, cp.1, _, _, rfl, rfl, p40, _, _, rfl, rfl, by show 2 ≤ sizeLine; decide, fun Pl hPl => ?_⟩
    have s3 := s2.new (o := .lst [.int far, .int (-1 - d % 10 ^ (40 : Int).toNat)]) hPl
    have gP : (upd H2 Pl (.lst [.int far, .int (-1 - d % 10 ^ (40 : Int).toNat)])) Pl = some (.lst [.int far, .int (-1 - d % 10 ^ (40 : Int).toNat)]) := upd_same
    have hbad : ∀ v ∈ [V.int far, .int (-1 - d % 10 ^ (40 : Int).toNat)], Sca v ∧ okv v 0 ((n : Int) - 1) = false := by
      intro v hv
      simp only [List.mem_cons, List.not_mem_nil, or_false] at hv
      rcases hv with rfl | rfl
      · exact ⟨.int _, decide_eq_false (by omega)⟩
      · exact ⟨.int _, decide_eq_false (by omega)⟩
    refine ⟨Pl, rfl, ⟨_, SqL.of gP⟩, ?_⟩
    generalize [V.int far, .int (-1 - d % 10 ^ (40 : Int).toNat)] = xs at s3 gP hbad ⊢
    refine for_list (K := K) (a := Pl) (xs := xs) (fun i σ H5 => ∃ a10 : Option V, Same H H5 ∧ H5 Pl = some (.lst xs) ∧ σ = [some (.ref y), some (.int n), some (.int a), some (.int b), some (.int d), some (.int far), some (.ref Ls), some (.ref Ws), some lv, some wv, a10])
      ⟨none, s3, gP, rfl⟩ (fun i σ H5 _ ⟨_, _, g, _⟩ => SqL.of g) ?_ ?_
    · rintro i v σ H5 hv ⟨a10, s5, gP5, rfl⟩
      obtain ⟨csv, osv⟩ := hbad v (List.mem_of_getElem? hv)
      have du1 := due_place1 (n := n) (wy := wy) (m := st.letters.length) (gv := .int (b : Int)) (lv := lv) (wv := wv) osv
      refine ⟨_, rfl, _, rfl, _, rfl, _, rfl, _, rfl, y, dy, tb, ro, la, le, li, dn, lx, ldx, lt, n, tvs, ps, wy, st, v, .int (b : Int), lv, wv, rfl, hY.same s5, hT.keep W (Same.keepN s5), csv, .int _, clv, cwv, hl9, hd9, (by rw [du1]; intro z; cases z), fun R1 H6 s6 gR1 => ?_⟩
      rw [du1] at gR1
      refine ⟨by show 5 ≤ sizeLine; decide, fun o1 ho1 => ?_⟩
      have u1 := (Same.refl H6).new (o := .lst [.bl true, .bl true, .bl false, .bl false, .bl false]) ho1
      refine neS (den_sD (u1 _ _ gR1) bi5) (den_sD upd_same bi5) (shp_sD bi5) ⟨_, rfl, iteF ?_⟩
      generalize upd H6 o1 (.lst [.bl true, .bl true, .bl false, .bl false, .bl false]) = H7 at u1 ⊢
      have s7 := s5.trans (s6.trans u1)
      have du2 := due_place2 (n := n) (wy := wy) (m := st.letters.length) (sv := .int (a : Int)) (lv := .int 1) (wv := wv) osv
      refine ⟨_, rfl, _, rfl, _, rfl, _, rfl, y, dy, tb, ro, la, le, li, dn, lx, ldx, lt, n, tvs, ps, wy, st, .int (a : Int), v, .int 1, wv, rfl, hY.same s7, hT.keep W (Same.keepN s7), .int _, csv, .int _, cwv, hl9, hd9, (by rw [du2]; intro z; cases z), fun R2 H8 s8 gR2 => ?_⟩
      rw [du2] at gR2
      refine ⟨by show 5 ≤ sizeLine; decide, fun o2 ho2 => ?_⟩
      have u2 := (Same.refl H8).new (o := .lst [.bl true, .bl true, .bl false, .bl false, .bl false]) ho2
      refine neS (den_sD (u2 _ _ gR2) bi5) (den_sD upd_same bi5) (shp_sD bi5) ⟨_, rfl, iteF ?_⟩
      exact ⟨_, s7.trans (s8.trans u2), (s6.trans (u1.trans (s8.trans u2))) _ _ gP5, rfl⟩
    rintro σ H5 ⟨a10, s5, _, rfl⟩
    have du3 := due_length (wy := wy) (m := st.letters.length) (wv := wv) ha ha olv
    refine ⟨_, rfl, _, rfl, _, rfl, _, rfl, _, rfl, y, dy, tb, ro, la, le, li, dn, lx, ldx, lt, n, tvs, ps, wy, st, .int (a : Int), .int (a : Int), lv, wv, rfl, hY.same s5, hT.keep W (Same.keepN s5), .int _, .int _, clv, cwv, hl9, hd9, (by rw [du3]; intro z; cases z), fun R3 H6 s6 gR3 => ?_⟩
    rw [du3] at gR3
    refine ⟨by show 5 ≤ sizeLine; decide, fun o3 ho3 => ?_⟩
    have u3 := (Same.refl H6).new (o := .lst [.bl true, .bl false, .bl true, .bl false, .bl false]) ho3
    refine neS (den_sD (u3 _ _ gR3) bi5) (den_sD upd_same bi5) (shp_sD bi5) ⟨_, rfl, iteF ?_⟩
    generalize upd H6 o3 (.lst [.bl true, .bl false, .bl true, .bl false, .bl false]) = H7 at u3 ⊢
    have s7 := s5.trans (s6.trans u3)
    have hl60 : okv (.int (1 + d % 60)) 1 60 = true := decide_eq_true ⟨by omega, by omega⟩
    have du4 := due_word (wy := wy) (m := st.letters.length) ha ha hl60 owv
    refine ⟨_, rfl, _, rfl, _, rfl, _, rfl, _, _, rfl, rfl, (by show (0 : Int) < 60; decide), _, _, rfl, rfl, _, rfl, y, dy, tb, ro, la, le, li, dn, lx, ldx, lt, n, tvs, ps, wy, st, .int (a : Int), .int (a : Int), .int (1 + d % 60), wv, rfl, hY.same s7, hT.keep W (Same.keepN s7), .int _, .int _, .int _, cwv, hl9, hd9, (by rw [du4]; intro z; cases z), fun R4 H8 s8 gR4 => ?_⟩
    rw [du4] at gR4
    refine ⟨by show 5 ≤ sizeLine; decide, fun o4 ho4 => ?_⟩
    have u4 := (Same.refl H8).new (o := .lst [.bl true, .bl false, .bl false, .bl true, .bl false]) ho4
    refine neS (den_sD (u4 _ _ gR4) bi5) (den_sD upd_same bi5) (shp_sD bi5) ⟨_, rfl, iteF ?_⟩
    generalize upd H8 o4 (.lst [.bl true, .bl false, .bl false, .bl true, .bl false]) = H9 at u4 ⊢
    have s9 := s7.trans (s8.trans u4)
    have hw60 : okW (.int (d % 10 ^ (60 : Int).toNat)) = true := by
      have h1 := Int.emod_nonneg d (show (10 : Int) ^ (60 : Int).toNat ≠ 0 by decide +kernel)
      have h2 := Int.emod_lt_of_pos d p60
      exact decide_eq_true (by split <;> omega)
    have du5 := due_way (wy := wy) (m := st.letters.length) (lv := .int 60) ha ha rfl hw60 (.inl rfl)
    refine ⟨_, rfl, _, rfl, _, rfl, _, rfl, _, _, rfl, rfl, cp.2, _, _, rfl, rfl, p60, y, dy, tb, ro, la, le, li, dn, lx, ldx, lt, n, tvs, ps, wy, st, .int (a : Int), .int (a : Int), .int 60, .int (d % 10 ^ (60 : Int).toNat), rfl, hY.same s9, hT.keep W (Same.keepN s9), .int _, .int _, .int _, .int _, hl9, hd9, (by rw [du5]; intro z; cases z), fun R5 Ha sa gR5 => ?_⟩
    rw [du5] at gR5
    refine ⟨_, rfl, _, rfl, by show 6 ≤ sizeLine; decide, fun o5 ho5 => ?_⟩
    have u5 := (Same.refl Ha).new (o := .lst [.bl true, .bl false, .bl false, .bl false, .int (a : Int), .int (a : Int)]) ho5
    exact eqS (den_sD (u5 _ _ gR5) bi6) (den_sD upd_same bi6) (shp_sD bi6) (q _ (s9.trans (sa.trans u5)))
end
end K46
namespace K46
open PySem L2
def pst (st : YS) (a b d : Int) : Nat → YS
  | 0 => st
  | k + 1 => postS (pst st a b d k) a b (1 + (d + (k : Int)) % 60) ((k : Int) - d % 10 ^ (59 : Int).toNat)
theorem pst_len (st : YS) (a b d : Int) : ∀ k, (pst st a b d k).letters.length = st.letters.length + k ∧ (pst st a b d k).done.length = st.done.length + k
  | 0 => ⟨rfl, rfl⟩
  | k + 1 => by
    obtain ⟨h1, h2⟩ := pst_len st a b d k
    unfold pst postS
    dsimp only
    rw [List.length_append, List.length_append, h1, h2]
    exact ⟨rfl, rfl⟩
theorem pst_at {st : YS} (h : st.letters = []) (a b d : Int) (k : Nat) : (pst st a b d (k + 1)).letters[k]? = some ⟨a, b, 1 + (d + (k : Int)) % 60, (k : Int) - d % 10 ^ (59 : Int).toNat, 0, []⟩ := by
  have h1 := (pst_len st a b d k).1
  rw [h] at h1
  have h1 : (pst st a b d k).letters.length = k := by simpa using h1
  unfold pst postS
  dsimp only
  rw [List.getElem?_append_right (by omega), h1, Nat.sub_self]; rfl
def spFull (K : PySem.W.Frag) (c : Cs) (TC : Addr) (J : TJ) (ys : Ys) : Sp := fun vs H Q _ => ∃ (y dy tb ro la le li dn lx ldx lt : Addr) (n : Nat) (tvs : List V) (ps : List (Int × Int)) (wy : Wf) (s : YS) (a b : Nat) (d : Int), vs = [.ref y, .int a, .int b, .int d] ∧ YardAt K ys H y dy tb ro la le li dn s ∧ TbIn c TC J H tb lx ldx lt n tvs ps wy ∧ a < n ∧ b < n ∧ a ≠ b ∧ wy a b none ≠ [] ∧ s.letters = [] ∧ s.done.length ≤ 9000 ∧ ∀ H', Q (.bl true) H'
abbrev PFu : List Str := ["_law_yard", "_law_start", "_law_goal", "_law_cell"]
abbrev NFu : List Str := ["_law_yard", "_law_start", "_law_goal", "_law_cell", "_law_k", "_law_due", "_law_far"]
section
variable {P : Program} {w : World} {K : PySem.W.Frag} {mg : Str → Option Value} {base : Heap}
theorem scFu : FnScope NFu PFu (defScope sFull) := ⟨rfl, rfl, rfl, by decide +kernel, rfl, by decide +kernel, by decide +kernel⟩
theorem ok_full {c : Cs} {ys : Ys} {x : Xs} {J : TJ} {TC f fr fp ft fwt fpd : Addr} {fd dr dp dt dwt dpd : FuncData} (F : Fun K "_law_full" "_law_full" sFull f fd) (T : Txt mg) (L : Lnd K c) (Y : Yrd K ys) (W' : ∃ fw2 dw2, Wy K TC fw2 dw2 J)
    (mr : mg "_law_refused" = some (.ref fr)) (kr : PySem.W.keepIn K (.ref fr) = true) (br : Binds K dr PRe []) (GR : FnOk P w K mg base CX0 5 fr dr PRe (spRefu K c TC J ys))
    (Mp : Meth K ys.yard "post" fp) (bp : Binds K dp PPo []) (Gp : FnOk P w K mg base (CXe P w) 4 fp dp PPo (spPost K c TC J ys x))
    (Mt : Meth K ys.yard "letter_told" ft) (bt : Binds K dt ["self", "number"] []) (Gt : FnOk P w K mg base CX0 1 ft dt ["self", "number"] (spLetT K ys))
    (Mw : Meth K ys.yard "way_told" fwt) (bw : Binds K dwt ["self", "number"] []) (Gw : FnOk P w K mg base CX0 1 fwt dwt ["self", "number"] (spWayT K ys))
    (Md : Meth K ys.yard "posted" fpd) (bd : Binds K dpd ["self"] []) (Gd : FnOk P w K mg base CX0 1 fpd dpd ["self"] (spPosted K ys)) :
    FnOk P w K mg base CX0 6 f fd PFu (spFull K c TC J ys) := by
  obtain ⟨fw2, dw2, W⟩ := W'
  refine F.ok scFu (fun vs H Q E h => ?_) (fun cdv A outer s H vs Q E hr h => ?_)
  · obtain ⟨y, dy, tb, ro, la, le, li, dn, lx, ldx, lt, n, tvs, ps, wy, st, a, b, d, rfl, _⟩ := h
    rfl
  · obtain ⟨y, dy, tb, ro, la, le, li, dn, lx, ldx, lt, n, tvs, ps, wy, st, a, b, d, rfl, hY, hT, ha, hb, hab, hwy, hl0, hd9, q⟩ := h
    have hu := hr.units
    have hr1 : Room 1 _ := hr.mono (by decide)
    have hr4 : Room 4 _ := hr.mono (by decide)
    refine ⟨_, pss_cons (ps_for PassesOwn.never rfl (pi_range1 rfl T.range (pa_cons pe_int pa_nil)) (pg_name (i := 4) scFu.nd rfl (Or.inl rfl))
        (pss_cons (ps_if (pt_cmpR op_ne (pe_meth (pv 0) Y.cl Mp Gp hr4 bp .nil passE0 (pa_cons (pv 1) (pa_cons (pv 2) (pa_cons (pe_op op_add pe_int (pe_op op_mod (pe_op op_add (pv 3) (pv 4)) pe_int)) (pa_cons (pe_op op_sub (pv 4) (pe_op op_mod (pv 3) (pe_op op_pow pe_int pe_int))) pa_nil))))) (pv 4) (nomark _)) (pss_one (ps_ret pe_bl)) pss_nil)
        (pss_cons (ps_set (i := 5) scFu.nd rfl (Or.inl rfl) (pe_tup (pa_cons (pv 1) (pa_cons (pv 2) (pa_cons (pe_op op_add pe_int (pe_op op_mod (pe_op op_add (pv 3) (pv 4)) pe_int)) (pa_cons (pe_op op_sub (pv 4) (pe_op op_mod (pv 3) (pe_op op_pow pe_int pe_int))) pa_nil))))))
        (pss_one (ps_if (PW.pt (pw_or (pt_cmpR (op_neD hu) (pe_meth (pv 0) Y.cl Mt Gt hr1 bt .nil pass0 (pa_cons (pv 4) pa_nil)) (pv 5) (nomark _)) (pw_or1 (pt_cmpR (op_neI hu) (pe_meth (pv 0) Y.cl Mw Gw hr1 bw .nil pass0 (pa_cons (pv 4) pa_nil)) (pe_lst pa_nil) (nomark _))))) (pss_one (ps_ret pe_bl)) pss_nil)))))
      (pss_cons (ps_if (PW.pt (pw_or (pt_cmpR (op_neD hu) (pe_call GR hr rfl mr kr br .nil pass0 (pa_cons (pv 0) (pa_cons (pv 1) (pa_cons (pv 2) (pa_cons pe_int (pa_cons pe_int pa_nil)))))) (pe_lst (pa_cons pe_bl (pa_cons pe_bl (pa_cons pe_bl (pa_cons pe_bl (pa_cons pe_bl pa_nil)))))) (nomark _)) (pw_or1 (pt_cmpR op_ne (pe_meth0 (pv 0) Y.cl Md Gd hr1 bd .nil pass0) pe_int (nomark _))))) (pss_one (ps_ret pe_bl)) pss_nil)
      (pss_cons (ps_set (i := 6) scFu.nd rfl (Or.inl rfl) (pe_op op_add (pe_op op_add (pe_callB call_len_seq rfl T.len PySem.boot_len (pa_cons (pe_fld (pe_fld (pe_fld (pv 0) rfl) rfl) rfl) pa_nil)) pe_int) (pe_op op_mod (pv 3) (pe_op op_pow pe_int pe_int))))
      (pss_cons (ps_if (pt_cmpR (op_neD hu) (pe_call GR hr rfl mr kr br .nil pass0 (pa_cons (pv 0) (pa_cons (pv 6) (pa_cons (pv 2) (pa_cons pe_int (pa_cons pe_int pa_nil)))))) (pe_lst (pa_cons pe_bl (pa_cons pe_bl (pa_cons pe_bl (pa_cons pe_bl (pa_cons pe_bl pa_nil)))))) (nomark _)) (pss_one (ps_ret pe_bl)) pss_nil)
      (pss_cons (ps_if (pt_cmpR (op_neD hu) (pe_call GR hr rfl mr kr br .nil pass0 (pa_cons (pv 0) (pa_cons (pv 1) (pa_cons (pv 2) (pa_cons pe_int (pa_cons (pe_op op_pow pe_int pe_int) pa_nil)))))) (pe_lst (pa_cons pe_bl (pa_cons pe_bl (pa_cons pe_bl (pa_cons pe_bl (pa_cons pe_bl pa_nil)))))) (nomark _)) (pss_one (ps_ret pe_bl)) pss_nil)
      (pss_cons (ps_if (pt_cmpR (op_neD hu) (pe_call GR hr rfl mr kr br .nil pass0 (pa_cons (pv 0) (pa_cons (pv 1) (pa_cons (pv 2) (pa_cons pe_int (pa_cons (pe_op op_pow pe_int pe_int) pa_nil)))))) (pe_lst (pa_cons pe_bl (pa_cons pe_bl (pa_cons pe_bl (pa_cons pe_bl (pa_cons pe_bl pa_nil)))))) (nomark _)) (pss_one (ps_ret pe_bl)) pss_nil)
      (pss_one (ps_ret (pe_cmpR (op_eqD hu) (pe_call GR hr rfl mr kr br .nil pass0 (pa_cons (pv 0) (pa_cons (pv 2) (pa_cons (pv 2) (pa_cons pe_int (pa_cons pe_int pa_nil)))))) (pe_lst (pa_cons pe_bl (pa_cons pe_bl (pa_cons pe_bl (pa_cons pe_bl (pa_cons (pv 2) (pa_cons (pv 2) pa_nil))))))) (nomark _))))))))), ?_⟩
    have p59 : (0 : Int) < 10 ^ (59 : Int).toNat := by decide +kernel
    have p60 : (10 : Int) ^ (59 : Int).toNat + 60 < 10 ^ (60 : Int).toNat := by decide +kernel
    have p40 : (0 : Int) < 10 ^ (40 : Int).toNat := by decide +kernel
    have cp : CPow 10 40 ∧ CPow 10 59 ∧ CPow 10 60 := ⟨⟨by decide, by decide, by decide⟩, ⟨by decide, by decide, by decide⟩, ⟨by decide, by decide, by decide⟩⟩
    have hway : ¬ (a = b ∨ wy a b none = []) := fun z => z.elim hab hwy
    refine ⟨60, rfl, by decide, by decide, ?_⟩
    refine for_range (n := (60 : Int).toNat) (fun k σ H1 => ∃ (a4 a5 : Option V), KeepN H H1 ∧ YardAt K ys H1 y dy tb ro la le li dn (pst st (a : Int) (b : Int) d k) ∧ σ = [some (.ref y), some (.int a), some (.int b), some (.int d), a4, a5, none])
      ⟨none, none, (fun _ _ e _ => e), hY, rfl⟩ ?_ ?_
    · rintro k σ H1 hk ⟨a4, a5, k1, hY1, rfl⟩
      have hk60 : k < 60 := hk
      rw [Int.zero_add]
      obtain ⟨hll, hdl⟩ := pst_len st (a : Int) (b : Int) d k
      rw [hl0] at hll
      have hll : (pst st (a : Int) (b : Int) d k).letters.length = k := by simpa using hll
      have hT1 := hT.keep W k1
      have hlv : okv (.int (1 + (d + (k : Int)) % 60)) 1 60 = true := decide_eq_true ⟨by omega, by omega⟩
      have hwv : okW (.int ((k : Int) - d % 10 ^ (59 : Int).toNat)) = true := by
        have h1 := Int.emod_nonneg d (show (10 : Int) ^ (59 : Int).toNat ≠ 0 by decide +kernel)
        have h2 := Int.emod_lt_of_pos d p59
        show decide ((if ((k : Int) - d % 10 ^ (59 : Int).toNat) < 0 then -((k : Int) - d % 10 ^ (59 : Int).toNat) else ((k : Int) - d % 10 ^ (59 : Int).toNat)) < 10 ^ (60 : Int).toNat) = true
        generalize (10 : Int) ^ (60 : Int).toNat = B at p60 ⊢
        generalize (10 : Int) ^ (59 : Int).toNat = C at p60 h1 h2 ⊢
        exact decide_eq_true (by split <;> omega)
      have du := due_full (wy := wy) (m := (pst st (a : Int) (b : Int) d k).letters.length) ha hb hlv hwv hway
      rw [if_neg (by rw [hll]; omega)] at du
      refine ⟨_, rfl, y, dy, _, rfl, hY1.ins, rfl, _, rfl, _, rfl, _, rfl, _, rfl, _, _, rfl, rfl, _, _, rfl, rfl, (by show (0 : Int) < 60; decide), _, _, rfl, rfl, _, rfl, _, rfl, _, _, rfl, rfl, cp.2.1, _, _, rfl, rfl, p59, _, _, rfl, rfl, y, dy, tb, ro, la, le, li, dn, lx, ldx, lt, n, tvs, ps, wy, _, .int (a : Int), .int (b : Int), .int (1 + (d + (k : Int)) % 60), .int ((k : Int) - d % 10 ^ (59 : Int).toNat), rfl, hY1, hT1, .int _, .int _, .int _, .int _, by omega, by omega, (fun h => by rw [du] at h; cases h), (fun h => by rw [du] at h; cases h), (fun h => by rw [du] at h; cases h), (fun h => by rw [du] at h; cases h), (fun h => by rw [du] at h; cases h), fun _ H2 o2 hY2 => ?_⟩
      have k2 : KeepN H H2 := k1.trans (o2.keepN fun z hz => hY1.lsts z (by simp only [List.mem_cons, List.not_mem_nil, or_false] at hz ⊢; rcases hz with rfl | rfl; exact .inr (.inl rfl); exact .inr (.inr (.inr rfl))))
      have hY2 : YardAt K ys H2 y dy tb ro la le li dn (pst st (a : Int) (b : Int) d (k + 1)) := hY2
      refine ⟨_, rfl, rfl, _, rfl, ?_⟩
      rw [int_eq', hll, decide_eq_true rfl]
      refine iteF ?_
      have hat := pst_at hl0 (a : Int) (b : Int) d k
      refine ⟨_, rfl, _, rfl, _, rfl, _, rfl, _, _, rfl, rfl, _, _, rfl, rfl, (by show (0 : Int) < 60; decide), _, _, rfl, rfl, _, rfl, _, rfl, _, _, rfl, rfl, cp.2.1, _, _, rfl, rfl, p59, _, _, rfl, rfl, by show 4 ≤ sizeLine; decide, fun t1 ht1 => ?_⟩
      have s3 := (Same.refl H2).new (o := .tup [.int (a : Int), .int (b : Int), .int (1 + (d + (k : Int)) % 60), .int ((k : Int) - d % 10 ^ (59 : Int).toNat)]) ht1
      have g3 : (upd H2 t1 (.tup [.int (a : Int), .int (b : Int), .int (1 + (d + (k : Int)) % 60), .int ((k : Int) - d % 10 ^ (59 : Int).toNat)])) t1 = some (.tup [.int (a : Int), .int (b : Int), .int (1 + (d + (k : Int)) % 60), .int ((k : Int) - d % 10 ^ (59 : Int).toNat)]) := upd_same
      show gName 5 (V.ref t1) _ (upd H2 t1 (.tup [.int (a : Int), .int (b : Int), .int (1 + (d + (k : Int)) % 60), .int ((k : Int) - d % 10 ^ (59 : Int).toNat)])) _
      generalize upd H2 t1 (.tup [.int (a : Int), .int (b : Int), .int (1 + (d + (k : Int)) % 60), .int ((k : Int) - d % 10 ^ (59 : Int).toNat)]) = H3 at s3 g3 ⊢
      have hY3 := hY2.same s3
      refine ⟨_, rfl, y, dy, _, rfl, hY3.ins, rfl, _, rfl, y, dy, tb, ro, la, le, li, dn, _, k, _, rfl, hY3, hat, fun t2 H4 s4 gt2 => ?_⟩
      have dn4 : ∀ {t : Addr}, H4 t = some (.tup [.int (a : Int), .int (b : Int), .int (1 + (d + (k : Int)) % 60), .int ((k : Int) - d % 10 ^ (59 : Int).toNat)]) → Den K H4 (.ref t) (.tuple [.int (a : Int), .int (b : Int), .int (1 + (d + (k : Int)) % 60), .int ((k : Int) - d % 10 ^ (59 : Int).toNat)]) := fun h => .tup (SqT.of h) (.cons (.int _) (.cons (.int _) (.cons (.int _) (.cons (.int _) .nil))))
      have hsh : Shp (.tuple [.int (a : Int), .int (b : Int), .int (1 + (d + (k : Int)) % 60), .int ((k : Int) - d % 10 ^ (59 : Int).toNat)]) 64 := (shp_tuple (m := 0) fun e he => by
        simp only [List.mem_cons, List.not_mem_nil, or_false] at he
        rcases he with rfl | rfl | rfl | rfl <;> exact shp_int _).le (by decide)
      refine ⟨_, rfl, neS (dn4 gt2) (dn4 (s4 _ _ g3)) hsh ⟨_, rfl, iteF ?_⟩⟩
      have hY4 := hY3.same s4
      refine ⟨_, rfl, y, dy, _, rfl, hY4.ins, rfl, _, rfl, y, dy, tb, ro, la, le, li, dn, _, k, _, rfl, hY4, hat, fun t3 H5 s5 _ gt3 => ?_⟩
      refine ⟨Nat.zero_le _, fun o6 ho6 => ?_⟩
      have s6 := (Same.refl H5).new (o := .lst []) ho6
      refine ⟨t3, o6, [], [], rfl, rfl, SqL.of (s6 _ _ gt3), SqL.of upd_same, _, rfl, ?_⟩
      rw [decide_eq_true rfl]
      refine iteF ⟨_, _, k2.trans (Same.keepN (s3.trans (s4.trans (s5.trans s6)))), hY4.same (s5.trans s6), rfl⟩
    rintro σ H1 ⟨a4, a5, k1, hY1, rfl⟩
    obtain ⟨hll, hdl⟩ := pst_len st (a : Int) (b : Int) d (60 : Int).toNat
    rw [hl0] at hll
    have hll : (pst st (a : Int) (b : Int) d (60 : Int).toNat).letters.length = 60 := by simpa using hll
    have hdl : (pst st (a : Int) (b : Int) d (60 : Int).toNat).done.length = st.done.length + 60 := hdl
    generalize pst st (a : Int) (b : Int) d (60 : Int).toNat = sf at hY1 hll hdl
    have hT1 := hT.keep W k1
    -- sixty are posted
    have du1 := due_full (wy := wy) (m := sf.letters.length) (lv := .int 60) (wv := .int 1) ha hb rfl (by decide +kernel) hway
    rw [if_pos (by rw [hll]; exact Nat.le_refl _)] at du1
    refine ⟨_, rfl, _, rfl, _, rfl, y, dy, tb, ro, la, le, li, dn, lx, ldx, lt, n, tvs, ps, wy, sf, .int (a : Int), .int (b : Int), .int 60, .int 1, rfl, hY1, hT1, .int _, .int _, .int _, .int _, by omega, by omega, (by rw [du1]; intro z; cases z), fun R1 H2 s2 gR1 => ?_⟩
    rw [du1] at gR1
    refine ⟨by show 5 ≤ sizeLine; decide, fun o1 ho1 => ?_⟩
    have u1 := (Same.refl H2).new (o := .lst [.bl true, .bl false, .bl false, .bl false, .bl true]) ho1
    refine neS (den_sD (u1 _ _ gR1) bi5) (den_sD upd_same bi5) (shp_sD bi5) ⟨_, rfl, iteF ?_⟩
    generalize upd H2 o1 (.lst [.bl true, .bl false, .bl false, .bl false, .bl true]) = H3 at u1 ⊢
    have s3 := s2.trans u1
    have hY3 := hY1.same s3
    refine ⟨_, rfl, y, dy, _, rfl, hY3.ins, rfl, y, dy, tb, ro, la, le, li, dn, sf, rfl, hY3, rfl, _, rfl, ?_⟩
    rw [int_eq', hll, decide_eq_true (show ((60 : Nat) : Int) = 60 from rfl)]
    refine iteF ?_
    -- how far
    have hT3 := hT1.keep W (Same.keepN s3)
    obtain ⟨dxt, fst, htb, hland, _⟩ := hT3.i
    have htl : tvs.length = ps.length := Paired.length hT3.l.2.2
    refine ⟨_, rfl, y, ys.yard, dy, _, _, rfl, hY3.ins, Y.cl, Y.n1, rfl, tb, TC, dxt, fst, _, rfl, htb, W.cl, W.nl, hland, lx, c.land, ldx, _, _, rfl, hT3.l.1, L.cl, L.nl, rfl, lt, _, rfl, .inr (SqT.of hT3.l.2.1), _, _, rfl, rfl, _, rfl, _, _, rfl, rfl, cp.1, _, _, rfl, rfl, p40, _, _, rfl, rfl, ?_⟩
    have h0 := Int.emod_nonneg d (show (10 : Int) ^ (40 : Int).toNat ≠ 0 by decide +kernel)
    have hn12 := hT.n12
    show gName 6 (V.int (((tvs.length : Nat) : Int) + 13 + d % 10 ^ (40 : Int).toNat)) _ _ _
    obtain ⟨far, hfar, hfn⟩ : ∃ far : Int, ((tvs.length : Nat) : Int) + 13 + d % 10 ^ (40 : Int).toNat = far ∧ (n : Int) ≤ far := ⟨_, rfl, by omega⟩
    rw [hfar]
    clear hfar
    have du2 := due_place1 (n := n) (wy := wy) (m := sf.letters.length) (sv := .int far) (gv := .int (b : Int)) (lv := .int 0) (wv := .int 1) (decide_eq_false (by omega))
    refine ⟨_, rfl, _, rfl, _, rfl, y, dy, tb, ro, la, le, li, dn, lx, ldx, lt, n, tvs, ps, wy, sf, .int far, .int (b : Int), .int 0, .int 1, rfl, hY3, hT3, .int _, .int _, .int _, .int _, by omega, by omega, (by rw [du2]; intro z; cases z), fun R2 H4 s4 gR2 => ?_⟩
    rw [du2] at gR2
    refine ⟨by show 5 ≤ sizeLine; decide, fun o2 ho2 => ?_⟩
    have u2 := (Same.refl H4).new (o := .lst [.bl true, .bl true, .bl false, .bl false, .bl false]) ho2
    refine neS (den_sD (u2 _ _ gR2) bi5) (den_sD upd_same bi5) (shp_sD bi5) ⟨_, rfl, iteF ?_⟩
    generalize upd H4 o2 (.lst [.bl true, .bl true, .bl false, .bl false, .bl false]) = H5 at u2 ⊢
    have s5 := s4.trans u2
    have hY5 := hY3.same s5
    have hT5 := hT3.keep W (Same.keepN s5)
    have du3 := due_length (wy := wy) (m := sf.letters.length) (lv := .int 61) (wv := .int (10 ^ (60 : Int).toNat)) ha hb rfl
    refine ⟨_, rfl, _, rfl, _, rfl, _, _, rfl, rfl, cp.2.2, y, dy, tb, ro, la, le, li, dn, lx, ldx, lt, n, tvs, ps, wy, sf, .int (a : Int), .int (b : Int), .int 61, .int (10 ^ (60 : Int).toNat), rfl, hY5, hT5, .int _, .int _, .int _, .int _, by omega, by omega, (by rw [du3]; intro z; cases z), fun R3 H6 s6 gR3 => ?_⟩
    rw [du3] at gR3
    refine ⟨by show 5 ≤ sizeLine; decide, fun o3 ho3 => ?_⟩
    have u3 := (Same.refl H6).new (o := .lst [.bl true, .bl false, .bl true, .bl false, .bl false]) ho3
    refine neS (den_sD (u3 _ _ gR3) bi5) (den_sD upd_same bi5) (shp_sD bi5) ⟨_, rfl, iteF ?_⟩
    generalize upd H6 o3 (.lst [.bl true, .bl false, .bl true, .bl false, .bl false]) = H7 at u3 ⊢
    have s7 := s6.trans u3
    have hY7 := hY5.same s7
    have hT7 := hT5.keep W (Same.keepN s7)
    have du4 := due_word (wy := wy) (m := sf.letters.length) (lv := .int 1) (wv := .int (10 ^ (60 : Int).toNat)) ha hb rfl (okW_big (.inl (Int.le_refl _)))
    refine ⟨_, rfl, _, rfl, _, rfl, _, _, rfl, rfl, cp.2.2, y, dy, tb, ro, la, le, li, dn, lx, ldx, lt, n, tvs, ps, wy, sf, .int (a : Int), .int (b : Int), .int 1, .int (10 ^ (60 : Int).toNat), rfl, hY7, hT7, .int _, .int _, .int _, .int _, by omega, by omega, (by rw [du4]; intro z; cases z), fun R4 H8 s8 gR4 => ?_⟩
    rw [du4] at gR4
    refine ⟨by show 5 ≤ sizeLine; decide, fun o4 ho4 => ?_⟩
    have u4 := (Same.refl H8).new (o := .lst [.bl true, .bl false, .bl false, .bl true, .bl false]) ho4
    refine neS (den_sD (u4 _ _ gR4) bi5) (den_sD upd_same bi5) (shp_sD bi5) ⟨_, rfl, iteF ?_⟩
    generalize upd H8 o4 (.lst [.bl true, .bl false, .bl false, .bl true, .bl false]) = H9 at u4 ⊢
    have s9 := s8.trans u4
    have hY9 := hY7.same s9
    have hT9 := hT7.keep W (Same.keepN s9)
    have du5 := due_way (wy := wy) (m := sf.letters.length) (lv := .int 1) (wv := .int 1) hb hb rfl (by decide +kernel) (.inl rfl)
    refine ⟨_, rfl, _, rfl, _, rfl, y, dy, tb, ro, la, le, li, dn, lx, ldx, lt, n, tvs, ps, wy, sf, .int (b : Int), .int (b : Int), .int 1, .int 1, rfl, hY9, hT9, .int _, .int _, .int _, .int _, by omega, by omega, (by rw [du5]; intro z; cases z), fun R5 Ha sa gR5 => ?_⟩
    rw [du5] at gR5
    refine ⟨_, rfl, _, rfl, by show 6 ≤ sizeLine; decide, fun o5 ho5 => ?_⟩
    have u5 := (Same.refl Ha).new (o := .lst [.bl true, .bl false, .bl false, .bl false, .int (b : Int), .int (b : Int)]) ho5
    exact eqS (den_sD (u5 _ _ gR5) bi6) (den_sD upd_same bi6) (shp_sD bi6) (q _)
end
end K46
namespace K46
open PySem L2
theorem binds_ydI1 {K : PySem.W.Frag} {T : Addr} {o : Obj} {n : Nat} {kV doc pm cdv ct : Value} {an : Option Addr} (ho : K.lookup T = some o) (hs : o.data = .seq #[Value.none] n) :
    Binds K (PySem.W.fnOf "__init__" "Yard.__init__" (defArgs sYdI) (defBody sYdI) (defScope sYdI) (.ref T) kV doc pm an cdv ct) ["self", "table", "rooms"] [Value.none] := fun s us kin hl => by
  have hl : us.length = 2 := by rw [List.length_append] at hl; exact Nat.succ.inj hl
  match us, hl with
  | [a, b], _ => exact BindsTo.of_defaults rfl (kin _ _ ho) hs rfl rfl
theorem binds_ydI0 {K : PySem.W.Frag} {T : Addr} {o : Obj} {n : Nat} {kV doc pm cdv ct : Value} {an : Option Addr} (ho : K.lookup T = some o) (hs : o.data = .seq #[Value.none] n) :
    Binds K (PySem.W.fnOf "__init__" "Yard.__init__" (defArgs sYdI) (defBody sYdI) (defScope sYdI) (.ref T) kV doc pm an cdv ct) ["self", "table", "rooms"] [] := fun s us kin hl => by
  match us, hl with
  | [a, b, c], _ => exact BindsTo.of_defaults rfl (kin _ _ ho) hs rfl rfl
theorem binds_post1 {K : PySem.W.Frag} {T : Addr} {o : Obj} {n : Nat} {tk : Tok} {kV doc pm cdv ct : Value} {an : Option Addr} (ho : K.lookup T = some o) (hs : o.data = .seq #[Value.int 0 tk] n) :
    Binds K (PySem.W.fnOf "post" "Yard.post" (defArgs sPost) (defBody sPost) (defScope sPost) (.ref T) kV doc pm an cdv ct) PPo [Value.int 0 tk] := fun s us kin hl => by
  have hl : us.length = 4 := by rw [List.length_append] at hl; exact Nat.succ.inj hl
  match us, hl with
  | [a, b, c, d], _ => exact BindsTo.of_defaults rfl (kin _ _ ho) hs rfl rfl
theorem binds_post0 {K : PySem.W.Frag} {T : Addr} {o : Obj} {n : Nat} {tk : Tok} {kV doc pm cdv ct : Value} {an : Option Addr} (ho : K.lookup T = some o) (hs : o.data = .seq #[Value.int 0 tk] n) :
    Binds K (PySem.W.fnOf "post" "Yard.post" (defArgs sPost) (defBody sPost) (defScope sPost) (.ref T) kV doc pm an cdv ct) PPo [] := fun s us kin hl => by
  match us, hl with
  | [a, b, c, d, e], _ => exact BindsTo.of_defaults rfl (kin _ _ ho) hs rfl rfl
end K46
namespace K46
open PySem L2
def spLaw (K : PySem.W.Frag) : Sp := fun vs H Q _ => ∃ (a : Addr) (ns : List Int), vs = [.ref a] ∧ SqL K H a (ns.map V.int) ∧ ns.length ≤ 63 ∧ ∀ H', Q (.bl true) H'
def ifCmp1 (s : Stmt) : Scope := match s with
  | .If (.Compare (.ListComp _ _ sc _) _ _ _) _ _ _ => sc
  | _ => { kind := .function, names := [], isGenerator := false, isCoroutine := false }
abbrev NLw : List Str := ["_law_script", "_law_places", "_law_table", "_law_yard", "_law_cell", "_law_start", "_law_goal", "_law_found", "_law_other"]
section
variable {P : Program} {w : World} {K : PySem.W.Frag} {mg : Str → Option Value} {base : Heap}
theorem scLw : FnScope NLw ["_law_script"] (defScope sLaw) := ⟨rfl, rfl, rfl, by decide +kernel, rfl, by decide +kernel, by decide +kernel⟩
theorem bkLw : Blk NLw (defScope sLaw) (ifCmp1 ((defBody sLaw).getD 8 (.Pass ⟨0, 0, 0, 0⟩))) ["_law_yard"] [3] := ⟨rfl, by decide +kernel, by decide +kernel, by decide +kernel, rfl, by decide +kernel⟩
theorem ndLw : (["_law_k", "_law_yard"] : List Str).Nodup := by decide +kernel
structure Fns (P : Program) (w : World) (K : PySem.W.Frag) (mg : Str → Option Value) (base : Heap) (c : Cs) (ts : Ts) (ys : Ys) (x : Xs) (nr : Addr) (tk : Tok) (fi fn fc fl fr fy fb fe ft fp fw fu fd fh fg : Addr) (di dn dc dl dr dy db de dt dp dw du dd dh dg : FuncData) : Prop where
  mi : mg "Land" = some (.ref c.land)
  Mi : Mk K c.land fi
  bi : Binds K di ["self", "places", "lanes"] []
  Gi : FnOk P w K mg base (CXe P w) 4 fi di ["self", "places", "lanes"] (spInit K c)
  mn : mg "Nearer" = some (.ref ts.near)
  Mn : Mk K ts.near fn
  bn : Binds K dn ["self", "land"] []
  Gn : FnOk P w K mg base CX0 3 fn dn ["self", "land"] (spNear P w c ts)
  mc : mg "_law_cell_at" = some (.ref fc)
  kc : PySem.W.keepIn K (.ref fc) = true
  bc : Binds K dc ["_law_script", "_law_k"] []
  Gc : FnOk P w K mg base CX0 1 fc dc ["_law_script", "_law_k"] (spCell K)
  ml : mg "_law_lanes" = some (.ref fl)
  kl : PySem.W.keepIn K (.ref fl) = true
  bl : Binds K dl ["_law_places", "_law_amount", "_law_cell"] []
  Gl : FnOk P w K mg base CX0 2 fl dl ["_law_places", "_law_amount", "_law_cell"] spLanes
  mr : mg "_law_rooms" = some (.ref fr)
  kr : PySem.W.keepIn K (.ref fr) = true
  br : Binds K dr ["_law_table", "_law_cell"] []
  Gr : FnOk P w K mg base CX0 7 fr dr ["_law_table", "_law_cell"] (spLR c ts.near (NrJ P w ts))
  my : mg "Yard" = some (.ref ys.yard)
  My : Mk K ys.yard fy
  by1 : Binds K dy ["self", "table", "rooms"] [Value.none]
  Gy : FnOk P w K mg base (CXe P w) 4 fy dy ["self", "table", "rooms"] (spYdI K c ts.near (NrJ P w ts) ys nr)
  mb : mg "_law_bad" = some (.ref fb)
  kb : PySem.W.keepIn K (.ref fb) = true
  bb : Binds K db PBd []
  Gb : FnOk P w K mg base CX0 6 fb db PBd (spBad K c ts.near (NrJ P w ts) ys)
  Me : Meth K ys.yard "ended" fe
  be : Binds K de ["self"] []
  Ge : FnOk P w K mg base CX0 1 fe de ["self"] (spEnded K ys)
  Mt : Meth K ys.yard "lane_told" ft
  bt : Binds K dt ["self", "lane"] []
  Gt : FnOk P w K mg base CX0 2 ft dt ["self", "lane"] (spLaneT K ys)
  Mp : Meth K ys.yard "post" fp
  bp1 : Binds K dp PPo [Value.int 0 tk]
  Gp : FnOk P w K mg base (CXe P w) 4 fp dp PPo (spPost K c ts.near (NrJ P w ts) ys x)
  W : Wy K ts.near fw dw (NrJ P w ts)
  Gw : FnOk P w K mg base CX0 3 fw dw ["self", "place", "goal", "came"] (spWaysA (NrJ P w ts))
  mu : mg "_law_refused" = some (.ref fu)
  ku : PySem.W.keepIn K (.ref fu) = true
  bu : Binds K du PRe []
  Gu : FnOk P w K mg base CX0 5 fu du PRe (spRefu K c ts.near (NrJ P w ts) ys)
  Md : Meth K ys.yard "posted" fd
  bd : Binds K dd ["self"] []
  Gd : FnOk P w K mg base CX0 1 fd dd ["self"] (spPosted K ys)
  Mh : Meth K ys.yard "history" fh
  bh : Binds K dh ["self"] []
  Gh : FnOk P w K mg base CX0 1 fh dh ["self"] (spHist K ys)
  Mg : ∃ f4 d4, Meth K ys.yard "letter_told" f4 ∧ Binds K d4 ["self", "number"] [] ∧ FnOk P w K mg base CX0 1 f4 d4 ["self", "number"] (spLetT K ys)
  mf : mg "_law_full" = some (.ref fg)
  kf : PySem.W.keepIn K (.ref fg) = true
  bf : Binds K dg PFu []
  Gf : FnOk P w K mg base CX0 6 fg dg PFu (spFull K c ts.near (NrJ P w ts) ys)
end
end K46
namespace K46
open PySem L2
theorem lanes_due {n : Nat} {es : Es} (h1 : 1 ≤ n) (h12 : n ≤ 12) (hl : es.length ≤ 40) (hlok : Lok n es) (hne : ∀ e ∈ es, e.1 ≠ e.2) : dueOf (n : Int) (es.map zp) = .good := by
  unfold dueOf
  rw [decide_eq_true (show (1 : Int) ≤ (n : Int) ∧ (n : Int) ≤ 12 by omega), if_neg (by decide), if_neg (by rw [List.length_map]; omega), badIx_none fun p hp => ?_]
  obtain ⟨e, he, rfl⟩ := List.mem_map.mp hp
  have h1 := hlok e he
  have h2 := hne e he
  unfold okP zp
  simp only [Bool.and_eq_true, decide_eq_true_eq, Bool.not_eq_true', decide_eq_false_iff_not]
  refine ⟨⟨?_, ?_⟩, ⟨?_, ?_⟩, ?_⟩ <;> omega
theorem dens_rep {K : PySem.W.Frag} {H : Hp} {v : V} {d : PyData} (h : Den K H v d) : ∀ k : Nat, Dens K H (List.replicate k v) (List.replicate k d)
  | 0 => .nil
  | k + 1 => .cons h (dens_rep h k)
theorem end_new (rv : List V) (n : Nat) : endB (Y0 rv n) = true := by
  unfold endB Y0
  refine decide_eq_true ?_
  dsimp only
  have : ∀ k : Nat, ((List.replicate k ([] : List (Int × Int))).map fun q => (q.length : Int)).sum = 0 := fun k => by
    induction k with
    | zero => rfl
    | succ k ih => rw [List.replicate_succ, List.map_cons, List.sum_cons, ih]; rfl
  rw [this]; rfl
theorem end_post (rv : List V) (n : Nat) (a b u : Int) : endB (postS (Y0 rv n) a b 3 u) = false := by
  unfold endB postS Y0
  refine decide_eq_false ?_
  dsimp only
  have : ∀ k : Nat, ((List.replicate k ([] : List (Int × Int))).map fun q => (q.length : Int)).sum = 0 := fun k => by
    induction k with
    | zero => rfl
    | succ k ih => rw [List.replicate_succ, List.map_cons, List.sum_cons, ih]; rfl
  rw [this]
  show ¬ ((3 : Int) + 0 = 0)
  decide
section
variable {P : Program} {w : World} {K : PySem.W.Frag} {mg : Str → Option Value} {base : Heap}
theorem ok_law {c : Cs} {ts : Ts} {ys : Ys} {x : Xs} {nr f : Addr} {tk : Tok} {fi fn fc fl fr fy fb fe ft fp fw fu fd fh fg : Addr} {df di dn dc dl dr dy db de dt dp dw du dd dh dg : FuncData} (F : Fun K "law" "law" sLaw f df) (T : Txt mg) (L : Lnd K c) (Y : Yrd K ys) (D : Fns P w K mg base c ts ys x nr tk fi fn fc fl fr fy fb fe ft fp fw fu fd fh fg di dn dc dl dr dy db de dt dp dw du dd dh dg) :
    FnOk P w K mg base CX0 8 f df ["_law_script"] (spLaw K) := by
  obtain ⟨f4, d4, M4, b4, G4⟩ := D.Mg
  refine F.ok scLw (fun vs H Q E h => ?_) (fun cdv A outer s H vs Q E hr h => ?_)
  · obtain ⟨a, ns, rfl, _⟩ := h
    rfl
  · obtain ⟨a, ns, rfl, hS, hlen, q⟩ := h
    have hu := hr.units
    have hr1 : Room 1 _ := hr.mono (by decide)
    have hr2 : Room 2 _ := hr.mono (by decide)
    have hr3 : Room 3 _ := hr.mono (by decide)
    have hr4 : Room 4 _ := hr.mono (by decide)
    have hr5 : Room 5 _ := hr.mono (by decide)
    have hr6 : Room 6 _ := hr.mono (by decide)
    refine ⟨_, pss_cons (ps_set (i := 1) scLw.nd rfl (Or.inl rfl) (pe_op op_add pe_int (pe_op op_mod (pe_call D.Gc hr1 rfl D.mc D.kc D.bc .nil pass0 (pa_cons (pv 0) (pa_cons pe_int pa_nil))) pe_int)))
      (pss_cons (ps_set (i := 2) scLw.nd rfl (Or.inl rfl) (pe_make D.Mn D.Gn hr4 rfl D.mn D.bn .nil pass0 (pa_cons (pe_make D.Mi D.Gi hr5 rfl D.mi D.bi .nil passE0 (pa_cons (pv 1) (pa_cons (pe_call D.Gl hr2 rfl D.ml D.kl D.bl .nil pass0 (pa_cons (pv 1) (pa_cons (pe_op op_mod (pe_op op_fdiv (pe_call D.Gc hr1 rfl D.mc D.kc D.bc .nil pass0 (pa_cons (pv 0) (pa_cons pe_int pa_nil))) pe_int) pe_int) (pa_cons (pe_call D.Gc hr1 rfl D.mc D.kc D.bc .nil pass0 (pa_cons (pv 0) (pa_cons pe_int pa_nil))) pa_nil)))) pa_nil))) pa_nil)))
      (pss_cons (ps_if (pt_not (pt_val (pe_call D.Gr hr rfl D.mr D.kr D.br .nil pass0 (pa_cons (pv 2) (pa_cons (pe_call D.Gc hr1 rfl D.mc D.kc D.bc .nil pass0 (pa_cons (pv 0) (pa_cons pe_int pa_nil))) pa_nil))))) (pss_one (ps_ret pe_bl)) pss_nil)
      (pss_cons (ps_set (i := 3) scLw.nd rfl (Or.inr rfl) (pe_make D.My D.Gy hr5 rfl D.my D.by1 (.cons (a := V.non) rfl .nil) passE0 (pa_cons (pv 2) pa_nil)))
      (pss_cons (ps_set (i := 4) scLw.nd rfl (Or.inl rfl) (pe_call D.Gc hr1 rfl D.mc D.kc D.bc .nil pass0 (pa_cons (pv 0) (pa_cons pe_int pa_nil))))
      (pss_cons (ps_set (i := 5) scLw.nd rfl (Or.inl rfl) (pe_op op_mod (pv 4) (pv 1)))
      (pss_cons (ps_set (i := 6) scLw.nd rfl (Or.inl rfl) (pe_op op_mod (pe_op op_add (pe_op op_add (pv 5) pe_int) (pe_op op_mod (pe_op op_fdiv (pv 4) pe_int) (pe_op op_sub (pv 1) pe_int))) (pv 1)))
      (pss_cons (ps_if (PW.pt (pw_or (pt_not (pt_val (pe_call D.Gb hr6 rfl D.mb D.kb D.bb .nil pass0 (pa_cons (pv 3) (pa_cons (pv 1) (pa_cons (pv 5) (pa_cons (pv 6) (pa_cons (pe_call D.Gc hr1 rfl D.mc D.kc D.bc .nil pass0 (pa_cons (pv 0) (pa_cons pe_int pa_nil))) pa_nil)))))))) (pw_or1 (pt_not (pt_val (pe_meth0 (pv 3) Y.cl D.Me D.Ge hr1 D.be .nil pass0)))))) (pss_one (ps_ret pe_bl)) pss_nil)
      (pss_cons (ps_if (pt_cmpR (op_neD hu) (pe_comp (own := ["_law_k"]) (capN := ["_law_yard"]) (cap := [3]) bkLw rfl (pi_range1 rfl T.range (pa_cons (pe_callB call_len_seq rfl T.len PySem.boot_len (pa_cons (pe_fld (pe_fld (pv 2) rfl) rfl) pa_nil)) pa_nil)) (fun C s' H' fp => ⟨pg_name (i := 0) ndLw rfl (Or.inl rfl), pts_nil, pe_slice (show SlR _ (rSlT K) from sl_tup) (pe_meth (pv 1) Y.cl D.Mt D.Gt hr2 D.bt .nil pass0 (pa_cons (pv 0) pa_nil)) po_none (po_some pe_int)⟩)) (pe_op op_rep (pe_lst (pa_cons (pe_tup (pa_cons pe_int (pa_cons pe_int (pa_cons pe_non pa_nil)))) pa_nil)) (pe_callB call_len_seq rfl T.len PySem.boot_len (pa_cons (pe_fld (pe_fld (pv 2) rfl) rfl) pa_nil))) (nomark _)) (pss_one (ps_ret pe_bl)) pss_nil)
      (pss_cons (ps_if (pt_cmpR (op_eqI hu) (pe_meth (pv 2) D.W.cl D.W.m D.Gw hr3 D.W.b .nil pass0 (pa_cons (pv 5) (pa_cons (pv 6) (pa_cons pe_non pa_nil)))) (pe_lst pa_nil) (nomark _))
        (pss_cons (ps_set (i := 7) scLw.nd rfl (Or.inl rfl) (pe_call D.Gu hr5 rfl D.mu D.ku D.bu .nil pass0 (pa_cons (pv 3) (pa_cons (pv 5) (pa_cons (pv 6) (pa_cons pe_int (pa_cons pe_int pa_nil)))))))
        (pss_one (ps_ret (pe_and (pe_cmpR (op_eqD hu) (pv 7) (pe_lst (pa_cons pe_bl (pa_cons pe_bl (pa_cons pe_bl (pa_cons pe_bl (pa_cons (pv 5) (pa_cons (pv 6) pa_nil))))))) (nomark _)) (pe_and (pe_cmpR op_eq (pe_meth0 (pv 3) Y.cl D.Md D.Gd hr1 D.bd .nil pass0) pe_int (nomark _)) (pe_one (pe_cmpR (op_eqD hu) (pe_meth0 (pv 3) Y.cl D.Mh D.Gh hr1 D.bh .nil pass0) (pe_lst pa_nil) (nomark _)))))))) pss_nil)
      (pss_cons (ps_set (i := 8) scLw.nd rfl (Or.inl rfl) (pe_make D.My D.Gy hr5 rfl D.my D.by1 (.cons (a := V.non) rfl .nil) passE0 (pa_cons (pv 2) pa_nil)))
      (pss_cons (ps_if (PW.pt (pw_or (pt_cmpR op_ne (pe_meth (pv 8) Y.cl D.Mp D.Gp hr4 D.bp1 (.cons (a := V.int 0) ⟨_, rfl⟩ .nil) passE0 (pa_cons (pv 5) (pa_cons (pv 6) (pa_cons pe_int pa_nil)))) pe_int (nomark _)) (pw_or (pt_cmpR (op_neD hu) (pe_meth (pv 8) Y.cl M4 G4 hr1 b4 .nil pass0 (pa_cons pe_int pa_nil)) (pe_tup (pa_cons (pv 5) (pa_cons (pv 6) (pa_cons pe_int (pa_cons pe_int pa_nil))))) (nomark _)) (pw_or1 (pt_val (pe_meth0 (pv 8) Y.cl D.Me D.Ge hr1 D.be .nil pass0)))))) (pss_one (ps_ret pe_bl)) pss_nil)
      (pss_one (ps_ret (pe_and (pe_cmpR op_eq (pe_meth0 (pv 3) Y.cl D.Md D.Gd hr1 D.bd .nil pass0) pe_int (nomark _)) (pe_one (pe_call D.Gf hr6 rfl D.mf D.kf D.bf .nil pass0 (pa_cons (pv 3) (pa_cons (pv 5) (pa_cons (pv 6) (pa_cons (pe_call D.Gc hr1 rfl D.mc D.kc D.bc .nil pass0 (pa_cons (pv 0) (pa_cons pe_int pa_nil))) pa_nil)))))))))))))))))))), ?_⟩
    refine ⟨_, rfl, a, ns, 0, rfl, hS, fun d0 => ⟨_, _, rfl, rfl, (by show (0 : Int) < 4; decide), _, _, rfl, rfl, ?_⟩⟩
    obtain ⟨n, hn, hn2, hn5⟩ : ∃ n : Nat, (2 : Int) + d0 % 4 = (n : Int) ∧ 2 ≤ n ∧ n ≤ 5 := ⟨(2 + d0 % 4).toNat, by omega, by omega, by omega⟩
    dsimp only
    rw [hn]
    -- the table
    refine ⟨_, rfl, _, rfl, _, rfl, a, ns, 0, rfl, hS, fun d1 => ⟨_, _, rfl, rfl, ⟨by decide, by decide⟩, _, _, rfl, rfl, (by show (0 : Int) < 9; decide), _, rfl, a, ns, 1, rfl, hS, fun d2 => ?_⟩⟩
    obtain ⟨m, hm, hm9⟩ : ∃ m : Nat, d1 / 4 % 9 = (m : Int) ∧ m < 9 := ⟨(d1 / 4 % 9).toNat, by omega, by omega⟩
    refine ⟨n, m, d2, by rw [← hm]; rfl, hn2, by omega, by omega, fun l lvs es H1 s1 nl gl hLn hlok hne hel => ?_⟩
    have hll : lvs.length = es.length := by rw [Paired.length hLn, List.length_map]
    have gd := lanes_due (by omega) (by omega) (by omega) hlok hne
    refine fun xl dxl nx ndx nex => ?_
    have s2 : Same H1 (upd (upd H1 dxl (.own xl)) xl (.ins c.land dxl [])) := Same.new (Same.new (Same.refl H1) ndx) (by rw [upd_ne (Ne.symm nex)]; exact nx)
    refine ⟨xl, dxl, (n : Int), l, lvs, _, rfl, upd_same, SqL.of (s2 _ _ gl), Lns.same s2 hLn, by omega, (fun h => by rw [gd] at h; cases h), (fun k h => by rw [gd] at h; cases h), (fun k h => by rw [gd] at h; cases h), fun _ H3 lt tvs off hL => ⟨rfl, ?_⟩⟩
    have s3 : Same H1 H3 := fun b o e => off b o (ne_of_none e nx) (s2 _ _ e)
    refine fun tb dtb nt ndt net => ?_
    have s4 : Same H3 (upd (upd H3 dtb (.own tb)) tb (.ins ts.near dtb [])) := Same.new (Same.new (Same.refl H3) ndt) (by rw [upd_ne (Ne.symm net)]; exact nt)
    refine ⟨tb, dtb, xl, dxl, lt, tvs, n, es, rfl, upd_same, ⟨s4 _ _ hL.1, s4 _ _ hL.2.1, Lns.same s4 hL.2.2⟩, hlok, by omega, by omega, fun H5 de kvs off5 hNr hE => ⟨rfl, ?_⟩⟩
    have s5 : Same H3 H5 := fun b o e => off5 b o (ne_of_none e nt) (s4 _ _ e)
    have hT : TbIn c ts.near (NrJ P w ts) H5 tb xl dxl lt n tvs (es.map zp) (wyE kvs) := ⟨⟨dtb, xl, de, kvs, es, hNr, hE, by omega, rfl⟩, ⟨dtb, _, hNr.1, rfl, rfl⟩, ⟨s5 _ _ hL.1, s5 _ _ hL.2.1, Lns.same s5 hL.2.2⟩, by omega, by rw [List.length_map]; omega, fun p g k hp hg z hz => by rw [List.length_map]; exact wyE_lt hE hg hz⟩
    have hpl : (es.map zp).length = es.length := List.length_map ..
    have sH5 : Same H H5 := s1.trans (s3.trans s5)
    have htl : tvs.length = es.length := by rw [Paired.length hL.2.2, List.length_map]
    generalize wyE kvs = wy at hT
    clear hNr hE off5 off s4 s2
    -- rooms
    refine ⟨_, rfl, _, rfl, a, ns, 2, rfl, sH5.seq hS, fun d3 => ⟨tb, xl, dxl, lt, n, tvs, _, wy, d3, rfl, hT, fun H6 s6 => ⟨_, rfl, iteF ?_⟩⟩⟩
    have hT6 := hT.keep D.W (Same.keepN s6)
    -- a yard
    refine ⟨_, rfl, fun y dy ny ndy ney => ?_⟩
    have s7 : Same H6 (upd (upd H6 dy (.own y)) y (.ins ys.yard dy [])) := Same.new (Same.new (Same.refl H6) ndy) (by rw [upd_ne (Ne.symm ney)]; exact ny)
    refine ⟨y, dy, tb, xl, dxl, lt, n, tvs, _, wy, _, List.replicate (es.map zp).length (.int 1), rfl, upd_same, hT6.keep D.W (Same.keepN s7), .inl ⟨rfl, rfl⟩, fun _ ro la le li dn H8 o8 _ _ _ _ hY => ⟨rfl, ?_⟩⟩
    have s8 : Same H6 H8 := fun b o e => o8 b o (fun z => by rw [List.mem_singleton.mp z, ny] at e; cases e) (s7 _ _ e)
    have hT8 := hT6.keep D.W (Same.keepN s8)
    have sH8 : Same H H8 := sH5.trans (s6.trans s8)
    have np : (0 : Int) < (n : Int) := by omega
    have np1 : (0 : Int) < (n : Int) - 1 := by omega
    refine ⟨_, rfl, a, ns, 3, rfl, sH8.seq hS, fun d4 => ?_⟩
    refine ⟨_, rfl, _, rfl, _, _, rfl, rfl, np, ?_⟩
    show gName 5 (V.int (d4 % (n : Int))) _ _ _
    have e1 := Int.emod_nonneg d4 (show (n : Int) ≠ 0 by omega)
    have e2 := Int.emod_lt_of_pos d4 np
    obtain ⟨a', ha', han⟩ : ∃ a' : Nat, d4 % (n : Int) = (a' : Int) ∧ a' < n := ⟨(d4 % (n : Int)).toNat, by omega, by omega⟩
    rw [ha']
    refine ⟨_, rfl, _, _, rfl, rfl, _, rfl, _, _, rfl, rfl, ⟨by decide, by decide⟩, _, rfl, _, _, rfl, rfl, _, _, rfl, rfl, np1, _, _, rfl, rfl, _, rfl, _, _, rfl, rfl, np, ?_⟩
    show gName 6 (V.int (((a' : Int) + 1 + d4 / 8 % ((n : Int) - 1)) % (n : Int))) _ _ _
    have e3 := Int.emod_nonneg (d4 / 8) (show (n : Int) - 1 ≠ 0 by omega)
    have e4 := Int.emod_lt_of_pos (d4 / 8) np1
    obtain ⟨b', hb', hbn, hab⟩ : ∃ b' : Nat, ((a' : Int) + 1 + d4 / 8 % ((n : Int) - 1)) % (n : Int) = (b' : Int) ∧ b' < n ∧ a' ≠ b' := by
      generalize d4 / 8 % ((n : Int) - 1) = f at e3 e4 ⊢
      have e5 := Int.emod_nonneg ((a' : Int) + 1 + f) (show (n : Int) ≠ 0 by omega)
      have e6 := Int.emod_lt_of_pos ((a' : Int) + 1 + f) np
      refine ⟨(((a' : Int) + 1 + f) % (n : Int)).toNat, by omega, by omega, fun z => ?_⟩
      rcases Int.lt_or_le ((a' : Int) + 1 + f) (n : Int) with h | h
      · rw [Int.emod_eq_of_lt (by omega) h] at z; omega
      · have : ((a' : Int) + 1 + f) % (n : Int) = (a' : Int) + 1 + f - n := by
          rw [show (a' : Int) + 1 + f = ((a' : Int) + 1 + f - n) + n by omega, Int.add_emod_right, Int.emod_eq_of_lt (by omega) (by omega)]; omega
        omega
    rw [hb']
    -- bad letters
    refine ⟨_, rfl, _, rfl, _, rfl, _, rfl, _, rfl, a, ns, 4, rfl, sH8.seq hS, fun d5 => ⟨y, dy, tb, ro, la, le, li, dn, xl, dxl, lt, n, tvs, _, wy, _, a', b', d5, rfl, hY, hT8, han, hbn, Nat.zero_le _, Nat.zero_le _, fun H9 s9 => ⟨_, rfl, iteF ?_⟩⟩⟩
    have hY9 := hY.same s9
    refine ⟨_, rfl, y, dy, _, rfl, hY9.ins, rfl, y, dy, tb, ro, la, le, li, dn, _, rfl, hY9, Nat.zero_le _, by show (List.replicate n []).length ≤ 900; rw [List.length_replicate]; omega, fun H10 s10 => ⟨_, rfl, ?_⟩⟩
    rw [end_new]
    refine iteF ?_
    have s810 := s9.trans s10
    have hY10 := hY.same s810
    have hT10 := hT8.keep D.W (Same.keepN s810)
    obtain ⟨dxt, fst, htb, hland, hways⟩ := hT10.i
    -- how the lanes stand
    refine ⟨_, rfl, tb, ts.near, dxt, fst, _, rfl, htb, D.W.cl, D.W.nl, hland, xl, c.land, dxl, _, _, rfl, hT10.l.1, L.cl, L.nl, rfl, lt, _, rfl, .inr (SqT.of hT10.l.2.1), (tvs.length : Int), rfl, by omega, by omega, ?_⟩
    rw [Int.toNat_natCast, htl]
    have hrl : (List.replicate es.length (PyData.tuple [.int 1, .int 0, .none])).length = es.length := List.length_replicate
    refine comp_den (K := K) (List.replicate es.length (.tuple [.int 1, .int 0, .none])) (by rw [hrl, PySem.sizeLine_eq]; omega) (fun i Hc hi _ => by rw [hrl] at hi; exact hi) (fun Hc _ => by rw [hrl]; exact Nat.le_refl _) (fun i e x Hc Hc' N he sc y' hN => ?_) (fun D1 vs1 Hc sc hD1 hden1 => ?_)
    · obtain ⟨e1, e2⟩ := y'
      subst e1 e2
      have hi : i < es.length := by have := (List.getElem?_eq_some_iff.mp he).1; rw [hrl] at this; exact this
      have he' : e = .tuple [.int 1, .int 0, .none] := by rw [List.getElem?_replicate, if_pos hi] at he; exact (Option.some.inj he).symm
      subst he'
      have hYc := hY10.same sc
      rw [Int.zero_add]
      refine ⟨_, rfl, y, dy, _, rfl, hYc.ins, rfl, _, rfl, y, dy, tb, ro, la, le, li, dn, _, i, ln0 (.int 1), rfl, hYc, ?_, fun t ql pvs Hd sd hql gt gql hLd => ⟨3, rfl, t, _, rfl, SqT.of gt, (by show ¬ (HT.sIx 4 0 none = 0 ∧ HT.sIx 4 4 (some 3) = 4); decide), fun p hp => hN _ _ (sd.new hp) ?_⟩⟩
      · show ((List.replicate (es.map zp).length (V.int 1)).map ln0)[i]? = _
        rw [List.getElem?_map, List.getElem?_replicate, if_pos (by rw [hpl]; exact hi)]; rfl
      · exact .tup (SqT.of (by rw [upd_same]; rfl)) (.cons (.int 1) (.cons (.int 0) (.cons .non .nil)))
    have sD1 := sc.new (o := .lst vs1) hD1
    have gD1 : (upd Hc D1 (.lst vs1)) D1 = some (.lst vs1) := upd_same
    have hd1 := Dens.same ((Same.refl Hc).new (o := .lst vs1) hD1) hden1
    generalize upd Hc D1 (.lst vs1) = He at sD1 gD1 hd1 ⊢
    refine ⟨by show 3 ≤ sizeLine; decide, fun t1 ht1 => ?_⟩
    have u1 := (Same.refl He).new (o := .tup [.int 1, .int 0, .non]) ht1
    have gt1 : (upd He t1 (.tup [.int 1, .int 0, .non])) t1 = some (.tup [.int 1, .int 0, .non]) := upd_same
    generalize upd He t1 (.tup [.int 1, .int 0, .non]) = Hf at u1 gt1 ⊢
    refine ⟨by show 1 ≤ sizeLine; decide, fun z0 hz0 => ?_⟩
    have u2 := u1.new (o := .lst [.ref t1]) hz0
    have gz : (upd Hf z0 (.lst [.ref t1])) z0 = some (.lst [.ref t1]) := upd_same
    have gt2 : (upd Hf z0 (.lst [.ref t1])) t1 = some (.tup [.int 1, .int 0, .non]) := by rw [upd_ne (ne_of_none gt1 hz0)]; exact gt1
    generalize upd Hf z0 (.lst [.ref t1]) = Hg at u2 gz gt2 ⊢
    have sg := sD1.trans u2
    refine ⟨_, rfl, tb, ts.near, dxt, fst, _, rfl, sg _ _ htb, D.W.cl, D.W.nl, hland, xl, c.land, dxl, _, _, rfl, sg _ _ hT10.l.1, L.cl, L.nl, rfl, lt, _, rfl, .inr (SqT.of (sg _ _ hT10.l.2.1)), z0, _, _, rfl, rfl, gz, by omega, by omega, by rw [htl, Int.toNat_natCast, PySem.sizeLine_eq]; simp only [List.length_singleton]; omega, fun S1 hS1 => ?_⟩
    rw [htl, Int.toNat_natCast, List.flatten_replicate_singleton]
    have u3 := (Same.refl Hg).new (o := .lst (List.replicate es.length (.ref t1))) hS1
    refine neS (d := .list (List.replicate es.length (.tuple [.int 1, .int 0, .none]))) (.lst (SqL.of (u3 _ _ (u2 _ _ gD1))) (Dens.same (u2.trans u3) hd1)) (.lst (SqL.of upd_same) (dens_rep (.tup (SqT.of (u3 _ _ gt2)) (.cons (.int 1) (.cons (.int 0) (.cons .non .nil)))) _)) ?_ ⟨_, rfl, iteF ?_⟩
    · refine (shp_list (m := 1) fun e he => ?_).le (by decide)
      rw [List.eq_of_mem_replicate he]
      refine shp_tuple (m := 0) fun e he => ?_
      simp only [List.mem_cons, List.not_mem_nil, or_false] at he
      rcases he with rfl | rfl | rfl
      · exact shp_int _
      · exact shp_int _
      · exact shp_none
    generalize upd Hg S1 (.lst (List.replicate es.length (.ref t1))) = Hh at u3 ⊢
    have sh := sg.trans u3
    have hYh := hY10.same sh
    have hTh := hT10.keep D.W (Same.keepN sh)
    have htbh := sh _ _ htb
    refine ⟨_, rfl, tb, dxt, fst, rfl, htbh, hways, _, rfl, _, rfl, tb, n, wy, a', b', none, rfl, hTh.j, han, hbn, fun Wl Hi si hWl gWl => ?_⟩
    refine ⟨Nat.zero_le _, fun e0 he0 => ?_⟩
    have si2 := si.new (o := .lst []) he0
    have gW2 : (upd Hi e0 (.lst [])) Wl = some (.lst ((iz (wy a' b' none)).map V.int)) := by rw [upd_ne (ne_of_none gWl he0), gWl, iz_V]; rfl
    have ge0 : (upd Hi e0 (.lst [])) e0 = some (.lst (([] : List Int).map V.int)) := upd_same
    generalize upd Hi e0 (.lst []) = Hj at si2 gW2 ge0 ⊢
    have hYj := hYh.same si2
    have hTj := hTh.keep D.W (Same.keepN si2)
    refine ⟨Wl, e0, _, [], rfl, rfl, SqL.of gW2, SqL.of ge0, _, rfl, ?_⟩
    refine ite2 (fun hw => ?_) fun hw => ?_
    · have hw' : wy a' b' none = [] := by
        have := of_decide_eq_true hw
        unfold iz at this
        exact List.map_eq_nil_iff.mp this
      have du := due_way (wy := wy) (m := 0) (lv := .int 1) (wv := .int 1) han hbn rfl (by decide +kernel) (.inr hw')
      refine ⟨_, rfl, _, rfl, _, rfl, y, dy, tb, ro, la, le, li, dn, xl, dxl, lt, n, tvs, _, wy, _, .int (a' : Int), .int (b' : Int), .int 1, .int 1, rfl, hYj, hTj, .int _, .int _, .int _, .int _, Nat.zero_le _, Nat.zero_le _, (by show pdue n wy 0 _ _ _ _ ≠ _; rw [du]; intro z; cases z), fun R Hk sk gR => ?_⟩
      have gR : Hk R = some (.lst (refV (.int (a' : Int)) (.int (b' : Int)) (pdue n wy 0 (.int (a' : Int)) (.int (b' : Int)) (.int 1) (.int 1)))) := gR
      rw [du] at gR
      refine ⟨_, rfl, _, rfl, _, rfl, by show 6 ≤ sizeLine; decide, fun o5 ho5 => ?_⟩
      have u5 := (Same.refl Hk).new (o := .lst [.bl true, .bl false, .bl false, .bl false, .int (a' : Int), .int (b' : Int)]) ho5
      refine eqS (den_sD (u5 _ _ gR) bi6) (den_sD upd_same bi6) (shp_sD bi6) ⟨_, rfl, iteT ?_⟩
      generalize upd Hk o5 (.lst [.bl true, .bl false, .bl false, .bl false, .int (a' : Int), .int (b' : Int)]) = Hl at u5 ⊢
      have hYl := hYj.same (sk.trans u5)
      refine ⟨_, rfl, y, dy, _, rfl, hYl.ins, rfl, y, dy, tb, ro, la, le, li, dn, _, rfl, hYl, rfl, _, rfl, iteT ?_⟩
      refine ⟨_, rfl, y, dy, _, rfl, hYl.ins, rfl, y, dy, tb, ro, la, le, li, dn, _, rfl, hYl, fun t vs Hm sm ht gt pd => ⟨Nat.zero_le _, fun o2 ho2 => ?_⟩⟩
      have u6 := (Same.refl Hm).new (o := .lst []) ho2
      have hv0 : vs = [] := List.length_eq_zero_iff.mp (Paired.length pd)
      subst hv0
      exact eqS (d := .list []) (.lst (SqL.of (u6 _ _ gt)) .nil) (.lst (SqL.of upd_same) .nil) ((shp_list (m := 0) fun e he => by cases he).le (by decide)) (q _)
    · have hw' : wy a' b' none ≠ [] := fun z => by rw [z] at hw; exact hw rfl
      have hway : ¬ (a' = b' ∨ wy a' b' none = []) := fun z => z.elim hab hw'
      refine ⟨_, rfl, fun y2 dy2 ny2 ndy2 ney2 => ?_⟩
      have s11 : Same Hj (upd (upd Hj dy2 (.own y2)) y2 (.ins ys.yard dy2 [])) := Same.new (Same.new (Same.refl Hj) ndy2) (by rw [upd_ne (Ne.symm ney2)]; exact ny2)
      refine ⟨y2, dy2, tb, xl, dxl, lt, n, tvs, _, wy, _, List.replicate (es.map zp).length (.int 1), rfl, upd_same, hTj.keep D.W (Same.keepN s11), .inl ⟨rfl, rfl⟩, fun _ ro2 la2 le2 li2 dn2 Hm om la0 le0 li0 dn0 hY2 => ⟨rfl, ?_⟩⟩
      have sm : Same Hj Hm := fun b o e => om b o (fun z => by rw [List.mem_singleton.mp z, ny2] at e; cases e) (s11 _ _ e)
      have hYm := hYj.same sm
      have hTm := hTj.keep D.W (Same.keepN sm)
      have du := due_full (wy := wy) (m := 0) (lv := .int 3) (wv := .int 0) han hbn rfl (by decide +kernel) hway
      rw [if_neg (by omega)] at du
      have sn0 : ∀ {Hn : Hp}, OffE [le2, dn2] Hm Hn → Same Hj Hn := fun {Hn} on b o e => on b o (fun z => by
        simp only [List.mem_cons, List.not_mem_nil, or_false] at z
        rcases z with rfl | rfl
        · rw [s11.free le0] at e; cases e
        · rw [s11.free dn0] at e; cases e) (sm _ _ e)
      have no : ∀ {p : Pd}, p ≠ .good → pdue n wy 0 (.int (a' : Int)) (.int (b' : Int)) (.int 3) (.int 0) = p → False := fun hp h => hp (h.symm.trans du)
      refine ⟨_, rfl, y2, dy2, _, rfl, hY2.ins, rfl, _, rfl, _, rfl, y2, dy2, tb, ro2, la2, le2, li2, dn2, xl, dxl, lt, n, tvs, _, wy, _, .int (a' : Int), .int (b' : Int), .int 3, .int 0, rfl, hY2, hTm, .int _, .int _, .int _, .int _, Nat.zero_le _, Nat.zero_le _, (fun h => (no (by intro z; cases z) h).elim), (fun h => (no (by intro z; cases z) h).elim), (fun h => (no (by intro z; cases z) h).elim), (fun h => (no (by intro z; cases z) h).elim), (fun h => (no (by intro z; cases z) h).elim), fun _ Hn on hYn => ?_⟩
      have sn := sn0 on
      refine ⟨rfl, _, rfl, iteF ?_⟩
      refine ⟨_, rfl, y2, dy2, _, rfl, hYn.ins, rfl, y2, dy2, tb, ro2, la2, le2, li2, dn2, _, 0, ⟨(a' : Int), (b' : Int), 3, 0, 0, []⟩, rfl, hYn, rfl, fun t2 Ho so gt2 => ⟨_, rfl, _, rfl, by show 4 ≤ sizeLine; decide, fun t3 ht3 => ?_⟩⟩
      have u7 := (Same.refl Ho).new (o := .tup [.int (a' : Int), .int (b' : Int), .int 3, .int 0]) ht3
      have dn4 : ∀ {H4 : Hp} {t : Addr}, H4 t = some (.tup [.int (a' : Int), .int (b' : Int), .int 3, .int 0]) → Den K H4 (.ref t) (.tuple [.int (a' : Int), .int (b' : Int), .int 3, .int 0]) := fun h => .tup (SqT.of h) (.cons (.int _) (.cons (.int _) (.cons (.int _) (.cons (.int _) .nil))))
      have hsh : Shp (.tuple [.int (a' : Int), .int (b' : Int), .int 3, .int 0]) 64 := (shp_tuple (m := 0) fun e he => by
        simp only [List.mem_cons, List.not_mem_nil, or_false] at he
        rcases he with rfl | rfl | rfl | rfl <;> exact shp_int _).le (by decide)
      refine neS (dn4 (u7 _ _ gt2)) (dn4 upd_same) hsh ⟨_, rfl, iteF ?_⟩
      generalize upd Ho t3 (.tup [.int (a' : Int), .int (b' : Int), .int 3, .int 0]) = Hp' at u7 ⊢
      have hYp := hYn.same (so.trans u7)
      refine ⟨_, rfl, y2, dy2, _, rfl, hYp.ins, rfl, y2, dy2, tb, ro2, la2, le2, li2, dn2, _, rfl, hYp, by show 1 ≤ 900; decide, by show (List.replicate n []).length ≤ 900; rw [List.length_replicate]; omega, fun Hq sq => ⟨_, rfl, ?_⟩⟩
      rw [show endB (postS (Y0 (List.replicate (es.map zp).length (.int 1)) n) (vI (.int (a' : Int))) (vI (.int (b' : Int))) (vI (.int 3)) (vI (.int 0))) = false from end_post _ _ _ _ _]
      refine iteF ?_
      have sj := sn.trans (so.trans (u7.trans sq))
      have hYq := hYj.same sj
      have hTq := hTj.keep D.W (Same.keepN sj)
      refine ⟨_, rfl, y, dy, _, rfl, hYq.ins, rfl, y, dy, tb, ro, la, le, li, dn, _, rfl, hYq, rfl, _, rfl, iteT ?_⟩
      refine ⟨_, rfl, _, rfl, _, rfl, _, rfl, a, ns, 5, rfl, (sH8.trans (s810.trans (sh.trans (si2.trans sj)))).seq hS, fun d6 => ⟨y, dy, tb, ro, la, le, li, dn, xl, dxl, lt, n, tvs, _, wy, _, a', b', d6, rfl, hYq, hTq, han, hbn, hab, hw', rfl, Nat.zero_le _, q⟩⟩
end
end K46
namespace K46
open PySem L2
theorem len_of1 {α : Type} {P : List α → Prop} (h : ∀ a0, P [a0]) : ∀ us : List α, us.length = 1 → P us
  | [a0], _ => h a0
theorem len_of2 {α : Type} {P : List α → Prop} (h : ∀ a0 a1, P [a0, a1]) : ∀ us : List α, us.length = 2 → P us
  | [a0, a1], _ => h a0 a1
theorem len_of3 {α : Type} {P : List α → Prop} (h : ∀ a0 a1 a2, P [a0, a1, a2]) : ∀ us : List α, us.length = 3 → P us
  | [a0, a1, a2], _ => h a0 a1 a2
theorem len_of4 {α : Type} {P : List α → Prop} (h : ∀ a0 a1 a2 a3, P [a0, a1, a2, a3]) : ∀ us : List α, us.length = 4 → P us
  | [a0, a1, a2, a3], _ => h a0 a1 a2 a3
theorem len_of5 {α : Type} {P : List α → Prop} (h : ∀ a0 a1 a2 a3 a4, P [a0, a1, a2, a3, a4]) : ∀ us : List α, us.length = 5 → P us
  | [a0, a1, a2, a3, a4], _ => h a0 a1 a2 a3 a4
theorem all_mk {l : PySem.W.OpenLaw} {w : World} {K : PySem.W.Frag} {h : Heap} {mg : Str → Option Value} {fa cL cN cT cR cB cO cY cM cP cG cW cZ cF cA cE cD f1 f2 f3 f4 f5 f6 f7 f8 f9 f10 f11 f12 f13 f14 f15 f16 f17 f18 f19 f20 f21 f22 f23 f24 f25 f26 f27 f28 f29 f30 f31 f32 f33 f34 f35 f36 f37 f38 f39 f40 f41 : Addr} {t1 t2 t3 t4 t5 : Tok} (X : K.In h) (G : h.Ns mainGlobals mg) (hfa : mg "law" = some (.ref fa))
    {od1 an1 od2 an2 od3 an3 od4 an4 od5 an5 od6 an6 od7 an7 od8 an8 od9 an9 od10 an10 od11 an11 od12 an12 od13 an13 od14 an14 od15 an15 od16 an16 od17 an17 od18 an18 od19 an19 od20 an20 od21 an21 od22 an22 od23 an23 od24 an24 od25 an25 od26 an26 od27 an27 od28 an28 od29 an29 od30 an30 od31 an31 od32 an32 od33 an33 od34 an34 od35 an35 od36 an36 od37 an37 od38 an38 od39 an39 od40 an40 od41 an41 : Option Addr} {sl1 sl2 sl3 sl4 sl5 sl6 sl7 sl8 sl9 sl10 sl11 sl12 sl13 sl14 sl15 sl16 sl17 sl18 sl19 sl20 sl21 sl22 sl23 sl24 sl25 sl26 sl27 sl28 sl29 sl30 sl31 sl32 sl33 sl34 sl35 sl36 sl37 sl38 sl39 sl40 sl41 : Array (Option Value)} {oc1 kV1 dc1 pm1 cd1 ct1 oc2 kV2 dc2 pm2 cd2 ct2 oc3 kV3 dc3 pm3 cd3 ct3 oc4 kV4 dc4 pm4 cd4 ct4 oc5 kV5 dc5 pm5 cd5 ct5 oc6 kV6 dc6 pm6 cd6 ct6 oc7 kV7 dc7 pm7 cd7 ct7 oc8 kV8 dc8 pm8 cd8 ct8 oc9 kV9 dc9 pm9 cd9 ct9 oc10 kV10 dc10 pm10 cd10 ct10 oc11 kV11 dc11 pm11 cd11 ct11 oc12 kV12 dc12 pm12 cd12 ct12 oc13 kV13 dc13 pm13 cd13 ct13 oc14 kV14 dc14 pm14 cd14 ct14 oc15 kV15 dc15 pm15 cd15 ct15 oc16 kV16 dc16 pm16 cd16 ct16 oc17 kV17 dc17 pm17 cd17 ct17 oc18 kV18 dc18 pm18 cd18 ct18 oc19 kV19 dc19 pm19 cd19 ct19 oc20 kV20 dc20 pm20 cd20 ct20 oc21 kV21 dc21 pm21 cd21 ct21 oc22 kV22 dc22 pm22 cd22 ct22 oc23 kV23 dc23 pm23 cd23 ct23 oc24 kV24 dc24 pm24 cd24 ct24 oc25 kV25 dc25 pm25 cd25 ct25 oc26 kV26 dc26 pm26 cd26 ct26 oc27 kV27 dc27 pm27 cd27 ct27 oc28 kV28 dc28 pm28 cd28 ct28 oc29 kV29 dc29 pm29 cd29 ct29 oc30 kV30 dc30 pm30 cd30 ct30 oc31 kV31 dc31 pm31 cd31 ct31 oc32 kV32 dc32 pm32 cd32 ct32 oc33 kV33 dc33 pm33 cd33 ct33 oc34 kV34 dc34 pm34 cd34 ct34 oc35 kV35 dc35 pm35 cd35 ct35 oc36 kV36 dc36 pm36 cd36 ct36 oc37 kV37 dc37 pm37 cd37 ct37 oc38 kV38 dc38 pm38 cd38 ct38 oc39 kV39 dc39 pm39 cd39 ct39 oc40 kV40 dc40 pm40 cd40 ct40 oc41 kV41 dc41 pm41 cd41 ct41 : Value}
    {dT34 dT35 : Addr} {tO34 tO35 : Value} {tD34 tD35 : Option Addr} {tN34 tN35 : Nat} {tk35 : Tok}  {tS34 tS35 : Array (Option Value)}
    (gcL : PySem.W.nsIn K mainGlobals "Land" = some (some (.ref cL)))
    (gcN : PySem.W.nsIn K mainGlobals "NoPlaces" = some (some (.ref cN)))
    (gcT : PySem.W.nsIn K mainGlobals "TooMany" = some (some (.ref cT)))
    (gcR : PySem.W.nsIn K mainGlobals "NoRoad" = some (some (.ref cR)))
    (gcB : PySem.W.nsIn K mainGlobals "Table" = some (some (.ref cB)))
    (gcO : PySem.W.nsIn K mainGlobals "Nearer" = some (some (.ref cO)))
    (gcY : PySem.W.nsIn K mainGlobals "YardError" = some (some (.ref cY)))
    (gcM : PySem.W.nsIn K mainGlobals "NoRooms" = some (some (.ref cM)))
    (gcP : PySem.W.nsIn K mainGlobals "NoPlace" = some (some (.ref cP)))
    (gcG : PySem.W.nsIn K mainGlobals "NoLength" = some (some (.ref cG)))
    (gcW : PySem.W.nsIn K mainGlobals "NoWord" = some (some (.ref cW)))
    (gcZ : PySem.W.nsIn K mainGlobals "NoWay" = some (some (.ref cZ)))
    (gcF : PySem.W.nsIn K mainGlobals "Full" = some (some (.ref cF)))
    (gcA : PySem.W.nsIn K mainGlobals "Lane" = some (some (.ref cA)))
    (gcE : PySem.W.nsIn K mainGlobals "Letter" = some (some (.ref cE)))
    (gcD : PySem.W.nsIn K mainGlobals "Yard" = some (some (.ref cD)))
    (a1 : PySem.W.nsIn K mainGlobals "has" = some (some (.ref f1)))
    (l1 : K.lookup f1 = some ⟨oc1, od1, .func (PySem.W.fnOf "has" "has" (defArgs sHas) (defBody sHas) (defScope sHas) .none kV1 dc1 pm1 an1 cd1 ct1), sl1⟩)
    (c1 : PySem.W.codeIn K cd1 "has" = true)
    (k1 : PySem.W.keepIn K (.ref f1) = true)
    (a2 : PySem.W.nsIn K mainGlobals "members" = some (some (.ref f2)))
    (l2 : K.lookup f2 = some ⟨oc2, od2, .func (PySem.W.fnOf "members" "members" (defArgs sMem) (defBody sMem) (defScope sMem) .none kV2 dc2 pm2 an2 cd2 ct2), sl2⟩)
    (c2 : PySem.W.codeIn K cd2 "members" = true)
    (k2 : PySem.W.keepIn K (.ref f2) = true)
    (a3 : PySem.W.nsIn K mainGlobals "set_of" = some (some (.ref f3)))
    (l3 : K.lookup f3 = some ⟨oc3, od3, .func (PySem.W.fnOf "set_of" "set_of" (defArgs sSet) (defBody sSet) (defScope sSet) .none kV3 dc3 pm3 an3 cd3 ct3), sl3⟩)
    (c3 : PySem.W.codeIn K cd3 "set_of" = true)
    (k3 : PySem.W.keepIn K (.ref f3) = true)
    (a4 : PySem.W.nsIn K mainGlobals "is_whole" = some (some (.ref f4)))
    (l4 : K.lookup f4 = some ⟨oc4, od4, .func (PySem.W.fnOf "is_whole" "is_whole" (defArgs sWhole) (defBody sWhole) (defScope sWhole) .none kV4 dc4 pm4 an4 cd4 ct4), sl4⟩)
    (c4 : PySem.W.codeIn K cd4 "is_whole" = true)
    (k4 : PySem.W.keepIn K (.ref f4) = true)
    (a5 : PySem.W.nsIn K mainGlobals "is_within" = some (some (.ref f5)))
    (l5 : K.lookup f5 = some ⟨oc5, od5, .func (PySem.W.fnOf "is_within" "is_within" (defArgs sWithin) (defBody sWithin) (defScope sWithin) .none kV5 dc5 pm5 an5 cd5 ct5), sl5⟩)
    (c5 : PySem.W.codeIn K cd5 "is_within" = true)
    (k5 : PySem.W.keepIn K (.ref f5) = true)
    (a6 : PySem.W.nsIn K mainGlobals "are_two_places" = some (some (.ref f6)))
    (l6 : K.lookup f6 = some ⟨oc6, od6, .func (PySem.W.fnOf "are_two_places" "are_two_places" (defArgs sTwo) (defBody sTwo) (defScope sTwo) .none kV6 dc6 pm6 an6 cd6 ct6), sl6⟩)
    (c6 : PySem.W.codeIn K cd6 "are_two_places" = true)
    (k6 : PySem.W.keepIn K (.ref f6) = true)
    (a7 : PySem.W.nsIn K mainGlobals "how_far" = some (some (.ref f7)))
    (l7 : K.lookup f7 = some ⟨oc7, od7, .func (PySem.W.fnOf "how_far" "how_far" (defArgs sHow) (defBody sHow) (defScope sHow) .none kV7 dc7 pm7 an7 cd7 ct7), sl7⟩)
    (c7 : PySem.W.codeIn K cd7 "how_far" = true)
    (k7 : PySem.W.keepIn K (.ref f7) = true)
    (a8 : PySem.W.nsIn K mainGlobals "nearer_lanes" = some (some (.ref f8)))
    (l8 : K.lookup f8 = some ⟨oc8, od8, .func (PySem.W.fnOf "nearer_lanes" "nearer_lanes" (defArgs sNl) (defBody sNl) (defScope sNl) .none kV8 dc8 pm8 an8 cd8 ct8), sl8⟩)
    (c8 : PySem.W.codeIn K cd8 "nearer_lanes" = true)
    (k8 : PySem.W.keepIn K (.ref f8) = true)
    (a9 : PySem.W.nsIn K mainGlobals "rooms_of" = some (some (.ref f9)))
    (l9 : K.lookup f9 = some ⟨oc9, od9, .func (PySem.W.fnOf "rooms_of" "rooms_of" (defArgs sRooms) (defBody sRooms) (defScope sRooms) .none kV9 dc9 pm9 an9 cd9 ct9), sl9⟩)
    (c9 : PySem.W.codeIn K cd9 "rooms_of" = true)
    (k9 : PySem.W.keepIn K (.ref f9) = true)
    (a10 : PySem.W.nsIn K mainGlobals "is_word" = some (some (.ref f10)))
    (l10 : K.lookup f10 = some ⟨oc10, od10, .func (PySem.W.fnOf "is_word" "is_word" (defArgs sWord) (defBody sWord) (defScope sWord) .none kV10 dc10 pm10 an10 cd10 ct10), sl10⟩)
    (c10 : PySem.W.codeIn K cd10 "is_word" = true)
    (k10 : PySem.W.keepIn K (.ref f10) = true)
    (a11 : PySem.W.nsIn K mainGlobals "_law_cell_at" = some (some (.ref f11)))
    (l11 : K.lookup f11 = some ⟨oc11, od11, .func (PySem.W.fnOf "_law_cell_at" "_law_cell_at" (defArgs sCell) (defBody sCell) (defScope sCell) .none kV11 dc11 pm11 an11 cd11 ct11), sl11⟩)
    (c11 : PySem.W.codeIn K cd11 "_law_cell_at" = true)
    (k11 : PySem.W.keepIn K (.ref f11) = true)
    (a12 : PySem.W.nsIn K mainGlobals "_law_mixed" = some (some (.ref f12)))
    (l12 : K.lookup f12 = some ⟨oc12, od12, .func (PySem.W.fnOf "_law_mixed" "_law_mixed" (defArgs sMix) (defBody sMix) (defScope sMix) .none kV12 dc12 pm12 an12 cd12 ct12), sl12⟩)
    (c12 : PySem.W.codeIn K cd12 "_law_mixed" = true)
    (k12 : PySem.W.keepIn K (.ref f12) = true)
    (a13 : PySem.W.nsIn K mainGlobals "_law_lanes" = some (some (.ref f13)))
    (l13 : K.lookup f13 = some ⟨oc13, od13, .func (PySem.W.fnOf "_law_lanes" "_law_lanes" (defArgs sLanes) (defBody sLanes) (defScope sLanes) .none kV13 dc13 pm13 an13 cd13 ct13), sl13⟩)
    (c13 : PySem.W.codeIn K cd13 "_law_lanes" = true)
    (k13 : PySem.W.keepIn K (.ref f13) = true)
    (a14 : PySem.W.nsIn K mainGlobals "_law_no_rooms" = some (some (.ref f14)))
    (l14 : K.lookup f14 = some ⟨oc14, od14, .func (PySem.W.fnOf "_law_no_rooms" "_law_no_rooms" (defArgs sNoR) (defBody sNoR) (defScope sNoR) .none kV14 dc14 pm14 an14 cd14 ct14), sl14⟩)
    (c14 : PySem.W.codeIn K cd14 "_law_no_rooms" = true)
    (k14 : PySem.W.keepIn K (.ref f14) = true)
    (a15 : PySem.W.nsIn K mainGlobals "_law_refused" = some (some (.ref f15)))
    (l15 : K.lookup f15 = some ⟨oc15, od15, .func (PySem.W.fnOf "_law_refused" "_law_refused" (defArgs sRef) (defBody sRef) (defScope sRef) .none kV15 dc15 pm15 an15 cd15 ct15), sl15⟩)
    (c15 : PySem.W.codeIn K cd15 "_law_refused" = true)
    (k15 : PySem.W.keepIn K (.ref f15) = true)
    (a16 : PySem.W.nsIn K mainGlobals "_law_rooms" = some (some (.ref f16)))
    (l16 : K.lookup f16 = some ⟨oc16, od16, .func (PySem.W.fnOf "_law_rooms" "_law_rooms" (defArgs sLRooms) (defBody sLRooms) (defScope sLRooms) .none kV16 dc16 pm16 an16 cd16 ct16), sl16⟩)
    (c16 : PySem.W.codeIn K cd16 "_law_rooms" = true)
    (k16 : PySem.W.keepIn K (.ref f16) = true)
    (a17 : PySem.W.nsIn K mainGlobals "_law_bad" = some (some (.ref f17)))
    (l17 : K.lookup f17 = some ⟨oc17, od17, .func (PySem.W.fnOf "_law_bad" "_law_bad" (defArgs sBad) (defBody sBad) (defScope sBad) .none kV17 dc17 pm17 an17 cd17 ct17), sl17⟩)
    (c17 : PySem.W.codeIn K cd17 "_law_bad" = true)
    (k17 : PySem.W.keepIn K (.ref f17) = true)
    (a18 : PySem.W.nsIn K mainGlobals "_law_full" = some (some (.ref f18)))
    (l18 : K.lookup f18 = some ⟨oc18, od18, .func (PySem.W.fnOf "_law_full" "_law_full" (defArgs sFull) (defBody sFull) (defScope sFull) .none kV18 dc18 pm18 an18 cd18 ct18), sl18⟩)
    (c18 : PySem.W.codeIn K cd18 "_law_full" = true)
    (k18 : PySem.W.keepIn K (.ref f18) = true)
    (a19 : PySem.W.nsIn K mainGlobals "law" = some (some (.ref f19)))
    (l19 : K.lookup f19 = some ⟨oc19, od19, .func (PySem.W.fnOf "law" "law" (defArgs sLaw) (defBody sLaw) (defScope sLaw) .none kV19 dc19 pm19 an19 cd19 ct19), sl19⟩)
    (c19 : PySem.W.codeIn K cd19 "law" = true)
    (k19 : PySem.W.keepIn K (.ref f19) = true)
    (a20 : PySem.W.findIn K (.ref cL) "__init__" = some (some (.ref f20)))
    (l20 : K.lookup f20 = some ⟨oc20, od20, .func (PySem.W.fnOf "__init__" "Land.__init__" (defArgs sInit) (defBody sInit) (defScope sInit) .none kV20 dc20 pm20 an20 cd20 ct20), sl20⟩)
    (c20 : PySem.W.codeIn K cd20 "Land.__init__" = true)
    (k20 : PySem.W.keepIn K (.ref f20) = true)
    (i20 : PySem.W.isFn K (.ref f20) = true)
    (a21 : PySem.W.findIn K (.ref cL) "start_of" = some (some (.ref f21)))
    (l21 : K.lookup f21 = some ⟨oc21, od21, .func (PySem.W.fnOf "start_of" "Land.start_of" (defArgs sStart) (defBody sStart) (defScope sStart) .none kV21 dc21 pm21 an21 cd21 ct21), sl21⟩)
    (c21 : PySem.W.codeIn K cd21 "Land.start_of" = true)
    (k21 : PySem.W.keepIn K (.ref f21) = true)
    (i21 : PySem.W.isFn K (.ref f21) = true)
    (a22 : PySem.W.findIn K (.ref cL) "end_of" = some (some (.ref f22)))
    (l22 : K.lookup f22 = some ⟨oc22, od22, .func (PySem.W.fnOf "end_of" "Land.end_of" (defArgs sEnd) (defBody sEnd) (defScope sEnd) .none kV22 dc22 pm22 an22 cd22 ct22), sl22⟩)
    (c22 : PySem.W.codeIn K cd22 "Land.end_of" = true)
    (k22 : PySem.W.keepIn K (.ref f22) = true)
    (i22 : PySem.W.isFn K (.ref f22) = true)
    (a23 : PySem.W.findIn K (.ref cL) "out_of" = some (some (.ref f23)))
    (l23 : K.lookup f23 = some ⟨oc23, od23, .func (PySem.W.fnOf "out_of" "Land.out_of" (defArgs sOut) (defBody sOut) (defScope sOut) .none kV23 dc23 pm23 an23 cd23 ct23), sl23⟩)
    (c23 : PySem.W.codeIn K cd23 "Land.out_of" = true)
    (k23 : PySem.W.keepIn K (.ref f23) = true)
    (i23 : PySem.W.isFn K (.ref f23) = true)
    (a24 : PySem.W.findIn K (.ref cL) "into" = some (some (.ref f24)))
    (l24 : K.lookup f24 = some ⟨oc24, od24, .func (PySem.W.fnOf "into" "Land.into" (defArgs sInto) (defBody sInto) (defScope sInto) .none kV24 dc24 pm24 an24 cd24 ct24), sl24⟩)
    (c24 : PySem.W.codeIn K cd24 "Land.into" = true)
    (k24 : PySem.W.keepIn K (.ref f24) = true)
    (i24 : PySem.W.isFn K (.ref f24) = true)
    (a25 : PySem.W.findIn K (.ref cT) "__init__" = some (some (.ref f25)))
    (l25 : K.lookup f25 = some ⟨oc25, od25, .func (PySem.W.fnOf "__init__" "TooMany.__init__" (defArgs sTM) (defBody sTM) (defScope sTM) .none kV25 dc25 pm25 an25 cd25 ct25), sl25⟩)
    (c25 : PySem.W.codeIn K cd25 "TooMany.__init__" = true)
    (k25 : PySem.W.keepIn K (.ref f25) = true)
    (i25 : PySem.W.isFn K (.ref f25) = true)
    (a26 : PySem.W.findIn K (.ref cR) "__init__" = some (some (.ref f26)))
    (l26 : K.lookup f26 = some ⟨oc26, od26, .func (PySem.W.fnOf "__init__" "NoRoad.__init__" (defArgs sNR) (defBody sNR) (defScope sNR) .none kV26 dc26 pm26 an26 cd26 ct26), sl26⟩)
    (c26 : PySem.W.codeIn K cd26 "NoRoad.__init__" = true)
    (k26 : PySem.W.keepIn K (.ref f26) = true)
    (i26 : PySem.W.isFn K (.ref f26) = true)
    (a27 : PySem.W.findIn K (.ref cB) "__init__" = some (some (.ref f27)))
    (l27 : K.lookup f27 = some ⟨oc27, od27, .func (PySem.W.fnOf "__init__" "Table.__init__" (defArgs sTab) (defBody sTab) (defScope sTab) .none kV27 dc27 pm27 an27 cd27 ct27), sl27⟩)
    (c27 : PySem.W.codeIn K cd27 "Table.__init__" = true)
    (k27 : PySem.W.keepIn K (.ref f27) = true)
    (i27 : PySem.W.isFn K (.ref f27) = true)
    (a28 : PySem.W.findIn K (.ref cO) "__init__" = some (some (.ref f28)))
    (l28 : K.lookup f28 = some ⟨oc28, od28, .func (PySem.W.fnOf "__init__" "Nearer.__init__" (defArgs sNear) (defBody sNear) (defScope sNear) .none kV28 dc28 pm28 an28 cd28 ct28), sl28⟩)
    (c28 : PySem.W.codeIn K cd28 "Nearer.__init__" = true)
    (k28 : PySem.W.keepIn K (.ref f28) = true)
    (i28 : PySem.W.isFn K (.ref f28) = true)
    (a29 : PySem.W.findIn K (.ref cO) "ways" = some (some (.ref f29)))
    (l29 : K.lookup f29 = some ⟨oc29, od29, .func (PySem.W.fnOf "ways" "Nearer.ways" (defArgs sWays) (defBody sWays) (defScope sWays) .none kV29 dc29 pm29 an29 cd29 ct29), sl29⟩)
    (c29 : PySem.W.codeIn K cd29 "Nearer.ways" = true)
    (k29 : PySem.W.keepIn K (.ref f29) = true)
    (i29 : PySem.W.isFn K (.ref f29) = true)
    (a30 : PySem.W.findIn K (.ref cA) "__init__" = some (some (.ref f30)))
    (l30 : K.lookup f30 = some ⟨oc30, od30, .func (PySem.W.fnOf "__init__" "Lane.__init__" (defArgs sLnI) (defBody sLnI) (defScope sLnI) .none kV30 dc30 pm30 an30 cd30 ct30), sl30⟩)
    (c30 : PySem.W.codeIn K cd30 "Lane.__init__" = true)
    (k30 : PySem.W.keepIn K (.ref f30) = true)
    (i30 : PySem.W.isFn K (.ref f30) = true)
    (a31 : PySem.W.findIn K (.ref cA) "told" = some (some (.ref f31)))
    (l31 : K.lookup f31 = some ⟨oc31, od31, .func (PySem.W.fnOf "told" "Lane.told" (defArgs sLnT) (defBody sLnT) (defScope sLnT) .none kV31 dc31 pm31 an31 cd31 ct31), sl31⟩)
    (c31 : PySem.W.codeIn K cd31 "Lane.told" = true)
    (k31 : PySem.W.keepIn K (.ref f31) = true)
    (i31 : PySem.W.isFn K (.ref f31) = true)
    (a32 : PySem.W.findIn K (.ref cE) "__init__" = some (some (.ref f32)))
    (l32 : K.lookup f32 = some ⟨oc32, od32, .func (PySem.W.fnOf "__init__" "Letter.__init__" (defArgs sLetI) (defBody sLetI) (defScope sLetI) .none kV32 dc32 pm32 an32 cd32 ct32), sl32⟩)
    (c32 : PySem.W.codeIn K cd32 "Letter.__init__" = true)
    (k32 : PySem.W.keepIn K (.ref f32) = true)
    (i32 : PySem.W.isFn K (.ref f32) = true)
    (a33 : PySem.W.findIn K (.ref cZ) "__init__" = some (some (.ref f33)))
    (l33 : K.lookup f33 = some ⟨oc33, od33, .func (PySem.W.fnOf "__init__" "NoWay.__init__" (defArgs sNR2) (defBody sNR2) (defScope sNR2) .none kV33 dc33 pm33 an33 cd33 ct33), sl33⟩)
    (c33 : PySem.W.codeIn K cd33 "NoWay.__init__" = true)
    (k33 : PySem.W.keepIn K (.ref f33) = true)
    (i33 : PySem.W.isFn K (.ref f33) = true)
    (a34 : PySem.W.findIn K (.ref cD) "__init__" = some (some (.ref f34)))
    (l34 : K.lookup f34 = some ⟨oc34, od34, .func (PySem.W.fnOf "__init__" "Yard.__init__" (defArgs sYdI) (defBody sYdI) (defScope sYdI) (.ref dT34) kV34 dc34 pm34 an34 cd34 ct34), sl34⟩)
    (d34 : K.lookup dT34 = some ⟨tO34, tD34, .seq #[Value.none] tN34, tS34⟩)
    (c34 : PySem.W.codeIn K cd34 "Yard.__init__" = true)
    (k34 : PySem.W.keepIn K (.ref f34) = true)
    (i34 : PySem.W.isFn K (.ref f34) = true)
    (a35 : PySem.W.findIn K (.ref cD) "post" = some (some (.ref f35)))
    (l35 : K.lookup f35 = some ⟨oc35, od35, .func (PySem.W.fnOf "post" "Yard.post" (defArgs sPost) (defBody sPost) (defScope sPost) (.ref dT35) kV35 dc35 pm35 an35 cd35 ct35), sl35⟩)
    (d35 : K.lookup dT35 = some ⟨tO35, tD35, .seq #[Value.int 0 tk35] tN35, tS35⟩)
    (c35 : PySem.W.codeIn K cd35 "Yard.post" = true)
    (k35 : PySem.W.keepIn K (.ref f35) = true)
    (i35 : PySem.W.isFn K (.ref f35) = true)
    (a36 : PySem.W.findIn K (.ref cD) "ended" = some (some (.ref f36)))
    (l36 : K.lookup f36 = some ⟨oc36, od36, .func (PySem.W.fnOf "ended" "Yard.ended" (defArgs sEnded) (defBody sEnded) (defScope sEnded) .none kV36 dc36 pm36 an36 cd36 ct36), sl36⟩)
    (c36 : PySem.W.codeIn K cd36 "Yard.ended" = true)
    (k36 : PySem.W.keepIn K (.ref f36) = true)
    (i36 : PySem.W.isFn K (.ref f36) = true)
    (a37 : PySem.W.findIn K (.ref cD) "lane_told" = some (some (.ref f37)))
    (l37 : K.lookup f37 = some ⟨oc37, od37, .func (PySem.W.fnOf "lane_told" "Yard.lane_told" (defArgs sLaneT) (defBody sLaneT) (defScope sLaneT) .none kV37 dc37 pm37 an37 cd37 ct37), sl37⟩)
    (c37 : PySem.W.codeIn K cd37 "Yard.lane_told" = true)
    (k37 : PySem.W.keepIn K (.ref f37) = true)
    (i37 : PySem.W.isFn K (.ref f37) = true)
    (a38 : PySem.W.findIn K (.ref cD) "letter_told" = some (some (.ref f38)))
    (l38 : K.lookup f38 = some ⟨oc38, od38, .func (PySem.W.fnOf "letter_told" "Yard.letter_told" (defArgs sLetT) (defBody sLetT) (defScope sLetT) .none kV38 dc38 pm38 an38 cd38 ct38), sl38⟩)
    (c38 : PySem.W.codeIn K cd38 "Yard.letter_told" = true)
    (k38 : PySem.W.keepIn K (.ref f38) = true)
    (i38 : PySem.W.isFn K (.ref f38) = true)
    (a39 : PySem.W.findIn K (.ref cD) "way_told" = some (some (.ref f39)))
    (l39 : K.lookup f39 = some ⟨oc39, od39, .func (PySem.W.fnOf "way_told" "Yard.way_told" (defArgs sWayT) (defBody sWayT) (defScope sWayT) .none kV39 dc39 pm39 an39 cd39 ct39), sl39⟩)
    (c39 : PySem.W.codeIn K cd39 "Yard.way_told" = true)
    (k39 : PySem.W.keepIn K (.ref f39) = true)
    (i39 : PySem.W.isFn K (.ref f39) = true)
    (a40 : PySem.W.findIn K (.ref cD) "posted" = some (some (.ref f40)))
    (l40 : K.lookup f40 = some ⟨oc40, od40, .func (PySem.W.fnOf "posted" "Yard.posted" (defArgs sPosted) (defBody sPosted) (defScope sPosted) .none kV40 dc40 pm40 an40 cd40 ct40), sl40⟩)
    (c40 : PySem.W.codeIn K cd40 "Yard.posted" = true)
    (k40 : PySem.W.keepIn K (.ref f40) = true)
    (i40 : PySem.W.isFn K (.ref f40) = true)
    (a41 : PySem.W.findIn K (.ref cD) "history" = some (some (.ref f41)))
    (l41 : K.lookup f41 = some ⟨oc41, od41, .func (PySem.W.fnOf "history" "Yard.history" (defArgs sHist) (defBody sHist) (defScope sHist) .none kV41 dc41 pm41 an41 cd41 ct41), sl41⟩)
    (c41 : PySem.W.codeIn K cd41 "Yard.history" = true)
    (k41 : PySem.W.keepIn K (.ref f41) = true)
    (i41 : PySem.W.isFn K (.ref f41) = true)
    (mp : PySem.W.nsIn K mainGlobals "MOST_PLACES" = some (some (.int 12 t1)))
    (ml : PySem.W.nsIn K mainGlobals "MOST_LANES" = some (some (.int 40 t2)))
    (mr : PySem.W.nsIn K mainGlobals "MOST_ROOM" = some (some (.int 60 t3)))
    (mh : PySem.W.nsIn K mainGlobals "MOST_LENGTH" = some (some (.int 60 t4)))
    (mk : PySem.W.nsIn K mainGlobals "MOST_LETTERS" = some (some (.int 60 t5)))
    (p1cL : PySem.W.plainGet K cL Str.empty = true)
    (p2cL : PySem.W.hasDictIn K cL = true)
    (p3cL : PySem.W.plainOver K cL = true)
    (p4cL : PySem.W.findIn K (.ref cL) "__setattr__" = some (some (.builtin "object.__setattr__")))
    (p5cL : PySem.W.makesIn K cL = true)
    (p6cL : PySem.W.keepIn K (.ref cL) = true)
    (ncLplaces : PySem.W.findIn K (.ref cL) "places" = some none)
    (ncLlanes : PySem.W.findIn K (.ref cL) "lanes" = some none)
    (p1cO : PySem.W.plainGet K cO Str.empty = true)
    (p2cO : PySem.W.hasDictIn K cO = true)
    (p3cO : PySem.W.plainOver K cO = true)
    (p4cO : PySem.W.findIn K (.ref cO) "__setattr__" = some (some (.builtin "object.__setattr__")))
    (p5cO : PySem.W.makesIn K cO = true)
    (p6cO : PySem.W.keepIn K (.ref cO) = true)
    (ncOland : PySem.W.findIn K (.ref cO) "land" = some none)
    (ncOentries : PySem.W.findIn K (.ref cO) "entries" = some none)
    (p1cA : PySem.W.plainGet K cA Str.empty = true)
    (p2cA : PySem.W.hasDictIn K cA = true)
    (p3cA : PySem.W.plainOver K cA = true)
    (p4cA : PySem.W.findIn K (.ref cA) "__setattr__" = some (some (.builtin "object.__setattr__")))
    (p5cA : PySem.W.makesIn K cA = true)
    (p6cA : PySem.W.keepIn K (.ref cA) = true)
    (ncArights : PySem.W.findIn K (.ref cA) "rights" = some none)
    (ncAreturning : PySem.W.findIn K (.ref cA) "returning" = some none)
    (ncAholder : PySem.W.findIn K (.ref cA) "holder" = some none)
    (ncApieces : PySem.W.findIn K (.ref cA) "pieces" = some none)
    (p1cE : PySem.W.plainGet K cE Str.empty = true)
    (p2cE : PySem.W.hasDictIn K cE = true)
    (p3cE : PySem.W.plainOver K cE = true)
    (p4cE : PySem.W.findIn K (.ref cE) "__setattr__" = some (some (.builtin "object.__setattr__")))
    (p5cE : PySem.W.makesIn K cE = true)
    (p6cE : PySem.W.keepIn K (.ref cE) = true)
    (ncEstart : PySem.W.findIn K (.ref cE) "start" = some none)
    (ncEgoal : PySem.W.findIn K (.ref cE) "goal" = some none)
    (ncElength : PySem.W.findIn K (.ref cE) "length" = some none)
    (ncEword : PySem.W.findIn K (.ref cE) "word" = some none)
    (ncEgone : PySem.W.findIn K (.ref cE) "gone" = some none)
    (ncEway : PySem.W.findIn K (.ref cE) "way" = some none)
    (p1cD : PySem.W.plainGet K cD Str.empty = true)
    (p2cD : PySem.W.hasDictIn K cD = true)
    (p3cD : PySem.W.plainOver K cD = true)
    (p4cD : PySem.W.findIn K (.ref cD) "__setattr__" = some (some (.builtin "object.__setattr__")))
    (p5cD : PySem.W.makesIn K cD = true)
    (p6cD : PySem.W.keepIn K (.ref cD) = true)
    (ncDtable : PySem.W.findIn K (.ref cD) "table" = some none)
    (ncDrooms : PySem.W.findIn K (.ref cD) "rooms" = some none)
    (ncDlanes : PySem.W.findIn K (.ref cD) "lanes" = some none)
    (ncDletters : PySem.W.findIn K (.ref cD) "letters" = some none)
    (ncDlies : PySem.W.findIn K (.ref cD) "lies" = some none)
    (ncDdone : PySem.W.findIn K (.ref cD) "done" = some none)
    (x1cN : excInI K cN none = true)
    (x2cN : PySem.W.keepIn K (.ref cN) = true)
    (x1cT : excInI K cT (some (.ref f25)) = true)
    (x2cT : PySem.W.keepIn K (.ref cT) = true)
    (x3cT : exOver K cT = true)
    (x4cT : PySem.W.hasDictIn K cT = true)
    (x5cT : PySem.W.findIn K (.ref cT) "__setattr__" = some (some (.builtin "object.__setattr__")))
    (x6cT : PySem.W.findIn K (.ref cT) "__getattribute__" = some (some (.builtin "BaseException.__getattribute__")))
    (x7cT : PySem.W.findIn K (.ref cT) "__getattr__" = some none)
    (ncTmany : PySem.W.findIn K (.ref cT) "many" = some none)
    (x1cR : excInI K cR (some (.ref f26)) = true)
    (x2cR : PySem.W.keepIn K (.ref cR) = true)
    (x3cR : exOver K cR = true)
    (x4cR : PySem.W.hasDictIn K cR = true)
    (x5cR : PySem.W.findIn K (.ref cR) "__setattr__" = some (some (.builtin "object.__setattr__")))
    (x6cR : PySem.W.findIn K (.ref cR) "__getattribute__" = some (some (.builtin "BaseException.__getattribute__")))
    (x7cR : PySem.W.findIn K (.ref cR) "__getattr__" = some none)
    (ncRlane : PySem.W.findIn K (.ref cR) "lane" = some none)
    (x1cM : excInI K cM none = true)
    (x2cM : PySem.W.keepIn K (.ref cM) = true)
    (x3cM : exOver K cM = true)
    (x4cM : PySem.W.hasDictIn K cM = true)
    (x5cM : PySem.W.findIn K (.ref cM) "__setattr__" = some (some (.builtin "object.__setattr__")))
    (x6cM : PySem.W.findIn K (.ref cM) "__getattribute__" = some (some (.builtin "BaseException.__getattribute__")))
    (x7cM : PySem.W.findIn K (.ref cM) "__getattr__" = some none)
    (x1cP : excInI K cP none = true)
    (x2cP : PySem.W.keepIn K (.ref cP) = true)
    (x3cP : exOver K cP = true)
    (x4cP : PySem.W.hasDictIn K cP = true)
    (x5cP : PySem.W.findIn K (.ref cP) "__setattr__" = some (some (.builtin "object.__setattr__")))
    (x6cP : PySem.W.findIn K (.ref cP) "__getattribute__" = some (some (.builtin "BaseException.__getattribute__")))
    (x7cP : PySem.W.findIn K (.ref cP) "__getattr__" = some none)
    (x1cG : excInI K cG none = true)
    (x2cG : PySem.W.keepIn K (.ref cG) = true)
    (x3cG : exOver K cG = true)
    (x4cG : PySem.W.hasDictIn K cG = true)
    (x5cG : PySem.W.findIn K (.ref cG) "__setattr__" = some (some (.builtin "object.__setattr__")))
    (x6cG : PySem.W.findIn K (.ref cG) "__getattribute__" = some (some (.builtin "BaseException.__getattribute__")))
    (x7cG : PySem.W.findIn K (.ref cG) "__getattr__" = some none)
    (x1cW : excInI K cW none = true)
    (x2cW : PySem.W.keepIn K (.ref cW) = true)
    (x3cW : exOver K cW = true)
    (x4cW : PySem.W.hasDictIn K cW = true)
    (x5cW : PySem.W.findIn K (.ref cW) "__setattr__" = some (some (.builtin "object.__setattr__")))
    (x6cW : PySem.W.findIn K (.ref cW) "__getattribute__" = some (some (.builtin "BaseException.__getattribute__")))
    (x7cW : PySem.W.findIn K (.ref cW) "__getattr__" = some none)
    (x1cZ : excInI K cZ (some (.ref f33)) = true)
    (x2cZ : PySem.W.keepIn K (.ref cZ) = true)
    (x3cZ : exOver K cZ = true)
    (x4cZ : PySem.W.hasDictIn K cZ = true)
    (x5cZ : PySem.W.findIn K (.ref cZ) "__setattr__" = some (some (.builtin "object.__setattr__")))
    (x6cZ : PySem.W.findIn K (.ref cZ) "__getattribute__" = some (some (.builtin "BaseException.__getattribute__")))
    (x7cZ : PySem.W.findIn K (.ref cZ) "__getattr__" = some none)
    (ncZstart : PySem.W.findIn K (.ref cZ) "start" = some none)
    (ncZgoal : PySem.W.findIn K (.ref cZ) "goal" = some none)
    (x1cF : excInI K cF none = true)
    (x2cF : PySem.W.keepIn K (.ref cF) = true)
    (x3cF : exOver K cF = true)
    (x4cF : PySem.W.hasDictIn K cF = true)
    (x5cF : PySem.W.findIn K (.ref cF) "__setattr__" = some (some (.builtin "object.__setattr__")))
    (x6cF : PySem.W.findIn K (.ref cF) "__getattribute__" = some (some (.builtin "BaseException.__getattribute__")))
    (x7cF : PySem.W.findIn K (.ref cF) "__getattr__" = some none)
    (w1cB : PySem.W.readsIn K cB (.type "type") = true)
    (w2cB : PySem.W.findCls K (.ref cB) (.type "type") "__init__" = some (.val (.ref f27)))
    (w3cB : PySem.W.specialIn K (.ref cB) "__getattribute__" = some (some (.builtin "type.__getattribute__")))
    (kk1 : PySem.W.kitOne K (.type "int") (.type "int") = some true)
    (kk2 : PySem.W.kitOne K (.type "int") (.type "bool") = some false)
    (kk3 : PySem.W.kitOne K (.type "bool") (.type "int") = some true)
    (kk4 : PySem.W.kitOne K (.type "bool") (.type "bool") = some true)
    (kk5 : PySem.W.kitOne K (.type "NoneType") (.type "int") = some false)
    (y2 : PySem.W.specialIn K (.builtin "object.__class__") "__get__" = some (some (.builtin "getset_descriptor.__get__")))
    (y3 : PySem.W.takesIn K (.builtin "object.__class__") = some true)
    (y1cM : PySem.W.findIn K (.ref cM) "__class__" = some (some (.builtin "object.__class__")))
    (y1cP : PySem.W.findIn K (.ref cP) "__class__" = some (some (.builtin "object.__class__")))
    (y1cG : PySem.W.findIn K (.ref cG) "__class__" = some (some (.builtin "object.__class__")))
    (y1cW : PySem.W.findIn K (.ref cW) "__class__" = some (some (.builtin "object.__class__")))
    (y1cZ : PySem.W.findIn K (.ref cZ) "__class__" = some (some (.builtin "object.__class__")))
    (y1cF : PySem.W.findIn K (.ref cF) "__class__" = some (some (.builtin "object.__class__")))
    (eM : PySem.W.exmOne K (.ref cM) (.ref cM) = some true)
    (qMy : PySem.W.kitOne K (.ref cM) (.ref cY) = some true)
    (qMv : PySem.W.kitOne K (.ref cM) (.type "ValueError") = some true)
    (ewcP : PySem.W.exmOne K (.ref cP) (.ref cZ) = some false)
    (eycP : PySem.W.exmOne K (.ref cP) (.ref cY) = some true)
    (qvcP : PySem.W.kitOne K (.ref cP) (.type "ValueError") = some true)
    (qcPcP : PySem.W.kitOne K (.ref cP) (.ref cP) = some true)
    (qcPcG : PySem.W.kitOne K (.ref cP) (.ref cG) = some false)
    (qcPcW : PySem.W.kitOne K (.ref cP) (.ref cW) = some false)
    (qcPcF : PySem.W.kitOne K (.ref cP) (.ref cF) = some false)
    (ewcG : PySem.W.exmOne K (.ref cG) (.ref cZ) = some false)
    (eycG : PySem.W.exmOne K (.ref cG) (.ref cY) = some true)
    (qvcG : PySem.W.kitOne K (.ref cG) (.type "ValueError") = some true)
    (qcGcP : PySem.W.kitOne K (.ref cG) (.ref cP) = some false)
    (qcGcG : PySem.W.kitOne K (.ref cG) (.ref cG) = some true)
    (qcGcW : PySem.W.kitOne K (.ref cG) (.ref cW) = some false)
    (qcGcF : PySem.W.kitOne K (.ref cG) (.ref cF) = some false)
    (ewcW : PySem.W.exmOne K (.ref cW) (.ref cZ) = some false)
    (eycW : PySem.W.exmOne K (.ref cW) (.ref cY) = some true)
    (qvcW : PySem.W.kitOne K (.ref cW) (.type "ValueError") = some true)
    (qcWcP : PySem.W.kitOne K (.ref cW) (.ref cP) = some false)
    (qcWcG : PySem.W.kitOne K (.ref cW) (.ref cG) = some false)
    (qcWcW : PySem.W.kitOne K (.ref cW) (.ref cW) = some true)
    (qcWcF : PySem.W.kitOne K (.ref cW) (.ref cF) = some false)
    (ewcF : PySem.W.exmOne K (.ref cF) (.ref cZ) = some false)
    (eycF : PySem.W.exmOne K (.ref cF) (.ref cY) = some true)
    (qvcF : PySem.W.kitOne K (.ref cF) (.type "ValueError") = some true)
    (qcFcP : PySem.W.kitOne K (.ref cF) (.ref cP) = some false)
    (qcFcG : PySem.W.kitOne K (.ref cF) (.ref cG) = some false)
    (qcFcW : PySem.W.kitOne K (.ref cF) (.ref cW) = some false)
    (qcFcF : PySem.W.kitOne K (.ref cF) (.ref cF) = some true)
    (ewZ : PySem.W.exmOne K (.ref cZ) (.ref cZ) = some true)
    (qZy : PySem.W.kitOne K (.ref cZ) (.ref cY) = some true)
    (qZcP : PySem.W.kitOne K (.ref cZ) (.ref cP) = some false)
    (qZcG : PySem.W.kitOne K (.ref cZ) (.ref cG) = some false)
    (qZcW : PySem.W.kitOne K (.ref cZ) (.ref cW) = some false)
    (z0 : PySem.W.nsIn K mainGlobals "isinstance" = some none)
    (z1 : PySem.W.nsIn K mainGlobals "int" = some none)
    (z2 : PySem.W.nsIn K mainGlobals "bool" = some none)
    (z3 : PySem.W.nsIn K mainGlobals "len" = some none)
    (z4 : PySem.W.nsIn K mainGlobals "enumerate" = some none)
    (z5 : PySem.W.nsIn K mainGlobals "tuple" = some none)
    (z6 : PySem.W.nsIn K mainGlobals "range" = some none)
    (z7 : PySem.W.nsIn K mainGlobals "list" = some none)
    (z8 : PySem.W.nsIn K mainGlobals "all" = some none)
    (z9 : PySem.W.nsIn K mainGlobals "sum" = some none)
    (z10 : PySem.W.nsIn K mainGlobals "abs" = some none)
    (z11 : PySem.W.nsIn K mainGlobals "ValueError" = some none)
    : ∃ fd : FuncData, (∀ (s : Shared) (v : Value), BindsTo s fd ⟨[v], []⟩ [("_law_script", v)]) ∧ ∀ base : Heap, K.In base → base.Ns mainGlobals mg → FnOk l.prog w K mg base CX0 8 fa fd ["_law_script"] (spLaw K) := by
  have e := hfa.symm.trans (PySem.W.mg_of X G a19)
  cases e
  have T : Txt mg := ⟨PySem.W.mg_none_of X G z0, PySem.W.mg_none_of X G z1, PySem.W.mg_none_of X G z2, PySem.W.mg_none_of X G z3, PySem.W.mg_none_of X G z4, PySem.W.mg_none_of X G z5, PySem.W.mg_none_of X G z6, PySem.W.mg_none_of X G z7, PySem.W.mg_none_of X G z8, PySem.W.mg_none_of X G z9, PySem.W.mg_none_of X G z10, PySem.W.mg_none_of X G z11⟩
  have F1 := fun_mk (st := sHas) l1 c1 k1
  have F2 := fun_mk (st := sMem) l2 c2 k2
  have F3 := fun_mk (st := sSet) l3 c3 k3
  have F4 := fun_mk (st := sWhole) l4 c4 k4
  have F5 := fun_mk (st := sWithin) l5 c5 k5
  have F6 := fun_mk (st := sTwo) l6 c6 k6
  have F7 := fun_mk (st := sHow) l7 c7 k7
  have F8 := fun_mk (st := sNl) l8 c8 k8
  have F9 := fun_mk (st := sRooms) l9 c9 k9
  have F10 := fun_mk (st := sWord) l10 c10 k10
  have F11 := fun_mk (st := sCell) l11 c11 k11
  have F12 := fun_mk (st := sMix) l12 c12 k12
  have F13 := fun_mk (st := sLanes) l13 c13 k13
  have F14 := fun_mk (st := sNoR) l14 c14 k14
  have F15 := fun_mk (st := sRef) l15 c15 k15
  have F16 := fun_mk (st := sLRooms) l16 c16 k16
  have F17 := fun_mk (st := sBad) l17 c17 k17
  have F18 := fun_mk (st := sFull) l18 c18 k18
  have F19 := fun_mk (st := sLaw) l19 c19 k19
  have F20 := fun_mk (st := sInit) l20 c20 k20
  have F21 := fun_mk (st := sStart) l21 c21 k21
  have F22 := fun_mk (st := sEnd) l22 c22 k22
  have F23 := fun_mk (st := sOut) l23 c23 k23
  have F24 := fun_mk (st := sInto) l24 c24 k24
  have F25 := fun_mk (st := sTM) l25 c25 k25
  have F26 := fun_mk (st := sNR) l26 c26 k26
  have F27 := fun_mk (st := sTab) l27 c27 k27
  have F28 := fun_mk (st := sNear) l28 c28 k28
  have F29 := fun_mk (st := sWays) l29 c29 k29
  have F30 := fun_mk (st := sLnI) l30 c30 k30
  have F31 := fun_mk (st := sLnT) l31 c31 k31
  have F32 := fun_mk (st := sLetI) l32 c32 k32
  have F33 := fun_mk (st := sNR2) l33 c33 k33
  have F34 : FunD K "__init__" "Yard.__init__" sYdI f34 _ := ⟨⟨_, _, _, _, _, _, _, _, _, _, rfl, l34, c34⟩, k34⟩
  have F35 : FunD K "post" "Yard.post" sPost f35 _ := ⟨⟨_, _, _, _, _, _, _, _, _, _, rfl, l35, c35⟩, k35⟩
  have F36 := fun_mk (st := sEnded) l36 c36 k36
  have F37 := fun_mk (st := sLaneT) l37 c37 k37
  have F38 := fun_mk (st := sLetT) l38 c38 k38
  have F39 := fun_mk (st := sWayT) l39 c39 k39
  have F40 := fun_mk (st := sPosted) l40 c40 k40
  have F41 := fun_mk (st := sHist) l41 c41 k41
  have b1 := F1.binds (ps := ["some", "number"]) fun _ _ _ _ _ _ => len_of2 (fun _ _ => rfl)
  have b2 := F2.binds (ps := ["some"]) fun _ _ _ _ _ _ => len_of1 (fun _ => rfl)
  have b3 := F3.binds (ps := ["numbers"]) fun _ _ _ _ _ _ => len_of1 (fun _ => rfl)
  have b4 := F4.binds (ps := ["value"]) fun _ _ _ _ _ _ => len_of1 (fun _ => rfl)
  have b5 := F5.binds (ps := ["value", "least", "most"]) fun _ _ _ _ _ _ => len_of3 (fun _ _ _ => rfl)
  have b6 := F6.binds (ps := ["places", "one", "other"]) fun _ _ _ _ _ _ => len_of3 (fun _ _ _ => rfl)
  have b7 := F7.binds (ps := ["land", "goal"]) fun _ _ _ _ _ _ => len_of2 (fun _ _ => rfl)
  have b8 := F8.binds (ps := ["land", "far", "place"]) fun _ _ _ _ _ _ => len_of3 (fun _ _ _ => rfl)
  have b9 := F9.binds (ps := ["land", "rooms"]) fun _ _ _ _ _ _ => len_of2 (fun _ _ => rfl)
  have b10 := F10.binds (ps := ["word"]) fun _ _ _ _ _ _ => len_of1 (fun _ => rfl)
  have b11 := F11.binds (ps := ["_law_script", "_law_k"]) fun _ _ _ _ _ _ => len_of2 (fun _ _ => rfl)
  have b12 := F12.binds (ps := ["_law_cell", "_law_k"]) fun _ _ _ _ _ _ => len_of2 (fun _ _ => rfl)
  have b13 := F13.binds (ps := ["_law_places", "_law_amount", "_law_cell"]) fun _ _ _ _ _ _ => len_of3 (fun _ _ _ => rfl)
  have b14 := F14.binds (ps := ["_law_table", "_law_rooms_here"]) fun _ _ _ _ _ _ => len_of2 (fun _ _ => rfl)
  have b15 := F15.binds (ps := ["_law_yard", "_law_start", "_law_goal", "_law_length", "_law_word"]) fun _ _ _ _ _ _ => len_of5 (fun _ _ _ _ _ => rfl)
  have b16 := F16.binds (ps := ["_law_table", "_law_cell"]) fun _ _ _ _ _ _ => len_of2 (fun _ _ => rfl)
  have b17 := F17.binds (ps := ["_law_yard", "_law_places", "_law_start", "_law_goal", "_law_cell"]) fun _ _ _ _ _ _ => len_of5 (fun _ _ _ _ _ => rfl)
  have b18 := F18.binds (ps := ["_law_yard", "_law_start", "_law_goal", "_law_cell"]) fun _ _ _ _ _ _ => len_of4 (fun _ _ _ _ => rfl)
  have b20 := F20.binds (ps := ["self", "places", "lanes"]) fun _ _ _ _ _ _ => len_of3 (fun _ _ _ => rfl)
  have b21 := F21.binds (ps := ["self", "lane"]) fun _ _ _ _ _ _ => len_of2 (fun _ _ => rfl)
  have b22 := F22.binds (ps := ["self", "lane"]) fun _ _ _ _ _ _ => len_of2 (fun _ _ => rfl)
  have b23 := F23.binds (ps := ["self", "place"]) fun _ _ _ _ _ _ => len_of2 (fun _ _ => rfl)
  have b24 := F24.binds (ps := ["self", "place"]) fun _ _ _ _ _ _ => len_of2 (fun _ _ => rfl)
  have b25 := F25.binds (ps := ["self", "many"]) fun _ _ _ _ _ _ => len_of2 (fun _ _ => rfl)
  have b26 := F26.binds (ps := ["self", "lane"]) fun _ _ _ _ _ _ => len_of2 (fun _ _ => rfl)
  have b27 := F27.binds (ps := ["self", "land"]) fun _ _ _ _ _ _ => len_of2 (fun _ _ => rfl)
  have b28 := F28.binds (ps := ["self", "land"]) fun _ _ _ _ _ _ => len_of2 (fun _ _ => rfl)
  have b29 := F29.binds (ps := ["self", "place", "goal", "came"]) fun _ _ _ _ _ _ => len_of4 (fun _ _ _ _ => rfl)
  have b30 := F30.binds (ps := ["self", "room"]) fun _ _ _ _ _ _ => len_of2 (fun _ _ => rfl)
  have b31 := F31.binds (ps := ["self"]) fun _ _ _ _ _ _ => len_of1 (fun _ => rfl)
  have b32 := F32.binds (ps := ["self", "start", "goal", "length", "word"]) fun _ _ _ _ _ _ => len_of5 (fun _ _ _ _ _ => rfl)
  have b33 := F33.binds (ps := ["self", "start", "goal"]) fun _ _ _ _ _ _ => len_of3 (fun _ _ _ => rfl)
  have b36 := F36.binds (ps := ["self"]) fun _ _ _ _ _ _ => len_of1 (fun _ => rfl)
  have b37 := F37.binds (ps := ["self", "lane"]) fun _ _ _ _ _ _ => len_of2 (fun _ _ => rfl)
  have b38 := F38.binds (ps := ["self", "number"]) fun _ _ _ _ _ _ => len_of2 (fun _ _ => rfl)
  have b39 := F39.binds (ps := ["self", "number"]) fun _ _ _ _ _ _ => len_of2 (fun _ _ => rfl)
  have b40 := F40.binds (ps := ["self"]) fun _ _ _ _ _ _ => len_of1 (fun _ => rfl)
  have b41 := F41.binds (ps := ["self"]) fun _ _ _ _ _ _ => len_of1 (fun _ => rfl)
  have L : Lnd K ⟨cN, cT, cR, cL⟩ := ⟨⟨p1cL, p2cL, p3cL, p4cL⟩, ncLplaces, ncLlanes⟩
  have xT : XCls K cT := ⟨x3cT, x4cT, x5cT, x6cT, x7cT⟩
  have xR : XCls K cR := ⟨x3cR, x4cR, x5cR, x6cR, x7cR⟩
  have xM : XCls K cM := ⟨x3cM, x4cM, x5cM, x6cM, x7cM⟩
  have xP : XCls K cP := ⟨x3cP, x4cP, x5cP, x6cP, x7cP⟩
  have xG : XCls K cG := ⟨x3cG, x4cG, x5cG, x6cG, x7cG⟩
  have xW : XCls K cW := ⟨x3cW, x4cW, x5cW, x6cW, x7cW⟩
  have xZ : XCls K cZ := ⟨x3cZ, x4cZ, x5cZ, x6cZ, x7cZ⟩
  have xF : XCls K cF := ⟨x3cF, x4cF, x5cF, x6cF, x7cF⟩
  have sM : XIsi K cM := ⟨y1cM, y2, y3⟩
  have sP : XIsi K cP := ⟨y1cP, y2, y3⟩
  have sG : XIsi K cG := ⟨y1cG, y2, y3⟩
  have sW : XIsi K cW := ⟨y1cW, y2, y3⟩
  have sZ : XIsi K cZ := ⟨y1cZ, y2, y3⟩
  have sF : XIsi K cF := ⟨y1cF, y2, y3⟩
  have Z : Kinds K := ⟨kk1, kk2, kk3, kk4, kk5⟩
  have E : Exc K mg ⟨cN, cT, cR, cL⟩ f25 f26 _ _ := ⟨(PySem.W.mg_of X G gcN), x1cN, x2cN, (PySem.W.mg_of X G gcT), x1cT, x2cT, xT, ncTmany, i25, F25, b25, (PySem.W.mg_of X G gcR), x1cR, x2cR, xR, ncRlane, i26, F26, b26⟩
  have B : Tbl K mg ⟨cB, cO⟩ f27 _ := ⟨⟨p1cO, p2cO, p3cO, p4cO⟩, ncOland, ncOentries, (PySem.W.mg_of X G gcB), ⟨w1cB, w2cB, w3cB, k27⟩, b27⟩
  have Y : Yrd K ⟨cD, cA, cE⟩ := ⟨⟨p1cD, p2cD, p3cD, p4cD⟩, ncDtable, ncDrooms, ncDlanes, ncDletters, ncDlies, ncDdone, ⟨p1cE, p2cE, p3cE, p4cE⟩, ncEstart, ncEgoal, ncElength, ncEword, ncEgone, ncEway, ⟨⟨p1cA, p2cA, p3cA, p4cA⟩, ncArights, ncAreturning, ncAholder, ncApieces⟩⟩
  have N : XN K cY cM := ⟨xM, sM, eM, qMy, qMv⟩
  have eX : ExP K mg "NoRooms" cM := ⟨(PySem.W.mg_of X G gcM), x1cM, x2cM⟩
  have X1 : ExP K mg "NoPlace" cP := ⟨(PySem.W.mg_of X G gcP), x1cP, x2cP⟩
  have X2 : ExP K mg "NoLength" cG := ⟨(PySem.W.mg_of X G gcG), x1cG, x2cG⟩
  have X3 : ExP K mg "NoWord" cW := ⟨(PySem.W.mg_of X G gcW), x1cW, x2cW⟩
  have X5 : ExP K mg "Full" cF := ⟨(PySem.W.mg_of X G gcF), x1cF, x2cF⟩
  have X4 : ExW K mg cZ f33 _ := ⟨(PySem.W.mg_of X G gcZ), x1cZ, x2cZ, xZ, ncZstart, ncZgoal, i33, F33, b33⟩
  have A : XA K mg cY ⟨cP, cG, cW, cZ, cF⟩ := ⟨(PySem.W.mg_of X G gcY), (PySem.W.mg_of X G gcP), (PySem.W.mg_of X G gcG), (PySem.W.mg_of X G gcW), (PySem.W.mg_of X G gcZ), (PySem.W.mg_of X G gcF), ⟨xP, sP, ewcP, eycP, qvcP, qcPcP, qcPcG, qcPcW, qcPcF⟩, ⟨xG, sG, ewcG, eycG, qvcG, qcGcP, qcGcG, qcGcW, qcGcF⟩, ⟨xW, sW, ewcW, eycW, qvcW, qcWcP, qcWcG, qcWcW, qcWcF⟩, ⟨xZ, sZ, ewZ, qZy, qZcP, qZcG, qZcW, ncZstart, ncZgoal⟩, ⟨xF, sF, ewcF, eycF, qvcF, qcFcP, qcFcG, qcFcW, qcFcF⟩⟩
  have by0 := binds_ydI0 (kV := kV34) (doc := dc34) (pm := pm34) (cdv := cd34) (ct := ct34) (an := an34) d34 rfl
  have by1 := binds_ydI1 (kV := kV34) (doc := dc34) (pm := pm34) (cdv := cd34) (ct := ct34) (an := an34) d34 rfl
  have bp0 := binds_post0 (kV := kV35) (doc := dc35) (pm := pm35) (cdv := cd35) (ct := ct35) (an := an35) d35 rfl
  have bp1 := binds_post1 (kV := kV35) (doc := dc35) (pm := pm35) (cdv := cd35) (ct := ct35) (an := an35) d35 rfl
  have Mi : Mk K cL f20 := ⟨p5cL, a20, i20, p6cL⟩
  have Mn : Mk K cO f28 := ⟨p5cO, a28, i28, p6cO⟩
  have My : Mk K cD f34 := ⟨p5cD, a34, i34, p6cD⟩
  have Ma : Mk K cA f30 := ⟨p5cA, a30, i30, p6cA⟩
  have Me : Mk K cE f32 := ⟨p5cE, a32, i32, p6cE⟩
  have Ml : Lm K ⟨cN, cT, cR, cL⟩ f21 f22 f23 f24 _ _ _ _ := ⟨⟨a21, i21, k21⟩, b21, ⟨a22, i22, k22⟩, b22, ⟨a23, i23, k23⟩, b23, ⟨a24, i24, k24⟩, b24⟩
  refine ⟨PySem.W.fnOf "law" "law" (defArgs sLaw) (defBody sLaw) (defScope sLaw) .none kV19 dc19 pm19 an19 cd19 ct19, fun s v => .of_eq rfl, fun base _ _ => ?_⟩
  have Wn : Wy K cO f29 _ (NrJ l.prog w ⟨cB, cO⟩) := ⟨⟨p1cO, p2cO, p3cO, p4cO⟩, ncOland, ⟨a29, i29, k29⟩, b29, fun H H' x n wy h k => h.keep k⟩
  have Wx : ∃ fw2 dw2, Wy K cO fw2 dw2 (NrJ l.prog w ⟨cB, cO⟩) := ⟨_, _, Wn⟩
  have Gw : FnOk l.prog w K mg base CX0 2 f5 _ ["value", "least", "most"] spWithin := ok_within F5 T (PySem.W.mg_of X G a4) F4 b4
  have GwV : FnOk l.prog w K mg base CX0 2 f5 _ ["value", "least", "most"] spWithinV := ok_withinV F5 T Z (PySem.W.mg_of X G a4) F4 b4
  have G2 : FnOk l.prog w K mg base CX0 3 f6 _ ["places", "one", "other"] spTwo := ok_two F6 (PySem.W.mg_of X G a5) k5 b5 Gw
  have Gi : FnOk l.prog w K mg base (CXe l.prog w) 4 f20 _ ["self", "places", "lanes"] (spInit K ⟨cN, cT, cR, cL⟩) := ok_init F20 T L E (PySem.W.mg_of X G a5) k5 b5 Gw (PySem.W.mg_of X G a6) k6 b6 G2 (PySem.W.mg_of X G mp) (PySem.W.mg_of X G ml)
  have Gm : FnOk l.prog w K mg base CX0 2 f2 _ ["some"] spMem := ok_mem F2 T (PySem.W.mg_of X G a1) F1 b1
  have Gs : FnOk l.prog w K mg base CX0 1 f3 _ ["numbers"] (spSet K) := ok_set F3
  have Gh : FnOk l.prog w K mg base CX0 2 f7 _ ["land", "goal"] (spHow ⟨cN, cT, cR, cL⟩) := ok_how F7 T L Ml (ok_start F21 L) (ok_into F24 T L)
  have Gnl : FnOk l.prog w K mg base CX0 2 f8 _ ["land", "far", "place"] (spNl ⟨cN, cT, cR, cL⟩) := ok_nl F8 T L Ml (ok_end F22 L) (ok_out F23 T L)
  have Gn : FnOk l.prog w K mg base CX0 3 f28 _ ["self", "land"] (spNear l.prog w ⟨cN, cT, cR, cL⟩ ⟨cB, cO⟩) := ok_near F28 T L B (ok_tab F27) (PySem.W.mg_of X G a7) k7 b7 Gh (PySem.W.mg_of X G a8) k8 b8 Gnl (PySem.W.mg_of X G a3) k3 b3 Gs
  have Gway : FnOk l.prog w K mg base CX0 3 f29 _ ["self", "place", "goal", "came"] (spWaysA (NrJ l.prog w ⟨cB, cO⟩)) := ok_waysA F29 B (PySem.W.mg_of X G a2) k2 b2 Gm
  have Gro : FnOk l.prog w K mg base (CXe l.prog w) 3 f9 _ ["land", "rooms"] (spRooms K ⟨cN, cT, cR, cL⟩ cM) := ok_rooms F9 T L eX (PySem.W.mg_of X G a5) k5 b5 GwV (PySem.W.mg_of X G mr)
  have Gwo : FnOk l.prog w K mg base CX0 2 f10 _ ["word"] spWord := ok_word F10 T (PySem.W.mg_of X G a4) k4 b4 (ok_wholeV F4 T Z)
  have Gla : FnOk l.prog w K mg base CX0 1 f30 _ ["self", "room"] (spLnI cA) := ok_lnI F30 Y.L
  have Glt : FnOk l.prog w K mg base CX0 1 f31 _ ["self"] (spLnT cA) := ok_lnT F31 T Y.L
  have Gle : FnOk l.prog w K mg base CX0 1 f32 _ ["self", "start", "goal", "length", "word"] (spLtI cE) := ok_ltI F32 Y
  have Gy : FnOk l.prog w K mg base (CXe l.prog w) 4 f34 _ ["self", "table", "rooms"] (spYdI K ⟨cN, cT, cR, cL⟩ cO (NrJ l.prog w ⟨cB, cO⟩) ⟨cD, cA, cE⟩ cM) := ok_ydI F34 T L Y Wn (PySem.W.mg_of X G a9) k9 b9 Gro (PySem.W.mg_of X G gcA) Ma b30 Gla
  have Gp : FnOk l.prog w K mg base (CXe l.prog w) 4 f35 _ ["self", "start", "goal", "length", "word"] (spPost K ⟨cN, cT, cR, cL⟩ cO (NrJ l.prog w ⟨cB, cO⟩) ⟨cD, cA, cE⟩ ⟨cP, cG, cW, cZ, cF⟩) := ok_post F35 T L Y Wn Gway (PySem.W.mg_of X G a5) k5 b5 GwV (PySem.W.mg_of X G a10) k10 b10 Gwo (PySem.W.mg_of X G gcE) Me b32 Gle (PySem.W.mg_of X G mh) (PySem.W.mg_of X G mk) X1 X2 X3 X4 X5
  have Gen : FnOk l.prog w K mg base CX0 1 f36 _ ["self"] (spEnded K ⟨cD, cA, cE⟩) := ok_ended F36 T Y
  have Glnt : FnOk l.prog w K mg base CX0 2 f37 _ ["self", "lane"] (spLaneT K ⟨cD, cA, cE⟩) := ok_laneT F37 Y ⟨a31, i31, k31⟩ b31 Glt
  have Glet : FnOk l.prog w K mg base CX0 1 f38 _ ["self", "number"] (spLetT K ⟨cD, cA, cE⟩) := ok_letT F38 Y
  have Gwt : FnOk l.prog w K mg base CX0 1 f39 _ ["self", "number"] (spWayT K ⟨cD, cA, cE⟩) := ok_wayT F39 T Y
  have Gpd : FnOk l.prog w K mg base CX0 1 f40 _ ["self"] (spPosted K ⟨cD, cA, cE⟩) := ok_posted F40 T Y
  have Ghi : FnOk l.prog w K mg base CX0 1 f41 _ ["self"] (spHist K ⟨cD, cA, cE⟩) := ok_hist F41 T Y
  have Gc : FnOk l.prog w K mg base CX0 1 f11 _ ["_law_script", "_law_k"] (spCell K) := ok_cell F11 T
  have Gmx : FnOk l.prog w K mg base CX0 1 f12 _ ["_law_cell", "_law_k"] spMix := ok_mix F12
  have Gln : FnOk l.prog w K mg base CX0 2 f13 _ ["_law_places", "_law_amount", "_law_cell"] spLanes := ok_lanes F13 T (PySem.W.mg_of X G a12) k12 b12 Gmx
  have Gno : FnOk l.prog w K mg base CX0 6 f14 _ ["_law_table", "_law_rooms_here"] (spNoR K ⟨cN, cT, cR, cL⟩ cO (NrJ l.prog w ⟨cB, cO⟩)) := ok_noR (ds := []) F14 T Wx (PySem.W.mg_of X G gcM) (PySem.W.mg_of X G gcY) N My (PySem.W.mg_of X G gcD) by0 Gy
  have Gr : FnOk l.prog w K mg base CX0 5 f15 _ ["_law_yard", "_law_start", "_law_goal", "_law_length", "_law_word"] (spRefu K ⟨cN, cT, cR, cL⟩ cO (NrJ l.prog w ⟨cB, cO⟩) ⟨cD, cA, cE⟩) := ok_refu F15 T Wx A Y ⟨a35, i35, k35⟩ bp0 Gp
  have Glr : FnOk l.prog w K mg base CX0 7 f16 _ ["_law_table", "_law_cell"] (spLR ⟨cN, cT, cR, cL⟩ cO (NrJ l.prog w ⟨cB, cO⟩)) := ok_lrooms F16 T L Y Wx (PySem.W.mg_of X G a12) k12 b12 Gmx (PySem.W.mg_of X G a14) k14 b14 Gno My (PySem.W.mg_of X G gcD) by0 Gy ⟨a37, i37, k37⟩ b37 Glnt
  have Gb : FnOk l.prog w K mg base CX0 6 f17 _ ["_law_yard", "_law_places", "_law_start", "_law_goal", "_law_cell"] (spBad K ⟨cN, cT, cR, cL⟩ cO (NrJ l.prog w ⟨cB, cO⟩) ⟨cD, cA, cE⟩) := ok_bad F17 Wx (PySem.W.mg_of X G a15) k15 b15 Gr
  have Gf : FnOk l.prog w K mg base CX0 6 f18 _ ["_law_yard", "_law_start", "_law_goal", "_law_cell"] (spFull K ⟨cN, cT, cR, cL⟩ cO (NrJ l.prog w ⟨cB, cO⟩) ⟨cD, cA, cE⟩) := ok_full F18 T L Y Wx (PySem.W.mg_of X G a15) k15 b15 Gr ⟨a35, i35, k35⟩ bp0 Gp ⟨a38, i38, k38⟩ b38 Glet ⟨a39, i39, k39⟩ b39 Gwt ⟨a40, i40, k40⟩ b40 Gpd
  exact ok_law (c := ⟨cN, cT, cR, cL⟩) (ts := ⟨cB, cO⟩) (ys := ⟨cD, cA, cE⟩) (x := ⟨cP, cG, cW, cZ, cF⟩) (nr := cM) F19 T L Y ⟨(PySem.W.mg_of X G gcL), Mi, b20, Gi, (PySem.W.mg_of X G gcO), Mn, b28, Gn, PySem.W.mg_of X G a11, k11, b11, Gc, PySem.W.mg_of X G a13, k13, b13, Gln, PySem.W.mg_of X G a16, k16, b16, Glr, (PySem.W.mg_of X G gcD), My, by1, Gy, PySem.W.mg_of X G a17, k17, b17, Gb, ⟨a36, i36, k36⟩, b36, Gen, ⟨a37, i37, k37⟩, b37, Glnt, ⟨a35, i35, k35⟩, bp1, Gp, Wn, Gway, PySem.W.mg_of X G a15, k15, b15, Gr, ⟨a40, i40, k40⟩, b40, Gpd, ⟨a41, i41, k41⟩, b41, Ghi, ⟨_, _, ⟨a38, i38, k38⟩, b38, Glet⟩, PySem.W.mg_of X G a18, k18, b18, Gf⟩
theorem walk {l : PySem.W.OpenLaw} {q : Program} {loose : List Str} {XP : (Str → Option Value) → Heap → Prop} {YP : World → Heap → Prop} {d : DefRec} {K : Params → PySem.W.Frag} (hn : l.most = some 63) (hdf : d.params.defaults = [])
    (hY : ∀ (w : World) (h : Heap), YP w h → (K w.params).In h)
    (F : ∀ (w : World) (mg : Str → Option Value) (fa : Addr) (h : Heap), (K w.params).In h → h.Ns mainGlobals mg → mg d.name = some (.ref fa) →
      ∃ fd : FuncData, (∀ (s : Shared) (u : Value), BindsTo s fd ⟨[u], []⟩ [("_law_script", u)]) ∧ ∀ base : Heap, (K w.params).In base → base.Ns mainGlobals mg → FnOk l.prog w (K w.params) mg base CX0 8 fa fd ["_law_script"] (spLaw (K w.params))) :
    PySem.W.WalkO q loose XP YP l.row.toRowW d [] (fun f vs => PySem.call f vs) :=
  L2.walk_of (n := 63) (k := 8) (x := "_law_script") (CX := fun _ => CX0) (sp := fun w => spLaw (K w.params)) hn (by decide) hdf ⟨rfl, by decide, by decide⟩ hY F (fun _ _ a ns hl _ hS => ⟨a, ns, rfl, hS, hl, fun _ => rfl⟩) fun _ _ _ _ _ z => z
end K46
theorem PySem.W.Fast.tw5579394878989272602 : True := trivial
theorem PySem.W.Fast.tw5419168702551050118 : True := trivial
theorem PySem.W.Fast.tw14997293564072471014 : True := trivial
theorem PySem.W.Fast.tw15119809756661797723 : True := trivial
theorem PySem.W.Fast.tw6370564286169915488 : True := trivial
theorem PySem.W.Fast.tw16644473430698540820 : True := trivial
theorem PySem.W.Fast.tw14079604824246999817 : True := trivial
theorem PySem.W.Fast.tw7539619738227297343 : True := trivial
theorem PySem.W.Fast.tw12748772723644716141 : True := trivial
theorem PySem.W.Fast.tw9827426359736280997 : True := trivial
theorem PySem.W.Fast.tw2202058845936582677 : True := trivial
theorem PySem.W.Fast.tw3328882534868417459 : True := trivial
theorem PySem.W.Fast.tw16826834221473666604 : True := trivial
theorem PySem.W.Fast.tw16771783461682605936 : True := trivial
theorem PySem.W.Fast.tw5754418996470987143 : True := trivial
theorem PySem.W.Fast.tw6977646683401990518 : True := trivial
theorem PySem.W.Fast.tw5221705473813872663 : True := trivial
theorem PySem.W.Fast.tw13419407492499468571 : True := trivial
theorem PySem.W.Fast.tw1402128419772514478 : True := trivial
theorem PySem.W.Fast.tw9262765400097465352 : True := trivial
theorem PySem.W.Fast.tw16632156133903611787 : True := trivial
theorem PySem.W.Fast.tw2450972680033029814 : True := trivial
theorem PySem.W.Fast.tw2854968805136849640 : True := trivial
theorem PySem.W.Fast.tw9213254352817045985 : True := trivial
theorem PySem.W.Fast.tw3595712787092461715 : True := trivial
theorem PySem.W.Fast.tw7028075934310934396 : True := trivial
theorem PySem.W.Fast.tw4805885029885131964 : True := trivial
theorem PySem.W.Fast.tw17873879984776449503 : True := trivial
theorem PySem.W.Fast.tw6912564425727157462 : True := trivial
theorem PySem.W.Fast.tw1557293855367022574 : True := trivial
open PySem PySem.W PyProof.Rows
set_option maxRecDepth 100000 in
set_option maxHeartbeats 0 in
theorem PySem.Challenge.cw_wormyard_k46_posted_holds : PySem.Challenge.rw_wormyard_k46_posted.Holds := by
  w_on; o_law; k_head; (case hw => w_witness2)
  k_fill
  refine K46.walk (l := PySem.Challenge.rw_wormyard_k46_posted) rfl rfl (fun w h Y => PySem.W.kIn_of Y) ?F
  case F =>
    intro w mg fa h KX G hmg
    refine' K46.all_mk KX G hmg ?gcL ?gcN ?gcT ?gcR ?gcB ?gcO ?gcY ?gcM ?gcP ?gcG ?gcW ?gcZ ?gcF ?gcA ?gcE ?gcD ?a1 ?l1 ?c1 ?k1 ?a2 ?l2 ?c2 ?k2 ?a3 ?l3 ?c3 ?k3 ?a4 ?l4 ?c4 ?k4 ?a5 ?l5 ?c5 ?k5 ?a6 ?l6 ?c6 ?k6 ?a7 ?l7 ?c7 ?k7 ?a8 ?l8 ?c8 ?k8 ?a9 ?l9 ?c9 ?k9 ?a10 ?l10 ?c10 ?k10 ?a11 ?l11 ?c11 ?k11 ?a12 ?l12 ?c12 ?k12 ?a13 ?l13 ?c13 ?k13 ?a14 ?l14 ?c14 ?k14 ?a15 ?l15 ?c15 ?k15 ?a16 ?l16 ?c16 ?k16 ?a17 ?l17 ?c17 ?k17 ?a18 ?l18 ?c18 ?k18 ?a19 ?l19 ?c19 ?k19 ?a20 ?l20 ?c20 ?k20 ?i20 ?a21 ?l21 ?c21 ?k21 ?i21 ?a22 ?l22 ?c22 ?k22 ?i22 ?a23 ?l23 ?c23 ?k23 ?i23 ?a24 ?l24 ?c24 ?k24 ?i24 ?a25 ?l25 ?c25 ?k25 ?i25 ?a26 ?l26 ?c26 ?k26 ?i26 ?a27 ?l27 ?c27 ?k27 ?i27 ?a28 ?l28 ?c28 ?k28 ?i28 ?a29 ?l29 ?c29 ?k29 ?i29 ?a30 ?l30 ?c30 ?k30 ?i30 ?a31 ?l31 ?c31 ?k31 ?i31 ?a32 ?l32 ?c32 ?k32 ?i32 ?a33 ?l33 ?c33 ?k33 ?i33 ?a34 ?l34 ?d34 ?c34 ?k34 ?i34 ?a35 ?l35 ?d35 ?c35 ?k35 ?i35 ?a36 ?l36 ?c36 ?k36 ?i36 ?a37 ?l37 ?c37 ?k37 ?i37 ?a38 ?l38 ?c38 ?k38 ?i38 ?a39 ?l39 ?c39 ?k39 ?i39 ?a40 ?l40 ?c40 ?k40 ?i40 ?a41 ?l41 ?c41 ?k41 ?i41 ?mp ?ml ?mr ?mh ?mk ?p1cL ?p2cL ?p3cL ?p4cL ?p5cL ?p6cL ?ncLplaces ?ncLlanes ?p1cO ?p2cO ?p3cO ?p4cO ?p5cO ?p6cO ?ncOland ?ncOentries ?p1cA ?p2cA ?p3cA ?p4cA ?p5cA ?p6cA ?ncArights ?ncAreturning ?ncAholder ?ncApieces ?p1cE ?p2cE ?p3cE ?p4cE ?p5cE ?p6cE ?ncEstart ?ncEgoal ?ncElength ?ncEword ?ncEgone ?ncEway ?p1cD ?p2cD ?p3cD ?p4cD ?p5cD ?p6cD ?ncDtable ?ncDrooms ?ncDlanes ?ncDletters ?ncDlies ?ncDdone ?x1cN ?x2cN ?x1cT ?x2cT ?x3cT ?x4cT ?x5cT ?x6cT ?x7cT ?ncTmany ?x1cR ?x2cR ?x3cR ?x4cR ?x5cR ?x6cR ?x7cR ?ncRlane ?x1cM ?x2cM ?x3cM ?x4cM ?x5cM ?x6cM ?x7cM ?x1cP ?x2cP ?x3cP ?x4cP ?x5cP ?x6cP ?x7cP ?x1cG ?x2cG ?x3cG ?x4cG ?x5cG ?x6cG ?x7cG ?x1cW ?x2cW ?x3cW ?x4cW ?x5cW ?x6cW ?x7cW ?x1cZ ?x2cZ ?x3cZ ?x4cZ ?x5cZ ?x6cZ ?x7cZ ?ncZstart ?ncZgoal ?x1cF ?x2cF ?x3cF ?x4cF ?x5cF ?x6cF ?x7cF ?w1cB ?w2cB ?w3cB ?kk1 ?kk2 ?kk3 ?kk4 ?kk5 ?y2 ?y3 ?y1cM ?y1cP ?y1cG ?y1cW ?y1cZ ?y1cF ?eM ?qMy ?qMv ?ewcP ?eycP ?qvcP ?qcPcP ?qcPcG ?qcPcW ?qcPcF ?ewcG ?eycG ?qvcG ?qcGcP ?qcGcG ?qcGcW ?qcGcF ?ewcW ?eycW ?qvcW ?qcWcP ?qcWcG ?qcWcW ?qcWcF ?ewcF ?eycF ?qvcF ?qcFcP ?qcFcG ?qcFcW ?qcFcF ?ewZ ?qZy ?qZcP ?qZcG ?qZcW ?z0 ?z1 ?z2 ?z3 ?z4 ?z5 ?z6 ?z7 ?z8 ?z9 ?z10 ?z11
    (case gcL => k_is)
    (case gcN => k_is)
    (case gcT => k_is)
    (case gcR => k_is)
    (case gcB => k_is)
    (case gcO => k_is)
    (case gcY => k_is)
    (case gcM => k_is)
    (case gcP => k_is)
    (case gcG => k_is)
    (case gcW => k_is)
    (case gcZ => k_is)
    (case gcF => k_is)
    (case gcA => k_is)
    (case gcE => k_is)
    (case gcD => k_is)
    (case a1 => k_is)
    (case l1 => k_is)
    (case c1 => k_is)
    (case k1 => k_is)
    (case a2 => k_is)
    (case l2 => k_is)
    (case c2 => k_is)
    (case k2 => k_is)
    (case a3 => k_is)
    (case l3 => k_is)
    (case c3 => k_is)
    (case k3 => k_is)
    (case a4 => k_is)
    (case l4 => k_is)
    (case c4 => k_is)
    (case k4 => k_is)
    (case a5 => k_is)
    (case l5 => k_is)
    (case c5 => k_is)
    (case k5 => k_is)
    (case a6 => k_is)
    (case l6 => k_is)
    (case c6 => k_is)
    (case k6 => k_is)
    (case a7 => k_is)
    (case l7 => k_is)
    (case c7 => k_is)
    (case k7 => k_is)
    (case a8 => k_is)
    (case l8 => k_is)
    (case c8 => k_is)
    (case k8 => k_is)
    (case a9 => k_is)
    (case l9 => k_is)
    (case c9 => k_is)
    (case k9 => k_is)
    (case a10 => k_is)
    (case l10 => k_is)
    (case c10 => k_is)
    (case k10 => k_is)
    (case a11 => k_is)
    (case l11 => k_is)
    (case c11 => k_is)
    (case k11 => k_is)
    (case a12 => k_is)
    (case l12 => k_is)
    (case c12 => k_is)
    (case k12 => k_is)
    (case a13 => k_is)
    (case l13 => k_is)
    (case c13 => k_is)
    (case k13 => k_is)
    (case a14 => k_is)
    (case l14 => k_is)
    (case c14 => k_is)
    (case k14 => k_is)
    (case a15 => k_is)
    (case l15 => k_is)
    (case c15 => k_is)
    (case k15 => k_is)
    (case a16 => k_is)
    (case l16 => k_is)
    (case c16 => k_is)
    (case k16 => k_is)
    (case a17 => k_is)
    (case l17 => k_is)
    (case c17 => k_is)
    (case k17 => k_is)
    (case a18 => k_is)
    (case l18 => k_is)
    (case c18 => k_is)
    (case k18 => k_is)
    (case a19 => k_is)
    (case l19 => k_is)
    (case c19 => k_is)
    (case k19 => k_is)
    (case a20 => k_is)
    (case l20 => k_is)
    (case c20 => k_is)
    (case k20 => k_is)
    (case i20 => k_is)
    (case a21 => k_is)
    (case l21 => k_is)
    (case c21 => k_is)
    (case k21 => k_is)
    (case i21 => k_is)
    (case a22 => k_is)
    (case l22 => k_is)
    (case c22 => k_is)
    (case k22 => k_is)
    (case i22 => k_is)
    (case a23 => k_is)
    (case l23 => k_is)
    (case c23 => k_is)
    (case k23 => k_is)
    (case i23 => k_is)
    (case a24 => k_is)
    (case l24 => k_is)
    (case c24 => k_is)
    (case k24 => k_is)
    (case i24 => k_is)
    (case a25 => k_is)
    (case l25 => k_is)
    (case c25 => k_is)
    (case k25 => k_is)
    (case i25 => k_is)
    (case a26 => k_is)
    (case l26 => k_is)
    (case c26 => k_is)
    (case k26 => k_is)
    (case i26 => k_is)
    (case a27 => k_is)
    (case l27 => k_is)
    (case c27 => k_is)
    (case k27 => k_is)
    (case i27 => k_is)
    (case a28 => k_is)
    (case l28 => k_is)
    (case c28 => k_is)
    (case k28 => k_is)
    (case i28 => k_is)
    (case a29 => k_is)
    (case l29 => k_is)
    (case c29 => k_is)
    (case k29 => k_is)
    (case i29 => k_is)
    (case a30 => k_is)
    (case l30 => k_is)
    (case c30 => k_is)
    (case k30 => k_is)
    (case i30 => k_is)
    (case a31 => k_is)
    (case l31 => k_is)
    (case c31 => k_is)
    (case k31 => k_is)
    (case i31 => k_is)
    (case a32 => k_is)
    (case l32 => k_is)
    (case c32 => k_is)
    (case k32 => k_is)
    (case i32 => k_is)
    (case a33 => k_is)
    (case l33 => k_is)
    (case c33 => k_is)
    (case k33 => k_is)
    (case i33 => k_is)
    (case a34 => k_is)
    (case l34 => k_is)
    (case d34 => k_is)
    (case c34 => k_is)
    (case k34 => k_is)
    (case i34 => k_is)
    (case a35 => k_is)
    (case l35 => k_is)
    (case d35 => k_is)
    (case c35 => k_is)
    (case k35 => k_is)
    (case i35 => k_is)
    (case a36 => k_is)
    (case l36 => k_is)
    (case c36 => k_is)
    (case k36 => k_is)
    (case i36 => k_is)
    (case a37 => k_is)
    (case l37 => k_is)
    (case c37 => k_is)
    (case k37 => k_is)
    (case i37 => k_is)
    (case a38 => k_is)
    (case l38 => k_is)
    (case c38 => k_is)
    (case k38 => k_is)
    (case i38 => k_is)
    (case a39 => k_is)
    (case l39 => k_is)
    (case c39 => k_is)
    (case k39 => k_is)
    (case i39 => k_is)
    (case a40 => k_is)
    (case l40 => k_is)
    (case c40 => k_is)
    (case k40 => k_is)
    (case i40 => k_is)
    (case a41 => k_is)
    (case l41 => k_is)
    (case c41 => k_is)
    (case k41 => k_is)
    (case i41 => k_is)
    (case mp => k_is)
    (case ml => k_is)
    (case mr => k_is)
    (case mh => k_is)
    (case mk => k_is)
    (case p1cL => k_is)
    (case p2cL => k_is)
    (case p3cL => k_is)
    (case p4cL => k_is)
    (case p5cL => k_is)
    (case p6cL => k_is)
    (case ncLplaces => k_is)
    (case ncLlanes => k_is)
    (case p1cO => k_is)
    (case p2cO => k_is)
    (case p3cO => k_is)
    (case p4cO => k_is)
    (case p5cO => k_is)
    (case p6cO => k_is)
    (case ncOland => k_is)
    (case ncOentries => k_is)
    (case p1cA => k_is)
    (case p2cA => k_is)
    (case p3cA => k_is)
    (case p4cA => k_is)
    (case p5cA => k_is)
    (case p6cA => k_is)
    (case ncArights => k_is)
    (case ncAreturning => k_is)
    (case ncAholder => k_is)
    (case ncApieces => k_is)
    (case p1cE => k_is)
    (case p2cE => k_is)
    (case p3cE => k_is)
    (case p4cE => k_is)
    (case p5cE => k_is)
    (case p6cE => k_is)
    (case ncEstart => k_is)
    (case ncEgoal => k_is)
    (case ncElength => k_is)
    (case ncEword => k_is)
    (case ncEgone => k_is)
    (case ncEway => k_is)
    (case p1cD => k_is)
    (case p2cD => k_is)
    (case p3cD => k_is)
    (case p4cD => k_is)
    (case p5cD => k_is)
    (case p6cD => k_is)
    (case ncDtable => k_is)
    (case ncDrooms => k_is)
    (case ncDlanes => k_is)
    (case ncDletters => k_is)
    (case ncDlies => k_is)
    (case ncDdone => k_is)
    (case x1cN => kernel_rfl)
    (case x2cN => k_is)
    (case x1cT => kernel_rfl)
    (case x2cT => k_is)
    (case x3cT => kernel_rfl)
    (case x4cT => k_is)
    (case x5cT => k_is)
    (case x6cT => k_is)
    (case x7cT => k_is)
    (case ncTmany => k_is)
    (case x1cR => kernel_rfl)
    (case x2cR => k_is)
    (case x3cR => kernel_rfl)
    (case x4cR => k_is)
    (case x5cR => k_is)
    (case x6cR => k_is)
    (case x7cR => k_is)
    (case ncRlane => k_is)
    (case x1cM => kernel_rfl)
    (case x2cM => k_is)
    (case x3cM => kernel_rfl)
    (case x4cM => k_is)
    (case x5cM => k_is)
    (case x6cM => k_is)
    (case x7cM => k_is)
    (case x1cP => kernel_rfl)
    (case x2cP => k_is)
    (case x3cP => kernel_rfl)
    (case x4cP => k_is)
    (case x5cP => k_is)
    (case x6cP => k_is)
    (case x7cP => k_is)
    (case x1cG => kernel_rfl)
    (case x2cG => k_is)
    (case x3cG => kernel_rfl)
    (case x4cG => k_is)
    (case x5cG => k_is)
    (case x6cG => k_is)
    (case x7cG => k_is)
    (case x1cW => kernel_rfl)
    (case x2cW => k_is)
    (case x3cW => kernel_rfl)
    (case x4cW => k_is)
    (case x5cW => k_is)
    (case x6cW => k_is)
    (case x7cW => k_is)
    (case x1cZ => kernel_rfl)
    (case x2cZ => k_is)
    (case x3cZ => kernel_rfl)
    (case x4cZ => k_is)
    (case x5cZ => k_is)
    (case x6cZ => k_is)
    (case x7cZ => k_is)
    (case ncZstart => k_is)
    (case ncZgoal => k_is)
    (case x1cF => kernel_rfl)
    (case x2cF => k_is)
    (case x3cF => kernel_rfl)
    (case x4cF => k_is)
    (case x5cF => k_is)
    (case x6cF => k_is)
    (case x7cF => k_is)
    (case w1cB => first | k_is | kernel_rfl)
    (case w2cB => first | k_is | kernel_rfl)
    (case w3cB => first | k_is | kernel_rfl)
    (case kk1 => kit_is)
    (case kk2 => kit_is)
    (case kk3 => kit_is)
    (case kk4 => kit_is)
    (case kk5 => kit_is)
    (case y2 => k_is)
    (case y3 => k_is)
    (case y1cM => k_is)
    (case y1cP => k_is)
    (case y1cG => k_is)
    (case y1cW => k_is)
    (case y1cZ => k_is)
    (case y1cF => k_is)
    (case eM => kts_exm)
    (case qMy => kit_is)
    (case qMv => kit_is)
    (case ewcP => kts_exm)
    (case eycP => kts_exm)
    (case qvcP => kit_is)
    (case qcPcP => kit_is)
    (case qcPcG => kit_is)
    (case qcPcW => kit_is)
    (case qcPcF => kit_is)
    (case ewcG => kts_exm)
    (case eycG => kts_exm)
    (case qvcG => kit_is)
    (case qcGcP => kit_is)
    (case qcGcG => kit_is)
    (case qcGcW => kit_is)
    (case qcGcF => kit_is)
    (case ewcW => kts_exm)
    (case eycW => kts_exm)
    (case qvcW => kit_is)
    (case qcWcP => kit_is)
    (case qcWcG => kit_is)
    (case qcWcW => kit_is)
    (case qcWcF => kit_is)
    (case ewcF => kts_exm)
    (case eycF => kts_exm)
    (case qvcF => kit_is)
    (case qcFcP => kit_is)
    (case qcFcG => kit_is)
    (case qcFcW => kit_is)
    (case qcFcF => kit_is)
    (case ewZ => kts_exm)
    (case qZy => kit_is)
    (case qZcP => kit_is)
    (case qZcG => kit_is)
    (case qZcW => kit_is)
    (case z0 => k_is)
    (case z1 => k_is)
    (case z2 => k_is)
    (case z3 => k_is)
    (case z4 => k_is)
    (case z5 => k_is)
    (case z6 => k_is)
    (case z7 => k_is)
    (case z8 => k_is)
    (case z9 => k_is)
    (case z10 => k_is)
    (case z11 => k_is)
