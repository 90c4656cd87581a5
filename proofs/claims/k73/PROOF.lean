import PyProof.Rows.All
import Wide.All
import OpenK.AllK
import Wide.FinOn
import Lean
import PyProof.EqAt
import PyProof.EqKinds
import PyProof.TupleCall
import PyProof.ExcBaseAll.ValueError
import PyProof.EnumMake
import PyProof.Rows.EnumRows
import PyProof.TupleIter
import PyProof.DictValues
import PyProof.CollectStr
import PySem.Builtin.Int.W1All
import PyProof.DictRoadsH
import PyProof.DictKinds
import PyProof.FactsAll.NoneType
import KE.KDictList
import PyProof.DictIter
import PyProof.DictWalks
import PyProof.FactsAll.list_3
import PySem.Challenge.RW_wormyard_k73_whole_papers_of_what_is_lef
set_option Elab.async false
set_option linter.all false
set_option maxRecDepth 100000
set_option maxHeartbeats 4000000
/-! THE HAND LAYER, for ints, bools, texts, own classes, LISTS and tuples (index, slices, in, append, pop ..), calls, loops. Paste it whole ahead of your own text; what your proof does not reach may be deleted. -/
namespace L2
open PySem PySem.Spec PyProof.Rows

/-- a key: an int or a str -/
abbrev Key := Sum Int Str
def keyIs : Key → Value → Bool
  | .inl k, v => Value.isInt k v
  | .inr x, v => Value.isStrOf x v
def keyH (w : World) : Key → Int
  | .inl k => hashInt k
  | .inr x => hashStr w x
theorem keyIs_shape : ∀ {k : Key} {v : Value}, keyIs k v = true → (∃ i t, k = Sum.inl i ∧ v = Value.int i t) ∨ (∃ x t, k = Sum.inr x ∧ v = Value.str x t)
  | .inl i, v, h => by
    obtain ⟨t, e⟩ := Value.isInt_shape (k := i) (v := v) h
    exact .inl ⟨i, t, rfl, e⟩
  | .inr x, v, h => by
    obtain ⟨t, e⟩ := Value.isStrOf_shape (x := x) (v := v) h
    exact .inr ⟨x, t, rfl, e⟩
theorem keyIs_int (i : Int) (t : Tok) : keyIs (.inl i) (.int i t) = true := by simp [keyIs, Value.isInt]
theorem keyIs_str (x : Str) (t : Tok) : keyIs (.inr x) (.str x t) = true := by simp [keyIs, Value.isStrOf]
theorem key_ll (a b : Int) : decide ((Sum.inl a : Key) = Sum.inl b) = (a == b) := by
  by_cases e : a = b
  · subst e; simp
  · have h : ¬ (Sum.inl a : Key) = Sum.inl b := fun q => e (Sum.inl.inj q)
    rw [decide_eq_false h]
    exact (beq_eq_false_iff_ne.mpr e).symm
theorem key_rr (a b : Str) : decide ((Sum.inr a : Key) = Sum.inr b) = decide (a = b) := by
  by_cases e : a = b
  · subst e; simp
  · have h : ¬ (Sum.inr a : Key) = Sum.inr b := fun q => e (Sum.inr.inj q)
    rw [decide_eq_false h, decide_eq_false e]
theorem key_lr (a : Int) (b : Str) : decide ((Sum.inl a : Key) = Sum.inr b) = false := decide_eq_false (fun q => nomatch q)
theorem key_rl (a : Str) (b : Int) : decide ((Sum.inr a : Key) = Sum.inl b) = false := decide_eq_false (fun q => nomatch q)

def mixKind (prog : Program) (w : World) : PySem.KeyKind prog w Key where
  is := keyIs
  hash := keyH w
  inj := fun v a b ha hb => by
    rcases keyIs_shape ha with ⟨i, t, rfl, rfl⟩ | ⟨x, t, rfl, rfl⟩
    · rcases keyIs_shape hb with ⟨j, u, rfl, e⟩ | ⟨y, u, rfl, e⟩
      · injection e with e1 _; rw [e1]
      · exact nomatch e
    · rcases keyIs_shape hb with ⟨j, u, rfl, e⟩ | ⟨y, u, rfl, e⟩
      · exact nomatch e
      · injection e with e1 _; rw [e1]
  byValue := fun k v h => by
    rcases keyIs_shape h with ⟨i, t, rfl, rfl⟩ | ⟨x, t, rfl, rfl⟩ <;> rfl
  pyHash := fun hv h => by
    rcases keyIs_shape hv with ⟨i, t, rfl, rfl⟩ | ⟨x, t, rfl, rfl⟩
    · exact wpAny_pyHash_int h
    · exact wpAny_pyHash_str h
  eqBool := fun hu hv h => by
    rcases keyIs_shape hu with ⟨i, t, rfl, rfl⟩ | ⟨x, t, rfl, rfl⟩
    · rcases keyIs_shape hv with ⟨j, u, rfl, rfl⟩ | ⟨y, u, rfl, rfl⟩
      · rw [key_ll] at h; exact wpAny_eqBool_int h
      · rw [key_lr] at h; exact SeqAt.EqAt.int_str i t y u _ _ _ _ h
    · rcases keyIs_shape hv with ⟨j, u, rfl, rfl⟩ | ⟨y, u, rfl, rfl⟩
      · rw [key_rl] at h; exact SeqAt.EqAt.str_int x t j u _ _ _ _ h
      · rw [key_rr] at h; exact wpAny_eqBool_str h
  «strs» := fun k x t v h => by
    rcases keyIs_shape h with ⟨i, u, rfl, e⟩ | ⟨y, u, rfl, e⟩
    · exact nomatch e
    · injection e with e1 _
      subst e1
      cases v <;> rfl

theorem mixKind_int (prog : Program) (w : World) (i : Int) (t : Tok) : (mixKind prog w).is (.inl i) (.int i t) = true := keyIs_int i t
theorem mixKind_str (prog : Program) (w : World) (x : Str) (t : Tok) : (mixKind prog w).is (.inr x) (.str x t) = true := keyIs_str x t
end L2

namespace L2
open PySem PySem.Spec PyProof.Rows

/-- a value, without the heap -/
inductive V where
  | non | bl (b : Bool) | int (i : Int) | str (x : Str) | byt (b : Array UInt8) | flt (b : UInt64) | ref (a : Addr) | ty (n : String)
  deriving DecidableEq

def RelV : V → Value → Prop
  | .non, u => u = Value.none
  | .bl b, u => u = Value.bool b
  | .int i, u => ∃ t, u = Value.int i t
  | .str x, u => ∃ t, u = Value.str x t
  | .byt b, u => ∃ t, u = Value.bytes b t
  | .flt b, u => ∃ t, u = Value.float b t
  | .ref a, u => u = Value.ref a
  | .ty n, u => u = Value.type n

abbrev Vals : List V → List Value → Prop := Paired RelV
theorem Vals.length {xs : List V} {us : List Value} (r : Vals xs us) : xs.length = us.length := Paired.length r
theorem Vals.get : ∀ {xs : List V} {us : List Value} {i : Nat} {x : V}, Vals xs us → xs[i]? = some x → ∃ u, us[i]? = some u ∧ RelV x u
  | _, _, _, _, .nil, e => by simp at e
  | _, _, 0, _, .cons r _, e => by simp at e; subst e; exact ⟨_, rfl, r⟩
  | _, _, i + 1, x, .cons _ t, e => by
    obtain ⟨u, h1, h2⟩ := Vals.get (i := i) (x := x) t (by simpa using e)
    exact ⟨u, by simpa using h1, h2⟩
theorem Vals.set {x : V} {u : Value} (r : RelV x u) : ∀ {xs : List V} {us : List Value} (i : Nat), Vals xs us → Vals (xs.set i x) (us.set i u)
  | _, _, _, .nil => .nil
  | _, _, 0, .cons _ t => .cons r t
  | _, _, i + 1, .cons q t => .cons q (Vals.set r i t)
theorem Vals.append : ∀ {xs ys : List V} {us ws : List Value}, Vals xs us → Vals ys ws → Vals (xs ++ ys) (us ++ ws)
  | _, _, _, _, .nil, s => s
  | _, _, _, _, .cons r t, s => .cons r (Vals.append t s)
theorem Vals.take : ∀ {xs : List V} {us : List Value} (n : Nat), Vals xs us → Vals (xs.take n) (us.take n)
  | _, _, 0, _ => .nil
  | _, _, _ + 1, .nil => .nil
  | _, _, n + 1, .cons r t => .cons r (Vals.take n t)
theorem Vals.drop : ∀ {xs : List V} {us : List Value} (n : Nat), Vals xs us → Vals (xs.drop n) (us.drop n)
  | _, _, 0, r => r
  | _, _, _ + 1, .nil => .nil
  | _, _, n + 1, .cons _ t => Vals.drop n t

def RelO : Option V → Option Value → Prop
  | some v, some u => RelV v u
  | none, none => True
  | _, _ => False
def KV {κ : Type} : List (κ × V) → List (κ × Value) → Prop := Paired fun (p : κ × V) (q : κ × Value) => p.1 = q.1 ∧ RelV p.2 q.2

/-- a key of a dict (00_mix): an int or a text -/
def kV : Key → V
  | .inl i => .int i
  | .inr x => .str x

/-- what stands at a tracked address -/
inductive HO where
  /-- a list -/
  | lst (xs : List V)
  /-- a tuple (never changes) -/
  | tup (xs : List V)
  /-- a dict whose keys are ints and texts; one whose keys are tuples of ints and texts (the empty one is both) -/
  | dK (kvs : List (Key × V)) | dT (kvs : List (List Key × V))
  /-- a set of ints: its members, its size -/
  | set (S : Int → Bool) (n : Nat)
  /-- an instance of the class at C, its dict at dx, its attributes -/
  | ins (C dx : Addr) (fs : List (Str × V))
  /-- the dict of the instance at x -/
  | own (x : Addr)
  /-- the dict of an exception -/
  | xd (fs : List (Str × V))
  /-- a bound method, f of x -/
  | met (f x : Addr)
  /-- a range object lo, lo + 1, .. below hi -/
  | rng (lo hi : Int)
  /-- a thing that is known to the object (the script; a dict while a loop walks it): read, never written while it is so -/
  | frz (o : Obj) (u : HO)
  /-- a code object's table -/
  | tbl (ps : Array Value)
  /-- any other thing, by what is true of its one object (a def of one's own: SetO a S n := HO.ext fun h => ..) -/
  | ext (φ : Heap → Prop)

abbrev Hp := Addr → Option HO
def upd (H : Hp) (a : Addr) (o : HO) : Hp := fun b => if b = a then some o else H b
theorem upd_same {H : Hp} {a : Addr} {o : HO} : upd H a o a = some o := by unfold upd; rw [if_pos rfl]
theorem upd_ne {H : Hp} {a b : Addr} {o : HO} (h : b ≠ a) : upd H a o b = H b := by unfold upd; rw [if_neg h]
/-- two objects of different content stand apart -/
theorem ne_of {H : Hp} {a b : Addr} {o u : HO} (h : H a = some o) (h' : H b = some u) (d : o ≠ u) : a ≠ b := by
  intro e; subst e; rw [h] at h'; exact d (Option.some.inj h')
theorem ne_of_none {H : Hp} {a b : Addr} {o : HO} (h : H a = some o) (h' : H b = none) : a ≠ b := by
  intro e; subst e; rw [h] at h'; cases h'

/-- a tuple without a dict of its own -/
def IsTupN (h : Heap) (a : Addr) (items : Array Value) : Prop := ∃ o, h.get? a = some o ∧ (o.cls = .type "tuple" ∧ ∃ n, o.data = .seq items n) ∧ o.dict = none
theorem IsTupN.isTup {h : Heap} {a : Addr} {items : Array Value} : IsTupN h a items → IsTup h a items := fun ⟨o, e, c, _⟩ => ⟨o, e, c⟩
theorem IsTupN.new (h : Heap) (items : Array Value) : IsTupN (h.push { cls := .type "tuple", data := .seq items }) h.objs.size items := ⟨_, Heap.get?_push_size _ rfl, ⟨rfl, _, rfl⟩, rfl⟩
section
variable (P : Program) (w : World)
def ObjOk (H : Hp) (h : Heap) (a : Addr) : HO → Prop
  | .lst xs => xs.length ≤ sizeLine ∧ ∃ (its : List Value) (n : Nat), Vals xs its ∧ h.get? a = some { cls := .type "list", data := .seq its.toArray n }
  | .tup xs => xs.length ≤ sizeLine ∧ ∃ its : List Value, Vals xs its ∧ IsTupN h a its.toArray
  | .dK kvs => kvs.length ≤ sizeLine ∧ (a == sysModules) = false ∧ ∃ vs, KV kvs vs ∧ h.DictOf (mixKind P w) a vs
  | .dT kvs => kvs.length ≤ sizeLine ∧ (a == sysModules) = false ∧ ∃ xs : List (List Key × Addr × Value),
      Paired (fun (p : List Key × V) (q : List Key × Addr × Value) => p.1 = q.1 ∧ H q.2.1 = some (.tup (p.1.map kV)) ∧ RelV p.2 q.2.2) kvs xs ∧
      ∃ o es ep, h.get? a = some o ∧ o.ExactDict ∧ o.data = .dict es ep ∧ es.toList = xs.map (entryOfKey (tupleKind (mixKind P w))) ∧ (xs.map (·.1)).Nodup
  | .set S n => h.SetOf (intKind P w) a S n
  | .ins C dx fs => H dx = some (.own a) ∧ fs.length ≤ 1000 ∧ dx ≠ a ∧ h.get? a = some (PySem.W.instObj C dx) ∧
      ∃ mA, h.Ns1 dx mA ∧ (∀ f, RelO (fs.lookup f) (mA f)) ∧ PySem.Within mA (fs.map (·.1))
  | .own _ => ∃ o, h.get? a = some o
  | .xd fs => ∃ mA, h.Ns1 a mA ∧ ∀ f, RelO (fs.lookup f) (mA f)
  | .rng lo hi => ∃ t u v, h.get? a = some { cls := .type "range", data := .fields #[.int lo t, .int hi u, .int 1 v] }
  | .frz o u => h.get? a = some o ∧ ObjOk H h a u
  | .tbl ps => h.get? a = some { cls := .none, data := .fields ps }
  | .met f x => h.get? a = some (PySem.W.methodObj (.ref f) (.ref x))
  | .ext φ => φ h ∧ (∃ o, h.get? a = some o) ∧ ∀ h1 h2 : Heap, φ h1 → (∀ o, h1.get? a = some o → h2.get? a = some o) → φ h2
/-- the abstract heap is held -/
def HOk (H : Hp) (h : Heap) : Prop := ∀ a o, H a = some o → ObjOk P w H h a o
end

section
variable {P : Program} {w : World} {H H' : Hp} {h h' : Heap} {a : Addr} {o : HO}
theorem ObjOk.lt (x : ObjOk P w H h a o) : a < h.objs.size := by
  cases o with
  | lst xs => obtain ⟨_, _, _, _, e⟩ := x; exact Heap.lt_size e
  | tup xs => obtain ⟨_, _, _, p⟩ := x; exact p.isTup.lt
  | dK kvs => obtain ⟨_, _, _, _, o, _, _, e, _⟩ := x; exact Heap.lt_size e
  | dT kvs => obtain ⟨_, _, _, _, o, _, _, e, _⟩ := x; exact Heap.lt_size e
  | set S n => obtain ⟨o, _, _, _, e, _⟩ := x; exact Heap.lt_size e
  | ins C dx fs => obtain ⟨_, _, _, e, _⟩ := x; exact Heap.lt_size e
  | own y => obtain ⟨_, e⟩ := x; exact Heap.lt_size e
  | xd fs => obtain ⟨_, ⟨_, _, _, e, _⟩, _⟩ := x; exact Heap.lt_size e
  | rng lo hi => obtain ⟨_, _, _, e⟩ := x; exact Heap.lt_size e
  | frz ob u => obtain ⟨e, _⟩ := x; exact Heap.lt_size e
  | tbl ps => exact Heap.lt_size (show h.get? a = some _ from x)
  | met f y => exact Heap.lt_size (show h.get? a = some _ from x)
  | ext φ => obtain ⟨_, ⟨_, e⟩, _⟩ := x; exact Heap.lt_size e
theorem Paired.mapP {α β : Type} {F G : α → β → Prop} : ∀ {l₁ : List α} {l₂ : List β}, Paired F l₁ l₂ → (∀ a b, F a b → G a b) → Paired G l₁ l₂
  | _, _, .nil, _ => .nil
  | _, _, .cons r t, f => .cons (f _ _ r) (Paired.mapP t f)
/-- what an object's description leans on: its own object, its own dict, the tuples -/
theorem ObjOk.stay (x : ObjOk P w H h a o) (k : ∀ b u, (b = a ∨ H b = some (.own a)) → h.get? b = some u → h'.get? b = some u)
    (ho : ∀ b, H b = some (.own a) → H' b = some (.own a)) (ht : ∀ b xs, H b = some (.tup xs) → H' b = some (.tup xs)) : ObjOk P w H' h' a o := by
  induction o with
  | lst xs => obtain ⟨z, its, n, r, e⟩ := x; exact ⟨z, its, n, r, k _ _ (.inl rfl) e⟩
  | tup xs => obtain ⟨z, its, r, ob, e, c⟩ := x; exact ⟨z, its, r, ob, k _ _ (.inl rfl) e, c⟩
  | dK kvs => obtain ⟨z, y, vs, r, ob, es, ep, e, c⟩ := x; exact ⟨z, y, vs, r, ob, es, ep, k _ _ (.inl rfl) e, c⟩
  | dT kvs =>
    obtain ⟨z, y, xs, r, ob, es, ep, e, c⟩ := x
    exact ⟨z, y, xs, Paired.mapP r fun p q z => ⟨z.1, ht _ _ z.2.1, z.2.2⟩, ob, es, ep, k _ _ (.inl rfl) e, c⟩
  | set S n => obtain ⟨ob, es, ep, t, e, c⟩ := x; exact ⟨ob, es, ep, t, k _ _ (.inl rfl) e, c⟩
  | ins C dx fs =>
    obtain ⟨d, z, ne, e, mA, ⟨od, es, ep, e2, c⟩, r⟩ := x
    exact ⟨ho _ d, z, ne, k _ _ (.inl rfl) e, mA, ⟨od, es, ep, k _ _ (.inr d) e2, c⟩, r⟩
  | own y => obtain ⟨ob, e⟩ := x; exact ⟨ob, k _ _ (.inl rfl) e⟩
  | xd fs => obtain ⟨mA, ⟨od, es, ep, e, c⟩, r⟩ := x; exact ⟨mA, ⟨od, es, ep, k _ _ (.inl rfl) e, c⟩, r⟩
  | rng lo hi => obtain ⟨t, u, v, e⟩ := x; exact ⟨t, u, v, k _ _ (.inl rfl) e⟩
  | frz ob u ih => obtain ⟨e, q⟩ := x; exact ⟨k _ _ (.inl rfl) e, ih q⟩
  | tbl ps =>
    have e : h.get? a = some { cls := .none, data := .fields ps } := x
    show h'.get? a = some { cls := .none, data := .fields ps }
    exact k a _ (.inl rfl) e
  | met f y =>
    have e : h.get? a = some (PySem.W.methodObj (.ref f) (.ref y)) := x
    show h'.get? a = some (PySem.W.methodObj (.ref f) (.ref y))
    exact k a _ (.inl rfl) e
  | ext φ => obtain ⟨p, ⟨o, e⟩, st⟩ := x; exact ⟨st _ _ p fun o q => k _ _ (.inl rfl) q, ⟨o, k _ _ (.inl rfl) e⟩, st⟩
theorem HOk.lt (x : HOk P w H h) (e : H a = some o) : a < h.objs.size := (x a o e).lt
theorem HOk.fresh (x : HOk P w H h) (e : h.objs.size ≤ a) : H a = none := by
  cases q : H a with
  | none => rfl
  | some u => exact absurd (Nat.lt_of_lt_of_le (x.lt q) e) (Nat.lt_irrefl _)
/-- every object of the heap is kept -/
theorem HOk.kept (x : HOk P w H h) (k : ∀ b u, h.get? b = some u → h'.get? b = some u) : HOk P w H h' := fun a o e =>
  (x a o e).stay (fun b u _ q => k b u q) (fun _ q => q) fun _ _ q => q
/-- a new object is laid and tracked -/
theorem HOk.laid (x : HOk P w H h) (k : ∀ b u, h.get? b = some u → h'.get? b = some u) (hp : h.objs.size ≤ a) (new : ObjOk P w (upd H a o) h' a o) : HOk P w (upd H a o) h' := fun b u e => by
  have hn := x.fresh hp
  by_cases hb : b = a
  · subst hb; rw [upd_same] at e; cases e; exact new
  · rw [upd_ne hb] at e
    exact (x b u e).stay (fun c v _ q => k c v q) (fun c q => by rw [upd_ne (ne_of_none q hn)]; exact q) fun c xs q => by rw [upd_ne (ne_of_none q hn)]; exact q
end

/-- what may be read as u: it is u, or a known u -/
def Rd (H : Hp) (a : Addr) (u : HO) : Prop := H a = some u ∨ ∃ o, H a = some (.frz o u)
theorem Rd.ok {P : Program} {w : World} {H : Hp} {h : Heap} {a : Addr} {u : HO} (r : Rd H a u) (x : HOk P w H h) : ObjOk P w H h a u := by
  rcases r with r | ⟨o, r⟩
  · exact x a u r
  · obtain ⟨_, q⟩ := x a _ r
    exact q
/-- what may be written -/
def Mut : Option HO → Prop
  | some (.lst _) => True
  | some (.dK _) => True
  | some (.dT _) => True
  | some (.set _ _) => True
  | some (.ins _ _ _) => True
  | some (.ext _) => True
  | _ => False
section
variable {P : Program} {w : World} {H : Hp} {h h' : Heap} {x e : Addr} {o' : HO}
/-- the object at e is changed: x itself, or the dict of the instance x -/
theorem HOk.write (ok : HOk P w H h) (mu : Mut (H x)) (he : e = x ∨ H e = some (.own x)) (k : ∀ b u, b ≠ e → h.get? b = some u → h'.get? b = some u) (heo : ∃ u, h'.get? e = some u)
    (new : ObjOk P w (upd H x o') h' x o') : HOk P w (upd H x o') h' := fun b u q => by
  have nown : ∀ c y, H c = some (.own y) → c ≠ x := fun c y r z => by subst z; rw [r] at mu; exact mu
  have ntup : ∀ c xs, H c = some (.tup xs) → c ≠ x := fun c xs r z => by subst z; rw [r] at mu; exact mu
  by_cases hb : b = x
  · subst hb; rw [upd_same] at q; cases q; exact new
  · rw [upd_ne hb] at q
    by_cases hbe : b = e
    · have q' : H b = some (.own x) := by
        rcases he with z | z
        · exact absurd (hbe.trans z) hb
        · rw [hbe]; exact z
      rw [q] at q'; cases q'
      obtain ⟨v, hv⟩ := heo
      exact ⟨v, by rw [hbe]; exact hv⟩
    · refine (ok b u q).stay (fun c v hc r => k c v ?_ r) (fun c r => by rw [upd_ne (nown c b r)]; exact r) fun c xs r => by rw [upd_ne (ntup c xs r)]; exact r
      rcases hc with rfl | hc
      · exact hbe
      · rintro rfl
        rcases he with z | z
        · exact nown c b hc z
        · rw [hc] at z; cases z; exact hb rfl
end

/-! ### kept unless tracked; of the frames at fs (the callers') the slots may change (an exception that passes writes there); of the records at ex (iterators) nothing is said -/
structure Un (fs ex : List Addr) (H H' : Hp) (h h' : Heap) : Prop where
  keep : ∀ b o, h.get? b = some o → H b = none → b ∉ fs → b ∉ ex → h'.get? b = some o
  slot : ∀ b o, h.get? b = some o → H b = none → b ∈ fs → b ∉ ex → ∃ sl, h'.get? b = some { o with slots := sl }
  free : ∀ b o, h.get? b = some o → H b = none → b ∉ ex → H' b = none
  there : ∀ b o, h.get? b = some o → b ∉ ex → ∃ o', h'.get? b = some o'
  tups : ∀ b xs, H b = some (.tup xs) → H' b = some (.tup xs)
  frzs : ∀ b o u, H b = some (.frz o u) → H' b = some (.frz o u)
  tbls : ∀ b ps, H b = some (.tbl ps) → ∃ more, H' b = some (.tbl (ps ++ more))
section
variable {fs fs' ex ex' : List Addr} {H H1 H2 : Hp} {h h1 h2 h' : Heap} {a x e : Addr} {o : HO}
theorem Un.any (u : Un fs ex H H1 h h1) {b : Addr} {ob : Obj} (q : h.get? b = some ob) (n : H b = none) (hx : b ∉ ex) : ∃ sl, h1.get? b = some { ob with slots := sl } := by
  by_cases hb : b ∈ fs
  · exact u.slot b ob q n hb hx
  · exact ⟨ob.slots, u.keep b ob q n hb hx⟩
theorem Un.kept (k : ∀ b u, h.get? b = some u → h'.get? b = some u) : Un fs ex H H h h' :=
  ⟨fun b ob q _ _ _ => k b ob q, fun b ob q _ _ _ => ⟨ob.slots, k b ob q⟩, fun _ _ _ n _ => n, fun b ob q _ => ⟨ob, k b ob q⟩, fun _ _ q => q, fun _ _ _ q => q, fun _ ps q => ⟨#[], by rw [q]; simp⟩⟩
theorem Un.refl : Un fs ex H H h h := Un.kept fun _ _ q => q
theorem Un.laid (k : ∀ b u, h.get? b = some u → h'.get? b = some u) (hp : h.objs.size ≤ a) (hn : H a = none) : Un fs ex H (upd H a o) h h' where
  keep := fun b u q _ _ _ => k b u q
  slot := fun b u q _ _ _ => ⟨u.slots, k b u q⟩
  free := fun b u q n _ => by rw [upd_ne (Nat.ne_of_lt (Nat.lt_of_lt_of_le (Heap.lt_size q) hp))]; exact n
  there := fun b u q _ => ⟨u, k b u q⟩
  tups := fun b xs q => by rw [upd_ne (ne_of_none q hn)]; exact q
  frzs := fun b u xs q => by rw [upd_ne (ne_of_none q hn)]; exact q
  tbls := fun b ps q => ⟨#[], by rw [upd_ne (ne_of_none q hn), q]; simp⟩
theorem Un.write (mu : Mut (H x)) (he : e = x ∨ H e = some (.own x)) (k : ∀ b u, b ≠ e → h.get? b = some u → h'.get? b = some u) (heo : ∃ u, h'.get? e = some u) : Un fs ex H (upd H x o) h h' := by
  have hx : ∀ b, H b = none → b ≠ x := fun b n z => by subst z; rw [n] at mu; exact mu
  have hb : ∀ b, H b = none → b ≠ e := fun b n z => by
    subst z
    rcases he with r | r
    · exact hx b n r
    · rw [n] at r; cases r
  have hm : ∀ b u, H b = some u → ¬ Mut (some u) → b ≠ x := fun b u q nm z => by subst z; rw [q] at mu; exact nm mu
  refine ⟨fun b u q n _ _ => k b u (hb b n) q, fun b u q n _ _ => ⟨u.slots, k b u (hb b n) q⟩, fun b u q n _ => by rw [upd_ne (hx b n)]; exact n, fun b u q _ => ?_,
    fun b xs q => by rw [upd_ne (hm b _ q fun z => z)]; exact q, fun b u xs q => by rw [upd_ne (hm b _ q fun z => z)]; exact q, fun b ps q => ⟨#[], by rw [upd_ne (hm b _ q fun z => z), q]; simp⟩⟩
  by_cases hbe : b = e
  · subst hbe; exact heo
  · exact ⟨u, k b u hbe q⟩
end

/-! ### the heap without what is tracked -/
def trk (h : Heap) (H : Hp) : List Addr := (List.range h.objs.size).filter fun a => (H a).isSome
def hidT (h : Heap) (H : Hp) : Heap := PySem.W.hideAll h (trk h H)
theorem hidT_size (h : Heap) (H : Hp) : (hidT h H).objs.size = h.objs.size := PySem.W.hideAll_size _ _
theorem hidT_get {h : Heap} {H : Hp} {b : Addr} {o : Obj} (e : h.get? b = some o) (n : H b = none) : (hidT h H).get? b = some o :=
  PySem.W.hideAll_get _ e fun hm => by
    have q : (H b).isSome = true := (List.mem_filter.mp hm).2
    rw [n] at q; simp at q
theorem of_hidT {h : Heap} {H : Hp} {b : Addr} {o : Obj} (e : (hidT h H).get? b = some o) : h.get? b = some o ∧ H b = none := by
  have e' : h.get? b = some o := PySem.W.of_hideAll (trk h H) e
  refine ⟨e', ?_⟩
  cases q : H b with
  | none => rfl
  | some x =>
    have hm : b ∈ trk h H := List.mem_filter.mpr ⟨List.mem_range.mpr (Heap.lt_size e'), by simp [q]⟩
    have z : (hidT h H).get? b = none := PySem.W.hideAll_none (trk h H) hm
    rw [z] at e; cases e

/-! ### OpenK's ledger, filled with every new object but one -/
def allNews (g h : Heap) (L : Addr) : List (Addr × Obj) := (List.range h.objs.size).filterMap fun a => if a = L ∨ (g.get? a).isSome = true then none else (h.get? a).map fun o => (a, o)
def rest (g h : Heap) (L d : Addr) : List (Addr × Obj) := (allNews g h L).filter fun p => decide (p.1 ≠ d)
end L2

namespace L2
open PySem PySem.Spec PyProof.Rows

/-- the module's facts, over the base: the heap at the law's entry without what is tracked there -/
structure Mod (K : PySem.W.Frag) (mg : Str → Option Value) (base : Heap) : Prop where
  kin : K.In base
  glob : base.Ns mainGlobals mg
  blt : ∃ mb, base.Ns builtinsNs mb ∧ ∀ x : Str, x ≠ "__name__" → mb x = bootBuiltins x
  nolimit : base.NoLimit

/-- the context: a def's body (or a comprehension's block) running. base: fixed through the whole law; s₀, H₀: the entry; outer: the frames whose slots others may change (a def's callers); stack: all frames that run;
   ex: iterators that were made ahead of the entry and are walked here (a comprehension's); fn: the names whose cells were made at the entry (a def: all; a comprehension's block: its own); calm: not within an except suite; pn: pins that every state bears; xe: what is wanted of an exception that leaves the code -/
structure Cx where
  prog : Program
  w : World
  K : PySem.W.Frag
  mg : Str → Option Value
  base : Heap
  A : Around
  N : List Str
  s₀ : Shared
  H₀ : Hp
  env : Env
  outer : List Env
  stack : List Env
  ex : List Addr
  fn : Str → Bool
  calm : Bool
  pn : List (Addr × Obj)
  xe : Value → Shared → Prop
/-- the callers' frames -/
def frs (l : List Env) : List Addr := l.filterMap (·.frame)
abbrev Cx.fs (X : Cx) : List Addr := frs X.outer

def Vis (sc : Scope) (x : Str) : Prop := sc.names.lookup x = some .local ∨ sc.names.lookup x = some .cell ∨ sc.names.lookup x = some .free
def Loc (sc : Scope) (x : Str) : Prop := sc.names.lookup x = some .local ∨ sc.names.lookup x = some .cell
def Look (env : Env) (h : Heap) (m : Str → Option Value) (x : Str) (u : Value) : Prop :=
  (env.kindOf x = some .local ∧ m x = some u) ∨ ((env.kindOf x = some .cell ∨ env.kindOf x = some .free) ∧ ∃ c, env.cells.lookup x = some c ∧ h.IsCell c (some u))

structure Cx.Ok (X : Cx) : Prop where
  mod : Mod X.K X.mg X.base
  kind : X.env.scope.kind = .function
  glob : X.env.globals = mainGlobals
  blt : X.env.builtins = builtinsNs
  above : X.s₀.heap.objs.size ≤ X.env.locals
  inj : ∀ x y c, X.env.cells.lookup x = some c → X.env.cells.lookup y = some c → x = y
  has : ∀ x, (X.env.kindOf x = some .cell ∨ X.env.kindOf x = some .free) → ∃ c, X.env.cells.lookup x = some c
  cab : ∀ x c, X.fn x = true → X.env.cells.lookup x = some c → X.s₀.heap.objs.size ≤ c
  hd : X.calm = true → X.A.handled = none
  frames : X.A.frames = some X.stack
  stk : X.stack = X.outer ∨ (X.stack = X.env :: X.outer ∧ X.env.frame = some X.env.locals)
  exf : ∀ b ∈ X.ex, b ≠ X.env.locals ∧ ∀ x c, X.env.cells.lookup x = some c → c ≠ b
  bs : ∀ b o, X.base.get? b = some o → X.s₀.heap.get? b = some o ∧ X.H₀ b = none
  bsz : X.base.objs.size ≤ X.s₀.heap.objs.size
  noex : ∀ b o, X.base.get? b = some o → b ∉ X.ex
  exfs : ∀ b ∈ X.ex, b ∉ X.fs
  funs : X.s₀.heap.FunFrames X.base X.outer
  frf : ∀ b ∈ X.fs, X.H₀ b = none

structure Inv (X : Cx) (pins : List (Addr × Obj)) (σ : List (Option V)) (H : Hp) (s : Shared) : Prop where
  ok : X.Ok
  os : s.os = X.s₀.os
  bare : AllBare s.gens
  base : Un X.fs X.ex X.H₀ H X.s₀.heap s.heap
  loc : ∃ m, s.heap.Ns X.env.locals m ∧ ∀ (i : Nat) (x : Str) (v : V), X.N[i]? = some x → σ[i]? = some (some v) → Vis X.env.scope x → ∃ u, RelV v u ∧ Look X.env s.heap m x u
  cell : ∀ x c, X.env.cells.lookup x = some c → ∃ v, s.heap.IsCell c v
  free : H X.env.locals = none
  freeC : ∀ x c, X.env.cells.lookup x = some c → H c = none
  pin : ∀ p ∈ X.pn ++ pins, s.heap.get? p.1 = some p.2 ∧ H p.1 = none ∧ p.1 ≠ X.env.locals ∧ p.1 ∉ X.fs ∧ ∀ v, p.2.data ≠ .cell v
  hok : HOk X.prog X.w H s.heap
  len : σ.length = X.N.length

section
variable {X : Cx} {pins : List (Addr × Obj)} {σ : List (Option V)} {H H' : Hp} {s : Shared} {h' : Heap}

theorem Cx.Ok.nofr (ok : X.Ok) {b : Addr} {o : Obj} (e : X.base.get? b = some o) : b ∉ X.fs := fun hb => by
  have := (ok.funs.mem hb).1
  rw [e] at this; cases this
theorem Inv.bs (I : Inv X pins σ H s) : ∀ b o, X.base.get? b = some o → s.heap.get? b = some o ∧ H b = none := fun b o e =>
  ⟨I.base.keep b o (I.ok.bs b o e).1 (I.ok.bs b o e).2 (I.ok.nofr e) (I.ok.noex b o e), I.base.free b o (I.ok.bs b o e).1 (I.ok.bs b o e).2 (I.ok.noex b o e)⟩
theorem Inv.bk (I : Inv X pins σ H s) : ∀ b o, X.base.get? b = some o → s.heap.get? b = some o := fun b o e => (I.bs b o e).1
theorem Inv.mod (I : Inv X pins σ H s) : Mod X.K X.mg X.base := I.ok.mod
theorem Inv.kIn (I : Inv X pins σ H s) : X.K.In s.heap := I.ok.mod.kin.keeps I.bk
theorem Inv.lt (I : Inv X pins σ H s) : X.env.locals < s.heap.objs.size := let ⟨_, hn, _⟩ := I.loc; hn.lt
theorem Inv.sz (I : Inv X pins σ H s) : X.s₀.heap.objs.size ≤ s.heap.objs.size := Nat.le_trans I.ok.above (Nat.le_of_lt I.lt)
theorem Inv.nofs (I : Inv X pins σ H s) {a : Addr} (h : s.heap.objs.size ≤ a) : a ∉ X.fs := fun hb => by
  obtain ⟨_, o, ho, _⟩ := I.ok.funs.mem hb
  exact absurd (Nat.lt_of_lt_of_le (Heap.lt_size ho) (Nat.le_trans I.sz h)) (Nat.lt_irrefl _)
theorem Inv.cne (I : Inv X pins σ H s) : ∀ x c, X.env.cells.lookup x = some c → c ≠ X.env.locals := fun x c e z => by
  obtain ⟨v, o, ho, hd⟩ := I.cell x c e
  obtain ⟨m, ⟨o', es, ep, ho', hd', _⟩, _⟩ := I.loc
  rw [z, ho'] at ho; cases ho; rw [hd'] at hd; cases hd
theorem Inv.funs (I : Inv X pins σ H s) : s.heap.FunFrames X.base X.outer := by
  have all : ∀ (l : List Env), (∀ b ∈ frs l, b ∈ X.fs) → X.s₀.heap.FunFrames X.base l → s.heap.FunFrames X.base l := by
    intro l
    induction l with
    | nil => intro _ _; trivial
    | cons env r ih =>
      intro hs hl
      obtain ⟨hk, ⟨L, o, hf, hn, ho, hd⟩, hr⟩ := hl
      have hL : L ∈ X.fs := hs L (by unfold frs; rw [List.filterMap_cons, hf]; exact List.mem_cons_self)
      obtain ⟨sl, e⟩ := I.base.slot L o ho (I.ok.frf L hL) hL fun z => I.ok.exfs L z hL
      exact ⟨hk, ⟨L, _, hf, hn, e, hd⟩, ih (fun b hb => hs b (by unfold frs; rw [List.filterMap_cons, hf]; exact List.mem_cons_of_mem _ hb)) hr⟩
  exact all X.outer (fun _ hb => hb) I.ok.funs

/-- the frames that run, for a call -/
theorem Inv.stack (I : Inv X pins σ H s) : s.heap.FunFrames X.base X.stack := by
  rcases I.ok.stk with e | ⟨e, hf⟩
  · rw [e]; exact I.funs
  · rw [e]
    obtain ⟨m, hn, _⟩ := I.loc
    refine .cons (by rw [I.ok.kind]; decide) hf hn ?_ I.funs
    exact Heap.get?_none_of_le (Nat.le_trans I.ok.bsz I.ok.above)
theorem Inv.stkSub (I : Inv X pins σ H s) : ∀ b ∈ frs X.stack, b ∈ X.env.locals :: X.fs := fun b hb => by
  rcases I.ok.stk with e | ⟨e, hf⟩
  · rw [e] at hb; exact List.mem_cons_of_mem _ hb
  · rw [e] at hb
    unfold frs at hb
    rw [List.filterMap_cons, hf] at hb
    exact hb
theorem Inv.stkFree (I : Inv X pins σ H s) : ∀ b ∈ frs X.stack, H b = none := fun b hb => by
  rcases List.mem_cons.mp (I.stkSub b hb) with e | hb
  · rw [e]; exact I.free
  · obtain ⟨_, o, ho, _⟩ := I.ok.funs.mem hb
    exact I.base.free b o ho (I.ok.frf b hb) fun z => I.ok.exfs b z hb

/-- THE STEP: the untracked objects but the frame and the records at ch are kept (the callers' frames up to slots), the frame's map is kept, the new abstract heap is held -/
theorem Inv.step {g' : Array GenState} {t' : Nat} {d' : Drawn} {ch : List Addr} (I : Inv X pins σ H s)
    (hch : ∀ b ∈ ch, (b ∈ X.ex ∨ X.s₀.heap.objs.size ≤ b) ∧ b ≠ X.env.locals ∧ (∀ x c, X.env.cells.lookup x = some c → c ≠ b) ∧ ∀ p ∈ X.pn ++ pins, p.1 ≠ b)
    (keep : ∀ b o, b ≠ X.env.locals → b ∉ X.fs → b ∉ ch → s.heap.get? b = some o → H b = none → h'.get? b = some o)
    (slot : ∀ b o, b ≠ X.env.locals → b ∈ X.fs → b ∉ ch → s.heap.get? b = some o → H b = none → ∃ sl, h'.get? b = some { o with slots := sl }) (free : ∀ b o, b ∉ ch → s.heap.get? b = some o → H b = none → H' b = none)
    (there : ∀ b o, b ∉ ch → s.heap.get? b = some o → ∃ o', h'.get? b = some o')
    (tups : ∀ b xs, H b = some (.tup xs) → H' b = some (.tup xs)) (frzs : ∀ b o u, H b = some (.frz o u) → H' b = some (.frz o u)) (tbls : ∀ b ps, H b = some (.tbl ps) → ∃ more, H' b = some (.tbl (ps ++ more)))
    (ns : ∀ m, s.heap.Ns X.env.locals m → h'.Ns X.env.locals m) (hok : HOk X.prog X.w H' h') (hg : AllBare g') :
    Inv X pins σ H' { s with heap := h', gens := g', drawn := d', toks := t' } := by
  have neL : ∀ b o, X.s₀.heap.get? b = some o → b ≠ X.env.locals := fun b o e => Nat.ne_of_lt (Nat.lt_of_lt_of_le (Heap.lt_size e) I.ok.above)
  have neC : ∀ b o, X.s₀.heap.get? b = some o → b ∉ X.ex → b ∉ ch := fun b o e hx hb => by
    rcases (hch b hb).1 with z | z
    · exact hx z
    · exact absurd (Nat.lt_of_lt_of_le (Heap.lt_size e) z) (Nat.lt_irrefl _)
  have cellK : ∀ x c, X.env.cells.lookup x = some c → ∀ v, s.heap.IsCell c v → h'.IsCell c v := fun x c e v ⟨o, ho, hd⟩ => by
    have nch : c ∉ ch := fun z => (hch c z).2.2.1 x c e rfl
    by_cases hc : c ∈ X.fs
    · obtain ⟨sl, q⟩ := slot c o (I.cne x c e) hc nch ho (I.freeC x c e)
      exact ⟨_, q, hd⟩
    · exact ⟨o, keep c o (I.cne x c e) hc nch ho (I.freeC x c e), hd⟩
  refine ⟨I.ok, I.os, hg, ⟨fun b o e n hb hx => ?_, fun b o e n hb hx => ?_, fun b o e n hx => ?_, fun b o e hx => ?_, fun b xs e => tups b xs (I.base.tups b xs e), fun b o xs e => frzs b o xs (I.base.frzs b o xs e), fun b ps e => ?_⟩, ?_, fun x c e => ?_, ?_, fun x c e => ?_, fun p hp => ?_, hok, I.len⟩
  · exact keep b o (neL b o e) hb (neC b o e hx) (I.base.keep b o e n hb hx) (I.base.free b o e n hx)
  · obtain ⟨sl, e1⟩ := I.base.slot b o e n hb hx
    obtain ⟨sl', e2⟩ := slot b _ (neL b o e) hb (neC b o e hx) e1 (I.base.free b o e n hx)
    exact ⟨sl', e2⟩
  · obtain ⟨o', e1⟩ := I.base.there b o e hx
    exact free b o' (neC b o e hx) e1 (I.base.free b o e n hx)
  · obtain ⟨o', e1⟩ := I.base.there b o e hx
    exact there b o' (neC b o e hx) e1
  · obtain ⟨m1, e1⟩ := I.base.tbls b ps e
    obtain ⟨m2, e2⟩ := tbls b _ e1
    exact ⟨m1 ++ m2, by rw [e2, Array.append_assoc]⟩
  · obtain ⟨m, hn, hl⟩ := I.loc
    refine ⟨m, ns m hn, fun i x v e1 e2 e3 => ?_⟩
    obtain ⟨u, r, l⟩ := hl i x v e1 e2 e3
    refine ⟨u, r, ?_⟩
    rcases l with l | ⟨k, c, e, z⟩
    · exact .inl l
    · exact .inr ⟨k, c, e, cellK x c e _ z⟩
  · obtain ⟨v, z⟩ := I.cell x c e
    exact ⟨v, cellK x c e v z⟩
  · obtain ⟨m, ⟨o, _, _, ho, _⟩, _⟩ := I.loc
    exact free _ o (fun z => (hch _ z).2.1 rfl) ho I.free
  · obtain ⟨v, o, ho, hd⟩ := I.cell x c e
    exact free c o (fun z => (hch c z).2.2.1 x c e rfl) ho (I.freeC x c e)
  · obtain ⟨e, n, ne, nf, d⟩ := I.pin p hp
    have nch : p.1 ∉ ch := fun z => (hch p.1 z).2.2.2 p hp rfl
    exact ⟨keep p.1 p.2 ne nf nch e n, free p.1 p.2 nch e n, ne, nf, d⟩
/-- .. where the frame's own object is kept too -/
theorem Inv.un {t' : Nat} (I : Inv X pins σ H s) (u : Un X.fs [] H H' s.heap h') (hok : HOk X.prog X.w H' h') : Inv X pins σ H' { s with heap := h', toks := t' } := by
  obtain ⟨m, ⟨o, es, ep, ho, r⟩, _⟩ := id I.loc
  obtain ⟨sl, hL⟩ := u.any ho I.free (by simp)
  exact I.step (g' := s.gens) (d' := s.drawn) (ch := []) (fun _ z => nomatch z) (fun b o _ hb _ e n => u.keep b o e n hb (by simp)) (fun b o _ hb _ e n => u.slot b o e n hb (by simp)) (fun b o _ e n => u.free b o e n (by simp)) (fun b o _ e => u.there b o e (by simp)) u.tups u.frzs u.tbls (fun m' hm => by
    obtain ⟨o', es', ep', ho', r'⟩ := hm
    rw [ho] at ho'; cases ho'
    exact ⟨_, es', ep', hL, r'⟩) hok I.bare
/-- behind a call (or a comprehension's block): the slots of this frame may have changed too, the records at ch may have turned -/
theorem Inv.call {g' : Array GenState} {t' : Nat} {d' : Drawn} {ch : List Addr} (I : Inv X pins σ H s) (u : Un (frs X.stack) ch H H' s.heap h') (hok : HOk X.prog X.w H' h') (hg : AllBare g')
    (hch : ∀ b ∈ ch, (b ∈ X.ex ∨ X.s₀.heap.objs.size ≤ b) ∧ b ≠ X.env.locals ∧ (∀ x c, X.env.cells.lookup x = some c → c ≠ b) ∧ ∀ p ∈ X.pn ++ pins, p.1 ≠ b) :
    Inv X pins σ H' { s with heap := h', gens := g', drawn := d', toks := t' } := by
  obtain ⟨m, ⟨o, es, ep, ho, r⟩, _⟩ := id I.loc
  obtain ⟨sl, hL⟩ := u.any ho I.free fun z => (hch _ z).2.1 rfl
  exact I.step (ch := ch) hch (fun b o hL hb hc e n => u.keep b o e n (fun z => (List.mem_cons.mp (I.stkSub b z)).elim hL hb) hc) (fun b o _ _ hc e n => u.any e n hc) (fun b o hc e n => u.free b o e n hc) (fun b o hc e => u.there b o e hc) u.tups u.frzs u.tbls (fun m' hm => by
    obtain ⟨o', es', ep', ho', r'⟩ := hm
    rw [ho] at ho'; cases ho'
    exact ⟨_, es', ep', hL, r'⟩) hok hg
/-- an untracked record of ours (an iterator) has turned -/
theorem Inv.turned {t' : Nat} {it : Addr} (I : Inv X pins σ H s) (k : ∀ b o, b ≠ it → s.heap.get? b = some o → h'.get? b = some o) (hn : H it = none) (hL : it ≠ X.env.locals)
    (h1 : it ∈ X.ex ∨ X.s₀.heap.objs.size ≤ it) (h2 : ∀ x c, X.env.cells.lookup x = some c → c ≠ it) (h3 : ∀ p ∈ X.pn ++ pins, p.1 ≠ it) : Inv X pins σ H { s with heap := h', toks := t' } := by
  have nit : ∀ b u, H b = some u → b ≠ it := fun b u e z => by rw [z, hn] at e; cases e
  refine I.step (g' := s.gens) (d' := s.drawn) (ch := [it]) (fun b hb => ?_) (fun b o _ _ hc e _ => k b o (fun z => hc (by simp [z])) e) (fun b o _ _ hc e _ => ⟨o.slots, k b o (fun z => hc (by simp [z])) e⟩) (fun _ _ _ _ n => n)
    (fun b o hc e => ⟨o, k b o (fun z => hc (by simp [z])) e⟩) (fun _ _ e => e) (fun _ _ _ e => e) (fun b ps e => ⟨#[], by rw [e]; simp⟩) (fun m hm => ?_) (fun b u e => ?_) I.bare
  · have e : b = it := by simpa using hb
    subst e
    exact ⟨h1, hL, h2, h3⟩
  · obtain ⟨o, es, ep, ho, r⟩ := hm
    exact ⟨o, es, ep, k _ o (Ne.symm hL) ho, r⟩
  · refine (I.hok b u e).stay (fun c v hc q => k c v ?_ q) (fun _ q => q) fun _ _ q => q
    rcases hc with z | z
    · rw [z]; exact nit b u e
    · exact nit c _ z
theorem Inv.tok (I : Inv X pins σ H s) (t : Nat) : Inv X pins σ H { s with toks := t } := I.un (h' := s.heap) (t' := t) Un.refl I.hok
/-- all objects kept -/
theorem Inv.kept {t' : Nat} (I : Inv X pins σ H s) (k : ∀ b u, s.heap.get? b = some u → h'.get? b = some u) : Inv X pins σ H { s with heap := h', toks := t' } := I.un (Un.kept k) (I.hok.kept k)
/-- a new object laid and tracked -/
theorem Inv.laid {a : Addr} {o : HO} {t' : Nat} (I : Inv X pins σ H s) (k : ∀ b u, s.heap.get? b = some u → h'.get? b = some u) (hp : s.heap.objs.size ≤ a) (new : ObjOk X.prog X.w (upd H a o) h' a o) :
    Inv X pins σ (upd H a o) { s with heap := h', toks := t' } := I.un (Un.laid k hp (I.hok.fresh hp)) (I.hok.laid k hp new)
/-- an object written -/
theorem Inv.write {x e : Addr} {o : HO} {t' : Nat} (I : Inv X pins σ H s) (mu : Mut (H x)) (he : e = x ∨ H e = some (.own x)) (k : ∀ b u, b ≠ e → s.heap.get? b = some u → h'.get? b = some u) (heo : ∃ u, h'.get? e = some u)
    (new : ObjOk X.prog X.w (upd H x o) h' x o) : Inv X pins σ (upd H x o) { s with heap := h', toks := t' } := I.un (Un.write mu he k heo) (I.hok.write mu he k heo new)
theorem Inv.pins_of {pins' : List (Addr × Obj)} (I : Inv X pins σ H s) (h : ∀ p ∈ pins', s.heap.get? p.1 = some p.2 ∧ H p.1 = none ∧ p.1 ≠ X.env.locals ∧ p.1 ∉ X.fs ∧ ∀ v, p.2.data ≠ .cell v) : Inv X pins' σ H s :=
  ⟨I.ok, I.os, I.bare, I.base, I.loc, I.cell, I.free, I.freeC, fun p hp => (List.mem_append.mp hp).elim (fun z => I.pin p (List.mem_append_left _ z)) (h p), I.hok, I.len⟩

theorem nodup_ix {N : List Str} (hN : N.Nodup) {i j : Nat} {x : Str} (a : N[i]? = some x) (b : N[j]? = some x) : i = j := by
  obtain ⟨h1, e1⟩ := List.getElem?_eq_some_iff.mp a
  obtain ⟨h2, e2⟩ := List.getElem?_eq_some_iff.mp b
  exact (List.getElem_inj hN).mp (e1.trans e2.symm)

/-- a name is stored; what changed -/
theorem store_ok2 {M : Model} {A : Around} {E : Value → Shared → Prop} {i : Nat} {x : Str} {v : V} {u : Value} {Q : Unit → Shared → Prop} (I : Inv X pins σ H s) (hN : X.N.Nodup) (hi : X.N[i]? = some x) (hx : Loc X.env.scope x) (r : RelV v u)
    (h : ∀ s', Inv X pins (σ.set i (some v)) H s' → (∃ a, Heap.SameBut a s.heap s'.heap ∧ (a = X.env.locals ∨ X.env.cells.lookup x = some a)) → Q () s') (hf : X.fn x = true ∨ X.env.scope.names.lookup x = some .local := by first | exact .inl rfl | exact .inr rfl | assumption) : wpAny M A (storeName X.env x u) Q E s := by
  obtain ⟨m, hn, hl⟩ := id I.loc
  have hcls : (X.env.scope.kind == .class || (X.env.scope.kind == .module && X.env.locals != X.env.globals)) = false := by rw [I.ok.kind]; rfl
  have hiσ : i < σ.length := by rw [I.len]; exact (List.getElem?_eq_some_iff.mp hi).1
  have cne := I.cne
  have tracked : ∀ {a : Addr} {h' : Heap}, (∃ o, s.heap.get? a = some o ∧ H a = none) → Heap.SameBut a s.heap h' → HOk X.prog X.w H h' := fun {a h'} ha hs b ob e => by
    obtain ⟨_, _, hfree⟩ := ha
    refine (I.hok b ob e).stay (fun c w' hc q => (hs.2 c ?_).trans q) (fun _ q => q) fun _ _ q => q
    rintro rfl
    rcases hc with rfl | hc
    · rw [hfree] at e; cases e
    · rw [hfree] at hc; cases hc
  rcases hx with hk | hk
  · refine wpAny_storeName_local hk hn (fun h' hn' hs => ?_) hcls
    obtain ⟨oL, _, _, hoL, _⟩ := id hn
    refine h _ ⟨I.ok, I.os, I.bare, ⟨fun b o e n hb hx => ?_, fun b o e n hb hx => ?_, I.base.free, fun b o e hx => ?_, I.base.tups, I.base.frzs, I.base.tbls⟩, ⟨_, hn', fun j y v' e1 e2 e3 => ?_⟩, fun y c e => ?_, I.free, I.freeC, fun p hp => ?_, tracked ⟨oL, hoL, I.free⟩ hs, by simpa using I.len⟩ ⟨_, hs, .inl rfl⟩
    · exact (hs.2 b (Nat.ne_of_lt (Nat.lt_of_lt_of_le (Heap.lt_size e) I.ok.above))).trans (I.base.keep b o e n hb hx)
    · obtain ⟨sl, e1⟩ := I.base.slot b o e n hb hx
      exact ⟨sl, (hs.2 b (Nat.ne_of_lt (Nat.lt_of_lt_of_le (Heap.lt_size e) I.ok.above))).trans e1⟩
    · obtain ⟨o', e1⟩ := I.base.there b o e hx
      exact ⟨o', (hs.2 b (Nat.ne_of_lt (Nat.lt_of_lt_of_le (Heap.lt_size e) I.ok.above))).trans e1⟩
    · by_cases hj : j = i
      · subst hj
        rw [hi] at e1; cases e1
        rw [List.getElem?_set_self hiσ] at e2
        cases e2
        exact ⟨u, r, .inl ⟨hk, by simp⟩⟩
      · rw [List.getElem?_set_ne (Ne.symm hj)] at e2
        obtain ⟨u', r', q⟩ := hl j y v' e1 e2 e3
        refine ⟨u', r', ?_⟩
        rcases q with ⟨k, e⟩ | ⟨k, c, e, z⟩
        · refine .inl ⟨k, ?_⟩
          have : y ≠ x := fun e => hj (nodup_ix hN e1 (e ▸ hi))
          simp [this, e]
        · exact .inr ⟨k, c, e, z.sameBut hs (cne y c e)⟩
    · obtain ⟨w', z⟩ := I.cell y c e
      exact ⟨w', z.sameBut hs (cne y c e)⟩
    · obtain ⟨e, n, ne, nf, d⟩ := I.pin p hp
      exact ⟨(hs.2 p.1 ne).trans e, n, ne, nf, d⟩
  · have hfn : X.fn x = true := by
      rcases hf with z | z
      · exact z
      · rw [z] at hk; cases hk
    obtain ⟨c, hc⟩ := I.ok.has x (.inl hk)
    obtain ⟨w', z⟩ := I.cell x c hc
    refine wpAny_storeName_cell I.ok.kind hk hc z (fun h' hc' hs => ?_)
    obtain ⟨oc, hoc, hocd⟩ := id z
    refine h { s with heap := h' } ⟨I.ok, I.os, I.bare, ⟨fun b o e n hb hx => ?_, fun b o e n hb hx => ?_, I.base.free, fun b o e hx => ?_, I.base.tups, I.base.frzs, I.base.tbls⟩, ⟨m, hn.sameBut hs (Ne.symm (cne x c hc)), fun j y v' e1 e2 e3 => ?_⟩, fun y c' e => ?_, I.free, I.freeC, fun p hp => ?_, tracked ⟨oc, hoc, I.freeC x c hc⟩ hs, by simpa using I.len⟩ ⟨c, hs, .inr hc⟩
    · exact (hs.2 b (Nat.ne_of_lt (Nat.lt_of_lt_of_le (Heap.lt_size e) (I.ok.cab x c hfn hc)))).trans (I.base.keep b o e n hb hx)
    · obtain ⟨sl, e1⟩ := I.base.slot b o e n hb hx
      exact ⟨sl, (hs.2 b (Nat.ne_of_lt (Nat.lt_of_lt_of_le (Heap.lt_size e) (I.ok.cab x c hfn hc)))).trans e1⟩
    · obtain ⟨o', e1⟩ := I.base.there b o e hx
      exact ⟨o', (hs.2 b (Nat.ne_of_lt (Nat.lt_of_lt_of_le (Heap.lt_size e) (I.ok.cab x c hfn hc)))).trans e1⟩
    · by_cases hj : j = i
      · subst hj
        rw [hi] at e1; cases e1
        rw [List.getElem?_set_self hiσ] at e2
        cases e2
        exact ⟨u, r, .inr ⟨.inl hk, c, hc, hc'⟩⟩
      · rw [List.getElem?_set_ne (Ne.symm hj)] at e2
        obtain ⟨u', r', q⟩ := hl j y v' e1 e2 e3
        refine ⟨u', r', ?_⟩
        rcases q with q | ⟨k, c', e, z'⟩
        · exact .inl q
        · refine .inr ⟨k, c', e, z'.sameBut hs ?_⟩
          rintro rfl
          exact hj (nodup_ix hN e1 (I.ok.inj _ _ _ e hc ▸ hi))
    · by_cases hcc : c' = c
      · subst hcc; exact ⟨_, hc'⟩
      · obtain ⟨w2, z2⟩ := I.cell y c' e
        exact ⟨w2, z2.sameBut hs hcc⟩
    · obtain ⟨e, n, ne, nf, d⟩ := I.pin p hp
      refine ⟨(hs.2 p.1 ?_).trans e, n, ne, nf, d⟩
      intro q
      rw [q, hoc] at e
      have q' : oc = p.2 := Option.some.inj e
      exact d w' (by rw [← q']; exact hocd)
theorem store_ok {M : Model} {A : Around} {E : Value → Shared → Prop} {i : Nat} {x : Str} {v : V} {u : Value} {Q : Unit → Shared → Prop} (I : Inv X pins σ H s) (hN : X.N.Nodup) (hi : X.N[i]? = some x) (hx : Loc X.env.scope x) (r : RelV v u)
    (h : ∀ s', Inv X pins (σ.set i (some v)) H s' → Q () s') (hf : X.fn x = true ∨ X.env.scope.names.lookup x = some .local := by first | exact .inl rfl | exact .inr rfl | assumption) : wpAny M A (storeName X.env x u) Q E s :=
  store_ok2 I hN hi hx r (fun s' I' _ => h s' I') hf
/-- behind a call or a block, the state as it is -/
theorem Inv.call' {s' : Shared} {ch : List Addr} (I : Inv X pins σ H s) (ho : s'.os = s.os) (u : Un (frs X.stack) ch H H' s.heap s'.heap) (hok : HOk X.prog X.w H' s'.heap) (hg : AllBare s'.gens)
    (hch : ∀ b ∈ ch, (b ∈ X.ex ∨ X.s₀.heap.objs.size ≤ b) ∧ b ≠ X.env.locals ∧ (∀ x c, X.env.cells.lookup x = some c → c ≠ b) ∧ ∀ p ∈ X.pn ++ pins, p.1 ≠ b) : Inv X pins σ H' s' := by
  obtain ⟨h', g', d', t', o'⟩ := s'
  have e : o' = s.os := ho
  subst e
  exact I.call (g' := g') (t' := t') (d' := d') u hok hg hch
end

/-! ### the judgements -/
/-- an exception: its class, its own dict's address (where it has one), the abstract heap behind it -/
abbrev XK := Value → Option Addr → Hp → Prop
abbrev St := List (Option V)
abbrev VK := V → Hp → Prop
/-- an expression's reading; a test's; an argument list's -/
abbrev TE := St → Hp → VK → Prop
abbrev TT := St → Hp → (Bool → Hp → Prop) → Prop
abbrev TA := St → Hp → (List V → Hp → Prop) → Prop
/-- what is wanted behind a statement -/
structure Ends where
  nx : St → Hp → Prop
  rt : VK
  bk : St → Hp → Prop := fun _ _ => False
  ct : St → Hp → Prop := fun _ _ => False
abbrev TS := Ends → St → Hp → Prop

def EP (X : Cx) (pins : List (Addr × Obj)) (σ : St) (Q : VK) (u : Value) (s' : Shared) : Prop := ∃ v H', Inv X pins σ H' s' ∧ RelV v u ∧ Q v H'
def TP (X : Cx) (pins : List (Addr × Obj)) (σ : St) (Q : Bool → Hp → Prop) (b : Bool) (s' : Shared) : Prop := ∃ H', Inv X pins σ H' s' ∧ Q b H'
def AP (X : Cx) (pins : List (Addr × Obj)) (σ : St) (Q : List V → Hp → Prop) (us : List Value) (s' : Shared) : Prop := ∃ vs H', Inv X pins σ H' s' ∧ Vals vs us ∧ Q vs H'
def SP (X : Cx) (pins : List (Addr × Obj)) (D : Ends) (f : Flow) (s' : Shared) : Prop :=
  match f with
  | .next => ∃ σ' H', Inv X pins σ' H' s' ∧ D.nx σ' H'
  | .brk => ∃ σ' H', Inv X pins σ' H' s' ∧ D.bk σ' H'
  | .cont => ∃ σ' H', Inv X pins σ' H' s' ∧ D.ct σ' H'
  | .ret u => ∃ v σ' H', Inv X pins σ' H' s' ∧ RelV v u ∧ D.rt v H'

def PE (X : Cx) (e : Expr) (t : TE) : Prop :=
  ∀ (pins : List (Addr × Obj)) (s : Shared) (σ : St) (H : Hp) (Q : VK), Inv X pins σ H s → t σ H Q → wpAny (model X.prog X.w) X.A (eval e X.env) (EP X pins σ Q) X.xe s
def PT (X : Cx) (e : Expr) (t : TT) : Prop :=
  ∀ (pins : List (Addr × Obj)) (s : Shared) (σ : St) (H : Hp) (Q : Bool → Hp → Prop), Inv X pins σ H s → t σ H Q → wpAny (model X.prog X.w) X.A (isTrue e X.env (eval e X.env)) (TP X pins σ Q) X.xe s
/-- a test whatever its 'whole' is (and, or) -/
def PW (X : Cx) (e : Expr) (t : TT) : Prop :=
  ∀ (whole : Sem Value) (pins : List (Addr × Obj)) (s : Shared) (σ : St) (H : Hp) (Q : Bool → Hp → Prop), Inv X pins σ H s → t σ H Q → wpAny (model X.prog X.w) X.A (isTrue e X.env whole) (TP X pins σ Q) X.xe s
theorem PW.pt {X : Cx} {e : Expr} {t : TT} (h : PW X e t) : PT X e t := h _
/-- an argument list (no star), from the left -/
def PA (X : Cx) (es : List Expr) (t : TA) : Prop :=
  ∀ (pos : Pos) (pins : List (Addr × Obj)) (s : Shared) (σ : St) (H : Hp) (Q : List V → Hp → Prop), Inv X pins σ H s → t σ H Q → wpAny (model X.prog X.w) X.A (spliced (backTo pos (starEach es X.env))) (AP X pins σ Q) X.xe s
def PS (X : Cx) (st : Stmt) (t : TS) : Prop :=
  ∀ (pins : List (Addr × Obj)) (s : Shared) (σ : St) (H : Hp) (D : Ends), Inv X pins σ H s → t D σ H → wpAny (model X.prog X.w) X.A (exec st X.env) (SP X pins D) X.xe s
def PSs (X : Cx) (st : List Stmt) (t : TS) : Prop :=
  ∀ (pins : List (Addr × Obj)) (s : Shared) (σ : St) (H : Hp) (D : Ends), Inv X pins σ H s → t D σ H → wpAny (model X.prog X.w) X.A (execs st X.env) (SP X pins D) X.xe s
/-- weaken the end -/
theorem thn {α : Type} {t : Sem α} {Q Q' : α → Shared → Prop} {M : Model} {A : Around} {E : Value → Shared → Prop} {s : Shared} (h : wpAny M A t Q E s) (hQ : ∀ a s, Q a s → Q' a s) : wpAny M A t Q' E s := wpAny_mono h hQ fun _ _ x => x
end L2

namespace L2
open PySem PySem.Spec PyProof.Rows
section
variable {X : Cx}

/-- two expressions in a row -/
theorem bin {a b : Expr} {ta tb : TE} (ha : PE X a ta) (hb : PE X b tb) {pins : List (Addr × Obj)} {s : Shared} {σ : St} {H : Hp} {R : V → V → Hp → Prop} (I : Inv X pins σ H s) (h : ta σ H fun x H1 => tb σ H1 fun y H2 => R x y H2)
    {α : Type} {Q : α → Shared → Prop} {f : Value → Value → Sem α}
    (hf : ∀ v u s2 x y H2, Inv X pins σ H2 s2 → RelV x v → RelV y u → R x y H2 → wpAny (model X.prog X.w) X.A (f v u) Q X.xe s2) :
    wpAny (model X.prog X.w) X.A (eval a X.env) (fun v s₁ => wpAny (model X.prog X.w) X.A (eval b X.env) (fun u s₂ => wpAny (model X.prog X.w) X.A (f v u) Q X.xe s₂) X.xe s₁) X.xe s := by
  refine thn (ha pins s σ H _ I h) fun v s1 ⟨x, H1, I1, r1, q1⟩ => ?_
  refine thn (hb pins s1 σ H1 _ I1 q1) fun u s2 ⟨y, H2, I2, r2, q2⟩ => ?_
  exact hf v u s2 x y H2 I2 r1 r2 q2

/-! ### names and constants -/
def tVar (i : Nat) : TE := fun σ H Q => ∃ v, σ[i]? = some (some v) ∧ Q v H
def tC (v : V) : TE := fun _ H Q => Q v H
theorem pe_var {i : Nat} {x : Str} {pos : Pos} (hN : X.N[i]? = some x) (hv : Vis X.env.scope x) (hd : (x == ("__debug__" : Str)) = false := by decide) (hcd : (x == ("__classdict__" : Str)) = false := by decide) : PE X (.Name x pos) (tVar i) := by
  intro pins s σ H Q I h
  obtain ⟨v, e, h⟩ := h
  obtain ⟨m, hn, hl⟩ := I.loc
  obtain ⟨u, r, l⟩ := hl i x v hN e hv
  have fin : EP X pins σ Q u s := ⟨v, H, I, r, h⟩
  rcases l with ⟨hk, hm⟩ | ⟨hk, c, hc, hcell⟩
  · exact wpAny_Name (wpAny_loadName_local I.ok.kind hk hn hm fin) hd
  · rcases hk with hk | hk
    · exact wpAny_Name (wpAny_loadName_cell I.ok.kind hk hc hcell fin) hd
    · exact wpAny_Name (wpAny_loadName_free I.ok.kind hk hc hcell fin hcd) hd
theorem pe_int {i j pos} : PE X (.Constant (.int i) j pos) (tC (.int i)) := fun _ _ _ H _ I h => wpAny_Constant_int ⟨.int i, H, I.tok _, ⟨_, rfl⟩, h⟩
theorem pe_bl {b j pos} : PE X (.Constant (.bool b) j pos) (tC (.bl b)) := fun _ _ _ H _ I h => Constant_bool ⟨.bl b, H, I, rfl, h⟩
theorem pe_non {j pos} : PE X (.Constant .none j pos) (tC .non) := fun _ _ _ H _ I h => Constant_none ⟨.non, H, I, rfl, h⟩
theorem pe_str {x j pos} : PE X (.Constant (.str x) j pos) (tC (.str x)) := fun _ _ _ H _ I h => Calls.Constant_str ⟨.str x, H, I.tok _, ⟨_, rfl⟩, h⟩

/-- a global name of the def -/
def Gl (X : Cx) (x : Str) : Prop := X.env.kindOf x = some .globalImplicit
theorem ld_glob {E : Value → Shared → Prop} {pins : List (Addr × Obj)} {s : Shared} {σ : St} {H : Hp} {x : Str} {u : Value} {pos : Pos} {Q : Value → Shared → Prop} (I : Inv X pins σ H s) (hg : Gl X x) (hm : X.mg x = some u) (h : Q u s)
    (hd : (x == ("__debug__" : Str)) = false := by decide) : wpAny (model X.prog X.w) X.A (eval (.Name x pos) X.env) Q E s :=
  Calls.Name_function_global I.ok.kind hg (Calls.loadGlobal_global (by rw [I.ok.glob]; exact I.mod.glob.keeps I.bk) hm h) hd
theorem ld_blt {E : Value → Shared → Prop} {pins : List (Addr × Obj)} {s : Shared} {σ : St} {H : Hp} {x : Str} {u : Value} {pos : Pos} {Q : Value → Shared → Prop} (I : Inv X pins σ H s) (hg : Gl X x) (hm : X.mg x = none) (hv : bootBuiltins x = some u) (h : Q u s)
    (hn : x ≠ "__name__" := by decide) (hd : (x == ("__debug__" : Str)) = false := by decide) : wpAny (model X.prog X.w) X.A (eval (.Name x pos) X.env) Q E s := by
  obtain ⟨mb, h1, h2⟩ := I.mod.blt
  exact Calls.Name_function_global I.ok.kind hg (Calls.loadGlobal_builtin (by rw [I.ok.glob]; exact I.mod.glob.keeps I.bk) hm (by rw [I.ok.blt]; exact h1.keeps I.bk) ((h2 x hn).trans hv) h) hd
/-- a module's constant, a class, a function, as a value -/
theorem pe_glob {x : Str} {v : V} {u : Value} {pos : Pos} (hg : Gl X x) (hm : X.mg x = some u) (r : RelV v u) (hd : (x == ("__debug__" : Str)) = false := by decide) : PE X (.Name x pos) (tC v) :=
  fun _ _ _ H _ I h => ld_glob I hg hm ⟨v, H, I, r, h⟩ hd
theorem pe_bltn {x : Str} {v : V} {u : Value} {pos : Pos} (hg : Gl X x) (hm : X.mg x = none) (hv : bootBuiltins x = some u) (r : RelV v u) (hn : x ≠ "__name__" := by decide) (hd : (x == ("__debug__" : Str)) = false := by decide) : PE X (.Name x pos) (tC v) :=
  fun _ _ _ H _ I h => ld_blt I hg hm hv ⟨v, H, I, r, h⟩ hn hd

/-! ### arithmetic -/
/-- two ints -/
def t2I (ta tb : TE) (k : Int → Int → Hp → Prop) : St → Hp → Prop := fun σ H => ta σ H fun x H1 => tb σ H1 fun y H2 => ∃ i j, x = .int i ∧ y = .int j ∧ k i j H2
def tAdd (ta tb : TE) : TE := fun σ H Q => t2I ta tb (fun i j H2 => Q (.int (i + j)) H2) σ H
def tSub (ta tb : TE) : TE := fun σ H Q => t2I ta tb (fun i j H2 => Q (.int (i - j)) H2) σ H
/-- the left factor below 2^64 -/
def tMul (ta tb : TE) : TE := fun σ H Q => t2I ta tb (fun i j H2 => (-(2 ^ 64) < i ∧ i < 2 ^ 64) ∧ Q (.int (i * j)) H2) σ H
variable {a b : Expr} {ta tb : TE} {pos : Pos}

/-! ### comparisons -/
def PC (X : Cx) (op : CmpOp) (a b : Expr) (t : TE) : Prop :=
  ∀ (pins : List (Addr × Obj)) (s : Shared) (σ : St) (H : Hp) (Q : VK), Inv X pins σ H s → t σ H Q →
    wpAny (model X.prog X.w) X.A (eval a X.env) (fun v s₁ => wpAny (model X.prog X.w) X.A (eval b X.env) (fun u s₂ => wpAny (model X.prog X.w) X.A (compareOp op v u) (EP X pins σ Q) X.xe s₂) X.xe s₁) X.xe s
def tCmp (p : Int → Int → Bool) (ta tb : TE) : TE := fun σ H Q => t2I ta tb (fun i j H2 => Q (.bl (p i j)) H2) σ H
abbrev tLt : TE → TE → TE := tCmp fun i j => decide (i < j)
abbrev tLe : TE → TE → TE := tCmp fun i j => decide (i ≤ j)
abbrev tGt : TE → TE → TE := tCmp fun i j => decide (j < i)
abbrev tGe : TE → TE → TE := tCmp fun i j => decide (j ≤ i)
abbrev tEqI : TE → TE → TE := tCmp fun i j => decide (i = j)
abbrev tNeI : TE → TE → TE := tCmp fun i j => !decide (i = j)
/-- is None -/
def tIsN (ta : TE) : TE := fun σ H Q => ta σ H fun x H1 => Q (.bl (decide (x = .non))) H1
def tNotN (ta : TE) : TE := fun σ H Q => ta σ H fun x H1 => Q (.bl (!decide (x = .non))) H1
/-- a comparison as a value, as a test -/
def tB (t : TE) : TT := fun σ H Q => t σ H fun x H1 => ∃ c, x = .bl c ∧ Q c H1
theorem pt_cmp {op : CmpOp} {t : TE} (h : PC X op a b t) (h1 : behindInMarks op b = false := by first | exact nobehind _ (by decide) (by decide) | rfl) : PT X (.Compare a [op] [b] pos) (tB t) := by
  intro pins s σ H Q I hw
  refine wpAny_isTrue_Compare1 (thn (h pins s σ H _ I hw) fun v s1 h1 => thn h1 fun u s2 h2 => thn h2 fun c s3 ⟨x, H1, I1, r1, q1⟩ => ?_) h1
  obtain ⟨d, rfl, q⟩ := q1
  cases r1
  exact wpAny_truthy_bool ⟨H1, I1, q⟩
/-- an expression whose value is a bool, as a test -/
theorem pt_val {e : Expr} {t : TE} (h : PE X e t) (he : ∀ whole, isTrue e X.env whole = (do let v ← whole; standAt e.pos; holding [v] (truthy v)) := by intro _; rfl) : PT X e (tB t) := by
  intro pins s σ H Q I hw
  refine isTrue_plain (thn (h pins s σ H _ I hw) fun v s1 ⟨x, H1, I1, r1, q1⟩ => ?_) (he _)
  obtain ⟨d, rfl, q⟩ := q1
  cases r1
  exact wpAny_truthy_bool ⟨H1, I1, q⟩

/-! ### and, or, not -/
variable {tA tB' : TT} {rest : List Expr}
def tAnd (t u : TT) : TT := fun σ H Q => t σ H fun c H1 => if c = true then u σ H1 Q else Q false H1
def tOr (t u : TT) : TT := fun σ H Q => t σ H fun c H1 => if c = true then Q true H1 else u σ H1 Q
def tNot (t : TT) : TT := fun σ H Q => t σ H fun c H1 => Q (!c) H1
theorem pw_and1 (ha : PT X a tA) : PW X (.BoolOp .And [a] pos) tA := by
  intro wh pins s σ H Q I h
  refine isTrue_and (thn (ha pins s σ H Q I h) fun c s1 e => ?_)
  cases c with
  | true => exact isTrue_and_nil e
  | false => exact e
theorem pw_or1 (ha : PT X a tA) : PW X (.BoolOp .Or [a] pos) tA := by
  intro wh pins s σ H Q I h
  refine isTrue_or (thn (ha pins s σ H Q I h) fun c s1 e => ?_)
  cases c with
  | false => exact isTrue_or_nil e
  | true => exact e
theorem pw_and (ha : PT X a tA) (hb : PW X (.BoolOp .And (b :: rest) pos) tB') : PW X (.BoolOp .And (a :: b :: rest) pos) (tAnd tA tB') := by
  intro wh pins s σ H Q I h
  refine isTrue_and (thn (ha pins s σ H _ I h) fun c s1 ⟨H1, I1, q1⟩ => ?_)
  cases c with
  | true => exact hb wh pins s1 σ H1 Q I1 q1
  | false => exact ⟨H1, I1, q1⟩
theorem pw_or (ha : PT X a tA) (hb : PW X (.BoolOp .Or (b :: rest) pos) tB') : PW X (.BoolOp .Or (a :: b :: rest) pos) (tOr tA tB') := by
  intro wh pins s σ H Q I h
  refine isTrue_or (thn (ha pins s σ H _ I h) fun c s1 ⟨H1, I1, q1⟩ => ?_)
  cases c with
  | true => exact ⟨H1, I1, q1⟩
  | false => exact hb wh pins s1 σ H1 Q I1 q1
theorem pt_not (ha : PT X a tA) : PT X (.UnaryOp .Not a pos) (tNot tA) := by
  intro pins s σ H Q I h
  exact isTrue_not (ha pins s σ H (fun c H1 => Q (!c) H1) I h)
/-- .. as values (bools) -/
def tAndV (ta tb : TE) : TE := fun σ H Q => ta σ H fun x H1 => ∃ c, x = .bl c ∧ if c = true then tb σ H1 Q else Q (.bl false) H1
def tOrV (ta tb : TE) : TE := fun σ H Q => ta σ H fun x H1 => ∃ c, x = .bl c ∧ if c = true then Q (.bl true) H1 else tb σ H1 Q
def tNotV (ta : TE) : TE := fun σ H Q => ta σ H fun x H1 => ∃ c, x = .bl c ∧ Q (.bl (!c)) H1
theorem pe_one {op} {t : TE} (h : PE X a t) : PE X (.BoolOp op [a] pos) t := fun pins s σ H Q I hw => BoolOp_one (h pins s σ H Q I hw)
theorem pe_and (ha : PE X a ta) (hb : PE X (.BoolOp .And (b :: rest) pos) tb) : PE X (.BoolOp .And (a :: b :: rest) pos) (tAndV ta tb) := by
  intro pins s σ H Q I h
  refine BoolOp_and (thn (ha pins s σ H _ I h) fun v s1 ⟨x, H1, I1, r1, q1⟩ => ?_)
  obtain ⟨c, rfl, q1⟩ := q1
  cases r1
  refine wpAny_truthy_bool ?_
  cases c with
  | true => exact hb pins s1 σ H1 Q I1 q1
  | false => exact ⟨.bl false, H1, I1, rfl, q1⟩
theorem pe_not (ha : PE X a ta) : PE X (.UnaryOp .Not a pos) (tNotV ta) := by
  intro pins s σ H Q I h
  refine UnaryOp_ (thn (ha pins s σ H _ I h) fun v s1 ⟨x, H1, I1, r1, q1⟩ => ?_)
  obtain ⟨c, rfl, q1⟩ := q1
  cases r1
  exact not_of (wpAny_truthy_bool ⟨.bl (!c), H1, I1, rfl, q1⟩)
/-- a if t else b -/
def tIf (t : TT) (ta tb : TE) : TE := fun σ H Q => t σ H fun c H1 => if c = true then ta σ H1 Q else tb σ H1 Q
theorem pe_ifExp {c : Expr} (hc : PT X c tA) (ha : PE X a ta) (hb : PE X b tb) : PE X (.IfExp c a b pos) (tIf tA ta tb) := by
  intro pins s σ H Q I h
  refine wpAny_IfExp (thn (hc pins s σ H _ I h) fun d s1 ⟨H1, I1, q1⟩ => ?_)
  cases d with
  | true => exact ha pins s1 σ H1 Q I1 q1
  | false => exact hb pins s1 σ H1 Q I1 q1
end
end L2

namespace L2
open PySem PySem.Spec PyProof.Rows

/-! ### a list, a tuple that is read: tracked, frozen, or an object of the module -/
def SqL (K : PySem.W.Frag) (H : Hp) (a : Addr) (xs : List V) : Prop :=
  Rd H a (.lst xs) ∨
    ∃ (o : Obj) (its : Array Value) (n : Nat), K.lookup a = some o ∧ o.cls = .type "list" ∧ o.dict = none ∧ o.data = .seq its n ∧ its.size ≤ sizeLine ∧ Vals xs its.toList
def SqT (K : PySem.W.Frag) (H : Hp) (a : Addr) (xs : List V) : Prop :=
  Rd H a (.tup xs) ∨
    ∃ (o : Obj) (its : Array Value) (n : Nat), K.lookup a = some o ∧ o.cls = .type "tuple" ∧ o.data = .seq its n ∧ its.size ≤ sizeLine ∧ Vals xs its.toList
def absV : Value → Option V
  | .none => some .non
  | .bool b => some (.bl b)
  | .int i _ => some (.int i)
  | .str x _ => some (.str x)
  | .bytes b _ => some (.byt b)
  | .float b _ => some (.flt b)
  | .ref a => some (.ref a)
  | .type n => some (.ty n)
  | _ => none
theorem RelV.abs {x : V} {u : Value} (r : RelV x u) : absV u = some x := by
  cases x with
  | non => cases r; rfl
  | bl _ => cases r; rfl
  | int _ => obtain ⟨t, rfl⟩ := r; rfl
  | str _ => obtain ⟨t, rfl⟩ := r; rfl
  | byt _ => obtain ⟨t, rfl⟩ := r; rfl
  | flt _ => obtain ⟨t, rfl⟩ := r; rfl
  | ref _ => cases r; rfl
  | ty _ => cases r; rfl
theorem RelV.inj {x y : V} {u : Value} (r : RelV x u) (q : RelV y u) : x = y := Option.some.inj (r.abs.symm.trans q.abs)
theorem Vals.inj : ∀ {xs ys : List V} {us : List Value}, Vals xs us → Vals ys us → xs = ys
  | _, _, _, .nil, .nil => rfl
  | _, _, _, .cons r t, .cons r' t' => by rw [r.inj r', Vals.inj t t']
section
variable {X : Cx} {pins : List (Addr × Obj)} {σ : St} {H : Hp} {s : Shared} {a : Addr} {xs ys : List V}
theorem SqL.of {K : PySem.W.Frag} (h : H a = some (.lst xs)) : SqL K H a xs := .inl (.inl h)
theorem SqT.of {K : PySem.W.Frag} (h : H a = some (.tup xs)) : SqT K H a xs := .inl (.inl h)
theorem Inv.list (I : Inv X pins σ H s) (h : SqL X.K H a xs) : ∃ its : List Value, Vals xs its ∧ PlainL s.heap a its.toArray ∧ xs.length ≤ sizeLine := by
  rcases h with h | ⟨o, its, n, hk, hc, hd, hs, hz, r⟩
  · obtain ⟨z, its, n, r, e⟩ := h.ok I.hok
    exact ⟨its, r, ⟨_, n, e, rfl, rfl, rfl⟩, z⟩
  · refine ⟨its.toList, r, ⟨o, n, I.kIn a o hk, hc, hd, by simpa using hs⟩, ?_⟩
    have e := r.length
    simp only [Array.length_toList] at e
    omega
theorem Inv.tuple (I : Inv X pins σ H s) (h : SqT X.K H a xs) : ∃ its : List Value, Vals xs its ∧ IsTup s.heap a its.toArray ∧ xs.length ≤ sizeLine := by
  rcases h with h | ⟨o, its, n, hk, hc, hs, hz, r⟩
  · obtain ⟨z, its, r, p⟩ := h.ok I.hok
    exact ⟨its, r, p.isTup, z⟩
  · refine ⟨its.toList, r, ⟨o, I.kIn a o hk, hc, n, by simpa using hs⟩, ?_⟩
    have e := r.length
    simp only [Array.length_toList] at e
    omega
theorem Inv.list_inj (I : Inv X pins σ H s) (h : SqL X.K H a xs) (h' : SqL X.K H a ys) : xs = ys := by
  obtain ⟨its, r, ⟨o, n, e, _, _, d⟩, _⟩ := I.list h
  obtain ⟨its', r', ⟨o', n', e', _, _, d'⟩, _⟩ := I.list h'
  rw [e] at e'; cases e'
  rw [d] at d'
  injection d' with d1 _
  have : its = its' := by simpa using congrArg Array.toList d1
  subst this
  exact r.inj r'
theorem Inv.tuple_inj (I : Inv X pins σ H s) (h : SqT X.K H a xs) (h' : SqT X.K H a ys) : xs = ys := by
  obtain ⟨its, r, ⟨o, e, _, n, d⟩, _⟩ := I.tuple h
  obtain ⟨its', r', ⟨o', e', _, n', d'⟩, _⟩ := I.tuple h'
  rw [e] at e'; cases e'
  rw [d] at d'
  injection d' with d1 _
  have : its = its' := by simpa using congrArg Array.toList d1
  subst this
  exact r.inj r'
end

/-! ### another wish about exceptions -/
abbrev Cx.wish (X : Cx) (E : Value → Shared → Prop) : Cx := { X with xe := E }
/-- no exception leaves -/
abbrev Cx.nox (X : Cx) : Cx := X.wish fun _ _ => False
theorem Cx.Ok.wish {X : Cx} (ok : X.Ok) (E : Value → Shared → Prop) : (X.wish E).Ok :=
  ⟨ok.mod, ok.kind, ok.glob, ok.blt, ok.above, ok.inj, ok.has, ok.cab, ok.hd, ok.frames, ok.stk, ok.exf, ok.bs, ok.bsz, ok.noex, ok.exfs, ok.funs, ok.frf⟩
theorem Cx.Ok.unwish {X : Cx} {E : Value → Shared → Prop} (ok : (X.wish E).Ok) : X.Ok :=
  ⟨ok.mod, ok.kind, ok.glob, ok.blt, ok.above, ok.inj, ok.has, ok.cab, ok.hd, ok.frames, ok.stk, ok.exf, ok.bs, ok.bsz, ok.noex, ok.exfs, ok.funs, ok.frf⟩
section
variable {X : Cx} {pins : List (Addr × Obj)} {σ : St} {H : Hp} {s : Shared} {E : Value → Shared → Prop}
theorem Inv.wish (I : Inv X pins σ H s) (E : Value → Shared → Prop) : Inv (X.wish E) pins σ H s := ⟨I.ok.wish E, I.os, I.bare, I.base, I.loc, I.cell, I.free, I.freeC, I.pin, I.hok, I.len⟩
theorem Inv.unwish (I : Inv (X.wish E) pins σ H s) : Inv X pins σ H s := ⟨I.ok.unwish, I.os, I.bare, I.base, I.loc, I.cell, I.free, I.freeC, I.pin, I.hok, I.len⟩
theorem SP.unwish {D : Ends} {f : Flow} {s' : Shared} (h : SP (X.wish E) pins D f s') : SP X pins D f s' := by
  cases f with
  | next => obtain ⟨σ', H', I, q⟩ := h; exact ⟨σ', H', I.unwish, q⟩
  | brk => obtain ⟨σ', H', I, q⟩ := h; exact ⟨σ', H', I.unwish, q⟩
  | cont => obtain ⟨σ', H', I, q⟩ := h; exact ⟨σ', H', I.unwish, q⟩
  | ret u => obtain ⟨v, σ', H', I, r, q⟩ := h; exact ⟨v, σ', H', I.unwish, r, q⟩
theorem PSs.nox {st : List Stmt} {t : TS} (h : PSs X.nox st t) : PSs X st t := fun pins s σ H D I hw =>
  wpAny_mono (h pins s σ H D (I.wish _) hw) (fun _ _ q => q.unwish) fun _ _ z => False.elim z
end

/-! ### blocks and small statements -/
section
variable {X : Cx} {st : Stmt} {rest : List Stmt} {t u : TS} {e : Expr} {te : TE} {pos : Pos}
def tNext : TS := fun D σ H => D.nx σ H
def tSeq (t u : TS) : TS := fun D σ H => t { D with nx := u D } σ H
theorem pss_nil : PSs X [] tNext := fun _ _ σ H _ I h => wpAny_execs_nil ⟨σ, H, I, h⟩
theorem pss_cons (h1 : PS X st t) (h2 : PSs X rest u) : PSs X (st :: rest) (tSeq t u) := by
  intro pins s σ H D I h
  refine wpAny_execs_cons (thn (h1 pins s σ H { D with nx := u D } I h) fun f s1 q => ?_)
  cases f with
  | next =>
    obtain ⟨σ', H', I', q⟩ := q
    exact h2 pins s1 σ' H' D I' q
  | ret v => exact q
  | brk => exact q
  | cont => exact q
theorem pss_one (h1 : PS X st t) : PSs X [st] t := by
  intro pins s σ H D I h
  refine wpAny_execs_cons (thn (h1 pins s σ H D I h) fun f s1 q => ?_)
  cases f with
  | next => exact wpAny_execs_nil q
  | ret v => exact q
  | brk => exact q
  | cont => exact q
def tBreak : TS := fun D σ H => D.bk σ H
def tCont : TS := fun D σ H => D.ct σ H
/-- in a def's body nothing is shown -/
theorem Inv.quiet {pins : List (Addr × Obj)} {σ : St} {H : Hp} {s : Shared} (I : Inv X pins σ H s) : interactive X.env = false := by simp [interactive, I.ok.kind]
/-- an expression whose value is dropped -/
def tDrop (te : TE) : TS := fun D σ H => te σ H fun _ H1 => D.nx σ H1
theorem ps_expr (he : PE X e te) (hs : swapsWith e none pos.line X.env = pure false := by rfl) : PS X (.Expr e pos) (tDrop te) := by
  intro pins s σ H D I h
  exact wpAny_Expr_any (thn (he pins s σ H _ I h) fun v s1 ⟨x, H1, I1, r1, q1⟩ => ⟨σ, H1, I1, q1⟩) I.quiet hs
def tRet (te : TE) : TS := fun D σ H => te σ H D.rt
theorem ps_ret (he : PE X e te) : PS X (.Return (some e) pos) (tRet te) := by
  intro pins s σ H D I h
  exact wpAny_Return_some (thn (he pins s σ H _ I h) fun v s1 ⟨x, H1, I1, r1, q1⟩ => ⟨x, σ, H1, I1, r1, q1⟩)
def tRetN : TS := fun D _ H => D.rt .non H
def tIfS (c : TT) (t u : TS) : TS := fun D σ H => c σ H fun b H1 => if b = true then t D σ H1 else u D σ H1
theorem ps_if {c : Expr} {a b : List Stmt} {tc : TT} (hc : PT X c tc) (ha : PSs X a t) (hb : PSs X b u) : PS X (.If c a b pos) (tIfS tc t u) := by
  intro pins s σ H D I h
  refine wpAny_If (thn (hc pins s σ H _ I h) fun d s1 ⟨H1, I1, q1⟩ => ?_)
  cases d with
  | true => exact ha pins s1 σ H1 D I1 q1
  | false => exact hb pins s1 σ H1 D I1 q1
/-- code that the proof never comes to -/
def tNever : TS := fun _ _ _ => False
end

/-! ### targets -/
abbrev TG := V → St → Hp → (St → Hp → Prop) → Prop
abbrev TGs := List V → St → Hp → (St → Hp → Prop) → Prop
def PG (X : Cx) (target : Expr) (t : TG) : Prop :=
  ∀ (pins : List (Addr × Obj)) (s : Shared) (σ : St) (H : Hp) (v : V) (u : Value) (Q : St → Hp → Prop), Inv X pins σ H s → RelV v u → t v σ H Q →
    wpAny (model X.prog X.w) X.A (assign target X.env u) (fun _ s' => ∃ σ' H', Inv X pins σ' H' s' ∧ Q σ' H') X.xe s
/-- several targets, one after another -/
def PGs (X : Cx) (ts : List Expr) (t : TGs) : Prop :=
  ∀ (pins : List (Addr × Obj)) (s : Shared) (σ : St) (H : Hp) (vs : List V) (us : List Value) (Q : St → Hp → Prop), Inv X pins σ H s → Vals vs us → t vs σ H Q →
    wpAny (model X.prog X.w) X.A (assignInOrder ((assignEach ts X.env).map (·.2)) us) (fun _ s' => ∃ σ' H', Inv X pins σ' H' s' ∧ Q σ' H') X.xe s
/-- o[i] = v, by values -/
abbrev TSet := V → V → V → Hp → (Hp → Prop) → Prop
def PSet (X : Cx) (t : TSet) : Prop :=
  ∀ (pins : List (Addr × Obj)) (s : Shared) (σ : St) (H : Hp) (o i v : V) (ov iv u : Value) (Q : Hp → Prop), Inv X pins σ H s → RelV o ov → RelV i iv → RelV v u → t o i v H Q →
    wpAny (model X.prog X.w) X.A (setItem ov iv u) (fun _ s' => ∃ H', Inv X pins σ H' s' ∧ Q H') X.xe s
/-- a op= b, by values -/
abbrev TIp := V → V → Hp → VK → Prop
def PIp (X : Cx) (op : Operator) (t : TIp) : Prop :=
  ∀ (pins : List (Addr × Obj)) (s : Shared) (σ : St) (H : Hp) (x y : V) (v u : Value) (Q : VK), Inv X pins σ H s → RelV x v → RelV y u → t x y H Q →
    wpAny (model X.prog X.w) X.A (inplaceOp op v u) (EP X pins σ Q) X.xe s
section
variable {X : Cx} {pos : Pos}
def gName (i : Nat) : TG := fun v σ H Q => Q (σ.set i (some v)) H
theorem pg_name {i : Nat} {x : Str} (hN : X.N.Nodup) (hi : X.N[i]? = some x) (hx : Loc X.env.scope x) (hf : X.fn x = true ∨ X.env.scope.names.lookup x = some .local := by first | exact .inl rfl | exact .inr rfl | assumption) : PG X (.Name x pos) (gName i) := by
  intro pins s σ H v u Q I r h
  exact wpAny_assign_Name (store_ok I hN hi hx r (fun s' I' => ⟨_, H, I', h⟩) hf)
def gNil : TGs := fun vs σ H Q => vs = [] ∧ Q σ H
def gCons (t : TG) (u : TGs) : TGs := fun vs σ H Q => ∃ v r, vs = v :: r ∧ t v σ H fun σ' H' => u r σ' H' Q
theorem pgs_nil : PGs X [] gNil := by
  intro pins s σ H vs us Q I r h
  obtain ⟨e, h⟩ := h
  subst e
  cases r
  exact assignInOrder_nil ⟨σ, H, I, h⟩
theorem pgs_cons {e : Expr} {es : List Expr} {t : TG} {u : TGs} (h1 : PG X e t) (h2 : PGs X es u)
    (hs : (assignEach (e :: es) X.env).map (·.2) = assign e X.env :: (assignEach es X.env).map (·.2) := by rfl) : PGs X (e :: es) (gCons t u) := by
  intro pins s σ H vs us Q I r h
  obtain ⟨v, vr, e1, h⟩ := h
  subst e1
  cases r with
  | cons r rr =>
    rw [hs]
    refine assignInOrder_cons (thn (h1 pins s σ H _ _ _ I r h) fun _ s1 ⟨σ1, H1, I1, q1⟩ => ?_)
    exact h2 pins s1 σ1 H1 _ _ Q I1 rr q1
/-- (a, b, ..) = a tuple of that length -/
def gTup (K : PySem.W.Frag) (n : Nat) (t : TGs) : TG := fun v σ H Q => ∃ a xs, v = .ref a ∧ SqT K H a xs ∧ xs.length = n ∧ t xs σ H Q
theorem pg_tup {es : List Expr} {k : Nat} {t : TGs} {n : Nat} (hc : X.calm = true) (h : PGs X es t)
    (hn : (assignEach es X.env).length = n := by rfl) (hst : (assignEach es X.env).findIdx? (·.1) = none := by rfl) : PG X (.Tuple es k pos) (gTup X.K n t) := by
  intro pins s σ H v u Q I r hw
  obtain ⟨a, xs, e1, hq, hl, hw⟩ := hw
  subst e1
  cases r
  obtain ⟨its, rv, ht, hz⟩ := I.tuple hq
  refine assign_Tuple_tuple (I.ok.hd hc) ht (by simp [hn, ← hl, rv.length]) hst fun h' hx => ?_
  have I1 : Inv X pins σ H { s with heap := h' } := I.kept (t' := s.toks) fun b o e => hx b o (Nat.ne_of_lt (Heap.lt_size e)) e
  exact h pins _ σ H xs _ Q I1 (by simpa using rv) hw
/-- o[i] = .. -/
def gSub (to ti : TE) (t : TSet) : TG := fun v σ H Q => to σ H fun o H1 => ti σ H1 fun i H2 => t o i v H2 fun H3 => Q σ H3
theorem pg_sub {o i : Expr} {to ti : TE} {t : TSet} (ho : PE X o to) (hi : PE X i ti) (hs : PSet X t)
    (ha : ∀ v, assign (.Subscript o i pos) X.env v = (do
      let ov ← holding [v] (eval o X.env)
      let iv ← holding [v, ov] (eval i X.env)
      standAt pos
      holding [v, ov, iv] (setItem ov iv v)
      release [v, ov, iv] []) := by intro _; rfl) : PG X (.Subscript o i pos) (gSub to ti t) := by
  intro pins s σ H v u Q I r h
  rw [ha]
  refine wpAny_bind (wpAny_holding (thn (ho pins s σ H _ I h) fun ov s1 ⟨x, H1, I1, r1, q1⟩ => ?_))
  refine wpAny_bind (wpAny_holding (thn (hi pins s1 σ H1 _ I1 q1) fun iv s2 ⟨y, H2, I2, r2, q2⟩ => ?_))
  refine wpAny_bind (wpAny_standAt (wpAny_bind (wpAny_holding (thn (hs pins s2 σ H2 x y v ov iv u _ I2 r1 r2 r q2) fun _ s3 ⟨H3, I3, q3⟩ => ?_))))
  exact wpAny_release ⟨σ, H3, I3, q3⟩
/-- target = value -/
def tAsg (te : TE) (g : TG) : TS := fun D σ H => te σ H fun x H1 => g x σ H1 D.nx
theorem ps_asg {tg e : Expr} {te : TE} {g : TG} (he : PE X e te) (hg : PG X tg g) (hs : swapsWithSole [tg] e pos.line X.env = pure false := by rfl) (hw : swappedStores [tg] e X.env = pure none := by rfl)
    (h1 : (assignEach [tg] X.env).map (·.2) = [assign tg X.env] := by rfl) : PS X (.Assign [tg] e pos) (tAsg te g) := by
  intro pins s σ H D I h
  refine wpAny_Assign_stores (thn (he pins s σ H _ I h) fun v s1 ⟨x, H1, I1, r1, q1⟩ => ?_) hs hw
  rw [h1]
  exact thn (hg pins s1 σ H1 x v _ I1 r1 q1) fun _ s2 q => q
/-- name = value -/
theorem ps_set {i : Nat} {x : Str} {e : Expr} {te : TE} {pos' : Pos} (hN : X.N.Nodup) (hi : X.N[i]? = some x) (hx : Loc X.env.scope x) (he : PE X e te) (hs : swapsWith e (some (.Name x pos')) pos.line X.env = pure false := by rfl) (hf : X.fn x = true ∨ X.env.scope.names.lookup x = some .local := by first | exact .inl rfl | exact .inr rfl | assumption) :
    PS X (.Assign [.Name x pos'] e pos) (tAsg te (gName i)) := by
  intro pins s σ H D I h
  refine wpAny_Assign_Name (thn (he pins s σ H _ I h) fun v s1 ⟨y, H1, I1, r1, q1⟩ => ?_) hs
  exact store_ok I1 hN hi hx r1 (fun s2 I2 => ⟨_, H1, I2, q1⟩) hf
/-- a, b = x, y with plain local names: stored from the right; the pair itself is not tracked (the opening rows as in PyProof/Rows/TupAssign.lean:23) -/
def tPar (i j : Nat) (ta : TA) : TS := fun D σ H => ta σ H fun vs H1 => ∃ v w, vs = [v, w] ∧ D.nx ((σ.set i (some v)).set j (some w)) H1
/-- name op= e -/
def tAug (i : Nat) (te : TE) (ti : TIp) : TS := fun D σ H => ∃ x, σ[i]? = some (some x) ∧ te σ H fun y H1 => ti x y H1 fun z H2 => D.nx (σ.set i (some z)) H2
theorem ps_aug {i : Nat} {x : Str} {e : Expr} {te : TE} {op : Operator} {ti : TIp} {pos' : Pos} (hN : X.N.Nodup) (hi : X.N[i]? = some x) (hx : Loc X.env.scope x) (he : PE X e te) (ho : PIp X op ti) (hf : X.fn x = true ∨ X.env.scope.names.lookup x = some .local := by first | exact .inl rfl | exact .inr rfl | assumption) :
    PS X (.AugAssign (.Name x pos') op e pos) (tAug i te ti) := by
  intro pins s σ H D I h
  obtain ⟨v, e1, h⟩ := h
  obtain ⟨m, hn, hl⟩ := I.loc
  have vis : Vis X.env.scope x := by rcases hx with k | k; exact .inl k; exact .inr (.inl k)
  obtain ⟨u, r, l⟩ := hl i x v hi e1 vis
  refine wpAny_AugAssign_Name ?_
  have go : wpAny (model X.prog X.w) X.A (eval e X.env) (fun w s₂ => wpAny (model X.prog X.w) X.A (inplaceOp op u w) (fun r s₃ => wpAny (model X.prog X.w) X.A (storeName X.env x r) (fun _ => SP X pins D .next) X.xe s₃) X.xe s₂) X.xe s := by
    refine thn (he pins s σ H _ I h) fun w s1 ⟨y, H1, I1, r1, q1⟩ => ?_
    refine thn (ho pins s1 σ H1 v y u w _ I1 r r1 q1) fun z s2 ⟨zv, H2, I2, r2, q2⟩ => ?_
    exact store_ok I2 hN hi hx r2 (fun s3 I3 => ⟨_, H2, I3, q2⟩) hf
  rcases l with ⟨hk, hm⟩ | ⟨hk, c, hc, hcell⟩
  · exact wpAny_loadName_local I.ok.kind hk hn hm go
  · rcases hk with hk | hk
    · exact wpAny_loadName_cell I.ok.kind hk hc hcell go
    · rcases hx with k | k
      · have : X.env.scope.names.lookup x = some .free := hk
        rw [k] at this; cases this
      · have : X.env.scope.names.lookup x = some .free := hk
        rw [k] at this; cases this
/-- o[i] op= e -/
def tAugS (to ti te : TE) (tget : V → V → Hp → VK → Prop) (tip : TIp) (tset : TSet) : TS := fun D σ H => to σ H fun o H1 => ti σ H1 fun i H2 => tget o i H2 fun x H3 => te σ H3 fun y H4 => tip x y H4 fun z H5 => tset o i z H5 fun H6 => D.nx σ H6
/-- o[i], by values -/
def PGet (X : Cx) (t : V → V → Hp → VK → Prop) : Prop :=
  ∀ (pins : List (Addr × Obj)) (s : Shared) (σ : St) (H : Hp) (o i : V) (ov iv : Value) (Q : VK), Inv X pins σ H s → RelV o ov → RelV i iv → t o i H Q →
    wpAny (model X.prog X.w) X.A (getItem ov iv) (EP X pins σ Q) X.xe s
/-- ints -/
def ipI (f : Int → Int → Int) : TIp := fun x y H Q => ∃ i j, x = .int i ∧ y = .int j ∧ Q (.int (f i j)) H
theorem ip_add : PIp X .Add (ipI fun i j => i + j) := by
  intro pins s σ H x y v u Q I r1 r2 h
  obtain ⟨i, j, e1, e2, q⟩ := h
  subst e1; subst e2
  obtain ⟨t, rfl⟩ := r1
  obtain ⟨t', rfl⟩ := r2
  exact iadd_int ⟨.int _, H, I.tok _, ⟨_, rfl⟩, q⟩
end

/-! ### while -/
section
variable {X : Cx} {pos : Pos}
/-- the invariant W with its measure -/
def tWhile (c : TT) (tb : TS) : TS := fun D σ H => ∃ W : Nat → St → Hp → Prop, (∃ m, W m σ H) ∧ ∀ m σ H, W m σ H →
  c σ H fun b H1 => if b = true then ∃ N : St → Hp → Prop, (∀ σ' H', N σ' H' → ∃ m', m' < m ∧ W m' σ' H') ∧ tb { D with nx := N, ct := N, bk := D.nx } σ H1 else D.nx σ H1
theorem ps_while {c : Expr} {body : List Stmt} {tc : TT} {tb : TS} (hp : PassesOwn (model X.prog X.w) X.A X.env X.xe) (hc : PT X c tc) (hb : PSs X body tb) : PS X (.While c body [] pos) (tWhile tc tb) := by
  intro pins s σ H D I h
  obtain ⟨W, ⟨m0, w0⟩, turn⟩ := h
  refine wpAny_While (codeAny_whileLoop (fun n s' => ∃ σ' H', Inv X pins σ' H' s' ∧ W n σ' H') ?_ m0 ⟨σ, H, I, w0⟩)
  rintro n s1 ⟨σ1, H1, I1, w1⟩
  refine wpAny_passesOwn hp (thn (hc pins s1 σ1 H1 _ I1 (turn n σ1 H1 w1)) fun b s2 ⟨H2, I2, q2⟩ => ?_)
  cases b with
  | true =>
    obtain ⟨N, hN, q2⟩ := q2
    rw [if_pos rfl]
    refine wpAny_passesOwn hp (thn (hb pins s2 σ1 H2 _ I2 q2) fun f s3 q3 => ?_)
    cases f with
    | next =>
      obtain ⟨σ3, H3, I3, n3⟩ := q3
      obtain ⟨m', hm, w3⟩ := hN σ3 H3 n3
      exact ⟨m', hm, σ3, H3, I3, w3⟩
    | cont =>
      obtain ⟨σ3, H3, I3, n3⟩ := q3
      obtain ⟨m', hm, w3⟩ := hN σ3 H3 n3
      exact ⟨m', hm, σ3, H3, I3, w3⟩
    | brk => exact q3
    | ret v => exact q3
  | false =>
    rw [if_neg Bool.false_ne_true]
    exact wpAny_execs_nil ⟨σ1, H2, I2, q2⟩
end

/-! ### what a loop or a comprehension walks -/
/-- at turn i: it yields x (the heap may grow), or it stops -/
structure It where
  go : Nat → Hp → Prop
  yld : Nat → Hp → V → Hp → Prop
  stop : Nat → Hp → Prop
/-- the iterator's own objects may turn: they are not the frame's, not pinned, younger than the entry (or a comprehension's own) -/
def FpOk (X : Cx) (pins : List (Addr × Obj)) (H : Hp) (b : Addr) : Prop :=
  H b = none ∧ b ≠ X.env.locals ∧ b ∉ X.fs ∧ (b ∈ X.ex ∨ X.s₀.heap.objs.size ≤ b) ∧ (∀ x c, X.env.cells.lookup x = some c → c ≠ b) ∧ ∀ p ∈ X.pn ++ pins, p.1 ≠ b
theorem Inv.fpOk {X : Cx} {pins : List (Addr × Obj)} {σ : St} {H H' : Hp} {s : Shared} {b : Addr} (I : Inv X pins σ H s) (hb : s.heap.objs.size ≤ b) (hn : H' b = none) : FpOk X pins H' b := by
  refine ⟨hn, Nat.ne_of_gt (Nat.lt_of_lt_of_le I.lt hb), I.nofs hb, .inr (Nat.le_trans I.sz hb), fun x c e z => ?_, fun p hp z => ?_⟩
  · obtain ⟨v, q⟩ := I.cell x c e
    exact absurd (Nat.lt_of_lt_of_le q.lt (by rw [z]; exact hb)) (Nat.lt_irrefl _)
  · exact absurd (Nat.lt_of_lt_of_le (Heap.lt_size (I.pin p hp).1) (by rw [z]; exact hb)) (Nat.lt_irrefl _)
structure Turn (P : Program) (w : World) (K : PySem.W.Frag) (tg : Expr) (J : It) (fp : List Addr) (it : Addr) (tn : Nat → Heap → Prop) : Prop where
  mem : it ∈ fp
  obj : ∀ i h, tn i h → ∀ b ∈ fp, ∃ o, h.get? b = some o ∧ ∀ v, o.data ≠ .cell v
  keep : ∀ i h h', tn i h → (∀ b ∈ fp, ∀ o, h.get? b = some o → h'.get? b = some o) → tn i h'
  item : ∀ (X : Cx), X.prog = P → X.w = w → X.K = K → X.calm = true → ∀ (i : Nat) (pins : List (Addr × Obj)) (s : Shared) (σ : St) (H : Hp) (E : Value → Shared → Prop), Inv X pins σ H s → (∀ b ∈ fp, FpOk X pins H b) → tn i s.heap → J.go i H →
    wpAny (model P w) X.A (pyNext (.ref it)) (fun r s1 => ∃ u, r = some u ∧
      wpAny (model P w) X.A (letOwnedTupleGo tg (.ref it) u) (fun _ s2 => ∃ x H', Inv X pins σ H' s2 ∧ RelV x u ∧ J.yld i H x H' ∧ tn (i + 1) s2.heap ∧ ∀ b ∈ fp, H' b = none) E s1) E s
  done : ∀ (X : Cx), X.prog = P → X.w = w → X.K = K → X.calm = true → ∀ (i : Nat) (pins : List (Addr × Obj)) (s : Shared) (σ : St) (H : Hp) (E : Value → Shared → Prop), Inv X pins σ H s → (∀ b ∈ fp, FpOk X pins H b) → tn i s.heap → J.stop i H →
    wpAny (model P w) X.A (pyNext (.ref it)) (fun r s1 => r = none ∧ Inv X pins σ H s1) E s
  self : ∀ (A : Around) (i : Nat) (s : Shared) (Q : Value → Shared → Prop) (E : Value → Shared → Prop), tn i s.heap → Q (.ref it) s → wpAny (model P w) A (pyIter (.ref it)) Q E s
abbrev TI := St → Hp → (It → Hp → Prop) → Prop
/-- an iterator has come -/
def PIE (X : Cx) (pins : List (Addr × Obj)) (σ : St) (tg : Expr) (R : It → Hp → Prop) (itv : Value) (s2 : Shared) : Prop :=
  ∃ (it : Addr) (fp : List Addr) (tn : Nat → Heap → Prop) (J : It) (H' : Hp), itv = .ref it ∧ Inv X pins σ H' s2 ∧ Turn X.prog X.w X.K tg J fp it tn ∧ tn 0 s2.heap ∧ (∀ b ∈ fp, FpOk X pins H' b) ∧ R J H'
def PI (X : Cx) (tg iter : Expr) (wi : TI) : Prop :=
  ∀ (pins : List (Addr × Obj)) (s : Shared) (σ : St) (H : Hp) (R : It → Hp → Prop), Inv X pins σ H s → wi σ H R →
    wpAny (model X.prog X.w) X.A (eval iter X.env) (fun v s1 => wpAny (model X.prog X.w) X.A (pyIter v) (PIE X pins σ tg R) X.xe s1) X.xe s

/-- the step ahead of the store is nothing for an iterator that keeps no tuple -/
theorem go_of {M : Model} {A : Around} {E : Value → Shared → Prop} {s : Shared} {tg : Expr} {it : Addr} {u : Value} {o : Obj} {n : String} {vs : Array Value} {Q : Unit → Shared → Prop} (ho : s.heap.get? it = some o) (hc : o.cls = .type n) (hd : o.data = .fields vs)
    (hn : ["enumerate", "zip", "dict_itemiterator", "dict_reverseitemiterator", "odict_iterator", "itertools.zip_longest", "itertools.pairwise"].contains n = false) (hQ : Q () s) : wpAny M A (letOwnedTupleGo tg (.ref it) u) Q E s := by
  unfold letOwnedTupleGo
  cases tg <;> first
    | exact wpAny_pure hQ
    | (cases u <;> first
        | exact wpAny_pure hQ
        | (refine wpAny_bind (wpAny_load ho ?_)
           rw [hc, hd]
           show wpAny M A (if (["enumerate", "zip", "dict_itemiterator", "dict_reverseitemiterator", "odict_iterator", "itertools.zip_longest", "itertools.pairwise"].contains n && vs[0]? == some (rawInt _)) = true then _ else _) Q E s
           rw [if_neg (by intro h; rw [hn, Bool.false_and] at h; cases h)]
           exact wpAny_pure hQ))

/-- the list at a, as it stands at each turn (a loop may append to it) -/
def Itl (K : PySem.W.Frag) (a : Addr) : It :=
  ⟨fun i H => ∃ xs x, SqL K H a xs ∧ xs[i]? = some x, fun i H x H' => H' = H ∧ ∀ xs, SqL K H a xs → xs[i]? = some x, fun i H => ∃ xs, SqL K H a xs ∧ xs.length ≤ i⟩
def Itt (K : PySem.W.Frag) (a : Addr) : It :=
  ⟨fun i H => ∃ xs x, SqT K H a xs ∧ xs[i]? = some x, fun i H x H' => H' = H ∧ ∀ xs, SqT K H a xs → xs[i]? = some x, fun i H => ∃ xs, SqT K H a xs ∧ xs.length ≤ i⟩
/-- lo, lo + 1, .. (n of them) -/
def Itr (lo : Int) (n : Nat) : It := ⟨fun i _ => i < n, fun i H x H' => H' = H ∧ x = .int (lo + i), fun i _ => n ≤ i⟩
theorem turn_list {P : Program} {w : World} {K : PySem.W.Frag} {tg : Expr} (a it : Addr) : Turn P w K tg (Itl K a) [it] it (fun i h => h.IsListIter it a i) where
  mem := by simp
  obj := fun i h st b hb => by
    have e : b = it := by simpa using hb
    subst e
    obtain ⟨o, e, c, d⟩ := st
    exact ⟨o, e, fun v z => by rw [d] at z; cases z⟩
  keep := fun i h h' st k => st.at fun o e => k it (by simp) o e
  item := by
    intro X hP hw hK hc i pins s σ H E I hf st hg
    subst hP hw hK
    obtain ⟨xs, x, hq, hx⟩ := hg
    obtain ⟨its, rv, p, hz⟩ := I.list hq
    obtain ⟨u, hu, ru⟩ := rv.get hx
    obtain ⟨f0, f1, f2, f3, f4, f5⟩ := hf it (by simp)
    refine wpAny_pyNext_list_item st p.isList (x := u) (by simpa using hu) fun h' st' sb => ?_
    have I1 : Inv X pins σ H { s with heap := h' } := I.turned (t' := s.toks) (fun b o hb e => (sb.2 b hb).trans e) f0 f1 f3 f4 f5
    obtain ⟨o, e, c, d⟩ := id st'
    exact ⟨u, rfl, go_of (s := { s with heap := h' }) e c d (by decide) ⟨x, H, I1, ru, ⟨rfl, fun ys hy => by rw [I.list_inj hy hq]; exact hx⟩, st', fun b hb => (hf b hb).1⟩⟩
  done := by
    intro X hP hw hK hc i pins s σ H E I hf st hg
    subst hP hw hK
    obtain ⟨xs, hq, hx⟩ := hg
    obtain ⟨its, rv, p, hz⟩ := I.list hq
    obtain ⟨f0, f1, f2, f3, f4, f5⟩ := hf it (by simp)
    have hl := rv.length
    exact wpAny_pyNext_list_end (I.ok.hd hc) st p.isList (by simp; omega) fun h' eb => ⟨rfl, I.turned (t' := s.toks) (fun b o hb e => eb b o hb e) f0 f1 f3 f4 f5⟩
  self := fun _ _ _ _ _ st h => wpAny_pyIter_listiter st h
theorem turn_tuple {P : Program} {w : World} {K : PySem.W.Frag} {tg : Expr} (a it : Addr) : Turn P w K tg (Itt K a) [it] it (fun i h => h.IsTupleIter it a i) where
  mem := by simp
  obj := fun i h st b hb => by
    have e : b = it := by simpa using hb
    subst e
    obtain ⟨o, e, c, d⟩ := st
    exact ⟨o, e, fun v z => by rw [d] at z; cases z⟩
  keep := fun i h h' st k => st.at fun o e => k it (by simp) o e
  item := by
    intro X hP hw hK hc i pins s σ H E I hf st hg
    subst hP hw hK
    obtain ⟨xs, x, hq, hx⟩ := hg
    obtain ⟨its, rv, p, hz⟩ := I.tuple hq
    obtain ⟨u, hu, ru⟩ := rv.get hx
    obtain ⟨f0, f1, f2, f3, f4, f5⟩ := hf it (by simp)
    refine wpAny_pyNext_tuple_item st (show s.heap.IsTuple a its.toArray from p) (x := u) (by simpa using hu) fun h' st' sb => ?_
    have I1 : Inv X pins σ H { s with heap := h' } := I.turned (t' := s.toks) (fun b o hb e => (sb.2 b hb).trans e) f0 f1 f3 f4 f5
    obtain ⟨o, e, c, d⟩ := id st'
    exact ⟨u, rfl, go_of (s := { s with heap := h' }) e c d (by decide) ⟨x, H, I1, ru, ⟨rfl, fun ys hy => by rw [I.tuple_inj hy hq]; exact hx⟩, st', fun b hb => (hf b hb).1⟩⟩
  done := by
    intro X hP hw hK hc i pins s σ H E I hf st hg
    subst hP hw hK
    obtain ⟨xs, hq, hx⟩ := hg
    obtain ⟨its, rv, p, hz⟩ := I.tuple hq
    obtain ⟨f0, f1, f2, f3, f4, f5⟩ := hf it (by simp)
    have hl := rv.length
    exact wpAny_pyNext_tuple_end (I.ok.hd hc) st (show s.heap.IsTuple a its.toArray from p) (by simp; omega) fun h' eb => ⟨rfl, I.turned (t' := s.toks) (fun b o hb e => eb b o hb e) f0 f1 f3 f4 f5⟩
  self := fun _ _ _ _ _ st h => wpAny_pyIter_tupleiter st h
theorem turn_range {P : Program} {w : World} {K : PySem.W.Frag} {tg : Expr} (it : Addr) (lo : Int) (n : Nat) : Turn P w K tg (Itr lo n) [it] it (fun i h => IsRangeIter h it (lo + (i : Nat) * 1) ((n : Int) - (i : Nat)) 1) where
  mem := by simp
  obj := fun i h st b hb => by
    have e : b = it := by simpa using hb
    subst e
    exact ⟨_, st, fun v z => by
      have z' : Data.fields _ = Data.cell v := z
      cases z'⟩
  keep := fun i h h' st k => k it (by simp) _ st
  item := by
    intro X hP hw hK hc i pins s σ H E I hf st hg
    subst hP hw hK
    obtain ⟨f0, f1, f2, f3, f4, f5⟩ := hf it (by simp)
    have W := Walks.range (prog := X.prog) (w := X.w) (I.ok.hd hc) it lo 1 n
    refine W.item i s _ _ hg st fun v h' tk hv st' kk => ?_
    obtain ⟨t, rfl⟩ := hv
    have I1 : Inv X pins σ H { s with heap := h', toks := tk } := I.turned (fun b o hb e => kk b o (by simpa using hb) e) f0 f1 f3 f4 f5
    refine ⟨_, rfl, go_of (s := { s with heap := h', toks := tk }) (n := "range_iterator") st' rfl rfl (by decide) ⟨.int (lo + i), H, I1, ⟨t, ?_⟩, ⟨rfl, rfl⟩, st', fun b hb => (hf b hb).1⟩⟩
    rw [Int.mul_one]
  done := by
    intro X hP hw hK hc i pins s σ H E I hf st hg
    subst hP hw hK
    obtain ⟨f0, f1, f2, f3, f4, f5⟩ := hf it (by simp)
    exact wpAny_pyNext_range_end (I.ok.hd hc) st (by have : n ≤ i := hg; omega) fun h' eb => ⟨rfl, I.turned (t' := s.toks) (fun b o hb e => eb b o hb e) f0 f1 f3 f4 f5⟩
  self := fun _ _ _ _ _ st h => wpAny_pyIter_rangeiter st h
end L2

namespace L2
open PySem PySem.Spec PyProof.Rows
section
variable {X : Cx} {tg : Expr}
def iList (K : PySem.W.Frag) (tl : TE) : TI := fun σ H R => tl σ H fun x H1 => ∃ a, x = .ref a ∧ (∃ xs, SqL K H1 a xs) ∧ R (Itl K a) H1
def iTup (K : PySem.W.Frag) (tl : TE) : TI := fun σ H R => tl σ H fun x H1 => ∃ a, x = .ref a ∧ (∃ xs, SqT K H1 a xs) ∧ R (Itt K a) H1
theorem pi_list {l : Expr} {tl : TE} (hl : PE X l tl) : PI X tg l (iList X.K tl) := by
  intro pins s σ H R I h
  refine thn (hl pins s σ H _ I h) fun v s1 ⟨x, H1, I1, r1, q1⟩ => ?_
  obtain ⟨a, e, ⟨xs, hq⟩, q⟩ := q1
  subst e
  cases r1
  obtain ⟨its, rv, p, hz⟩ := I1.list hq
  refine wpAny_pyIter_list p.isList ?_
  refine ⟨s1.heap.objs.size, [s1.heap.objs.size], _, _, H1, rfl, I1.kept (t' := s1.toks) fun b o e => Heap.get?_push_of_some _ e, turn_list a _, ⟨_, Heap.get?_push_size _ rfl, rfl, rfl⟩, fun b hb => ?_, q⟩
  have e : b = s1.heap.objs.size := by simpa using hb
  subst e
  exact I1.fpOk (Nat.le_refl _) (I1.hok.fresh (Nat.le_refl _))
theorem pi_tup {l : Expr} {tl : TE} (hl : PE X l tl) : PI X tg l (iTup X.K tl) := by
  intro pins s σ H R I h
  refine thn (hl pins s σ H _ I h) fun v s1 ⟨x, H1, I1, r1, q1⟩ => ?_
  obtain ⟨a, e, ⟨xs, hq⟩, q⟩ := q1
  subst e
  cases r1
  obtain ⟨its, rv, p, hz⟩ := I1.tuple hq
  refine wpAny_pyIter_tuple (show s1.heap.IsTuple a its.toArray from p) ?_
  refine ⟨s1.heap.objs.size, [s1.heap.objs.size], _, _, H1, rfl, I1.kept (t' := s1.toks) fun b o e => Heap.get?_push_of_some _ e, turn_tuple a _, ⟨_, Heap.get?_push_size _ rfl, rfl, rfl⟩, fun b hb => ?_, q⟩
  have e : b = s1.heap.objs.size := by simpa using hb
  subst e
  exact I1.fpOk (Nat.le_refl _) (I1.hok.fresh (Nat.le_refl _))
/-- a range object just made, walked -/
theorem range_it {pins : List (Addr × Obj)} {σ : St} {H : Hp} {s : Shared} {R : It → Hp → Prop} {E : Value → Shared → Prop} {lo hi : Int} {t u v : Tok} {tk : Nat} (I : Inv X pins σ H s) (h1 : -(2 ^ 62) ≤ lo) (h2 : lo < 2 ^ 62) (h3 : -(2 ^ 62) ≤ hi) (h4 : hi < 2 ^ 62)
    (q : R (Itr lo (hi - lo).toNat) H) : wpAny (model X.prog X.w) X.A (pyIter (.ref s.heap.objs.size)) (PIE X pins σ tg R) E { s with heap := s.heap.push { cls := .type "range", data := .fields #[.int lo t, .int hi u, .int 1 v] }, toks := tk } := by
  refine wpAny_pyIter_range (IsRange.new ..) (small_one h1 h2 h3 h4) ?_
  have I1 : Inv X pins σ H { s with heap := s.heap.push { cls := .type "range", data := .fields #[.int lo t, .int hi u, .int 1 v] }, toks := tk } := I.kept fun b o e => Heap.get?_push_of_some _ e
  refine ⟨(s.heap.push { cls := .type "range", data := .fields #[.int lo t, .int hi u, .int 1 v] }).objs.size, [(s.heap.push { cls := .type "range", data := .fields #[.int lo t, .int hi u, .int 1 v] }).objs.size], _, _, H, rfl,
    I1.kept (t' := tk) fun b o e => Heap.get?_push_of_some _ e, turn_range _ lo (hi - lo).toNat, ?_, fun b hb => ?_, q⟩
  · have e1 : lo + ((0 : Nat) : Int) * 1 = lo := by simp
    have e2 : (((hi - lo).toNat : Nat) : Int) - ((0 : Nat) : Int) = Builtin.Range.rangeSize lo hi 1 := by rw [rangeSize_one]; split <;> omega
    show IsRangeIter _ _ (lo + ((0 : Nat) : Int) * 1) ((((hi - lo).toNat : Nat) : Int) - ((0 : Nat) : Int)) 1
    rw [e1, e2]
    exact Heap.get?_push_size _ rfl
  · have e : b = (s.heap.push { cls := .type "range", data := .fields #[.int lo t, .int hi u, .int 1 v] }).objs.size := by simpa using hb
    subst e
    exact I1.fpOk (Nat.le_refl _) (I1.hok.fresh (Nat.le_refl _))
def iRng1 (ta : TA) : TI := fun σ H R => ta σ H fun vs H1 => ∃ j : Int, vs = [.int j] ∧ -(2 ^ 62) ≤ j ∧ j < 2 ^ 62 ∧ R (Itr 0 j.toNat) H1
def iRng2 (ta : TA) : TI := fun σ H R => ta σ H fun vs H1 => ∃ i j : Int, vs = [.int i, .int j] ∧ (-(2 ^ 62) ≤ i ∧ i < 2 ^ 62 ∧ -(2 ^ 62) ≤ j ∧ j < 2 ^ 62) ∧ R (Itr i (j - i).toNat) H1
theorem pi_range1 {a : Expr} {ta : TA} {p pos : Pos} (hg : Gl X "range") (hm : X.mg "range" = none) (ha : PA X [a] ta) (hs : starEach [a] X.env = [(false, eval a X.env)] := by rfl) : PI X tg (.Call (.Name "range" p) [a] [] pos) (iRng1 ta) := by
  intro pins s σ H R I h
  refine Call_ (ld_blt I hg hm boot_range (PyProof.Rows.callWith_type1 (thn (ha pos pins s σ H _ I h) fun us s1 ⟨vs, H1, I1, r1, q1⟩ => ?_) hs rfl))
  obtain ⟨j, e, q1, q2, q⟩ := q1
  subst e
  cases r1 with
  | cons r rr =>
    cases rr
    obtain ⟨t, rfl⟩ := r
    exact call_range_1 (range_it I1 (by omega) (by omega) q1 q2 (by simpa using q))

/-! ### for -/
/-- W: the invariant by the turn and a measure; N: what the body is to reach -/
def tFor (wi : TI) (g : TG) (tb : TS) : TS := fun D σ H => wi σ H fun J H1 => ∃ W : Nat → Nat → St → Hp → Prop, (∃ m, W 0 m σ H1) ∧ ∀ i m σ H, W i m σ H →
  (J.stop i H ∧ D.nx σ H) ∨ (J.go i H ∧ ∃ N : St → Hp → Prop, (∀ σ' H', N σ' H' → ∃ m', m' < m ∧ W (i + 1) m' σ' H') ∧ ∀ x H', J.yld i H x H' → g x σ H' fun σ2 H2 => tb { D with nx := N, ct := N, bk := D.nx } σ2 H2)
/-- the records at fp as they stand -/
def pinsAt (fp : List Addr) (h : Heap) : List (Addr × Obj) := fp.filterMap fun b => (h.get? b).map fun o => (b, o)
theorem mem_pinsAt {fp : List Addr} {h : Heap} {b : Addr} {o : Obj} (hb : b ∈ fp) (e : h.get? b = some o) : (b, o) ∈ pinsAt fp h := List.mem_filterMap.mpr ⟨b, hb, by rw [e]; rfl⟩
theorem of_pinsAt {fp : List Addr} {h : Heap} {p : Addr × Obj} (hp : p ∈ pinsAt fp h) : p.1 ∈ fp ∧ h.get? p.1 = some p.2 := by
  obtain ⟨b, hb, e⟩ := List.mem_filterMap.mp hp
  cases q : h.get? b with
  | none => rw [q] at e; cases e
  | some o =>
    rw [q] at e
    have e' : (b, o) = p := Option.some.inj e
    subst e'
    exact ⟨hb, q⟩
theorem Inv.pinned {pins : List (Addr × Obj)} {σ : St} {H : Hp} {s : Shared} {fp : List Addr} (I : Inv X pins σ H s) (hf : ∀ b ∈ fp, FpOk X pins H b) (ho : ∀ b ∈ fp, ∃ o, s.heap.get? b = some o ∧ ∀ v, o.data ≠ .cell v) : Inv X (pins ++ pinsAt fp s.heap) σ H s :=
  I.pins_of fun p hp => (List.mem_append.mp hp).elim (fun z => I.pin p (List.mem_append_right _ z)) fun z => by
    obtain ⟨hb, e⟩ := of_pinsAt z
    obtain ⟨f0, f1, f2, _⟩ := hf p.1 hb
    obtain ⟨o, e', d⟩ := ho p.1 hb
    rw [e] at e'; cases e'
    exact ⟨e, f0, f1, f2, d⟩
theorem Inv.unpinned {pins pl : List (Addr × Obj)} {σ : St} {H : Hp} {s : Shared} (I : Inv X (pins ++ pl) σ H s) : Inv X pins σ H s := I.pins_of fun p hp => I.pin p (List.mem_append_right _ (List.mem_append_left _ hp))
theorem ps_for {iter : Expr} {body : List Stmt} {wi : TI} {g : TG} {tb : TS} {pos : Pos} (hp : PassesOwn (model X.prog X.w) X.A X.env X.xe) (hc : X.calm = true) (hi : PI X tg iter wi) (hg : PG X tg g) (hb : PSs X body tb)
    (hs : ∀ x, foldedSetIterable iter X.env x = pure x := by intro _; rfl) : PS X (.For tg iter body [] pos) (tFor wi g tb) := by
  intro pins s σ H D I h
  refine wpAny_For (thn (hi pins s σ H _ I h) fun v s1 h1 => thn h1 fun itv s2 h2 => ?_) hs
  obtain ⟨it, fp, tn, J, H2, e, I2, T, st2, f2, W, ⟨m0, w0⟩, turn⟩ := h2
  subst e
  -- what stays true of the iterator's objects through the loop
  have stat : ∀ {H' : Hp}, (∀ b ∈ fp, H' b = none) → ∀ b ∈ fp, FpOk X pins H' b := fun hn b hb => ⟨hn b hb, (f2 b hb).2⟩
  refine codeAny_forLoop_any (fun n s' => ∃ i σ' H', Inv X pins σ' H' s' ∧ tn i s'.heap ∧ (∀ b ∈ fp, H' b = none) ∧ W i n σ' H') ?_ m0 ⟨0, σ, H2, I2, st2, fun b hb => (f2 b hb).1, w0⟩
  rintro n s3 ⟨i, σ3, H3, I3, st3, fr3, w3⟩
  rcases turn i n σ3 H3 w3 with ⟨stop, qn⟩ | ⟨go, N, hN, step⟩
  · refine wpAny_passesOwn hp (thn (T.done X rfl rfl rfl hc i pins s3 σ3 H3 X.xe I3 (stat fr3) st3 stop) fun r s4 ⟨hr, I4⟩ => ?_)
    subst hr
    exact wpAny_execs_nil ⟨σ3, H3, I4, qn⟩
  · refine wpAny_passesOwn hp (thn (T.item X rfl rfl rfl hc i pins s3 σ3 H3 X.xe I3 (stat fr3) st3 go) fun r s4 ⟨u, hr, h4⟩ => ?_)
    subst hr
    refine wpAny_passesOwn hp (thn h4 fun _ s5 ⟨x, H5, I5, r5, y5, st5, fr5⟩ => ?_)
    have I5' := I5.pinned (stat fr5) (T.obj _ _ st5)
    refine wpAny_passesOwn hp (thn (hg _ s5 σ3 H5 x u _ I5' r5 (step x H5 y5)) fun _ s6 ⟨σ6, H6, I6, q6⟩ => ?_)
    refine wpAny_passesOwn hp (thn (hb _ s6 σ6 H6 _ I6 q6) fun f s7 q7 => ?_)
    have again : ∀ {σ7 : St} {H7 : Hp}, Inv X (pins ++ pinsAt fp s5.heap) σ7 H7 s7 → N σ7 H7 → ∃ m, m < n ∧ ∃ i σ' H', Inv X pins σ' H' s7 ∧ tn i s7.heap ∧ (∀ b ∈ fp, H' b = none) ∧ W i m σ' H' := fun {σ7 H7} I7 n7 => by
      obtain ⟨m', hm, w7⟩ := hN σ7 H7 n7
      refine ⟨m', hm, i + 1, σ7, H7, I7.unpinned, T.keep _ _ _ st5 fun b hb o e => (I7.pin (b, o) (List.mem_append_right _ (List.mem_append_right _ (mem_pinsAt hb e)))).1, fun b hb => ?_, w7⟩
      obtain ⟨o, e, d⟩ := T.obj _ _ st5 b hb
      exact (I7.pin (b, o) (List.mem_append_right _ (List.mem_append_right _ (mem_pinsAt hb e)))).2.1
    cases f with
    | next => obtain ⟨σ7, H7, I7, n7⟩ := q7; exact again I7 n7
    | cont => obtain ⟨σ7, H7, I7, n7⟩ := q7; exact again I7 n7
    | brk => obtain ⟨σ7, H7, I7, q7⟩ := q7; exact ⟨σ7, H7, I7.unpinned, q7⟩
    | ret v => obtain ⟨x7, σ7, H7, I7, r7, q7⟩ := q7; exact ⟨x7, σ7, H7, I7.unpinned, r7, q7⟩
end

/-! ### the forms one uses -/
/-- over a list that the body leaves as it is -/
theorem for_list {K : PySem.W.Frag} {a : Addr} {xs : List V} {g : TG} {tb : TS} {D : Ends} {σ : St} {H : Hp} (Pv : Nat → St → Hp → Prop) (h0 : Pv 0 σ H) (hl : ∀ i σ H, i ≤ xs.length → Pv i σ H → SqL K H a xs)
    (hs : ∀ i x σ H, xs[i]? = some x → Pv i σ H → g x σ H fun σ2 H2 => tb { D with nx := Pv (i + 1), ct := Pv (i + 1), bk := D.nx } σ2 H2) (hd : ∀ σ H, Pv xs.length σ H → D.nx σ H) :
    ∃ W : Nat → Nat → St → Hp → Prop, (∃ m, W 0 m σ H) ∧ ∀ i m σ H, W i m σ H →
      ((Itl K a).stop i H ∧ D.nx σ H) ∨ ((Itl K a).go i H ∧ ∃ N : St → Hp → Prop, (∀ σ' H', N σ' H' → ∃ m', m' < m ∧ W (i + 1) m' σ' H') ∧ ∀ x H', (Itl K a).yld i H x H' → g x σ H' fun σ2 H2 => tb { D with nx := N, ct := N, bk := D.nx } σ2 H2) := by
  refine ⟨fun i m σ H => m = xs.length - i ∧ i ≤ xs.length ∧ Pv i σ H, ⟨xs.length, by simp, Nat.zero_le _, h0⟩, ?_⟩
  rintro i m σ H ⟨rfl, hi, p⟩
  have q := hl i σ H hi p
  by_cases hlt : i < xs.length
  · refine .inr ⟨⟨xs, xs[i], q, by simp [hlt]⟩, Pv (i + 1), fun σ' H' p' => ⟨xs.length - (i + 1), by omega, rfl, hlt, p'⟩, fun x H' y => ?_⟩
    obtain ⟨e, y⟩ := y
    subst e
    exact hs i x σ _ (y xs q) p
  · have e : i = xs.length := by omega
    subst e
    exact .inl ⟨⟨xs, q, Nat.le_refl _⟩, hd σ H p⟩
theorem for_range {lo : Int} {n : Nat} {g : TG} {tb : TS} {D : Ends} {σ : St} {H : Hp} (Pv : Nat → St → Hp → Prop) (h0 : Pv 0 σ H)
    (hs : ∀ i σ H, i < n → Pv i σ H → g (.int (lo + i)) σ H fun σ2 H2 => tb { D with nx := Pv (i + 1), ct := Pv (i + 1), bk := D.nx } σ2 H2) (hd : ∀ σ H, Pv n σ H → D.nx σ H) :
    ∃ W : Nat → Nat → St → Hp → Prop, (∃ m, W 0 m σ H) ∧ ∀ i m σ H, W i m σ H →
      ((Itr lo n).stop i H ∧ D.nx σ H) ∨ ((Itr lo n).go i H ∧ ∃ N : St → Hp → Prop, (∀ σ' H', N σ' H' → ∃ m', m' < m ∧ W (i + 1) m' σ' H') ∧ ∀ x H', (Itr lo n).yld i H x H' → g x σ H' fun σ2 H2 => tb { D with nx := N, ct := N, bk := D.nx } σ2 H2) := by
  refine ⟨fun i m σ H => m = n - i ∧ i ≤ n ∧ Pv i σ H, ⟨n, by simp, Nat.zero_le _, h0⟩, ?_⟩
  rintro i m σ H ⟨rfl, hi, p⟩
  by_cases hlt : i < n
  · refine .inr ⟨hlt, Pv (i + 1), fun σ' H' p' => ⟨n - (i + 1), by omega, rfl, hlt, p'⟩, fun x H' y => ?_⟩
    obtain ⟨e, y⟩ := y
    subst e y
    exact hs i σ _ hlt p
  · have e : i = n := by omega
    subst e
    exact .inl ⟨Nat.le_refl _, hd σ H p⟩
end L2

namespace L2
open PySem PySem.Spec PyProof.Rows

abbrev R2 := V → V → Hp → VK → Prop
/-- a two-place operation on values: f is binaryOp op, inplaceOp op or compareOp op -/
def OpR (X : Cx) (f : Value → Value → Sem Value) (r : R2) : Prop :=
  ∀ (pins : List (Addr × Obj)) (s : Shared) (σ : St) (H : Hp) (x y : V) (v u : Value) (Q : VK), Inv X pins σ H s → RelV x v → RelV y u → r x y H Q →
    wpAny (model X.prog X.w) X.A (f v u) (EP X pins σ Q) X.xe s
/-- a one-place operation -/
def UnR (X : Cx) (f : Value → Sem Value) (r : V → Hp → VK → Prop) : Prop :=
  ∀ (pins : List (Addr × Obj)) (s : Shared) (σ : St) (H : Hp) (x : V) (v : Value) (Q : VK), Inv X pins σ H s → RelV x v → r x H Q →
    wpAny (model X.prog X.w) X.A (f v) (EP X pins σ Q) X.xe s
/-- a call of a value that is known (a builtin, a type) with values -/
def CallR (X : Cx) (f : Value) (r : List V → Hp → VK → Prop) : Prop :=
  ∀ (pins : List (Addr × Obj)) (s : Shared) (σ : St) (H : Hp) (xs : List V) (us : List Value) (Q : VK), Inv X pins σ H s → Vals xs us → r xs H Q →
    wpAny (model X.prog X.w) X.A (call f us) (EP X pins σ Q) X.xe s
/-- a value's truth -/
def TruR (X : Cx) (r : V → Hp → (Bool → Hp → Prop) → Prop) : Prop :=
  ∀ (pins : List (Addr × Obj)) (s : Shared) (σ : St) (H : Hp) (x : V) (v : Value) (Q : Bool → Hp → Prop), Inv X pins σ H s → RelV x v → r x H Q →
    wpAny (model X.prog X.w) X.A (truthy v) (TP X pins σ Q) X.xe s

def tOp (r : R2) (ta tb : TE) : TE := fun σ H Q => ta σ H fun x H1 => tb σ H1 fun y H2 => r x y H2 Q
def tUn (r : V → Hp → VK → Prop) (ta : TE) : TE := fun σ H Q => ta σ H fun x H1 => r x H1 Q
/-- ints in, under C, and a value out -/
def rI (C : Int → Int → Prop) (g : Int → Int → V) : R2 := fun x y H Q => ∃ i j, x = .int i ∧ y = .int j ∧ C i j ∧ Q (g i j) H
def rI0 (g : Int → Int → V) : R2 := fun x y H Q => ∃ i j, x = .int i ∧ y = .int j ∧ Q (g i j) H
def rU (g : Int → V) : V → Hp → VK → Prop := fun x H Q => ∃ i, x = .int i ∧ Q (g i) H

section
variable {X : Cx} {a b c : Expr} {ta tb tc : TE} {pos : Pos}

theorem binT (ha : PE X a ta) (hb : PE X b tb) {pins : List (Addr × Obj)} {s : Shared} {σ : St} {H : Hp} {R : V → V → Hp → Prop} (I : Inv X pins σ H s)
    (h : ta σ H fun x H1 => tb σ H1 fun y H2 => R x y H2) {Q : Value → Shared → Prop} {f : Value → Value → Sem Value}
    (hf : ∀ v u s2 x y H2, Inv X pins σ H2 s2 → RelV x v → RelV y u → R x y H2 → wpAny (model X.prog X.w) X.A (f v u) Q X.xe s2) :
    wpAny (model X.prog X.w) X.A (eval a X.env) (fun v s₁ => wpAny (model X.prog X.w) X.A (eval b X.env) (fun u s₂ => wpAny (model X.prog X.w) X.A (f v u) Q X.xe s₂) X.xe s₁) X.xe s := by
  refine thn (ha pins s σ H _ I h) fun v s1 ⟨x, H1, I1, r1, q1⟩ => ?_
  refine thn (hb pins s1 σ H1 _ I1 q1) fun u s2 ⟨y, H2, I2, r2, q2⟩ => ?_
  exact hf v u s2 x y H2 I2 r1 r2 q2

theorem pe_op {op : Operator} {r : R2} (ho : OpR X (binaryOp op) r) (ha : PE X a ta) (hb : PE X b tb) : PE X (.BinOp a op b pos) (tOp r ta tb) := by
  intro pins s σ H Q I h
  exact wpAny_BinOp (binT ha hb I h fun v u s2 x y H2 I2 rx ry q => ho pins s2 σ H2 x y v u Q I2 rx ry q)
theorem pe_un {op : UnaryOp} {r : V → Hp → VK → Prop} (ho : UnR X (unaryOp op) r) (ha : PE X a ta) : PE X (.UnaryOp op a pos) (tUn r ta) := by
  intro pins s σ H Q I h
  exact UnaryOp_ (thn (ha pins s σ H _ I h) fun v s1 ⟨x, H1, I1, r1, q1⟩ => ho pins s1 σ H1 x v Q I1 r1 q1)

/-! ### ints -/
theorem opI {f : Value → Value → Sem Value} {C : Int → Int → Prop} {g : Int → Int → Int}
    (rule : ∀ (i j : Int) (t u : Tok) (s : Shared) (Q : Value → Shared → Prop) (E : Value → Shared → Prop), C i j → Q (.int (g i j) s.toks) { s with toks := s.toks + 1 } → wpAny (model X.prog X.w) X.A (f (.int i t) (.int j u)) Q E s) :
    OpR X f (rI C fun i j => .int (g i j)) := by
  intro pins s σ H x y v u Q I rx ry h
  obtain ⟨i, j, rfl, rfl, hc, q⟩ := h
  obtain ⟨t, rfl⟩ := rx
  obtain ⟨t', rfl⟩ := ry
  exact rule i j t t' s _ _ hc ⟨.int (g i j), H, I.tok _, ⟨_, rfl⟩, q⟩
theorem opI0 {f : Value → Value → Sem Value} {g : Int → Int → Int}
    (rule : ∀ (i j : Int) (t u : Tok) (s : Shared) (Q : Value → Shared → Prop) (E : Value → Shared → Prop), Q (.int (g i j) s.toks) { s with toks := s.toks + 1 } → wpAny (model X.prog X.w) X.A (f (.int i t) (.int j u)) Q E s) :
    OpR X f (rI0 fun i j => .int (g i j)) := by
  intro pins s σ H x y v u Q I rx ry h
  obtain ⟨i, j, rfl, rfl, q⟩ := h
  obtain ⟨t, rfl⟩ := rx
  obtain ⟨t', rfl⟩ := ry
  exact rule i j t t' s _ _ ⟨.int (g i j), H, I.tok _, ⟨_, rfl⟩, q⟩
theorem opB0 {f : Value → Value → Sem Value} {g : Int → Int → Bool}
    (rule : ∀ (i j : Int) (t u : Tok) (s : Shared) (Q : Value → Shared → Prop) (E : Value → Shared → Prop), Q (.bool (g i j)) s → wpAny (model X.prog X.w) X.A (f (.int i t) (.int j u)) Q E s) :
    OpR X f (rI0 fun i j => .bl (g i j)) := by
  intro pins s σ H x y v u Q I rx ry h
  obtain ⟨i, j, rfl, rfl, q⟩ := h
  obtain ⟨t, rfl⟩ := rx
  obtain ⟨t', rfl⟩ := ry
  exact rule i j t t' s _ _ ⟨.bl (g i j), H, I, rfl, q⟩

def CDiv (i j : Int) : Prop := 0 < j ∧ j < 1073741824
def CDivN (i j : Int) : Prop := j ≠ 0 ∧ j.natAbs < 1073741824
def CPow (i j : Int) : Prop := 0 ≤ j ∧ j ≤ 1000000 ∧ i.natAbs < 2 ^ 64
def CMul (i j : Int) : Prop := (-(2 ^ 64) < i ∧ i < 2 ^ 64) ∨ (-(2 ^ 64) < j ∧ j < 2 ^ 64)
theorem CMul.ok {i j : Int} (h : CMul i j) : IntMulOk i j := by
  rcases h with ⟨h1, h2⟩ | ⟨h1, h2⟩
  · exact .of_left (intBits_le_64 h1 h2)
  · exact .of_right (intBits_le_64 h1 h2)
theorem two_pow_nn (k : Nat) : (0 : Int) ≤ 2 ^ k := by
  rw [two_pow_cast]
  exact Int.natCast_nonneg _

theorem op_add : OpR X (binaryOp .Add) (rI0 fun i j => .int (i + j)) := opI0 fun _ _ _ _ _ _ _ q => add_int q
theorem op_sub : OpR X (binaryOp .Sub) (rI0 fun i j => .int (i - j)) := opI0 fun _ _ _ _ _ _ _ q => sub_int q
theorem op_mul : OpR X (binaryOp .Mult) (rI CMul fun i j => .int (i * j)) := opI fun _ _ _ _ _ _ _ hc q => mul_int q hc.ok
/-- // by a positive divisor -/
theorem op_fdiv : OpR X (binaryOp .FloorDiv) (rI CDiv fun i j => .int (i / j)) := opI fun i j _ _ _ _ _ hc q => by
  have h1 : (0 : Int) < j := hc.1
  have h2 : j < 1073741824 := hc.2
  exact floordiv_int (by omega) (by rw [Int.fdiv_eq_ediv_of_nonneg i (by omega)]; exact q) (.inl (PyProof.noPylong_small (by omega)))
/-- % by a positive divisor of any size -/
theorem op_mod : OpR X (binaryOp .Mod) (rI (fun _ j => 0 < j) fun i j => .int (i % j)) := opI fun i j _ _ _ _ _ hc q => by
  have h1 : (0 : Int) < j := hc
  exact mod_int' (by omega) (by rw [Int.fmod_eq_emod_of_nonneg i (by omega)]; exact q)
theorem op_pow : OpR X (binaryOp .Pow) (rI CPow fun i j => .int (i ^ j.toNat)) := opI fun _ _ _ _ _ _ _ hc q => pow_int_small hc.1 hc.2.1 hc.2.2 q
theorem op_shl : OpR X (binaryOp .LShift) (rI CPow fun i j => .int (i * 2 ^ j.toNat)) := opI fun _ _ _ _ _ _ _ hc q => lshift_int_small hc.1 hc.2.1 hc.2.2 q
theorem op_shr : OpR X (binaryOp .RShift) (rI (fun _ j => 0 ≤ j) fun i j => .int (i / 2 ^ j.toNat)) := opI fun i j _ _ _ _ _ hc q =>
  rshift_int hc (by rw [Int.fdiv_eq_ediv_of_nonneg i (two_pow_nn _)]; exact q)
theorem op_and : OpR X (binaryOp .BitAnd) (rI0 fun i j => .int (Builtin.bitAnd i j)) := opI0 fun _ _ _ _ _ _ _ q => and_int q
theorem op_or : OpR X (binaryOp .BitOr) (rI0 fun i j => .int (Builtin.bitOr i j)) := opI0 fun _ _ _ _ _ _ _ q => or_int q
theorem op_xor : OpR X (binaryOp .BitXor) (rI0 fun i j => .int (Builtin.bitXor i j)) := opI0 fun _ _ _ _ _ _ _ q => xor_int q


theorem unI {f : Value → Sem Value} {g : Int → Int}
    (rule : ∀ (i : Int) (t : Tok) (s : Shared) (Q : Value → Shared → Prop) (E : Value → Shared → Prop), Q (.int (g i) s.toks) { s with toks := s.toks + 1 } → wpAny (model X.prog X.w) X.A (f (.int i t)) Q E s) :
    UnR X f (rU fun i => .int (g i)) := by
  intro pins s σ H x v Q I rx h
  obtain ⟨i, rfl, q⟩ := h
  obtain ⟨t, rfl⟩ := rx
  exact rule i t s _ _ ⟨.int (g i), H, I.tok _, ⟨_, rfl⟩, q⟩
theorem un_inv : UnR X (unaryOp .Invert) (rU fun i => .int (Builtin.bitNot i)) := unI fun _ _ _ _ _ q => invert_int q

/-! ### bools among ints: n += (a < b) -/
end

/-! ### comparisons -/
/-- the scalars that == tells apart as data does -/
def scal : V → V → Bool
  | .non, .non => true | .non, .int _ => true | .int _, .non => true | .non, .bl _ => true | .bl _, .non => true | .non, .str _ => true | .str _, .non => true
  | .int _, .int _ => true | .bl _, .bl _ => true | .str _, .str _ => true | .byt _, .byt _ => true
  | .int _, .str _ => true | .str _, .int _ => true | .bl _, .str _ => true | .str _, .bl _ => true
  | _, _ => false
def rEq : R2 := fun x y H Q => scal x y = true ∧ Q (.bl (decide (x = y))) H
def rNe : R2 := fun x y H Q => scal x y = true ∧ Q (.bl (!decide (x = y))) H

theorem dec_int {i j : Int} : decide (V.int i = V.int j) = (i == j) := by
  rw [Bool.eq_iff_iff]
  simp
theorem dec_bl {i j : Bool} : decide (V.bl i = V.bl j) = (i == j) := by
  rw [Bool.eq_iff_iff]
  simp
theorem dec_str {i j : Str} : decide (V.str i = V.str j) = (i == j) := by
  rw [Bool.eq_iff_iff]
  simp
theorem dec_byt {i j : Array UInt8} : decide (V.byt i = V.byt j) = (i.toList == j.toList) := by
  rw [Bool.eq_iff_iff]
  cases i
  cases j
  simp

section
variable {X : Cx} {a b c : Expr} {ta tb tc : TE} {pos : Pos}
theorem fin_bl {pins : List (Addr × Obj)} {σ : St} {H : Hp} {s : Shared} {Q : VK} {k k' : Bool} (I : Inv X pins σ H s) (q : Q (.bl k) H) (e : k = k') : EP X pins σ Q (.bool k') s := by
  subst e
  exact ⟨.bl k, H, I, rfl, q⟩
theorem op_eq : OpR X (compareOp .Eq) rEq := by
  intro pins s σ H x y v u Q I rx ry h
  obtain ⟨hs, q⟩ := h
  cases x with
  | non =>
    cases rx
    cases y with
    | non => cases ry; exact PySem.EqNone.eq_none_none (fin_bl I q (by simp))
    | bl j => cases ry; exact PySem.EqNone.eq_none_bool (fin_bl I q (by simp))
    | int j => obtain ⟨t', rfl⟩ := ry; exact PySem.EqNone.eq_none_int (fin_bl I q (by simp))
    | str j => obtain ⟨t', rfl⟩ := ry; exact PySem.EqNone.eq_none_str (fin_bl I q (by simp))
    | _ => exact absurd (show false = true from hs) Bool.false_ne_true
  | bl i =>
    cases rx
    cases y with
    | non => cases ry; exact PySem.EqNone.eq_bool_none (fin_bl I q (by simp))
    | bl j => cases ry; exact eq_bool (fin_bl I q dec_bl)
    | str j => obtain ⟨t', rfl⟩ := ry; exact PySem.EqMixed.eq_bool_str (fin_bl I q (by simp))
    | _ => exact absurd (show false = true from hs) Bool.false_ne_true
  | int i =>
    obtain ⟨t, rfl⟩ := rx
    cases y with
    | non => cases ry; exact PySem.EqNone.eq_int_none (fin_bl I q (by simp))
    | int j => obtain ⟨t', rfl⟩ := ry; exact eq_int (fin_bl I q dec_int)
    | str j => obtain ⟨t', rfl⟩ := ry; exact PySem.EqMixed.eq_int_str (fin_bl I q (by simp))
    | _ => exact absurd (show false = true from hs) Bool.false_ne_true
  | str i =>
    obtain ⟨t, rfl⟩ := rx
    cases y with
    | non => cases ry; exact PySem.EqNone.eq_str_none (fin_bl I q (by simp))
    | bl j => cases ry; exact PySem.EqMixed.eq_str_bool (fin_bl I q (by simp))
    | int j => obtain ⟨t', rfl⟩ := ry; exact PySem.EqMixed.eq_str_int (fin_bl I q (by simp))
    | str j => obtain ⟨t', rfl⟩ := ry; exact eq_str (fin_bl I q dec_str)
    | _ => exact absurd (show false = true from hs) Bool.false_ne_true
  | byt i =>
    obtain ⟨t, rfl⟩ := rx
    cases y with
    | byt j => obtain ⟨t', rfl⟩ := ry; exact PySem.W.eq_bytes (fin_bl I q dec_byt)
    | _ => exact absurd (show false = true from hs) Bool.false_ne_true
  | _ => cases y <;> exact absurd (show false = true from hs) Bool.false_ne_true
theorem op_ne : OpR X (compareOp .NotEq) rNe := by
  intro pins s σ H x y v u Q I rx ry h
  obtain ⟨hs, q⟩ := h
  cases x with
  | non =>
    cases rx
    cases y with
    | non => cases ry; exact PySem.EqNone.ne_none_none (fin_bl I q (by simp))
    | bl j => cases ry; exact PySem.EqNone.ne_none_bool (fin_bl I q (by simp))
    | int j => obtain ⟨t', rfl⟩ := ry; exact PySem.EqNone.ne_none_int (fin_bl I q (by simp))
    | str j => obtain ⟨t', rfl⟩ := ry; exact PySem.EqNone.ne_none_str (fin_bl I q (by simp))
    | _ => exact absurd (show false = true from hs) Bool.false_ne_true
  | bl i =>
    cases rx
    cases y with
    | non => cases ry; exact PySem.EqNone.ne_bool_none (fin_bl I q (by simp))
    | bl j => cases ry; exact ne_bool (fin_bl I q (congrArg not dec_bl))
    | str j => obtain ⟨t', rfl⟩ := ry; exact PySem.EqMixed.ne_bool_str (fin_bl I q (by simp))
    | _ => exact absurd (show false = true from hs) Bool.false_ne_true
  | int i =>
    obtain ⟨t, rfl⟩ := rx
    cases y with
    | non => cases ry; exact PySem.EqNone.ne_int_none (fin_bl I q (by simp))
    | int j => obtain ⟨t', rfl⟩ := ry; exact ne_int (fin_bl I q (congrArg not dec_int))
    | str j => obtain ⟨t', rfl⟩ := ry; exact PySem.EqMixed.ne_int_str (fin_bl I q (by simp))
    | _ => exact absurd (show false = true from hs) Bool.false_ne_true
  | str i =>
    obtain ⟨t, rfl⟩ := rx
    cases y with
    | non => cases ry; exact PySem.EqNone.ne_str_none (fin_bl I q (by simp))
    | bl j => cases ry; exact PySem.EqMixed.ne_str_bool (fin_bl I q (by simp))
    | int j => obtain ⟨t', rfl⟩ := ry; exact PySem.EqMixed.ne_str_int (fin_bl I q (by simp))
    | str j => obtain ⟨t', rfl⟩ := ry; exact ne_str (fin_bl I q (congrArg not dec_str))
    | _ => exact absurd (show false = true from hs) Bool.false_ne_true
  | byt i =>
    obtain ⟨t, rfl⟩ := rx
    cases y with
    | byt j => obtain ⟨t', rfl⟩ := ry; exact PySem.W.ne_bytes (fin_bl I q (congrArg not dec_byt))
    | _ => exact absurd (show false = true from hs) Bool.false_ne_true
  | _ => cases y <;> exact absurd (show false = true from hs) Bool.false_ne_true

theorem op_lt : OpR X (compareOp .Lt) (rI0 fun i j => .bl (decide (i < j))) := opB0 fun _ _ _ _ _ _ _ q => lt_int q
theorem op_le : OpR X (compareOp .LtE) (rI0 fun i j => .bl (decide (i ≤ j))) := opB0 fun _ _ _ _ _ _ _ q => le_int q
theorem op_gt : OpR X (compareOp .Gt) (rI0 fun i j => .bl (decide (j < i))) := opB0 fun _ _ _ _ _ _ _ q => gt_int q
theorem op_ge : OpR X (compareOp .GtE) (rI0 fun i j => .bl (decide (j ≤ i))) := opB0 fun _ _ _ _ _ _ _ q => ge_int q

/-- is None, is not None: the right side a value none -/
theorem op_isN : OpR X (compareOp .Is) (fun x y H Q => y = .non ∧ Q (.bl (decide (x = .non))) H) := by
  intro pins s σ H x y v u Q I rx ry h
  obtain ⟨rfl, q⟩ := h
  cases ry
  refine is_none_gen (fin_bl I q ?_)
  cases x <;> first
    | (cases rx; rfl)
    | (obtain ⟨t, rfl⟩ := rx; rfl)
theorem op_notN : OpR X (compareOp .IsNot) (fun x y H Q => y = .non ∧ Q (.bl (!decide (x = .non))) H) := by
  intro pins s σ H x y v u Q I rx ry h
  obtain ⟨rfl, q⟩ := h
  cases ry
  refine isnot_none_gen (fin_bl I q ?_)
  cases x <;> first
    | (cases rx; rfl)
    | (obtain ⟨t, rfl⟩ := rx; rfl)

/-- is, is not of two objects that are tracked lists or instances -/
def isObj : HO → Bool
  | .lst _ => true
  | .ins _ _ _ => true
  | _ => false


theorem nomark (b : Expr) {op : CmpOp} (h : op ≠ .In := by decide) (h2 : op ≠ .NotIn := by decide) : behindInMarks op b = false := by
  have e1 : (op == CmpOp.In) = false := by cases op <;> first | rfl | exact absurd rfl h
  have e2 : (op == CmpOp.NotIn) = false := by cases op <;> first | rfl | exact absurd rfl h2
  cases b <;> simp [behindInMarks, e1, e2]
/-- a comparison as a value; hm: nomark b, or (for in, not in) by with_unfolding_all rfl -/
theorem pe_cmpR {op : CmpOp} {r : R2} (ho : OpR X (compareOp op) r) (ha : PE X a ta) (hb : PE X b tb) (hm : behindInMarks op b = false) : PE X (.Compare a [op] [b] pos) (tOp r ta tb) := by
  intro pins s σ H Q I h
  exact wpAny_Compare1 (binT ha hb I h fun v u s2 x y H2 I2 rx ry q => ho pins s2 σ H2 x y v u Q I2 rx ry q) hm
/-- a reading of a value as a test -/
def tTest (t : TE) : TT := fun σ H Q => t σ H fun x H' => ∃ k, x = .bl k ∧ Q k H'
theorem pt_cmpR {op : CmpOp} {r : R2} (ho : OpR X (compareOp op) r) (ha : PE X a ta) (hb : PE X b tb) (hm : behindInMarks op b = false) : PT X (.Compare a [op] [b] pos) (tTest (tOp r ta tb)) := by
  intro pins s σ H Q I h
  refine wpAny_isTrue_Compare1 (thn (ha pins s σ H _ I h) fun v s1 ⟨x, H1, I1, r1, q1⟩ => thn (hb pins s1 σ H1 _ I1 q1) fun u s2 ⟨y, H2, I2, r2, q2⟩ =>
    thn (ho pins s2 σ H2 x y v u _ I2 r1 r2 q2) fun c s3 ⟨z, H3, I3, r3, k, e, q3⟩ => ?_) hm
  subst e
  cases r3
  exact wpAny_truthy_bool ⟨H3, I3, q3⟩
/-- a op1 b op2 c -/
def tChain (r r' : R2) (ta tb tc : TE) : TE := fun σ H Q => ta σ H fun x H1 => tb σ H1 fun y H2 => r x y H2 fun z H3 => ∃ k, z = .bl k ∧
  (if k = true then tc σ H3 fun w' H4 => r' y w' H4 Q else Q (.bl false) H3)
theorem pe_chain {op op' : CmpOp} {r r' : R2} (ho : OpR X (compareOp op) r) (ho' : OpR X (compareOp op') r') (ha : PE X a ta) (hb : PE X b tb) (hc : PE X c tc)
    (hm : lastMarks [op, op'] [b, c] = false := by with_unfolding_all rfl) : PE X (.Compare a [op, op'] [b, c] pos) (tChain r r' ta tb tc) := by
  intro pins s σ H Q I h
  refine Compare_chain (thn (ha pins s σ H _ I h) fun v s1 ⟨x, H1, I1, r1, q1⟩ => chain_link (thn (hb pins s1 σ H1 _ I1 q1) fun u s2 ⟨y, H2, I2, r2, q2⟩ =>
    thn (ho pins s2 σ H2 x y v u _ I2 r1 r2 q2) fun d s3 ⟨z, H3, I3, r3, k, e, q3⟩ => ?_)) hm
  subst e
  cases r3
  refine wpAny_truthy_bool ?_
  cases k with
  | false => exact ite_ff ⟨.bl false, H3, I3, rfl, q3⟩
  | true => exact ite_tt (chain_last (thn (hc pins s3 σ H3 _ I3 q3) fun w' s4 ⟨z', H4, I4, r4, q4⟩ => ho' pins s4 σ H4 y z' u w' Q I4 r2 r4 q4))

/-! ### truth -/
/-- a value's truth by the abstract heap -/
def TruV (K : PySem.W.Frag) (x : V) (H : Hp) (k : Bool) : Prop :=
  match x with
  | .non => k = false
  | .bl b => k = b
  | .int i => k = (i != 0)
  | .str y => y.length ≤ sizeLine ∧ k = ((y.length : Int) != 0)
  | .byt y => y.size ≤ sizeLine ∧ k = ((y.size : Int) != 0)
  | .ref p => (∃ xs, SqL K H p xs ∧ k = !xs.isEmpty) ∨ (∃ xs, SqT K H p xs ∧ k = !xs.isEmpty) ∨ ∃ kvs, H p = some (.dK kvs) ∧ k = !kvs.isEmpty
  | _ => False
theorem isEmpty_kv {κ : Type} {kvs : List (κ × V)} {vs : List (κ × Value)} (r : KV kvs vs) : (!vs.isEmpty) = !kvs.isEmpty := by
  cases r <;> rfl
theorem isEmpty_of {xs : List V} {its : List Value} (r : Vals xs its) : (!its.toArray.isEmpty) = !xs.isEmpty := by
  cases r <;> simp
theorem line63 : (sizeLine : Nat) < 2 ^ 63 := by rw [sizeLine_eq]; decide
theorem tru_ok : TruR X (fun x H Q => ∃ k, TruV X.K x H k ∧ Q k H) := by
  intro pins s σ H x v Q I rx h
  obtain ⟨k, e, q⟩ := h
  have hl := line63
  have hs : sizeLine = 16777216 := sizeLine_eq
  cases x with
  | non =>
    cases rx
    have e' : k = false := e
    subst e'
    exact truthy_none ⟨H, I, q⟩
  | bl b =>
    cases rx
    have e' : k = b := e
    subst e'
    exact wpAny_truthy_bool ⟨H, I, q⟩
  | int i =>
    obtain ⟨t, rfl⟩ := rx
    have e' : k = (i != 0) := e
    subst e'
    exact PySem.P.truthy_int ⟨H, I, q⟩
  | str y =>
    obtain ⟨t, rfl⟩ := rx
    obtain ⟨hy, e'⟩ : y.length ≤ sizeLine ∧ k = ((y.length : Int) != 0) := e
    subst e'
    exact PySem.P.truthy_str (by omega) ⟨H, I.tok _, q⟩
  | byt y =>
    obtain ⟨t, rfl⟩ := rx
    obtain ⟨hy, e'⟩ : y.size ≤ sizeLine ∧ k = ((y.size : Int) != 0) := e
    subst e'
    exact PySem.W.truthy_bytes (by omega) ⟨H, I.tok _, q⟩
  | ref p =>
    cases rx
    have e' : (∃ xs, SqL X.K H p xs ∧ k = !xs.isEmpty) ∨ (∃ xs, SqT X.K H p xs ∧ k = !xs.isEmpty) ∨ ∃ kvs, H p = some (.dK kvs) ∧ k = !kvs.isEmpty := e
    rcases e' with ⟨xs, hx, e'⟩ | ⟨xs, hx, e'⟩ | ⟨kvs, hx, e'⟩
    · subst e'
      obtain ⟨its, r, pl, hz⟩ := I.list hx
      have hlen := r.length
      exact wpAny_truthy_list pl.isList (by simp only [List.size_toArray]; omega) ⟨H, I.tok _, by rw [isEmpty_of r]; exact q⟩
    · subst e'
      obtain ⟨its, r, pl, hz⟩ := I.tuple hx
      have hlen := r.length
      exact truthy_tuple pl (by simp only [List.size_toArray]; omega) ⟨H, I.tok _, by rw [isEmpty_of r]; exact q⟩
    · subst e'
      obtain ⟨hz, hS, vs, r, m⟩ : kvs.length ≤ sizeLine ∧ (p == sysModules) = false ∧ ∃ vs, KV kvs vs ∧ s.heap.DictOf (mixKind X.prog X.w) p vs := I.hok p _ hx
      have hlen : kvs.length = vs.length := Paired.length r
      exact wpAny_truthy_dict hS m (by omega) ⟨H, I.tok _, by rw [isEmpty_kv r]; exact q⟩
  | _ => exact (show False from e).elim
/-- any expression whose test is its value's truth (a name, a call, a subscript, a field ..: he by fun _ => rfl) -/
theorem pt_truth (ha : PE X a ta) (he : ∀ whole, isTrue a X.env whole = (do let v ← whole; standAt a.pos; holding [v] (truthy v))) :
    PT X a (fun σ H Q => ta σ H fun x H' => ∃ k, TruV X.K x H' k ∧ Q k H') := by
  intro pins s σ H Q I h
  exact isTrue_plain (thn (ha pins s σ H _ I h) fun v s1 ⟨x, H1, I1, r1, q1⟩ => tru_ok pins s1 σ H1 x v Q I1 r1 q1) (he _)

/-! ### strs and bytes -/

def PlainIxT (b : Expr) : Prop := ∀ o i, subscripted b false o i = operate [o, i] (getItem o i)

/-! ### scalar builtins, by CallR -/
theorem vals1 {x : V} {us : List Value} (r : Vals [x] us) : ∃ u, us = [u] ∧ RelV x u := by
  cases r with
  | cons r1 r2 => cases r2; exact ⟨_, rfl, r1⟩
/-- len of a str, a bytes, a list, a tuple -/
def LenV (K : PySem.W.Frag) (x : V) (H : Hp) (n : Nat) : Prop :=
  match x with
  | .str y => y.length ≤ sizeLine ∧ n = y.length
  | .byt y => y.size ≤ sizeLine ∧ n = y.size
  | .ref p => (∃ xs, SqL K H p xs ∧ n = xs.length) ∨ ∃ xs, SqT K H p xs ∧ n = xs.length
  | _ => False
end
end L2

namespace L2
open PySem PySem.Spec PyProof.Rows

/-! ### an instance, its attributes a map -/
structure ObjM (h : Heap) (x dx C : Addr) (mA : Str → Option Value) : Prop where
  obj : h.get? x = some (PySem.W.instObj C dx)
  ns : h.Ns1 dx mA
  ne : dx ≠ x

theorem lookIn_ns {h : Heap} {dx : Addr} {mA : Str → Option Value} (n : h.Ns1 dx mA) : ∃ od, h.get? dx = some od ∧ ∀ name, PySem.W.lookIn name od = some (mA name) := by
  obtain ⟨o, es, ep, ho, hd, hk, _, hm⟩ := n
  refine ⟨o, ho, fun name => ?_⟩
  have e := hm name
  unfold nsFind findBy at e
  rw [← Array.find?_toList] at e
  unfold PySem.W.lookIn
  rw [hd]
  dsimp only
  split
  · rename_i y q
    rw [q] at e
    exact congrArg some e
  · rename_i q
    rw [q] at e
    have a : es.toList.any (·.refKey) = false := by
      rw [List.any_eq_false]
      intro y hy
      obtain ⟨z, t, hkey⟩ := hk y (Array.mem_toList_iff.mp hy)
      simp [DictEntry.refKey, hkey]
    have a' : ¬ es.toList.any (·.refKey) = true := by rw [a]; exact Bool.false_ne_true
    rw [if_neg a']
    exact congrArg some e

theorem ObjM.look {h : Heap} {x dx C : Addr} {mA : Str → Option Value} (I : ObjM h x dx C mA) : ∃ od, PySem.W.InstAt h x (PySem.W.instObj C dx) C (some od) ∧ ∀ name, PySem.W.lookIn name od = some (mA name) :=
  let ⟨od, ho, hl⟩ := lookIn_ns I.ns
  ⟨od, ⟨I.obj, rfl, rfl, ho⟩, hl⟩

section
variable {prog : Program} {w : World} {A : Around} {E : Value → Shared → Prop} {s : Shared} {K : PySem.W.Frag} {x dx C f : Addr} {mA : Str → Option Value} {name : Str} {v : Value}

theorem get_map {expr : Bool} {Q : Value → Shared → Prop} (X : K.In s.heap) (I : ObjM s.heap x dx C mA) (hg : PySem.W.plainGet K C name = true) (hh : PySem.W.hasDictIn K C = true)
    (ha : PySem.W.findIn K (.ref C) name = some none) (hv : mA name = some v) (hv' : PySem.W.handedIn v = true) (h : Q v { s with toks := s.toks + 1 }) :
    wpAny (model prog w) A (getAttr (.ref x) name expr) Q E s := by
  obtain ⟨od, J, hl⟩ := I.look
  exact PySem.W.get_value X J (PySem.W.plainGet_of hg).1 (PySem.W.findObj_own hh ha rfl (by rw [hl, hv])) hv' h


theorem get_meth {pl : Sem Bool} {Q : Value × List Value → Shared → Prop} (X : K.In s.heap) (I : ObjM s.heap x dx C mA) (hg : PySem.W.plainGet K C name = true)
    (hf : PySem.W.findIn K (.ref C) name = some (some (.ref f))) (ht : PySem.W.isFn K (.ref f) = true) (hv : mA name = none) (h : Q (.ref f, [.ref x]) s) :
    wpAny (model prog w) A (getMethod (.ref x) name pl) Q E s := by
  obtain ⟨od, J, hl⟩ := I.look
  exact PySem.W.method_fn X J (PySem.W.plainGet_of hg).1 (PySem.W.plainGet_of hg).2 hf (beq_iff_eq.mp ht) (by show (PySem.W.lookIn name od).map (·.isSome) = some false; rw [hl, hv]; rfl) h

theorem set_map {ns : List Str} {Q : Unit → Shared → Prop} (X : K.In s.heap) (I : ObjM s.heap x dx C mA)
    (hs : PySem.W.findIn K (.ref C) "__setattr__" = some (some (.builtin "object.__setattr__"))) (hp : PySem.W.plainOver K C = true) (ht : PySem.W.takerIn K C name = some none) (hh : PySem.W.hasDictIn K C = true)
    (hw : PySem.Within mA ns) (hsz : ns.length ≤ sizeLine)
    (h : ∀ h', ObjM h' x dx C (fun y => if y = name then some v else mA y) → Heap.SameBut dx s.heap h' → Q () { s with heap := h', toks := s.toks + 2 }) :
    wpAny (model prog w) A (setAttr (.ref x) name v) Q E s := by
  obtain ⟨od, J, hl⟩ := I.look
  refine PySem.W.set_plain X J hs (PySem.W.osa_open (s := { s with toks := s.toks + 1 }) (r := none) X J hp ht fun b => ?_)
  obtain ⟨cd, hc, hd'⟩ := PySem.W.any_some hh
  have hx : s.heap.get? x = some ⟨.ref C, some dx, .plain, #[]⟩ := I.obj
  refine wpAny_bind (wpAny_pure (wpAny_bind (wpAny_bind (wpAny_loadPart hx (wpAny_bind (PySem.W.Looks.here (s := { s with toks := s.toks + 1 }) (PySem.W.looks_clsIn X hc) ?_))))))
  rw [hd']
  refine wpAny_pure (a := some dx) (wpAny_bind (wpAny_pure (wpAny_bind ?_)))
  refine wpAny_nsSet1 (s := { s with toks := s.toks + 1 }) I.ns fun h' hn2 hs2 => ?_
  obtain ⟨oD, esD, epD, hoD, hdD, hcD⟩ := hn2.count (PySem.Within.cons name v hw)
  refine wpAny_bind (wpAny_lookBehind hoD (by rw [hdD]; exact pastItsLine_dict (Nat.le_trans hcD (by rw [List.length_cons]; omega))) ?_)
  exact wpAny_pure (h _ ⟨(hs2.2 _ (Ne.symm I.ne)).trans I.obj, hn2, I.ne⟩ hs2)

/-- C(..): the dict at the heap's end, the instance behind it; then its __init__ -/
theorem make_map {R : Result → Shared → Prop} {vs : List Value} {kw : List (Str × Value)} (X : K.In s.heap) (hm : PySem.W.makesIn K C = true)
    (hi : PySem.W.findIn K (.ref C) "__init__" = some (some (.ref f))) (hf : PySem.W.typeIn K (.ref f) = some (.type "function"))
    (h : codeAny (model prog w) (A.under (.builtin "type.__call__" ⟨.ref C :: vs, kw⟩)) (.call (.ref f) ⟨.ref (s.heap.objs.size + 1) :: vs, kw⟩) (PySem.W.InitBack (s.heap.objs.size + 1) R)
      { s with heap := (s.heap.push PySem.W.emptyDict).push (PySem.W.instObj C s.heap.objs.size) }) :
    codeAny (model prog w) A (.call (.ref C) ⟨vs, kw⟩) R s := by
  obtain ⟨hh, g, d, t, os⟩ := s
  exact PySem.W.make_core (PySem.W.makes_of X hm) (PySem.W.looks_findIn X hi) (fun self => PySem.W.bind_fn X self hf) (.inl rfl) h
end

/-! ### the attributes as a list of pairs -/
def putF (f : Str) (v : V) : List (Str × V) → List (Str × V)
  | [] => [(f, v)]
  | (g, x) :: r => if g = f then (g, v) :: r else (g, x) :: putF f v r
theorem lookup_putF (f g : Str) (v : V) : ∀ fs : List (Str × V), (putF f v fs).lookup g = if g = f then some v else fs.lookup g
  | [] => by
    show List.lookup g [(f, v)] = _
    by_cases h : g = f
    · have hb : (g == f) = true := beq_iff_eq.mpr h
      simp only [List.lookup, hb, if_pos h]
    · have hb : (g == f) = false := beq_eq_false_iff_ne.mpr h
      simp only [List.lookup, hb, if_neg h]
  | (k, x) :: r => by
    have ih := lookup_putF f g v r
    rw [show putF f v ((k, x) :: r) = (if k = f then (k, v) :: r else (k, x) :: putF f v r) from rfl]
    by_cases hk : k = f
    · rw [if_pos hk]
      by_cases h : g = k
      · have hb : (g == k) = true := beq_iff_eq.mpr h
        simp only [List.lookup, hb, if_pos (h.trans hk)]
      · have hb : (g == k) = false := beq_eq_false_iff_ne.mpr h
        simp only [List.lookup, hb, if_neg (fun e : g = f => h (e.trans hk.symm))]
    · rw [if_neg hk]
      by_cases h : g = k
      · have hb : (g == k) = true := beq_iff_eq.mpr h
        simp only [List.lookup, hb, if_neg (fun e : g = f => hk (h.symm.trans e))]
      · have hb : (g == k) = false := beq_eq_false_iff_ne.mpr h
        simp only [List.lookup, hb]
        exact ih
theorem keys_putF (f : Str) (v : V) : ∀ fs : List (Str × V), f ∈ (putF f v fs).map (·.1) ∧ ∀ g, g ∈ fs.map (·.1) → g ∈ (putF f v fs).map (·.1)
  | [] => ⟨by simp [putF], fun g h => by simp at h⟩
  | (k, x) :: r => by
    obtain ⟨i1, i2⟩ := keys_putF f v r
    rw [show putF f v ((k, x) :: r) = (if k = f then (k, v) :: r else (k, x) :: putF f v r) from rfl]
    by_cases hk : k = f
    · rw [if_pos hk]
      subst hk
      exact ⟨by simp, fun g h => by simpa using h⟩
    · rw [if_neg hk]
      refine ⟨?_, fun g h => ?_⟩
      · rw [List.map_cons]
        exact List.mem_cons_of_mem _ i1
      · rw [List.map_cons] at h ⊢
        rcases List.mem_cons.mp h with e | e
        · exact List.mem_cons.mpr (.inl e)
        · exact List.mem_cons_of_mem _ (i2 g e)
theorem length_putF (f : Str) (v : V) : ∀ fs : List (Str × V), (putF f v fs).length ≤ fs.length + 1
  | [] => by simp [putF]
  | (k, x) :: r => by
    have ih := length_putF f v r
    rw [show putF f v ((k, x) :: r) = (if k = f then (k, v) :: r else (k, x) :: putF f v r) from rfl]
    by_cases hk : k = f
    · rw [if_pos hk, List.length_cons, List.length_cons]; omega
    · rw [if_neg hk, List.length_cons, List.length_cons]; omega

theorem RelO.some_of {v : V} {o : Option Value} (r : RelO (some v) o) : ∃ u, o = some u ∧ RelV v u := by
  cases o with
  | none => exact (show False from r).elim
  | some u => exact ⟨u, rfl, r⟩
theorem RelO.none_of {o : Option Value} (r : RelO none o) : o = none := by
  cases o with
  | none => rfl
  | some u => exact (show False from r).elim
theorem handed_of {v : V} {u : Value} (r : RelV v u) : PySem.W.handedIn u = true := by
  cases v with
  | non => cases (show u = Value.none from r); rfl
  | bl b => cases (show u = Value.bool b from r); rfl
  | int i => obtain ⟨t, e⟩ := (show ∃ t, u = Value.int i t from r); cases e; rfl
  | str x => obtain ⟨t, e⟩ := (show ∃ t, u = Value.str x t from r); cases e; rfl
  | byt b => obtain ⟨t, e⟩ := (show ∃ t, u = Value.bytes b t from r); cases e; rfl
  | flt b => obtain ⟨t, e⟩ := (show ∃ t, u = Value.float b t from r); cases e; rfl
  | ref a => cases (show u = Value.ref a from r); rfl
  | ty n => cases (show u = Value.type n from r); rfl

section
variable {P : Program} {w : World} {H H' : Hp} {h h' : Heap} {a C dx : Addr} {fs fs' : List (Str × V)}
theorem ins_get (hok : HOk P w H h) (e : H a = some (.ins C dx fs)) : ∃ mA, ObjM h a dx C mA ∧ (∀ f, RelO (fs.lookup f) (mA f)) ∧ PySem.Within mA (fs.map (·.1)) ∧ fs.length ≤ 1000 ∧ H dx = some (.own a) := by
  obtain ⟨d, z, ne, ob, mA, n, r, q⟩ := (show ObjOk P w H h a (.ins C dx fs) from hok a _ e)
  exact ⟨mA, ⟨ob, n, ne⟩, r, q, z, d⟩
end

/-! ### what of the text a class must have -/
structure Cls (K : PySem.W.Frag) (C : Addr) : Prop where
  pg : PySem.W.plainGet K C Str.empty = true
  hd : PySem.W.hasDictIn K C = true
  po : PySem.W.plainOver K C = true
  sa : PySem.W.findIn K (.ref C) "__setattr__" = some (some (.builtin "object.__setattr__"))
theorem Cls.get {K : PySem.W.Frag} {C : Addr} (c : Cls K C) (f : Str) : PySem.W.plainGet K C f = true := c.pg
/-- no class of it has the name -/
def NoAttr (K : PySem.W.Frag) (C : Addr) (f : Str) : Prop := PySem.W.findIn K (.ref C) f = some none
theorem NoAttr.taker {K : PySem.W.Frag} {C : Addr} {f : Str} (n : NoAttr K C f) : PySem.W.takerIn K C f = some none := by
  unfold PySem.W.takerIn
  rw [show PySem.W.findIn K (.ref C) f = some none from n]
  rfl
/-- a constant of the class -/
structure Con (K : PySem.W.Frag) (C : Addr) (f : Str) (v : V) (u : Value) : Prop where
  at_ : PySem.W.findIn K (.ref C) f = some (some u)
  rel : RelV v u
  get : PySem.W.specialIn K u "__get__" = some none
  cp : PySem.W.copiedNames.contains f = false
/-- a method: a plain def of the class or of one above it -/
structure Meth (K : PySem.W.Frag) (C : Addr) (m : Str) (f : Addr) : Prop where
  at_ : PySem.W.findIn K (.ref C) m = some (some (.ref f))
  fn : PySem.W.isFn K (.ref f) = true
  kp : PySem.W.keepIn K (.ref f) = true

section
variable {X : Cx} {pins : List (Addr × Obj)} {σ : St} {H : Hp} {s : Shared} {a C dx : Addr} {fs : List (Str × V)} {f : Str} {v : V} {A : Around} {E : Value → Shared → Prop}

theorem getattr_ok {b : Bool} {Q : Value → Shared → Prop} (I : Inv X pins σ H s) (e : H a = some (.ins C dx fs)) (c : Cls X.K C) (n : NoAttr X.K C f) (l : fs.lookup f = some v)
    (h : ∀ u s', Inv X pins σ H s' → RelV v u → Q u s') : wpAny (model X.prog X.w) A (getAttr (.ref a) f b) Q E s := by
  obtain ⟨mA, O, r, _, _, _⟩ := ins_get I.hok e
  obtain ⟨u, hu, ru⟩ := RelO.some_of (v := v) (o := mA f) (by rw [← l]; exact r f)
  exact get_map I.kIn O (c.get f) c.hd n hu (handed_of ru) (h u _ (I.tok _) ru)


theorem getmeth_ok {m : Str} {g : Addr} {pl : Sem Bool} {Q : Value × List Value → Shared → Prop} (I : Inv X pins σ H s) (e : H a = some (.ins C dx fs)) (c : Cls X.K C) (k : Meth X.K C m g) (l : fs.lookup m = none)
    (h : Q (.ref g, [.ref a]) s) : wpAny (model X.prog X.w) A (getMethod (.ref a) m pl) Q E s := by
  obtain ⟨mA, O, r, _, _, _⟩ := ins_get I.hok e
  have hn : mA m = none := RelO.none_of (by rw [← l]; exact r m)
  exact get_meth I.kIn O (c.get m) k.at_ k.fn hn h

theorem setattr_ok {y : V} {u : Value} {Q : Unit → Shared → Prop} (I : Inv X pins σ H s) (e : H a = some (.ins C dx fs)) (c : Cls X.K C) (n : NoAttr X.K C f) (hl : fs.length < 1000) (ry : RelV y u)
    (h : ∀ s', Inv X pins σ (upd H a (.ins C dx (putF f y fs))) s' → Q () s') : wpAny (model X.prog X.w) A (setAttr (.ref a) f u) Q E s := by
  obtain ⟨mA, O, r, wi, _, ho⟩ := ins_get I.hok e
  have hz : (fs.map (·.1)).length ≤ sizeLine := by rw [List.length_map, sizeLine_eq]; omega
  refine set_map I.kIn O c.sa c.po n.taker c.hd wi hz fun h' O' sb => h _ ?_
  have hd : ∃ o, h'.get? dx = some o := let ⟨o, _, _, e', _⟩ := O'.ns; ⟨o, e'⟩
  refine I.write (x := a) (e := dx) (by rw [e]; exact True.intro) (.inr ho) (fun b q hb z => (sb.2 b hb).trans z) hd ?_
  refine ⟨by rw [upd_ne O.ne]; exact ho, ?_, O.ne, O'.obj, _, O'.ns, fun g => ?_, fun g hg => ?_⟩
  · have := length_putF f y fs; omega
  · show RelO ((putF f y fs).lookup g) (if g = f then some u else mA g)
    rw [lookup_putF]
    by_cases q : g = f
    · rw [if_pos q, if_pos q]; exact ry
    · rw [if_neg q, if_neg q]; exact r g
  · by_cases q : g = f
    · rw [q]; exact (keys_putF f y fs).1
    · refine (keys_putF f y fs).2 g (wi g fun z => hg ?_)
      show (if g = f then some u else mA g) = none
      rw [if_neg q]; exact z

/-- a new instance, tracked, without attributes -/
theorem Inv.made (I : Inv X pins σ H s) : Inv X pins σ (upd (upd H s.heap.objs.size (.own (s.heap.objs.size + 1))) (s.heap.objs.size + 1) (.ins C s.heap.objs.size []))
    { s with heap := (s.heap.push PySem.W.emptyDict).push (PySem.W.instObj C s.heap.objs.size) } := by
  have e1 : (s.heap.push PySem.W.emptyDict).get? s.heap.objs.size = some PySem.W.emptyDict := Heap.get?_push_size s.heap rfl
  have e2 : ((s.heap.push PySem.W.emptyDict).push (PySem.W.instObj C s.heap.objs.size)).get? (s.heap.objs.size + 1) = some (PySem.W.instObj C s.heap.objs.size) := by
    have := Heap.get?_push_size (s.heap.push PySem.W.emptyDict) (o := PySem.W.instObj C s.heap.objs.size) rfl
    rwa [Heap.size_push] at this
  have e3 : (s.heap.push PySem.W.emptyDict).Ns s.heap.objs.size (fun _ => none) := ⟨PySem.W.emptyDict, #[], _, e1, rfl, (fun e he => absurd he (by simp)), fun _ => rfl⟩
  have I1 := I.laid (a := s.heap.objs.size) (o := .own (s.heap.objs.size + 1)) (h' := s.heap.push PySem.W.emptyDict) (t' := s.toks) (fun b u q => Heap.get?_push_of_some _ q) (Nat.le_refl _) ⟨_, e1⟩
  refine I1.laid (a := s.heap.objs.size + 1) (o := .ins C s.heap.objs.size []) (t' := s.toks) (fun b u q => Heap.get?_push_of_some _ q) (Nat.le_of_eq (Heap.size_push _ _)) ?_
  have ne : s.heap.objs.size ≠ s.heap.objs.size + 1 := Nat.ne_of_lt (Nat.lt_succ_self _)
  refine ⟨by rw [upd_ne ne, upd_same], Nat.zero_le _, ne, e2, fun _ => none, (Heap.Ns1.of_empty e3).at fun o q => Heap.get?_push_of_some _ q, fun _ => True.intro, fun y hy => absurd rfl hy⟩

/-- e.f where nothing but the object is asked: through attributeBase (super) and the last hold -/
theorem attr_of {prog : Program} {w : World} {env : Env} {e : Expr} {f : Str} {pos : Pos} {s : Shared} {Q : Value → Shared → Prop} (hb : attributeBase e f env (eval e env) = eval e env)
    (h : wpAny (model prog w) A (eval e env) (fun o s₁ => wpAny (model prog w) A (getAttr o f true) Q E s₁) E s) : wpAny (model prog w) A (eval (.Attribute e f pos) env) Q E s :=
  Attribute_any_ h (by rw [arm_eval_Attribute, hb])
end

/-! ### readings and rules -/
/-- e.f, an attribute of the instance -/
def tFld (K : PySem.W.Frag) (ta : TE) (f : Str) : TE := fun σ H Q => ta σ H fun x H1 => ∃ a C dx fs v, x = .ref a ∧ H1 a = some (.ins C dx fs) ∧ Cls K C ∧ NoAttr K C f ∧ fs.lookup f = some v ∧ Q v H1
/-- e.f, a constant of the class -/
def tCon (K : PySem.W.Frag) (ta : TE) (f : Str) : TE := fun σ H Q => ta σ H fun x H1 => ∃ a C dx fs v u, x = .ref a ∧ H1 a = some (.ins C dx fs) ∧ Cls K C ∧ Con K C f v u ∧ fs.lookup f = none ∧ Q v H1
/-- e.f = value -/
def sFld (K : PySem.W.Frag) (ta tv : TE) (f : Str) : TS := fun D σ H => tv σ H fun y H1 => ta σ H1 fun x H2 => ∃ a C dx fs, x = .ref a ∧ H2 a = some (.ins C dx fs) ∧ Cls K C ∧ NoAttr K C f ∧ fs.length < 1000 ∧
  D.nx σ (upd H2 a (.ins C dx (putF f y fs)))
/-- an augmented operator on two values -/
def InOp (X : Cx) (op : Operator) (rd : V → V → Hp → VK → Prop) : Prop :=
  ∀ (pins : List (Addr × Obj)) (s : Shared) (σ : St) (H : Hp) (x y : V) (u v : Value) (Q : VK), Inv X pins σ H s → RelV x u → RelV y v → rd x y H Q → wpAny (model X.prog X.w) X.A (inplaceOp op u v) (EP X pins σ Q) X.xe s
/-- e.f op= value -/
def sFldAug (K : PySem.W.Frag) (ta tv : TE) (rd : V → V → Hp → VK → Prop) (f : Str) : TS := fun D σ H => ta σ H fun x H1 => ∃ a C dx fs v, x = .ref a ∧ H1 a = some (.ins C dx fs) ∧ Cls K C ∧ NoAttr K C f ∧ fs.lookup f = some v ∧
  tv σ H1 fun y H2 => rd v y H2 fun z H3 => ∃ dx' fs', H3 a = some (.ins C dx' fs') ∧ fs'.length < 1000 ∧ D.nx σ (upd H3 a (.ins C dx' (putF f z fs')))

section
variable {X : Cx} {o e value : Expr} {f : Str} {pos pos' tpos : Pos} {ta tv : TE}
theorem pe_fld (he : PE X e ta) (hb : attributeBase e f X.env (eval e X.env) = eval e X.env) : PE X (.Attribute e f pos) (tFld X.K ta f) := by
  intro pins s σ H Q I h
  refine attr_of hb (thn (he pins s σ H _ I h) fun u s1 ⟨x, H1, I1, rx, a, C, dx, fs, v, ex, ea, c, n, l, q⟩ => ?_)
  subst ex
  obtain rfl : u = Value.ref a := rx
  exact getattr_ok I1 ea c n l fun u' s2 I2 ru => ⟨v, H1, I2, ru, q⟩
theorem ps_fld (ha : PE X o ta) (hv : PE X value tv) (hs : swapsWith value (some (.Attribute o f pos')) pos.line X.env = pure false) : PS X (.Assign [.Attribute o f pos'] value pos) (sFld X.K ta tv f) := by
  intro pins s σ H D I h
  refine plainObj_wpAny_Assign_Attribute (thn (hv pins s σ H _ I h) fun u s1 ⟨y, H1, I1, ry, q⟩ => thn (ha pins s1 σ H1 _ I1 q) fun ov s2 ⟨x, H2, I2, rx, a, C, dx, fs, ex, ea, c, n, l, q2⟩ => ?_) hs
  subst ex
  obtain rfl : ov = Value.ref a := rx
  exact setattr_ok I2 ea c n l ry fun s3 I3 => ⟨σ, _, I3, q2⟩
def rAdd : V → V → Hp → VK → Prop := fun x y H Q => ∃ i j, x = .int i ∧ y = .int j ∧ Q (.int (i + j)) H
def rSub : V → V → Hp → VK → Prop := fun x y H Q => ∃ i j, x = .int i ∧ y = .int j ∧ Q (.int (i - j)) H

/-- what is between an instance and its method: the tree of a method call -/
theorem methcall_of {pl : Sem Bool} {m : Str} {apos : Pos} {args : List Expr} {pins : List (Addr × Obj)} {s : Shared} {σ : St} {H : Hp} {Q : Value → Shared → Prop} {te : TE} (he : PE X e te) (I : Inv X pins σ H s)
    (h : te σ H fun x H1 => ∃ a C dx fs g, x = .ref a ∧ H1 a = some (.ins C dx fs) ∧ Cls X.K C ∧ Meth X.K C m g ∧ fs.lookup m = none ∧
      ∀ s1, Inv X pins σ H1 s1 → wpAny (model X.prog X.w) X.A (callWith pos (.ref g) [.ref a] (backTo pos (starEach args X.env)) (backToKw pos (keywordEach [] X.env))) Q X.xe s1)
    (ht : eval (.Call (.Attribute e m apos) args [] pos) X.env = (do
      let ov ← eval e X.env
      standAt apos.atName
      let (f, first) ← holding [ov] (getMethod ov m pl)
      callWith pos f first (backTo pos (starEach args X.env)) (backToKw pos (keywordEach [] X.env)))) :
    wpAny (model X.prog X.w) X.A (eval (.Call (.Attribute e m apos) args [] pos) X.env) Q X.xe s := by
  refine PySem.W.methodCall_KW (pl := pl) (thn (he pins s σ H _ I h) fun u s1 ⟨x, H1, I1, rx, a, C, dx, fs, g, ex, ea, c, k, l, q⟩ => ?_) ht
  subst ex
  obtain rfl : u = Value.ref a := rx
  exact getmeth_ok I1 ea c k l (q s1 I1)
end

/-! ### isinstance -/
section
variable {X : Cx} {pins : List (Addr × Obj)} {σ : St} {H : Hp} {s : Shared} {A : Around} {E : Value → Shared → Prop} {Q : Value → Shared → Prop} {c : Value} {b : Bool}
/-- the type of a value, as the fragment's deciders take it; for an instance its class -/
inductive TyOf (K : PySem.W.Frag) (H : Hp) : V → Value → Prop where
  | non : TyOf K H .non (.type "NoneType")
  | bl (x : Bool) : TyOf K H (.bl x) (.type "bool")
  | int (i : Int) : TyOf K H (.int i) (.type "int")
  | str (x : Str) : TyOf K H (.str x) (.type "str")
  | flt (x : UInt64) : TyOf K H (.flt x) (.type "float")
  | lst {a : Addr} {xs : List V} (e : H a = some (.lst xs)) : TyOf K H (.ref a) (.type "list")
  | frz {a : Addr} {o : Obj} {xs : List V} (e : H a = some (.frz o (.lst xs))) : TyOf K H (.ref a) (.type "list")
  | tup {a : Addr} {xs : List V} (e : H a = some (.tup xs)) : TyOf K H (.ref a) (.type "tuple")
  | dK {a : Addr} {kvs : List (Key × V)} (e : H a = some (.dK kvs)) : TyOf K H (.ref a) (.type "dict")
  | dT {a : Addr} {kvs : List (List Key × V)} (e : H a = some (.dT kvs)) : TyOf K H (.ref a) (.type "dict")
  | ins {a C dx : Addr} {fs : List (Str × V)} (e : H a = some (.ins C dx fs)) (cl : Cls K C) (ha : PySem.W.findIn K (.ref C) "__class__" = some (some (.builtin "object.__class__")))
      (hn : PySem.W.specialIn K (.builtin "object.__class__") "__get__" = some (some (.builtin "getset_descriptor.__get__"))) (htk : PySem.W.takesIn K (.builtin "object.__class__") = some true)
      (hm : PySem.W.mroIn K C (.type "object") = some true) : TyOf K H (.ref a) (.ref C)
end
end L2

namespace L2
open PySem PySem.Spec PyProof.Rows

/-! ### room -/
structure Room (k : Nat) (A : Around) : Prop where
  hd : A.handled = none
  dp : A.depth + 3 * k + 5 < recursionLimit
  un : A.units + 16 * k + 200 < cLine
theorem Room.mono {j k : Nat} {A : Around} (r : Room k A) (h : j ≤ k) : Room j A := ⟨r.hd, by have := r.dp; omega, by have := r.un; omega⟩
theorem Room.deeper {k : Nat} {A : Around} (r : Room (k + 1) A) (env : Env) : Room k (A.deeper env) :=
  ⟨r.hd, by have := r.dp; show A.depth + 1 + 3 * k + 5 < _; omega, by have := r.un; show A.units + 3 + 16 * k + 200 < _; omega⟩
theorem make_depth {A : Around} {C : Addr} {us : List Value} {kw : List (Str × Value)} : (A.under (.builtin "type.__call__" ⟨.ref C :: us, kw⟩)).depth = A.depth + 1 := by
  first | rfl | simp [Around.under, Code.weight, Code.isCreation, Code.isGuard, Code.isCaller, Code.frames, Code.isFrame, guardIds]
theorem make_units {A : Around} {C : Addr} {us : List Value} {kw : List (Str × Value)} : (A.under (.builtin "type.__call__" ⟨.ref C :: us, kw⟩)).units = A.units + 1 := by
  first | rfl | simp [Around.under, Code.cUnits, Code.frames, Code.isFrame]
theorem Room.make {k : Nat} {A : Around} (r : Room (k + 1) A) (C : Addr) (us : List Value) (kw : List (Str × Value)) : Room k (A.under (.builtin "type.__call__" ⟨.ref C :: us, kw⟩)) :=
  ⟨r.hd, by have := r.dp; rw [make_depth]; omega, by have := r.un; rw [make_units]; omega⟩
theorem Room.depth {k : Nat} {A : Around} (r : Room k A) : A.depth < recursionLimit := by have := r.dp; omega
theorem Room.units {k : Nat} {A : Around} (r : Room k A) : A.units + 64 < cLine := by have := r.un; omega

/-! ### argument lists and displays -/
def tNil : TA := fun _ H Q => Q [] H
def tCons (ta : TE) (tr : TA) : TA := fun σ H Q => ta σ H fun x H1 => tr σ H1 fun xs H2 => Q (x :: xs) H2
section
variable {X : Cx} {e : Expr} {es : List Expr} {te : TE} {t : TA} {pos : Pos}
theorem pa_nil : PA X [] tNil := fun _ _ _ _ H Q I h => Calls.spliced_nil ⟨[], H, I, .nil, h⟩
theorem pa_cons (ha : PE X e te) (hr : PA X es t) (hs : starEach (e :: es) X.env = (false, eval e X.env) :: starEach es X.env := by rfl) : PA X (e :: es) (tCons te t) := by
  intro pos pins s σ H Q I h
  rw [hs]
  show wpAny _ _ (spliced ((false, eval e X.env) :: backTo pos (starEach es X.env))) _ _ s
  refine Calls.spliced_cons (thn (ha pins s σ H _ I h) fun u s1 ⟨x, H1, I1, r1, q1⟩ => ?_)
  exact thn (hr pos pins s1 σ H1 _ I1 q1) fun us s2 ⟨xs, H2, I2, r2, q2⟩ => ⟨x :: xs, H2, I2, .cons r1 r2, q2⟩

/-- a tuple, a list of written items -/
def tTup (t : TA) : TE := fun σ H Q => t σ H fun xs H1 => xs.length ≤ sizeLine ∧ ∀ p, H1 p = none → Q (.ref p) (upd H1 p (.tup xs))
def tLst (t : TA) : TE := fun σ H Q => t σ H fun xs H1 => xs.length ≤ sizeLine ∧ ∀ p, H1 p = none → Q (.ref p) (upd H1 p (.lst xs))
theorem pe_tup {x1} (h : PA X es t) : PE X (.Tuple es x1 pos) (tTup t) := by
  intro pins s σ H Q I hq
  refine wpAny_Tuple_spliced (thn (h pos pins s σ H _ I hq) fun us s1 ⟨xs, H1, I1, r, z, q⟩ => ⟨by rw [← r.length]; exact z, ?_⟩)
  have hf : H1 s1.heap.objs.size = none := I1.hok.fresh (Nat.le_refl _)
  refine ⟨.ref s1.heap.objs.size, upd H1 s1.heap.objs.size (.tup xs), I1.laid (t' := s1.toks) (fun b u e => Heap.get?_push_of_some _ e) (Nat.le_refl _) ?_, rfl, q _ hf⟩
  exact ⟨z, us, r, ⟨_, Heap.get?_push_size _ rfl, ⟨rfl, _, rfl⟩, rfl⟩⟩
theorem pe_lst (h : PA X es t) : PE X (.List es pos) (tLst t) := by
  intro pins s σ H Q I hq
  refine wpAny_List_spliced (thn (h pos pins s σ H _ I hq) fun us s1 ⟨xs, H1, I1, r, z, q⟩ => ⟨by rw [← r.length]; exact z, ?_⟩)
  have hf : H1 s1.heap.objs.size = none := I1.hok.fresh (Nat.le_refl _)
  refine ⟨.ref s1.heap.objs.size, upd H1 s1.heap.objs.size (.lst xs), I1.laid (t' := s1.toks) (fun b u e => Heap.get?_push_of_some _ e) (Nat.le_refl _) ?_, rfl, q _ hf⟩
  exact ⟨z, us, 0, r, Heap.get?_push_size _ rfl⟩
end

/-! ### what a def promises -/
/-- a def's promise: the bound arguments in the parameters' order, the heap, the wanted end, the wanted exception -/
abbrev Sp := List V → Hp → VK → XK → Prop
/-- how an exception lies behind a call (file 08 gives it): the callers' frames, abstract heap and state ahead of the call, the wish, the exception, the state -/
abbrev CXT := List Env → Hp → Shared → XK → Value → Shared → Prop

/-- the state at a call -/
structure Env0 (P : Program) (w : World) (K : PySem.W.Frag) (mg : Str → Option Value) (base : Heap) (A : Around) (outer : List Env) (s : Shared) (H : Hp) : Prop where
  frames : A.frames = some outer
  mod : Mod K mg base
  bs : ∀ b o, base.get? b = some o → s.heap.get? b = some o ∧ H b = none
  bsz : base.objs.size ≤ s.heap.objs.size
  funs : s.heap.FunFrames base outer
  frf : ∀ b ∈ frs outer, H b = none
  hok : HOk P w H s.heap
  bare : AllBare s.gens
/-- a call's end -/
def CE (outer : List Env) (P : Program) (w : World) (H : Hp) (s : Shared) (Q : VK) (u : Value) (s' : Shared) : Prop :=
  ∃ v H', s'.os = s.os ∧ AllBare s'.gens ∧ Un (frs outer) [] H H' s.heap s'.heap ∧ HOk P w H' s'.heap ∧ RelV v u ∧ Q v H'
def CR (CX : CXT) (outer : List Env) (P : Program) (w : World) (H : Hp) (s : Shared) (Q : VK) (E : XK) (r : Result) (s' : Shared) : Prop :=
  match r with
  | .ok (.ret u) => CE outer P w H s Q u s'
  | .ok _ => False
  | .error e => CX outer H s E e s'
structure FnOk (P : Program) (w : World) (K : PySem.W.Frag) (mg : Str → Option Value) (base : Heap) (CX : CXT) (k : Nat) (f : Addr) (fd : FuncData) (ps : List Str) (sp : Sp) : Prop where
  len : ∀ vs H Q E, sp vs H Q E → vs.length = ps.length
  run : ∀ (A : Around) (outer : List Env) (s : Shared) (H : Hp) (args : Args) (us : List Value) (vs : List V) (Q : VK) (E : XK), Room k A → Env0 P w K mg base A outer s H → BindsTo s fd args (ps.zip us) → Vals vs us → sp vs H Q E →
    codeAny (model P w) A (.call (.ref f) args) (CR CX outer P w H s Q E) s
/-- a weaker promise -/
theorem FnOk.imp {P : Program} {w : World} {K : PySem.W.Frag} {mg : Str → Option Value} {base : Heap} {CX : CXT} {k : Nat} {f : Addr} {fd : FuncData} {ps : List Str} {sp sp' : Sp} (F : FnOk P w K mg base CX k f fd ps sp)
    (h : ∀ vs H Q E, sp' vs H Q E → sp vs H Q E) : FnOk P w K mg base CX k f fd ps sp' :=
  ⟨fun vs H Q E q => F.len vs H Q E (h _ _ _ _ q), fun A outer s H args us vs Q E hr he hb hv hs => F.run A outer s H args us vs Q E hr he hb hv (h _ _ _ _ hs)⟩

theorem Env0.make {P : Program} {w : World} {K : PySem.W.Frag} {mg : Str → Option Value} {base : Heap} {A : Around} {outer : List Env} {s : Shared} {H : Hp} (e : Env0 P w K mg base A outer s H) (C : Addr) (us : List Value) (kw : List (Str × Value)) :
    Env0 P w K mg base (A.under (.builtin "type.__call__" ⟨.ref C :: us, kw⟩)) outer s H := ⟨by first | exact e.frames | (simpa [Around.under, Code.envs, Code.isFrame, pushEnvs] using e.frames), e.mod, e.bs, e.bsz, e.funs, e.frf, e.hok, e.bare⟩

section
variable {X : Cx} {pins : List (Addr × Obj)} {σ : St} {H : Hp} {s s' : Shared}
/-- from a body: what a callee wants -/
theorem Inv.env0 (I : Inv X pins σ H s) : Env0 X.prog X.w X.K X.mg X.base X.A X.stack s H :=
  ⟨I.ok.frames, I.ok.mod, I.bs, Nat.le_trans I.ok.bsz I.sz, I.stack, I.stkFree, I.hok, I.bare⟩
/-- behind a call -/
theorem Inv.after {Q : VK} {u : Value} (I : Inv X pins σ H s) (h : CE X.stack X.prog X.w H s Q u s') : EP X pins σ Q u s' := by
  obtain ⟨v, H', os, bare, un, hok, r, q⟩ := h
  obtain ⟨hh, g, d, t, os'⟩ := s'
  obtain rfl : os' = s.os := os
  exact ⟨v, H', I.call (h' := hh) (g' := g) (d' := d) (t' := t) (ch := []) un hok bare (fun b z => absurd z (by simp)), r, q⟩
end

/-! ### calls -/
/-- f(..): the written arguments, then the defaults dvs; E: what is wanted of an exception -/
def tCall (sp : Sp) (dvs : List V) (E : XK) (t : TA) : TE := fun σ H Q => t σ H fun vs H1 => sp (vs ++ dvs) H1 Q E
/-- o.m(..) of an instance of the class at C -/
def tMeth (C : Addr) (m : Str) (sp : Sp) (dvs : List V) (E : XK) (ta : TE) (t : TA) : TE := fun σ H Q => ta σ H fun x H1 => ∃ a dx fs, x = .ref a ∧ H1 a = some (.ins C dx fs) ∧ fs.lookup m = none ∧
  t σ H1 fun vs H2 => sp (x :: (vs ++ dvs)) H2 Q E
/-- C(..): a new instance and its dict, then __init__ -/
def tMake (C : Addr) (sp : Sp) (dvs : List V) (E : XK) (t : TA) : TE := fun σ H Q => t σ H fun vs H1 => ∀ x dx, H1 x = none → H1 dx = none → dx ≠ x →
  sp (.ref x :: (vs ++ dvs)) (upd (upd H1 dx (.own x)) x (.ins C dx [])) (fun v H2 => v = .non ∧ Q (.ref x) H2) E

/-- how the parameters are bound: us the positional arguments, kw the keywords' values by name, ds the defaults that fill up -/
def Binds (K : PySem.W.Frag) (fd : FuncData) (ps : List Str) (ds : List Value) : Prop :=
  ∀ (s : Shared) (us : List Value), K.In s.heap → (us ++ ds).length = ps.length → BindsTo s fd ⟨us, []⟩ (ps.zip (us ++ ds))
/-- every parameter is given -/
theorem Binds.all {K : PySem.W.Frag} {fd : FuncData} {ps : List Str} (h : ∀ us : List Value, us.length = ps.length → bindArgs fd ⟨us, []⟩ = pure (ps.zip us)) : Binds K fd ps [] := fun s us _ hl => by
  rw [List.append_nil] at hl ⊢
  exact .of_eq (h us hl)

/-- an exception of a callee reaches what this body wants of exceptions -/
def Passes (CX : CXT) (X : Cx) (E : XK) : Prop := ∀ (pins : List (Addr × Obj)) (σ : St) (H : Hp) (s : Shared) (e : Value) (s' : Shared), Inv X pins σ H s → CX X.stack H s E e s' → X.xe e s'

section
variable {X : Cx} {CX : CXT} {k : Nat} {f C : Addr} {fd : FuncData} {ps : List Str} {sp : Sp} {dvs : List V} {ds : List Value} {E : XK} {x m : Str} {p pos apos : Pos} {e o : Expr} {es : List Expr} {ta : TE} {t : TA}

/-- the callee runs -/
theorem run_fn {pins : List (Addr × Obj)} {σ : St} {H : Hp} {s : Shared} {Q : VK} {us : List Value} {vs : List V} (F : FnOk X.prog X.w X.K X.mg X.base CX k f fd ps sp) (hr : Room k X.A) (hb : Binds X.K fd ps ds) (hd : Vals dvs ds) (hx : Passes CX X E)
    (I : Inv X pins σ H s) (r : Vals vs us) (h : sp (vs ++ dvs) H Q E) : wpAny (model X.prog X.w) X.A (call (.ref f) us) (EP X pins σ Q) X.xe s := by
  have r2 : Vals (vs ++ dvs) (us ++ ds) := r.append hd
  have hl : (us ++ ds).length = ps.length := by rw [← r2.length]; exact F.len _ _ _ _ h
  refine wpAny_call (codeAny_mono (F.run X.A X.stack s H ⟨us, []⟩ (us ++ ds) (vs ++ dvs) Q E hr I.env0 (hb s us I.kIn hl) r2 h) fun r s' hq => ?_)
  cases r with
  | error e => exact hx pins σ H s e s' I hq
  | ok fl =>
    cases fl with
    | ret u => exact I.after hq
    | next => exact False.elim hq
    | brk => exact False.elim hq
    | cont => exact False.elim hq

theorem pe_call (F : FnOk X.prog X.w X.K X.mg X.base CX k f fd ps sp) (hr : Room k X.A) (hg : Gl X x) (hm : X.mg x = some (.ref f)) (hk : PySem.W.keepIn X.K (.ref f) = true) (hb : Binds X.K fd ps ds) (hd : Vals dvs ds) (hx : Passes CX X E)
    (ha : PA X (e :: es) t) (hdb : (x == ("__debug__" : Str)) = false := by decide) (he : starEach (e :: es) X.env = (false, eval e X.env) :: starEach es X.env := by rfl) (hpl : (backTo pos (starEach es X.env)).any (·.1) = false := by rfl) :
    PE X (.Call (.Name x p) (e :: es) [] pos) (tCall sp dvs E t) := by
  intro pins s σ H Q I h
  refine wpAny_Call_Name_kw (ld_glob I hg hm ?_ hdb)
  refine PySem.W.callWith_K (h₀ := X.base) I.ok.mod.kin hk (thn (ha pos pins s σ H _ I h) fun us s1 ⟨vs, H1, I1, r, q⟩ => ⟨I1.kIn, ?_⟩) he hpl
  exact run_fn F hr hb hd hx I1 r q

/-- o.m(e, ..) -/
theorem pe_meth {pl : Sem Bool} (he : PE X o ta) (c : Cls X.K C) (hm : Meth X.K C m f) (F : FnOk X.prog X.w X.K X.mg X.base CX k f fd ps sp) (hr : Room k X.A) (hb : Binds X.K fd ps ds) (hd : Vals dvs ds) (hx : Passes CX X E) (ha : PA X (e :: es) t)
    (hst : starEach (e :: es) X.env = (false, eval e X.env) :: starEach es X.env := by rfl) (hpl : (backTo pos (starEach es X.env)).any (·.1) = false := by rfl)
    (ht : eval (.Call (.Attribute o m apos) (e :: es) [] pos) X.env = (do
      let ov ← eval o X.env
      standAt apos.atName
      let (f, first) ← holding [ov] (getMethod ov m pl)
      callWith pos f first (backTo pos (starEach (e :: es) X.env)) (backToKw pos (keywordEach [] X.env))) := by rfl) :
    PE X (.Call (.Attribute o m apos) (e :: es) [] pos) (tMeth C m sp dvs E ta t) := by
  intro pins s σ H Q I h
  refine PySem.W.methodCall_KW (pl := pl) (thn (he pins s σ H _ I h) fun u s1 ⟨x, H1, I1, rx, a, dx, fs, ex, ea, l, q⟩ => ?_) ht
  subst ex
  obtain rfl : u = Value.ref a := rx
  refine getmeth_ok I1 ea c hm l ?_
  refine PySem.W.callWith_K (first := [.ref a]) (h₀ := X.base) I.ok.mod.kin hm.kp (thn (ha pos pins s1 σ H1 _ I1 q) fun us s2 ⟨vs, H2, I2, r, q2⟩ => ⟨I2.kIn, ?_⟩) hst hpl
  exact run_fn (us := .ref a :: us) (vs := .ref a :: vs) F hr hb hd hx I2 (.cons rfl r) q2

/-- what a class must have to be made -/
structure Mk (K : PySem.W.Frag) (C f : Addr) : Prop where
  makes : PySem.W.makesIn K C = true
  init : PySem.W.findIn K (.ref C) "__init__" = some (some (.ref f))
  fn : PySem.W.isFn K (.ref f) = true
  kp : PySem.W.keepIn K (.ref C) = true

theorem run_make {pins : List (Addr × Obj)} {σ : St} {H : Hp} {s : Shared} {Q : VK} {us : List Value} {vs : List V} (M : Mk X.K C f) (F : FnOk X.prog X.w X.K X.mg X.base CX k f fd ps sp) (hr : Room (k + 1) X.A) (hb : Binds X.K fd ps ds) (hd : Vals dvs ds)
    (hx : Passes CX X E) (I : Inv X pins σ H s) (r : Vals vs us)
    (h : ∀ x dx, H x = none → H dx = none → dx ≠ x → sp (.ref x :: (vs ++ dvs)) (upd (upd H dx (.own x)) x (.ins C dx [])) (fun v H2 => v = .non ∧ Q (.ref x) H2) E) :
    wpAny (model X.prog X.w) X.A (call (.ref C) us) (EP X pins σ Q) X.xe s := by
  have hq := h (s.heap.objs.size + 1) s.heap.objs.size (I.hok.fresh (Nat.le_succ _)) (I.hok.fresh (Nat.le_refl _)) (Nat.ne_of_lt (Nat.lt_succ_self _))
  have I2 := Inv.made (C := C) I
  have r2 : Vals (V.ref (s.heap.objs.size + 1) :: (vs ++ dvs)) (Value.ref (s.heap.objs.size + 1) :: (us ++ ds)) := .cons rfl (r.append hd)
  have hl : (Value.ref (s.heap.objs.size + 1) :: us ++ ds).length = ps.length := by
    have e := r2.length
    rw [F.len _ _ _ _ hq] at e
    exact e.symm
  refine wpAny_call (make_map (f := f) I.kIn M.makes M.init (beq_iff_eq.mp M.fn) (codeAny_mono (F.run _ X.stack _ _ ⟨Value.ref (s.heap.objs.size + 1) :: us, []⟩ (Value.ref (s.heap.objs.size + 1) :: (us ++ ds)) _ _ E (hr.make C us [])
    (I2.env0.make C us []) (hb _ (Value.ref (s.heap.objs.size + 1) :: us) I2.kIn hl) r2 hq) fun r s' hq' => ?_))
  cases r with
  | error e => exact hx pins σ _ _ e s' I2 hq'
  | ok fl =>
    cases fl with
    | ret u =>
      obtain ⟨v, H', I3, rv, ev, q3⟩ := I2.after hq'
      subst ev
      exact ⟨rv, ⟨V.ref (s.heap.objs.size + 1), H', I3, rfl, q3⟩⟩
    | next => exact False.elim hq'
    | brk => exact False.elim hq'
    | cont => exact False.elim hq'
theorem pe_make (M : Mk X.K C f) (F : FnOk X.prog X.w X.K X.mg X.base CX k f fd ps sp) (hr : Room (k + 1) X.A) (hg : Gl X x) (hm : X.mg x = some (.ref C)) (hb : Binds X.K fd ps ds) (hd : Vals dvs ds) (hx : Passes CX X E)
    (ha : PA X (e :: es) t) (hdb : (x == ("__debug__" : Str)) = false := by decide) (he : starEach (e :: es) X.env = (false, eval e X.env) :: starEach es X.env := by rfl) (hpl : (backTo pos (starEach es X.env)).any (·.1) = false := by rfl) :
    PE X (.Call (.Name x p) (e :: es) [] pos) (tMake C sp dvs E t) := by
  intro pins s σ H Q I h
  refine wpAny_Call_Name_kw (ld_glob I hg hm ?_ hdb)
  refine PySem.W.callWith_K (h₀ := X.base) I.ok.mod.kin M.kp (thn (ha pos pins s σ H _ I h) fun us s1 ⟨vs, H1, I1, r, q⟩ => ⟨I1.kIn, ?_⟩) he hpl
  exact run_make M F hr hb hd hx I1 r q
end

/-! ### keywords -/
/-- the values of the keywords, from the left -/
def PK (X : Cx) (kws : List Keyword) (t : TA) : Prop :=
  ∀ (pos : Pos) (pins : List (Addr × Obj)) (s : Shared) (σ : St) (H : Hp) (Q : List V → Hp → Prop), Inv X pins σ H s → t σ H Q → wpAny (model X.prog X.w) X.A (evalAll ((backToKw pos (keywordEach kws X.env)).map (·.2))) (AP X pins σ Q) X.xe s
section
variable {X : Cx} {CX : CXT} {k : Nat} {f C : Addr} {fd : FuncData} {ps ks : List Str} {sp : Sp} {E : XK} {x m : Str} {p pos apos kpos : Pos} {e o : Expr} {es : List Expr} {kws : List Keyword} {te ta : TE} {t tk : TA} {nm : Option Str}

/-- how a call with keywords binds: g puts the positional values us and the keywords' values ws (names ks) in the parameters' order, defaults among them -/
structure KBinds (K : PySem.W.Frag) (fd : FuncData) (ps ks : List Str) (g : List Value → List Value → List Value) (gV : List V → List V → List V) : Prop where
  to : ∀ (s : Shared) (us ws : List Value), K.In s.heap → (g us ws).length = ps.length → BindsTo s fd ⟨us, ks.zip ws⟩ (ps.zip (g us ws))
  rel : ∀ {vs : List V} {us : List Value} {zs : List V} {ws : List Value}, Vals vs us → Vals zs ws → Vals (gV vs zs) (g us ws)
def tCallK (sp : Sp) (gV : List V → List V → List V) (E : XK) (t tk : TA) : TE := fun σ H Q => t σ H fun vs H1 => tk σ H1 fun zs H2 => sp (gV vs zs) H2 Q E
variable {g : List Value → List Value → List Value} {gV : List V → List V → List V}
end

/-! ### a def's body keeps its promise -/
/-- names: the parameters first -/
structure FnScope (N P : List Str) (sc : Scope) : Prop where
  kind : sc.kind = .function
  co : sc.isCoroutine = false
  gen : sc.isGenerator = false
  nd : N.Nodup
  pre : N.take P.length = P
  par : ∀ x ∈ P, sc.names.lookup x = some .local ∨ sc.names.lookup x = some .cell
  nofree : ∀ y ∈ sc.names, y.2 ≠ .free

theorem bindL_out {kindOf : Str → Option NameKind} {x : Str} : ∀ {binds : List (Str × Value)} {m : Str → Option Value}, (∀ v, (x, v) ∉ binds) → bindL kindOf binds m x = m x
  | [], _, _ => rfl
  | (n, v) :: r, m, h => by
    unfold bindL
    rw [bindL_out fun w hw => h w (List.mem_cons_of_mem _ hw)]
    split
    · have : x ≠ n := by rintro rfl; exact h v List.mem_cons_self
      simp [this]
    · rfl
theorem bindC_out {kindOf : Str → Option NameKind} {x : Str} : ∀ {binds : List (Str × Value)} {m : Str → Option Value}, (∀ v, (x, v) ∉ binds) → bindC kindOf binds m x = m x
  | [], _, _ => rfl
  | (n, v) :: r, m, h => by
    unfold bindC
    rw [bindC_out fun w hw => h w (List.mem_cons_of_mem _ hw)]
    split
    · rfl
    · have : x ≠ n := by rintro rfl; exact h v List.mem_cons_self
      simp [this]
theorem bindL_get {kindOf : Str → Option NameKind} {x : Str} {v : Value} : ∀ {P : List Str} {vs : List Value} {i : Nat} {m : Str → Option Value}, P.Nodup → P[i]? = some x → vs[i]? = some v → kindOf x = some .local →
    bindL kindOf (P.zip vs) m x = some v
  | [], _, _, _, _, h, _, _ => by simp at h
  | _ :: _, [], _, _, _, _, h, _ => by simp at h
  | p :: P, w :: vs, 0, m, nd, h1, h2, hk => by
    simp at h1 h2; subst h1; subst h2
    show bindL kindOf ((p, w) :: P.zip vs) m p = _
    unfold bindL
    rw [bindL_out fun v hv => (List.nodup_cons.mp nd).1 (List.of_mem_zip hv).1, if_pos hk]
    simp
  | p :: P, w :: vs, i + 1, m, nd, h1, h2, hk => by
    show bindL kindOf ((p, w) :: P.zip vs) m x = _
    unfold bindL
    exact bindL_get (i := i) (List.nodup_cons.mp nd).2 (by simpa using h1) (by simpa using h2) hk
theorem bindC_get {kindOf : Str → Option NameKind} {x : Str} {v : Value} : ∀ {P : List Str} {vs : List Value} {i : Nat} {m : Str → Option Value}, P.Nodup → P[i]? = some x → vs[i]? = some v → kindOf x ≠ some .local →
    bindC kindOf (P.zip vs) m x = some v
  | [], _, _, _, _, h, _, _ => by simp at h
  | _ :: _, [], _, _, _, _, h, _ => by simp at h
  | p :: P, w :: vs, 0, m, nd, h1, h2, hk => by
    simp at h1 h2; subst h1; subst h2
    show bindC kindOf ((p, w) :: P.zip vs) m p = _
    unfold bindC
    rw [bindC_out fun v hv => (List.nodup_cons.mp nd).1 (List.of_mem_zip hv).1, if_neg hk]
    simp
  | p :: P, w :: vs, i + 1, m, nd, h1, h2, hk => by
    show bindC kindOf ((p, w) :: P.zip vs) m x = _
    unfold bindC
    exact bindC_get (i := i) (List.nodup_cons.mp nd).2 (by simpa using h1) (by simpa using h2) hk

/-- the names' values at the entry -/
def start (N : List Str) (vs : List V) : St := vs.map some ++ List.replicate (N.length - vs.length) none

/-- the context of a def's body, at its entry; an exception leaves the frame, then lies as CX says -/
def cxOf (CX : CXT) (P : Program) (w : World) (K : PySem.W.Frag) (mg : Str → Option Value) (base : Heap) (N : List Str) (qual : Str) (scope : Scope) (f : Addr) (cd : Value) (A : Around) (outer : List Env) (s : Shared) (H : Hp) (E : XK) : Cx where
  prog := P
  w := w
  K := K
  mg := mg
  base := base
  A := A.deeper (envOfC qual scope s.heap.objs.size f cd)
  N := N
  s₀ := s
  H₀ := H
  env := envOfC qual scope s.heap.objs.size f cd
  outer := outer
  stack := envOfC qual scope s.heap.objs.size f cd :: outer
  ex := []
  calm := true
  fn := fun _ => true
  pn := []
  xe := fun e s' => wpAny (model P w) (A.deeper (envOfC qual scope s.heap.objs.size f cd)) (leaving (envOfC qual scope s.heap.objs.size f cd) e) (fun _ s'' => CX outer H s E e s'') (fun e' s'' => CX outer H s E e' s'') s'

theorem cell_has {sc : Scope} {n : Nat} {x : Str} (h : sc.names.lookup x = some .cell) : ∃ c, (cellsFrom n sc.names []).lookup x = some c := by
  have q := PySem.W.cellsFrom_some sc.names n [] (.inl h)
  exact Option.isSome_iff_exists.mp q

theorem inv_start {CX : CXT} {P : Program} {w : World} {K : PySem.W.Frag} {mg : Str → Option Value} {base : Heap} {N ps : List Str} {qual : Str} {scope : Scope} {f : Addr} {cd : Value} {A : Around} {outer : List Env} {s s1 : Shared} {H : Hp} {E : XK} {us : List Value} {vs : List V}
    (S : FnScope N ps scope) (hd : A.handled = none) (e0 : Env0 P w K mg base A outer s H) (hl : vs.length = ps.length) (r : Vals vs us)
    (x : InCallC s s.heap.objs.size (bindL (envOfC qual scope s.heap.objs.size f cd).kindOf (ps.zip us) fun _ => none) (cellsFrom (s.heap.objs.size + 1) scope.names []) (bindC (envOfC qual scope s.heap.objs.size f cd).kindOf (ps.zip us) fun _ => none) s1) :
    Inv (cxOf CX P w K mg base N qual scope f cd A outer s H E) [] (start N vs) H s1 := by
  have hpl : ps.length ≤ N.length := by have := congrArg List.length S.pre; rw [List.length_take] at this; omega
  obtain ⟨h1, tk, rfl, hk⟩ := x.done
  have noA : ∀ b : Addr, b ∉ (cxOf CX P w K mg base N qual scope f cd A outer s H E).ex := fun b z => absurd (show b ∈ ([] : List Addr) from z) (by simp)
  refine ⟨⟨e0.mod, S.kind, rfl, rfl, Nat.le_refl _, fun y z c h1 h2 => ?_, fun y hy => ?_, fun y c _ h => ?_, fun _ => hd, Around.frames_deeper e0.frames, .inr ⟨rfl, rfl⟩, fun b z => absurd z (noA b), e0.bs, e0.bsz, fun b _ _ => noA b, fun b z => absurd z (noA b), e0.funs, e0.frf⟩,
    rfl, e0.bare, Un.kept hk, ⟨_, x.toInCall.ns, fun i y v h1 h2 h3 => ?_⟩, fun y c h => ⟨_, x.cell y c h⟩, e0.hok.fresh (Nat.le_refl _), fun y c h => ?_, fun p hp => absurd (show p ∈ ([] : List (Addr × Obj)) from hp) (by simp), e0.hok.kept hk, ?_⟩
  · exact name_of_addr x.apart (PySem.mem_of_lookup h1) (PySem.mem_of_lookup h2)
  · have hy : scope.names.lookup y = some .cell ∨ scope.names.lookup y = some .free := hy
    rcases hy with hy | hy
    · exact cell_has hy
    · exact absurd rfl (S.nofree _ (PySem.mem_of_lookup hy))
  · exact Nat.le_of_lt (x.above y c (PySem.mem_of_lookup h))
  · have hi : i < vs.length := by
      unfold start at h2
      by_cases hi : i < vs.length
      · exact hi
      · rw [List.getElem?_append_right (by simpa using hi)] at h2
        rw [List.getElem?_replicate] at h2
        split at h2 <;> cases h2
    have ha : vs[i]? = some v := by
      unfold start at h2
      rw [List.getElem?_append_left (by simpa using hi), List.getElem?_map] at h2
      cases e : vs[i]? with
      | none => rw [e] at h2; cases h2
      | some a => rw [e] at h2; cases h2; rfl
    obtain ⟨u, hu, rv⟩ := r.get ha
    have hp : ps[i]? = some y := by
      rw [← S.pre, List.getElem?_take_of_lt (by omega)]; exact h1
    have ndP : ps.Nodup := by rw [← S.pre]; exact S.nd.sublist (List.take_sublist _ _)
    refine ⟨u, rv, ?_⟩
    rcases S.par y (List.mem_of_getElem? hp) with k | k
    · exact .inl ⟨k, bindL_get ndP hp hu k⟩
    · obtain ⟨c, e⟩ := cell_has (n := s.heap.objs.size + 1) k
      refine .inr ⟨.inl k, c, e, ?_⟩
      have q := x.cell y c e
      rw [bindC_get ndP hp hu (by show scope.names.lookup y ≠ _; rw [k]; decide)] at q
      exact q
  · exact e0.hok.fresh (Nat.le_of_lt (x.above y c (PySem.mem_of_lookup h)))
  · unfold start
    show _ = N.length
    rw [List.length_append, List.length_map, List.length_replicate]
    omega

/-- THE RULE: a def (or a method) of the text, by its body. The body's reading t is chosen for each entry; it is run at the parameters' values -/
theorem fn_of {CX : CXT} {P : Program} {w : World} {K : PySem.W.Frag} {mg : Str → Option Value} {base : Heap} {k : Nat} {f : Addr} {name qual : Str} {params : Arguments} {body : List Stmt} {scope : Scope} {dV kV doc pm cdv ct oc : Value} {an od : Option Addr}
    {osl : Array (Option Value)} {N ps : List Str} {sp : Sp} (lk : K.lookup f = some ⟨oc, od, .func (PySem.W.fnOf name qual params body scope dV kV doc pm an cdv ct), osl⟩) (hcd : PySem.W.codeIn K cdv qual = true) (S : FnScope N ps scope)
    (len : ∀ vs H Q E, sp vs H Q E → vs.length = ps.length)
    (hbody : ∀ (A : Around) (outer : List Env) (s : Shared) (H : Hp) (vs : List V) (Q : VK) (E : XK), Room k (A.deeper (envOfC qual scope s.heap.objs.size f cdv)) → sp vs H Q E →
      ∃ t, PSs (cxOf CX P w K mg base N qual scope f cdv A outer s H E) body t ∧ t { nx := fun _ H' => Q .non H', rt := Q } (start N vs) H) :
    FnOk P w K mg base CX (k + 1) f (PySem.W.fnOf name qual params body scope dV kV doc pm an cdv ct) ps sp := by
  refine ⟨len, fun A outer s H args us vs Q E hr e0 hb r hsp => ?_⟩
  have hl := len _ _ _ _ hsp
  have KX : K.In s.heap := e0.mod.kin.keeps fun b o e => (e0.bs b o e).1
  have lim : s.heap.NoLimit := e0.mod.nolimit.keeps fun b o e => (e0.bs b o e).1
  have hkind : ∀ y ∈ ps.zip us, scope.names.lookup y.1 = some .local ∨ (scope.names.lookup y.1 = some .cell ∧ ((cellsFrom (s.heap.objs.size + 1) scope.names []).lookup y.1).isSome = true) := fun ⟨n, v⟩ hy => by
    rcases S.par n (List.of_mem_zip hy).1 with q | q
    · exact .inl q
    · exact .inr ⟨q, PySem.W.cellsFrom_some _ _ _ (.inl q)⟩
  refine codeAny_call_function hr.depth (KX _ _ lk) rfl S.co S.gen rfl (PySem.W.codeRec_of KX hcd) (hb _ _ _ _ ?_)
  refine wpAny_newFunctionEnv_cells S.kind hkind fun env he s1 x => ?_
  subst he
  refine ⟨lim.keeps x.toInCall.keep, codeAny_func ?_⟩
  obtain ⟨t, ht, hq⟩ := hbody A outer s H vs Q E (hr.deeper _) hsp
  have I : Inv (cxOf CX P w K mg base N qual scope f cdv A outer s H E) [] (start N vs) H s1 := inv_start S hr.hd e0 hl r x
  refine wpAny_mono (ht [] s1 (start N vs) H _ I hq) (fun fl s' hs => ?_) fun e s' hs => hs
  have fin : ∀ {σ' : St} {H' : Hp} {v : V} {u : Value}, Inv (cxOf CX P w K mg base N qual scope f cdv A outer s H E) [] σ' H' s' → RelV v u → Q v H' → CE outer P w H s Q u s' :=
    fun {σ' H' v u} J rv q => ⟨v, H', J.os, J.bare, J.base, J.hok, rv, q⟩
  cases fl with
  | ret u =>
    obtain ⟨v, σ', H', J, rv, q⟩ := hs
    exact fin J rv q
  | next =>
    obtain ⟨σ', H', J, q⟩ := hs
    exact fin (v := V.non) (u := Value.none) J rfl q
  | brk =>
    obtain ⟨_, _, _, q⟩ := hs
    exact False.elim q
  | cont =>
    obtain ⟨_, _, _, q⟩ := hs
    exact False.elim q
end L2

namespace L2
open PySem PySem.Spec PyProof.Rows
section
variable {X : Cx} {x : Str} {p pos : Pos} {e : Expr} {es : List Expr} {t : TA} {id T : String} {r : List V → Hp → VK → Prop}

def tCB (r : List V → Hp → VK → Prop) (t : TA) : TE := fun σ H Q => t σ H fun vs H1 => r vs H1 Q
/-- f(e, ..), f a built-in function -/
theorem pe_callB (hc : CallR X (.builtin id) r) (hg : Gl X x) (hm : X.mg x = none) (hv : bootBuiltins x = some (.builtin id)) (ha : PA X (e :: es) t) (hn : x ≠ "__name__" := by decide) (hdb : (x == ("__debug__" : Str)) = false := by decide)
    (he : starEach (e :: es) X.env = (false, eval e X.env) :: starEach es X.env := by rfl) (hpl : (backTo pos (starEach es X.env)).any (·.1) = false := by rfl) : PE X (.Call (.Name x p) (e :: es) [] pos) (tCB r t) := by
  intro pins s σ H Q I h
  refine wpAny_Call_Name_kw (ld_blt I hg hm hv ?_ hn hdb)
  exact PyProof.Rows.callWith_builtin1 (thn (ha pos pins s σ H _ I h) fun us s1 ⟨vs, H1, I1, r1, q1⟩ => hc pins s1 σ H1 vs us Q I1 r1 q1) he hpl
/-- T(e, ..), T a built-in type -/
theorem pe_callTy (hc : CallR X (.type T) r) (hg : Gl X x) (hm : X.mg x = none) (hv : bootBuiltins x = some (.type T)) (ha : PA X (e :: es) t) (hn : x ≠ "__name__" := by decide) (hdb : (x == ("__debug__" : Str)) = false := by decide)
    (he : starEach (e :: es) X.env = (false, eval e X.env) :: starEach es X.env := by rfl) (hpl : (backTo pos (starEach es X.env)).any (·.1) = false := by rfl) : PE X (.Call (.Name x p) (e :: es) [] pos) (tCB r t) := by
  intro pins s σ H Q I h
  refine wpAny_Call_Name_kw (ld_blt I hg hm hv ?_ hn hdb)
  exact PyProof.Rows.callWith_type1 (thn (ha pos pins s σ H _ I h) fun us s1 ⟨vs, H1, I1, r1, q1⟩ => hc pins s1 σ H1 vs us Q I1 r1 q1) he hpl
end
end L2

namespace HT
open PySem PyProof.Rows

/-- t < u of tuples of ints -/
def lexLt : List Int → List Int → Bool
  | [], [] => false
  | [], _ :: _ => true
  | _ :: _, [] => false
  | x :: xs, y :: ys => if x = y then lexLt xs ys else decide (x < y)


section
open PySem.SeqAt
open PySem.AutoSeq1 (wpAny_loadPart')
open PySem.MeetsSeq PySem.MeetsSeq2 PySem.MeetsSeq3

end

section
variable {prog : Program} {w : World} {A : Around} {E : Value → Shared → Prop} {s : Shared}



/-! ### t[a:b], not the whole -/
/-- a slice's bound as a place among n (d where it is left out) -/
def sIx (n d : Nat) : Option Int → Nat
  | none => d
  | some v => if v < 0 then (v + (n : Int)).toNat else min v.toNat n

end
end HT

namespace L2
open PySem PySem.Spec PyProof.Rows

/-! ### the parts of a slice -/
abbrev TO := St → Hp → (Option Int → Hp → Prop) → Prop
/-- a slice's part (left out, or an int) -/
def PO (X : Cx) (e : Option Expr) (t : TO) : Prop :=
  ∀ (pins : List (Addr × Obj)) (s : Shared) (σ : St) (H : Hp) (Q : Option Int → Hp → Prop), Inv X pins σ H s → t σ H Q →
    wpAny (model X.prog X.w) X.A (evalPart e X.env) (fun u s' => ∃ o H', Inv X pins σ H' s' ∧ IsPart u o ∧ Q o H') X.xe s
def tNoPart : TO := fun _ H Q => Q none H
def tPart (t : TE) : TO := fun σ H Q => t σ H fun x H1 => ∃ i, x = .int i ∧ Q (some i) H1


section
variable {X : Cx} {e : Expr} {te : TE} {lo hi : Option Expr} {tl th : TO} {pos p2 : Pos}

theorem po_none : PO X none tNoPart := by
  intro pins s σ H Q I h
  rw [evalPart_none]
  exact wpAny_pure ⟨none, H, I, .none, h⟩
theorem po_some (h : PE X e te) : PO X (some e) (tPart te) := by
  intro pins s σ H Q I hw
  rw [evalPart_some]
  refine thn (h pins s σ H _ I hw) fun u s1 ⟨x, H1, I1, r1, q1⟩ => ?_
  obtain ⟨i, rfl, q⟩ := q1
  obtain ⟨t, rfl⟩ := r1
  exact ⟨some i, H1, I1, .int i t, q⟩

/-- what a slice of a value is, by values: the slice object stands at sl -/
def SlR (X : Cx) (r : V → Option Int → Option Int → Hp → VK → Prop) : Prop :=
  ∀ (pins : List (Addr × Obj)) (s : Shared) (σ : St) (H : Hp) (x : V) (v vl vu : Value) (lo hi : Option Int) (sl : Addr) (Q : VK), Inv X pins σ H s → RelV x v → s.heap.IsSliceOf sl vl vu .none → IsPart vl lo → IsPart vu hi → r x lo hi H Q →
    ∃ T id, typeLookup (.type T) "__getitem__" = pure (some (.builtin id)) ∧ s.TypeIs v T ∧ wpAny (model X.prog X.w) X.A (getItem v (.ref sl)) (EP X pins σ Q) X.xe s
def tSl (r : V → Option Int → Option Int → Hp → VK → Prop) (te : TE) (tl th : TO) : TE := fun σ H Q => te σ H fun x H1 => tl σ H1 fun l H2 => th σ H2 fun u H3 => r x l u H3 Q
/-- a[lo:hi], any a -/
theorem pe_slice {r : V → Option Int → Option Int → Hp → VK → Prop} (hr : SlR X r) (he : PE X e te) (hl : PO X lo tl) (hu : PO X hi th) : PE X (.Subscript e (.Slice lo hi none p2) pos) (tSl r te tl th) := by
  intro pins s σ H Q I h
  refine Subscript_ (thn (he pins s σ H _ I h) fun v s1 ⟨x, H1, I1, r1, q1⟩ => ?_)
  refine wpAny_Slice (thn (hl pins s1 σ H1 _ I1 q1) fun vl s2 ⟨l, H2, I2, pl, q2⟩ => thn (hu pins s2 σ H2 _ I2 q2) fun vu s3 ⟨u, H3, I3, pu, q3⟩ => ?_)
  rw [evalPart_none]
  refine wpAny_pure ?_
  have I4 : Inv X pins σ H3 { s3 with heap := s3.heap.push { cls := .type "slice", data := .fields #[vl, vu, .none] } } := I3.kept (t' := s3.toks) fun b ob q => Heap.get?_push_of_some _ q
  obtain ⟨T, id, hT, ht, hg⟩ := hr pins { s3 with heap := s3.heap.push { cls := .type "slice", data := .fields #[vl, vu, .none] } } σ H3 x v vl vu l u s3.heap.objs.size Q I4 r1 (Heap.IsSliceOf.new ..) pl pu q3
  show wpAny (model X.prog X.w) X.A (subscriptTail e (.Slice lo hi none p2) v (.ref s3.heap.objs.size)) (EP X pins σ Q) X.xe { s3 with heap := s3.heap.push { cls := .type "slice", data := .fields #[vl, vu, .none] } }
  exact tail_any (ops := [.ref s3.heap.objs.size, v]) ht hT hg (by with_unfolding_all rfl)

/-- the items of xs[lo:hi] -/
def cutV (xs : List V) (lo hi : Option Int) : List V := (xs.drop (HT.sIx xs.length 0 lo)).take (HT.sIx xs.length xs.length hi - HT.sIx xs.length 0 lo)
theorem cutV_length (xs : List V) (lo hi : Option Int) : (cutV xs lo hi).length ≤ xs.length := by
  unfold cutV
  rw [List.length_take, List.length_drop]
  omega
/-- t[lo:hi], not the whole of it (the whole would be t itself) -/
def rSlT (K : PySem.W.Frag) : V → Option Int → Option Int → Hp → VK → Prop := fun x lo hi H Q => ∃ a xs, x = .ref a ∧ SqT K H a xs ∧
  ¬ (HT.sIx xs.length 0 lo = 0 ∧ HT.sIx xs.length xs.length hi = xs.length) ∧ ∀ p, H p = none → Q (.ref p) (upd H p (.tup (cutV xs lo hi)))

/-! ### t < u, t + u -/
def rLtT (K : PySem.W.Frag) : R2 := fun x y H Q => ∃ a b ns ms, x = .ref a ∧ y = .ref b ∧ SqT K H a (ns.map V.int) ∧ SqT K H b (ms.map V.int) ∧ Q (.bl (HT.lexLt ns ms)) H
/-- t + u, t not empty: u empty gives t itself -/
def rCatT (K : PySem.W.Frag) : R2 := fun x y H Q => ∃ a b xs ys, x = .ref a ∧ y = .ref b ∧ SqT K H a xs ∧ SqT K H b ys ∧ xs ≠ [] ∧ xs.length + ys.length ≤ sizeLine ∧
  (ys = [] → Q (.ref a) H) ∧ (ys ≠ [] → ∀ p, H p = none → Q (.ref p) (upd H p (.tup (xs ++ ys))))
end
end L2

namespace L2
open PySem PySem.Spec PyProof.Rows

/-! ### places -/
/-- the place that an index of any sign means -/
def ixN (n : Nat) (i : Int) : Option Nat := if 0 ≤ i then (if i < n then some i.toNat else none) else if -(n : Int) ≤ i then some (i + n).toNat else none
def atI {α : Type} (xs : List α) (i : Int) : Option α := (ixN xs.length i).bind fun j => xs[j]?
theorem ixN_seq {n : Nat} {i : Int} {j : Nat} (h : ixN n i = some j) : seqIndex? i n = some j ∧ j < n ∧ -(n : Int) ≤ i ∧ i < n := by
  unfold ixN at h
  by_cases h0 : 0 ≤ i
  · rw [if_pos h0] at h
    by_cases h1 : i < n
    · rw [if_pos h1] at h
      have e : i.toNat = j := Option.some.inj h
      exact ⟨by rw [seqIndex_of h0 h1, e], by omega, by omega, h1⟩
    · rw [if_neg h1] at h; cases h
  · rw [if_neg h0] at h
    by_cases h1 : -(n : Int) ≤ i
    · rw [if_pos h1] at h
      have e : (i + n).toNat = j := Option.some.inj h
      exact ⟨by rw [seqIndex_neg (by omega) h1, e], by omega, h1, by omega⟩
    · rw [if_neg h1] at h; cases h
theorem atI_get {α : Type} {xs : List α} {i : Int} {v : α} (h : atI xs i = some v) : ∃ j, seqIndex? i xs.length = some j ∧ xs[j]? = some v ∧ j < xs.length ∧ -(xs.length : Int) ≤ i ∧ i < xs.length := by
  unfold atI at h
  cases e : ixN xs.length i with
  | none => rw [e] at h; cases h
  | some j =>
    rw [e] at h
    obtain ⟨h1, h2, h3, h4⟩ := ixN_seq e
    exact ⟨j, h1, h, h2, h3, h4⟩
theorem atI_nat {α : Type} {xs : List α} {j : Nat} {v : α} (h : xs[j]? = some v) : atI xs (j : Int) = some v := by
  have hj : j < xs.length := (List.getElem?_eq_some_iff.mp h).1
  have e : ixN xs.length (j : Int) = some j := by
    unfold ixN
    rw [if_pos (by omega), if_pos (by omega)]; simp
  unfold atI; rw [e]; exact h

/-! ### what may be subscripted -/
/-- what stands as an index of a plain subscript -/
def PlainIx (b : Expr) : Prop := ∀ o i, subscripted b false o i = operate [o, i] (getItem o i)
/-- a subscript by values -/
def IxR (X : Cx) (r : R2) : Prop :=
  ∀ (value slice : Expr) (pins : List (Addr × Obj)) (s : Shared) (σ : St) (H : Hp) (x y : V) (v u : Value) (Q : VK), Inv X pins σ H s → RelV x v → RelV y u → r x y H Q →
    subscripted slice false v u = operate [v, u] (getItem v u) → wpAny (model X.prog X.w) X.A (subscriptTail value slice v u) (EP X pins σ Q) X.xe s
/-- a call of a builtin's method by values: the receiver, the arguments -/
def MtR (X : Cx) (id : String) (r : V → List V → Hp → VK → Prop) : Prop :=
  ∀ (pins : List (Addr × Obj)) (s : Shared) (σ : St) (H : Hp) (x : V) (xs : List V) (v : Value) (us : List Value) (Q : VK), Inv X pins σ H s → RelV x v → Vals xs us → r x xs H Q →
    wpAny (model X.prog X.w) X.A (call (.builtin id) (v :: us)) (EP X pins σ Q) X.xe s
section
variable {X : Cx} {a b : Expr} {ta tb : TE} {pos : Pos}
theorem IxR.or {r r' : R2} (h : IxR X r) (h' : IxR X r') : IxR X (fun x y H Q => r x y H Q ∨ r' x y H Q) := by
  intro value slice pins s σ H x y v u Q I rx ry q hs
  rcases q with q | q
  · exact h value slice pins s σ H x y v u Q I rx ry q hs
  · exact h' value slice pins s σ H x y v u Q I rx ry q hs
/-- a[b] -/
theorem pe_ix {r : R2} (hr : IxR X r) (ha : PE X a ta) (hb : PE X b tb) (hs : PlainIx b) : PE X (.Subscript a b pos) (tOp r ta tb) := by
  intro pins s σ H Q I h
  exact Subscript_ (binT ha hb I h fun v u s2 x y H2 I2 rx ry q => hr a b pins s2 σ H2 x y v u Q I2 rx ry q (hs _ _))

def rIxL (K : PySem.W.Frag) : R2 := fun x y H Q => ∃ p xs i v, x = .ref p ∧ y = .int i ∧ SqL K H p xs ∧ atI xs i = some v ∧ Q v H
def rIxT (K : PySem.W.Frag) : R2 := fun x y H Q => ∃ p xs i v, x = .ref p ∧ y = .int i ∧ SqT K H p xs ∧ atI xs i = some v ∧ Q v H
def rIxS : R2 := fun x y H Q => ∃ z i c, x = .str z ∧ y = .int i ∧ z.length ≤ sizeLine ∧ atI z.cps.toList i = some c ∧ Q (.str ⟨#[c]⟩) H
theorem ix_list : IxR X (rIxL X.K) := by
  intro value slice pins s σ H x y v u Q I rx ry h hs
  obtain ⟨p, xs, i, z, rfl, rfl, hq, he, q⟩ := h
  cases rx
  obtain ⟨t, rfl⟩ := ry
  obtain ⟨its, r, pl, hz⟩ := I.list hq
  obtain ⟨j, h1, h2, h3, h4, h5⟩ := atI_get he
  obtain ⟨w, ew, rw'⟩ := r.get h2
  have hl := r.length
  have hn := line63
  have fin : EP X pins σ Q w s := ⟨z, H, I, rw', q⟩
  by_cases h0 : 0 ≤ i
  · have hj : i.toNat = j := by
      rw [seqIndex_of h0 h5] at h1
      exact Option.some.inj h1
    exact item_listR pl.isList h0 (by omega) (by rw [hj]; simpa using ew) fin hs
  · have hj : (i + (its.toArray.size : Int)).toNat = j := by
      rw [seqIndex_neg (by omega) h4] at h1
      rw [List.size_toArray, ← hl]
      exact Option.some.inj h1
    exact subscriptTail_builtinR (x := w) pl.isList.typeIs slot_list_getitem.lookup
      (wpAny_getItem_list_neg (Q := fun r s' => r = w ∧ EP X pins σ Q r s') pl.isList (by omega) (by rw [List.size_toArray] <;> omega) (by omega) (by rw [hj]; simpa using ew) ⟨rfl, fin⟩) hs
theorem ix_tup : IxR X (rIxT X.K) := by
  intro value slice pins s σ H x y v u Q I rx ry h hs
  obtain ⟨p, xs, i, z, rfl, rfl, hq, he, q⟩ := h
  cases rx
  obtain ⟨t, rfl⟩ := ry
  obtain ⟨its, r, pl, hz⟩ := I.tuple hq
  obtain ⟨j, h1, h2, h3, h4, h5⟩ := atI_get he
  obtain ⟨w, ew, rw'⟩ := r.get h2
  have hl := r.length
  have hn := line63
  have fin : EP X pins σ Q w s := ⟨z, H, I, rw', q⟩
  exact subscriptTail_builtinR (x := w) pl.typeIs slot_tuple_getitem.lookup
    (getItem_tuple (j := j) (Q := fun r s' => r = w ∧ EP X pins σ Q r s') pl (by omega) (by omega) (by rw [List.size_toArray, ← hl]; exact h1) (by simpa using ew) ⟨rfl, fin⟩) hs
theorem ix_str : IxR X rIxS := by
  intro value slice pins s σ H x y v u Q I rx ry h hs
  obtain ⟨z, i, c, rfl, rfl, hz, he, q⟩ := h
  obtain ⟨t, rfl⟩ := rx
  obtain ⟨t', rfl⟩ := ry
  obtain ⟨j, h1, h2, h3, h4, h5⟩ := atI_get he
  have hl : z.cps.toList.length = z.length := by simp [Str.length]
  rw [hl] at h1 h4 h5
  have hn := line63
  exact tail_any (typeIs_str s z t) slot_str_getitem.lookup (getItem_str (c := c) (by
    have e1 : decide (i < -(2 ^ 63 : Int)) = false := decide_eq_false (by omega)
    have e2 : decide (i ≥ 2 ^ 63) = false := decide_eq_false (by omega)
    rw [e1, e2, Bool.or_false]) (by rw [h1]; simpa using h2) ⟨.str ⟨#[c]⟩, H, I.tok _, ⟨_, rfl⟩, q⟩) hs
/-- list, tuple or str -/
def rIx (K : PySem.W.Frag) : R2 := fun x y H Q => rIxL K x y H Q ∨ rIxT K x y H Q ∨ rIxS x y H Q
theorem ix_seq : IxR X (rIx X.K) := ix_list.or (ix_tup.or ix_str)

/-! ### xs[i] = v, any sign -/
/-- the list's object behind a store -/
theorem mapSeq_set (its : List Value) (n j : Nat) (u : Value) : Obj.mapSeq (·.setIfInBounds j u) { cls := .type "list", data := .seq its.toArray n } = { cls := .type "list", data := .seq (its.set j u).toArray n } := by
  simp [Obj.mapSeq]
theorem Inv.lst {pins : List (Addr × Obj)} {σ : St} {H : Hp} {s : Shared} {p : Addr} {xs : List V} (I : Inv X pins σ H s) (h : H p = some (.lst xs)) :
    ∃ (its : List Value) (n : Nat), Vals xs its ∧ s.heap.get? p = some { cls := .type "list", data := .seq its.toArray n } ∧ xs.length ≤ sizeLine := by
  obtain ⟨z, its, n, r, e⟩ := I.hok p _ h
  exact ⟨its, n, r, e, z⟩
/-- the list at p is written by an update of its object -/
theorem Inv.lstUpd {pins : List (Addr × Obj)} {σ : St} {H : Hp} {s : Shared} {p : Addr} {xs ys : List V} {its its' : List Value} {n n' : Nat} {f : Obj → Obj} (I : Inv X pins σ H s) (h : H p = some (.lst xs))
    (ho : s.heap.get? p = some { cls := .type "list", data := .seq its.toArray n }) (hf : f { cls := .type "list", data := .seq its.toArray n } = { cls := .type "list", data := .seq its'.toArray n' }) (r : Vals ys its') (hz : ys.length ≤ sizeLine) (t : Nat) :
    Inv X pins σ (upd H p (.lst ys)) { s with heap := s.heap.update p f, toks := t } := by
  have e : (s.heap.update p f).get? p = some { cls := .type "list", data := .seq its'.toArray n' } := by
    rw [Heap.get?_update_self f ho (by rw [hf] <;> rfl), hf]
  refine I.write (x := p) (e := p) (by rw [h]; trivial) (.inl rfl) (fun b u hb q => (Heap.get?_update_other _ _ (Ne.symm hb)).trans q) ⟨_, e⟩ ?_
  exact ⟨hz, its', n', r, e⟩
def rSetL : V → V → V → Hp → (Hp → Prop) → Prop := fun o i v H Q => ∃ p xs k j, o = .ref p ∧ i = .int k ∧ H p = some (.lst xs) ∧ ixN xs.length k = some j ∧ Q (upd H p (.lst (xs.set j v)))
theorem set_list : PSet X rSetL := by
  intro pins s σ H o i v ov iv u Q I ro ri rv h
  obtain ⟨p, xs, k, j, rfl, rfl, hp, hj, q⟩ := h
  cases ro
  obtain ⟨t, rfl⟩ := ri
  obtain ⟨its, n, r, ho, hz⟩ := I.lst hp
  obtain ⟨h1, h2, h3, h4⟩ := ixN_seq hj
  have hl := r.length
  have hn := line63
  have I' : Inv X pins σ (upd H p (.lst (xs.set j v))) { s with heap := s.heap.update p (Obj.mapSeq (·.setIfInBounds j u)) } :=
    I.lstUpd hp ho (mapSeq_set its n j u) (r.set rv j) (by rw [List.length_set]; exact hz) s.toks
  by_cases h0 : 0 ≤ k
  · have hk : k.toNat = j := by
      rw [seqIndex_of h0 h4] at h1
      exact Option.some.inj h1
    exact PySem.W.ki_setAt ho h0 (by omega) (by rw [List.size_toArray, ← hl]; exact h4) (by rw [hk]; exact ⟨_, I', q⟩)
  · have hk : (k + (its.toArray.size : Int)).toNat = j := by
      rw [seqIndex_neg (by omega) h3] at h1
      rw [List.size_toArray, ← hl]
      exact Option.some.inj h1
    exact PySem.W.ki_setBack ho (by omega) (by rw [List.size_toArray, ← hl]; exact h3) (by omega) (by rw [hk]; exact ⟨_, I', q⟩)

/-! ### slices -/
theorem slice_bounds (lo hi : Option Int) (n : Nat) : (sliceBounds lo hi none n).1 = ((HT.sIx n 0 lo : Nat) : Int) ∧ (sliceBounds lo hi none n).2.1 = ((HT.sIx n n hi : Nat) : Int) ∧ (sliceBounds lo hi none n).2.2 = 1 := by
  refine ⟨?_, ?_, rfl⟩
  · cases lo with
    | none => simp [sliceBounds, HT.sIx]
    | some i =>
      simp only [sliceBounds, HT.sIx, Option.getD_none, show (1 : Int) > 0 by decide, if_true]
      by_cases h : i < 0
      · simp only [h, if_true] <;> omega
      · simp only [h, if_false] <;> omega
  · cases hi with
    | none => simp [sliceBounds, HT.sIx]
    | some i =>
      simp only [sliceBounds, HT.sIx, Option.getD_none, show (1 : Int) > 0 by decide, if_true]
      by_cases h : i < 0
      · simp only [h, if_true] <;> omega
      · simp only [h, if_false] <;> omega
theorem slicePick_cut (its : List Value) (lo hi : Option Int) : slicePick its.toArray lo hi none = ((its.drop (HT.sIx its.length 0 lo)).take (HT.sIx its.length its.length hi - HT.sIx its.length 0 lo)).toArray := by
  obtain ⟨h1, h2, h3⟩ := slice_bounds lo hi its.toArray.size
  unfold slicePick
  rw [h1, h2, h3]
  simp only [sliceRange_one, pick_run, List.size_toArray] <;> rfl
/-- xs[lo:hi] of a list: a new list -/
def rSlL (K : PySem.W.Frag) : V → Option Int → Option Int → Hp → VK → Prop := fun x lo hi H Q => ∃ a xs, x = .ref a ∧ SqL K H a xs ∧ ∀ p, H p = none → Q (.ref p) (upd H p (.lst (cutV xs lo hi)))
theorem sl_list : SlR X (rSlL X.K) := by
  intro pins s σ H x v vl vu lo hi sl Q I rx hs pl pu h
  obtain ⟨a, xs, rfl, hx, q⟩ := h
  cases rx
  obtain ⟨its, r, ht, hz⟩ := I.list hx
  have hlen := r.length
  refine ⟨"list", _, slot_list_getitem.lookup, ht.isList.typeIs, ?_⟩
  refine wpAny_getItem_list_slice ht.isList hs pl pu .none (by simp) ?_ (by rw [List.size_toArray] <;> omega)
  rw [slicePick_cut, ← hlen]
  refine ⟨.ref s.heap.objs.size, _, I.laid (t' := s.toks) (o := .lst (cutV xs lo hi)) (fun b ob q => Heap.get?_push_of_some _ q) (Nat.le_refl _) ?_, rfl, q _ (I.hok.fresh (Nat.le_refl _))⟩
  exact ⟨Nat.le_trans (cutV_length xs lo hi) hz, _, 0, (r.drop (HT.sIx xs.length 0 lo)).take (HT.sIx xs.length xs.length hi - HT.sIx xs.length 0 lo), Heap.get?_push_size _ rfl⟩

/-! ### in, not in: flat items -/
def flatV : V → Bool
  | .non => true
  | .bl _ => true
  | .int _ => true
  | .str _ => true
  | _ => false
/-- == of flat values -/
def eqV : V → V → Bool
  | .non, .non => true
  | .bl a, .bl b => a == b
  | .bl a, .int b => (if a then 1 else 0) == b
  | .int a, .bl b => a == (if b then 1 else 0)
  | .int a, .int b => a == b
  | .str a, .str b => a == b
  | _, _ => false
theorem eqAt_V {A : Around} {s : Shared} {y x : V} {u v : Value} (ry : RelV y u) (rx : RelV x v) (fy : flatV y = true) (fx : flatV x = true) : SeqAt.EqAt A s u v (eqV y x) := by
  cases y with
  | non =>
    cases ry
    cases x with
    | non => cases rx; exact SeqAt.EqAt.same _
    | bl b => cases rx; exact SeqAt.EqAt.none_bool b
    | int b => obtain ⟨t, rfl⟩ := rx; exact SeqAt.EqAt.none_int b t
    | str b => obtain ⟨t, rfl⟩ := rx; exact SeqAt.EqAt.none_str b t
    | _ => exact absurd (show false = true from fx) Bool.false_ne_true
  | bl a =>
    cases ry
    cases x with
    | non => cases rx; exact SeqAt.EqAt.bool_none a
    | bl b => cases rx; exact SeqAt.EqAt.bool_bool a b
    | int b => obtain ⟨t, rfl⟩ := rx; exact SeqAt.EqAt.bool_int a b t
    | str b => obtain ⟨t, rfl⟩ := rx; exact SeqAt.EqAt.bool_str a b t
    | _ => exact absurd (show false = true from fx) Bool.false_ne_true
  | int a =>
    obtain ⟨t', rfl⟩ := ry
    cases x with
    | non => cases rx; exact SeqAt.EqAt.int_none a t'
    | bl b => cases rx; exact SeqAt.EqAt.int_bool a t' b
    | int b => obtain ⟨t, rfl⟩ := rx; exact SeqAt.EqAt.int_int a t' b t
    | str b => obtain ⟨t, rfl⟩ := rx; exact SeqAt.EqAt.int_str a t' b t
    | _ => exact absurd (show false = true from fx) Bool.false_ne_true
  | str a =>
    obtain ⟨t', rfl⟩ := ry
    cases x with
    | non => cases rx; exact SeqAt.EqAt.str_none a t'
    | bl b => cases rx; exact SeqAt.EqAt.str_bool a t' b
    | int b => obtain ⟨t, rfl⟩ := rx; exact SeqAt.EqAt.str_int a t' b t
    | str b => obtain ⟨t, rfl⟩ := rx; exact SeqAt.EqAt.str_str a t' b t
    | _ => exact absurd (show false = true from fx) Bool.false_ne_true
  | _ => exact absurd (show false = true from fy) Bool.false_ne_true
/-- the items' answers, read off the values (a value's own answer does not lean on its token) -/
def eqU (x : V) (u : Value) : Bool := match u with
  | .none => eqV .non x
  | .bool b => eqV (.bl b) x
  | .int i _ => eqV (.int i) x
  | .str z _ => eqV (.str z) x
  | _ => false
theorem eqU_of {x y : V} {u : Value} (r : RelV y u) (f : flatV y = true) : eqU x u = eqV y x := by
  cases y with
  | non => cases r; rfl
  | bl b => cases r; rfl
  | int i => obtain ⟨t, rfl⟩ := r; rfl
  | str z => obtain ⟨t, rfl⟩ := r; rfl
  | _ => exact absurd (show false = true from f) Bool.false_ne_true
theorem any_eqU {x : V} : ∀ {xs : List V} {us : List Value}, Vals xs us → xs.all flatV = true → us.any (eqU x) = xs.any fun y => eqV y x
  | _, _, .nil, _ => rfl
  | y :: xs, u :: us, .cons r t, f => by
    rw [List.all_cons, Bool.and_eq_true] at f
    rw [List.any_cons, List.any_cons, eqU_of r f.1, any_eqU t f.2]
theorem mem_eqAt {A : Around} {s : Shared} {x : V} {v : Value} (rx : RelV x v) (fx : flatV x = true) : ∀ {xs : List V} {us : List Value}, Vals xs us → xs.all flatV = true → ∀ u ∈ us, SeqAt.EqAt A s u v (eqU x u)
  | _, _, .nil, _ => fun u hu => by cases hu
  | y :: xs, u :: us, .cons r t, f => fun u' hu => by
    rw [List.all_cons, Bool.and_eq_true] at f
    rcases List.mem_cons.mp hu with rfl | hu
    · rw [eqU_of r f.1]; exact eqAt_V r rx f.1 fx
    · exact mem_eqAt rx fx t f.2 u' hu
def inV (x : V) (xs : List V) : Bool := xs.any fun y => eqV y x
/-- x in a list or tuple of flat items -/
def rIn (K : PySem.W.Frag) (neg : Bool) : R2 := fun x y H Q => ∃ p xs, y = .ref p ∧ (SqL K H p xs ∨ SqT K H p xs) ∧ flatV x = true ∧ xs.all flatV = true ∧ Q (.bl (if neg then !inV x xs else inV x xs)) H
theorem op_in_seq : OpR X (compareOp .In) (rIn X.K false) := by
  intro pins s σ H x y v u Q I rx ry h
  obtain ⟨p, xs, rfl, hq, fx, fs, q⟩ := h
  cases ry
  rcases hq with hq | hq
  · obtain ⟨its, r, pl, hz⟩ := I.list hq
    refine SeqAt.in_listAt (eqU x) pl.isList (fun w hw => mem_eqAt rx fx r fs w (by simpa using hw)) ⟨.bl _, H, I, rfl, ?_⟩
    rw [show its.toArray.any (eqU x) = its.any (eqU x) by simp, any_eqU r fs]
    exact q
  · obtain ⟨its, r, pl, hz⟩ := I.tuple hq
    refine SeqAt.in_tupleAt (eqU x) pl (fun w hw => mem_eqAt rx fx r fs w (by simpa using hw)) ⟨.bl _, H, I, rfl, ?_⟩
    rw [show its.toArray.any (eqU x) = its.any (eqU x) by simp, any_eqU r fs]
    exact q

/-! ### len, list(x), tuple(x) of any list or tuple that is read -/
theorem call_len_seq : CallR X (.builtin "len") (fun xs H Q => ∃ p ys, xs = [.ref p] ∧ (SqL X.K H p ys ∨ SqT X.K H p ys) ∧ Q (.int ys.length) H) := by
  intro pins s σ H xs us Q I r h
  obtain ⟨p, ys, rfl, hq, q⟩ := h
  obtain ⟨u, rfl, rx⟩ := vals1 r
  cases rx
  have hn := line63
  rcases hq with hq | hq
  · obtain ⟨its, r', pl, hz⟩ := I.list hq
    have hlen := r'.length
    exact Calls.call_len_list pl.isList (by simp only [List.size_toArray] <;> omega) ⟨.int ys.length, H, I.tok _, ⟨s.toks + 1, by rw [List.size_toArray, hlen]⟩, q⟩
  · obtain ⟨its, r', pl, hz⟩ := I.tuple hq
    have hlen := r'.length
    exact len_tuple pl (by simp only [List.size_toArray] <;> omega) ⟨.int ys.length, H, I.tok _, ⟨s.toks + 1, by rw [List.size_toArray, hlen]⟩, q⟩
theorem call_list_of : CallR X (.type "list") (fun xs H Q => ∃ p ys, xs = [.ref p] ∧ (SqL X.K H p ys ∨ SqT X.K H p ys) ∧ ∀ l, H l = none → Q (.ref l) (upd H l (.lst ys))) := by
  intro pins s σ H xs us Q I r h
  obtain ⟨p, ys, rfl, hq, q⟩ := h
  obtain ⟨u, rfl, rx⟩ := vals1 r
  cases rx
  have fin : ∀ (its : List Value), Vals ys its → ys.length ≤ sizeLine → ∀ (h' : Heap) (c' : Nat), (∀ b o', s.heap.get? b = some o' → h'.get? b = some o') →
      h'.get? s.heap.objs.size = some { cls := .type "list", dict := none, data := .seq its.toArray c', slots := #[] } → EP X pins σ Q (.ref s.heap.objs.size) { s with heap := h' } := fun its r' hz h' c' kp e =>
    ⟨.ref s.heap.objs.size, _, I.laid (t' := s.toks) kp (Nat.le_refl _) (show ObjOk X.prog X.w _ h' _ (.lst ys) from ⟨hz, its, c', r', e⟩), rfl, q _ (I.hok.fresh (Nat.le_refl _))⟩
  rcases hq with hq | hq
  · obtain ⟨its, r', pl, hz⟩ := I.list hq
    have hlen := r'.length
    obtain ⟨o, ho, hc, n, hd⟩ := pl.isList
    exact call_list_seq p (.inl rfl) ho hc hd (fun h' c' kp e => fin its r' hz h' c' kp e) (by simp only [List.size_toArray] <;> omega)
  · obtain ⟨its, r', pl, hz⟩ := I.tuple hq
    have hlen := r'.length
    obtain ⟨o, ho, hc, n, hd⟩ := pl
    exact call_list_seq p (.inr rfl) ho hc hd (fun h' c' kp e => fin its r' hz h' c' kp e) (by simp only [List.size_toArray] <;> omega)
theorem call_tuple_of : CallR X (.type "tuple") (fun xs H Q => ∃ p ys, xs = [.ref p] ∧ ((SqL X.K H p ys ∧ ∀ l, H l = none → Q (.ref l) (upd H l (.tup ys))) ∨ (SqT X.K H p ys ∧ Q (.ref p) H))) := by
  intro pins s σ H xs us Q I r h
  obtain ⟨p, ys, rfl, h⟩ := h
  obtain ⟨u, rfl, rx⟩ := vals1 r
  cases rx
  rcases h with ⟨hq, q⟩ | ⟨hq, q⟩
  · obtain ⟨its, r', pl, hz⟩ := I.list hq
    have hlen := r'.length
    refine call_tuple_list pl.isList (fun h' kp => ?_) (by simp only [List.size_toArray] <;> omega)
    have I1 : Inv X pins σ H { s with heap := h' } := I.kept (t' := s.toks) kp
    have I2 : Inv X pins σ (upd H h'.objs.size (.tup ys)) { s with heap := h'.push { cls := .type "tuple", data := .seq its.toArray } } :=
      I1.laid (t' := s.toks) (fun b o e => Heap.get?_push_of_some _ e) (Nat.le_refl _) (show ObjOk X.prog X.w _ _ _ (.tup ys) from ⟨hz, its, r', IsTupN.new _ _⟩)
    exact ⟨.ref h'.objs.size, _, I2, rfl, q _ (I1.hok.fresh (Nat.le_refl _))⟩
  · obtain ⟨its, r', pl, hz⟩ := I.tuple hq
    exact call_tuple_same pl ⟨.ref p, H, I, rfl, q⟩

/-! ### the call of a builtin's method: o.m(..) -/
/-- the value is of that builtin type -/
def tyV (K : PySem.W.Frag) (T : String) (x : V) (H : Hp) : Prop := match x with
  | .str _ => T = "str"
  | .int _ => T = "int"
  | .ref p => (T = "list" ∧ ∃ xs, SqL K H p xs) ∨ (T = "tuple" ∧ ∃ o, K.lookup p = some o ∧ o.cls = .type "tuple" ∧ o.dict = none) ∨
      (T = "dict" ∧ ((∃ kvs, H p = some (.dK kvs)) ∨ ∃ kvs, H p = some (.dT kvs))) ∨ (T = "set" ∧ ∃ S n, H p = some (.set S n))
  | _ => False
theorem tyV_is {pins : List (Addr × Obj)} {σ : St} {H : Hp} {s : Shared} {T : String} {x : V} {v : Value} (I : Inv X pins σ H s) (r : RelV x v) (ty : tyV X.K T x H) :
    s.TypeIs v T ∧ ∀ a, v = .ref a → ∃ ob, s.heap.get? a = some ob ∧ ob.dict = none := by
  cases x with
  | str z =>
    obtain ⟨t, rfl⟩ := r
    cases (show T = "str" from ty)
    exact ⟨typeIs_str s z t, fun _ e => nomatch e⟩
  | int i =>
    obtain ⟨t, rfl⟩ := r
    cases (show T = "int" from ty)
    exact ⟨typeIs_int s i t, fun _ e => nomatch e⟩
  | ref p =>
    cases r
    rcases ty with ⟨rfl, xs, hq⟩ | ⟨rfl, o, hk, hc, hd⟩ | ⟨rfl, hk⟩ | ⟨rfl, S, n, hk⟩
    · obtain ⟨its, _, pl, _⟩ := I.list hq
      refine ⟨pl.isList.typeIs, fun a e => ?_⟩
      cases e
      obtain ⟨o, n, e, c, hd, _⟩ := pl
      exact ⟨o, e, hd⟩
    · refine ⟨⟨o, I.kIn p o hk, hc⟩, fun a e => ?_⟩
      cases e
      exact ⟨o, I.kIn _ o hk, hd⟩
    · have z : ∃ o, s.heap.get? p = some o ∧ o.ExactDict := by
        rcases hk with ⟨kvs, hk⟩ | ⟨kvs, hk⟩
        · obtain ⟨_, _, _, _, o, _, _, e, ex, _⟩ := I.hok p _ hk
          exact ⟨o, e, ex⟩
        · obtain ⟨_, _, _, _, o, _, _, e, ex, _⟩ := I.hok p _ hk
          exact ⟨o, e, ex⟩
      obtain ⟨o, e, ex⟩ := z
      refine ⟨⟨o, e, ex.1⟩, fun a e2 => ?_⟩
      cases e2
      exact ⟨o, e, ex.2.1⟩
    · obtain ⟨o, _, _, _, e, ex, _⟩ := I.hok p _ hk
      refine ⟨⟨o, e, ex.1⟩, fun a e2 => ?_⟩
      cases e2
      exact ⟨o, e, ex.2.1⟩
  | _ => exact False.elim ty
def tBM0 (K : PySem.W.Frag) (T : String) (r : V → List V → Hp → VK → Prop) (to : TE) : TE := fun σ H Q => to σ H fun x H1 => tyV K T x H1 ∧ r x [] H1 Q
def tBM (K : PySem.W.Frag) (T : String) (r : V → List V → Hp → VK → Prop) (to : TE) (t : TA) : TE := fun σ H Q => to σ H fun x H1 => tyV K T x H1 ∧ t σ H1 fun xs H2 => r x xs H2 Q
variable {o e : Expr} {es : List Expr} {to : TE} {t : TA} {name : Str} {apos cpos : Pos} {T id : String} {r : V → List V → Hp → VK → Prop}
theorem pe_bm0 (pa : PlainAttrs T) (slot : Slot T name id) (hty : typeOf (.builtin id) = pure (.type "method_descriptor")) (hm : MtR X id r) (ho : PE X o to)
    (hbase : attributeBase o name X.env (eval o X.env) = eval o X.env := by rfl) (hline : (apos.endLine == cpos.line) = true := by rfl) : PE X (.Call (.Attribute o name apos) [] [] cpos) (tBM0 X.K T r to) := by
  intro pins s σ H Q I h
  refine wpAny_Call_method0_late hbase hline (thn (ho pins s σ H _ I h) fun v s1 ⟨x, H1, I1, r1, ty, q1⟩ => ?_)
  obtain ⟨h1, h2⟩ := tyV_is I1 r1 ty
  exact ⟨T, id, pa, slot, hty, h1, h2, Calls.callWith_builtin rfl (PySem.evalArgs_none (hm pins s1 σ H1 x [] v [] Q I1 r1 .nil q1))⟩
theorem pe_bm (pa : PlainAttrs T) (slot : Slot T name id) (hty : typeOf (.builtin id) = pure (.type "method_descriptor")) (hm : MtR X id r) (ho : PE X o to) (ha : PA X (e :: es) t)
    (hbase : attributeBase o name X.env (eval o X.env) = eval o X.env := by rfl)
    (hfew : ((backTo cpos (starEach (e :: es) X.env)).all (fun x => !x.1) && (backToKw cpos (keywordEach [] X.env)).all (fun x => x.1.isSome)
      && decide ((e :: es).length + ([] : List Keyword).length + (if ([] : List Keyword).isEmpty then 0 else 1) < 30)) = true := by rfl)
    (hline : (apos.endLine == cpos.line) = true := by rfl) (hs : starEach (e :: es) X.env = (false, eval e X.env) :: starEach es X.env := by rfl) (hplain : (backTo cpos (starEach es X.env)).any (·.1) = false := by rfl) :
    PE X (.Call (.Attribute o name apos) (e :: es) [] cpos) (tBM X.K T r to t) := by
  intro pins s σ H Q I h
  refine wpAny_Call_method_late hbase hfew hline rfl (thn (ho pins s σ H _ I h) fun v s1 ⟨x, H1, I1, r1, ty, q1⟩ => ?_)
  obtain ⟨h1, h2⟩ := tyV_is I1 r1 ty
  refine ⟨T, id, pa, slot, hty, h1, h2, ?_⟩
  have hA := ha cpos pins s1 σ H1 _ I1 q1
  rw [hs] at hA ⊢
  refine Calls.callWith_builtin (by show (false || (backTo cpos (starEach es X.env)).any (·.1)) = false; rw [hplain] <;> rfl) (Calls.evalArgs_plain ?_)
  exact thn hA fun us s2 ⟨vs, H2, I2, r2, q2⟩ => hm pins s2 σ H2 x vs v us Q I2 r1 r2 q2
/- xs.append(e), list.index on a module's tuple .. are MtR facts of 06m -/
end
end L2

namespace L2
open PySem PySem.Spec PyProof.Rows

def MtM (X : Cx) (id : String) (r : V → List V → Hp → VK → Prop) : Prop :=
  ∀ (pins : List (Addr × Obj)) (s : Shared) (σ : St) (H : Hp) (x : V) (xs : List V) (v : Value) (us : List Value) (Q : VK), Inv X pins σ H s → RelV x v → Vals xs us → r x xs H Q →
    wpAny (model X.prog X.w) X.A (call (.builtin id) (v :: us)) (EP X pins σ Q) X.xe s

/-! ### lists of values -/
theorem Vals.one : ∀ {x : V} {us : List Value}, Vals [x] us → ∃ u, us = [u] ∧ RelV x u
  | _, _, .cons r .nil => ⟨_, rfl, r⟩

section
variable {X : Cx} {pins : List (Addr × Obj)} {σ : St} {H : Hp} {s : Shared} {l b : Addr} {xs ys zs : List V}

/-! ### the two steps: a tracked list is rewritten, a new list is laid -/
theorem Inv.lset {its its' : List Value} {n : Nat} {f : Array Value → Array Value} {t' : Nat} (I : Inv X pins σ H s) (hH : H l = some (.lst xs))
    (e : s.heap.get? l = some { cls := .type "list", data := .seq its.toArray n }) (hf : f its.toArray = its'.toArray) (hv : Vals ys its') (hz : ys.length ≤ sizeLine) :
    Inv X pins σ (upd H l (.lst ys)) { s with heap := s.heap.update l (Obj.mapSeq f), toks := t' } := by
  have q := PySem.IsL.update e f
  rw [hf] at q
  refine I.write (x := l) (e := l) (by rw [hH]; exact trivial) (.inl rfl) (fun b' u hb hu => (Heap.get?_update_other s.heap (Obj.mapSeq f) (Ne.symm hb)).trans hu) ⟨_, q⟩ ?_
  exact ⟨hz, its', _, hv, q⟩
theorem Inv.lnew {its : List Value} {t' : Nat} (I : Inv X pins σ H s) (hv : Vals ys its) (hz : ys.length ≤ sizeLine) :
    Inv X pins σ (upd H s.heap.objs.size (.lst ys)) { s with heap := s.heap.push { cls := .type "list", data := .seq its.toArray }, toks := t' } :=
  I.laid (fun _ _ q => Heap.get?_push_of_some _ q) (Nat.le_refl _) ⟨hz, its, 0, hv, Heap.get?_push_size _ rfl⟩
theorem Inv.fresh (I : Inv X pins σ H s) : H s.heap.objs.size = none := I.hok.fresh (Nat.le_refl _)
theorem Inv.lstM (I : Inv X pins σ H s) (hH : H l = some (.lst xs)) : xs.length ≤ sizeLine ∧ ∃ (its : List Value) (n : Nat), Vals xs its ∧ xs.length = its.length ∧ s.heap.get? l = some { cls := .type "list", data := .seq its.toArray n } := by
  obtain ⟨z, its, n, r, e⟩ := I.hok l _ hH
  exact ⟨z, its, n, r, r.length, e⟩

theorem notLongL {n : Nat} (h : n ≤ sizeLine) : Builtin.List.listTooLong n = false := by
  unfold Builtin.List.listTooLong
  exact decide_eq_false (by omega)
end

section
variable {X : Cx}

/-! ### methods -/
def rAppend : V → List V → Hp → VK → Prop := fun x vs H Q => ∃ l xs y, x = .ref l ∧ vs = [y] ∧ H l = some (.lst xs) ∧ xs.length < sizeLine ∧ Q .non (upd H l (.lst (xs ++ [y])))
theorem mt_append : MtM X "list.append" rAppend := by
  intro pins s σ H x vs v us Q I rx rv h
  obtain ⟨l, xs, y, rfl, rfl, hH, hz, q⟩ := h
  cases rx
  obtain ⟨u, rfl, ru⟩ := rv.one
  obtain ⟨z, its, n, r, hl, e⟩ := I.lstM hH
  refine call_meets F.slot_list_append ⟨_, e, rfl⟩ F.entry_list_append (F.args_list_append_2 _ _) (PySem.list_append l its.toArray n u (by rw [List.size_toArray]; omega)) ⟨e, ?_⟩
  refine ⟨.non, _, I.lset (its' := its ++ [u]) hH e (by simp) (r.append (.cons ru .nil)) ?_, rfl, q⟩
  rw [List.length_append, List.length_singleton]
  omega

def rExtend : V → List V → Hp → VK → Prop := fun x vs H Q => ∃ l b xs zs, x = .ref l ∧ vs = [.ref b] ∧ H l = some (.lst xs) ∧ H b = some (.lst zs) ∧ xs.length + zs.length ≤ sizeLine ∧ Q .non (upd H l (.lst (xs ++ zs)))
theorem mt_extend : MtM X "list.extend" rExtend := by
  intro pins s σ H x vs v us Q I rx rv h
  obtain ⟨l, b, xs, zs, rfl, rfl, hH, hB, hz, q⟩ := h
  cases rx
  obtain ⟨u, rfl, ru⟩ := rv.one
  cases ru
  obtain ⟨z, its, n, r, hl, e⟩ := I.lstM hH
  obtain ⟨z2, its2, n2, r2, hl2, e2⟩ := I.lstM hB
  have hsz : its.toArray.size + its2.toArray.size ≤ sizeLine := by rw [List.size_toArray, List.size_toArray]; omega
  have hlong : ¬ (!its.toArray.isEmpty && Builtin.List.listTooLong (its.toArray.size + its2.toArray.size)) = true := by
    rw [notLongL hsz, Bool.and_false]
    exact Bool.false_ne_true
  refine call_meets F.slot_list_extend ⟨_, e, rfl⟩ F.entry_list_extend (F.args_list_extend_2 _ _)
    (AutoSeq1.list_extend_list_list_0 l its.toArray n b its2.toArray n2 hlong (by rw [List.size_toArray]; omega) (by omega)) ⟨e, e2, ?_⟩
  refine ⟨.non, _, I.lset (its' := its ++ its2) hH e (by simp) (r.append r2) ?_, rfl, q⟩
  rw [List.length_append]
  omega

def rPop : V → List V → Hp → VK → Prop := fun x vs H Q => ∃ l xs y, x = .ref l ∧ vs = [] ∧ H l = some (.lst xs) ∧ xs[xs.length - 1]? = some y ∧ Q y (upd H l (.lst xs.dropLast))

def rPopAt : V → List V → Hp → VK → Prop := fun x vs H Q => ∃ l xs i k y, x = .ref l ∧ vs = [.int i] ∧ H l = some (.lst xs) ∧ -(2 ^ 63) ≤ i ∧ i < 2 ^ 63 ∧ seqIndex? i xs.length = some k ∧ xs[k]? = some y ∧ Q y (upd H l (.lst (xs.eraseIdx k)))

def rReverse : V → List V → Hp → VK → Prop := fun x vs H Q => ∃ l xs, x = .ref l ∧ vs = [] ∧ H l = some (.lst xs) ∧ Q .non (upd H l (.lst xs.reverse))

def rClear : V → List V → Hp → VK → Prop := fun x vs H Q => ∃ l xs, x = .ref l ∧ vs = [] ∧ H l = some (.lst xs) ∧ Q .non (upd H l (.lst []))

/-! ### list + list, list += list, list * int -/
def rCat : R2 := fun x y H Q => ∃ l b xs zs, x = .ref l ∧ y = .ref b ∧ H l = some (.lst xs) ∧ H b = some (.lst zs) ∧ xs.length + zs.length ≤ sizeLine ∧ ∀ p, H p = none → Q (.ref p) (upd H p (.lst (xs ++ zs)))
theorem op_cat : OpR X (binaryOp .Add) rCat := by
  intro pins s σ H x y v u Q I rx ry h
  obtain ⟨l, b, xs, zs, rfl, rfl, hH, hB, hz, q⟩ := h
  cases rx
  cases ry
  obtain ⟨z, its, n, r, hl, e⟩ := I.lstM hH
  obtain ⟨z2, its2, n2, r2, hl2, e2⟩ := I.lstM hB
  refine PySem.P.add_list e e2 ?_ (by rw [List.size_toArray, List.size_toArray]; omega)
  have ea : its.toArray ++ its2.toArray = (its ++ its2).toArray := by simp
  rw [ea]
  exact ⟨.ref _, _, I.lnew (t' := s.toks) (r.append r2) (by rw [List.length_append]; omega), rfl, q _ I.fresh⟩
/-- a list times an int (a negative one is nothing) -/
def rRep : R2 := fun x y H Q => ∃ l k xs, x = .ref l ∧ y = .int k ∧ H l = some (.lst xs) ∧ -(2 ^ 63) ≤ k ∧ k < 2 ^ 63 ∧ xs.length * k.toNat ≤ sizeLine ∧
  ∀ p, H p = none → Q (.ref p) (upd H p (.lst (List.replicate k.toNat xs).flatten))

/-! ### del xs[i] -/
end

/-! ### xs[a:b] = ys -/
section
variable {prog : Program} {w : World} {A : Around} {E : Value → Shared → Prop} {s : Shared}
set_option maxRecDepth 100000 in
end

section
variable {X : Cx}
end
end L2

namespace Att
open PySem PySem.W PySem.Calls PyProof.Rows

/-! ### the script -/
theorem ints_of_wellAll {P : Params} {h : Heap} : ∀ (ns : List Int) (vs : List Value), WellAll P h vs (ns.map WData.int) → IntsAre vs ns := by
  intro ns
  induction ns with
  | nil =>
    intro vs w
    rw [List.map_nil] at w
    cases w
    exact .nil
  | cons n ns ih =>
    intro vs w
    rw [List.map_cons] at w
    cases w with
    | cons a b =>
      cases a
      exact .cons _ _ (ih _ b)

theorem script_of {l : OpenLaw} {n : Nat} (hn : l.most = some n) {P : Params} {h : Heap} {args : List WData} {vals : List Value}
    (hpre : l.row.toRowW.claim.pre args = true) (hwl : WellAll P h vals args) :
    ∃ a vs ns, vals = [Value.ref a] ∧ args = [WData.list (ns.map WData.int)] ∧ h.get? a = some { cls := .type "list", data := .seq vs.toArray } ∧ IntsAre vs ns ∧ ns.length ≤ n := by
  have hsh : WShape.hasAll [] args [.list .int] = true := (pre_splitW hpre).1
  have hc : l.pre.holds [] { args := args } = true := (pre_splitW hpre).2
  obtain ⟨d, r, rfl, h1, h2⟩ := hasAllW_cons hsh
  obtain rfl := hasAllW_nil h2
  obtain ⟨xs, rfl, h3⟩ := hasW_list h1
  obtain ⟨ns, rfl⟩ := items_int h3
  have hlen : ns.length ≤ n := by
    unfold OpenLaw.pre at hc
    have h4 : (WTm.not (.lt (.lit (.int (n : Int))) (.len (.arg 0)))).holds [] { args := [.list (ns.map .int)] } = true := by
      have h4 := (holds_andW hc).1
      rw [hn] at h4
      exact h4
    have h5 := condW_of h4 (w_not (w_lt w_lit (w_len_list (w_arg rfl))))
    rw [List.length_map] at h5
    refine Nat.le_of_not_lt fun q => ?_
    have q' : (n : Int) < ((ns.length : Nat) : Int) := by omega
    first
      | (rw [decide_eq_true q'] at h5; exact absurd h5 (by decide))
      | (simp at h5; omega)
  cases hwl with
  | cons w1 w2 =>
    cases w2
    cases w1 with
    | list ho hall => exact ⟨_, _, ns, rfl, rfl, ho, ints_of_wellAll ns _ hall, hlen⟩

theorem post_true (l : OpenLaw) (args : List WData) : l.row.toRowW.claim.post args (.bool true) args = true :=
  postW_of (r := l.row.toRowW) (X := (true == true))
    (show WShape.has [] (.bool true) .bool = true by first | rfl | decide | simp [WShape.has, WShape.arms, WShape.armsAll])
    (show (WTm.eq .res (.lit (.bool true))).value [] { args := args, res := some (.bool true), after := args } = some (.bool (true == true)) from w_eq_bool (w_res rfl) w_lit) rfl

/-! ### the attachment: holds_open's last premise (the goal 'hc' behind k_head) from a wpAny of the law's body -/

/-- the same from a codeAny of the CALL (for a layer whose function contracts speak of calls) -/
theorem attach_call {l : OpenLaw} {n : Nat} {q : Program} {loose : List Str} {XP : (Str → Option Value) → Heap → Prop} {YP : World → Heap → Prop} {d : DefRec}
    (hn : l.most = some n) (hdf : d.params.defaults = [])
    (call : ∀ (w : World) (s₀ s₁ : Shared) (mg mb : Str → Option Value) (fa : Addr) (o : Obj) (pm cd doc : Value) (a : Addr) (vs : List Value) (ns : List Int),
      Ground q loose [] XP w s₀ mg mb s₁.heap → YP w s₁.heap →
      s₁.heap.get? fa = some o → o.data = .func (docDef d.name d.params d.body d.scope pm cd doc) → s₁.heap.CodeRec cd d.name → mg d.name = some (.ref fa) →
      s₁.heap.get? a = some { cls := .type "list", data := .seq vs.toArray } → IntsAre vs ns → ns.length ≤ n → s₁.gens = #[] →
      codeAny (model l.prog w) callerA (.call (.ref fa) ⟨[.ref a], []⟩) (fun r s' => r = .ok (.ret (.bool true)) ∧ OldK s₁.heap s'.heap ∧ s'.os = s₁.os ∧ AllBare s'.gens) s₁) :
    WalkO q loose XP YP l.row.toRowW d [] (fun f vs => PySem.call f vs) := by
  intro w s₀ s₁ mg mb G Y fa o pm cd doc dV kV ho hd hcd hD hmg hg args vals as hpre hlay hrd hwl hlo
  obtain rfl : dV = .none := Dflts.none hD hdf
  obtain rfl : kV = .none := Dflts.noKw hD
  obtain ⟨a, vs, ns, rfl, rfl, hobj, hints, hlen⟩ := script_of hn hpre hwl
  refine enter_call (codeAny_mono (call w s₀ s₁ mg mb fa o pm cd doc a vs ns G Y ho (fd_plain hd) hcd hmg hobj hints hlen hg) fun r s' hq => ?_)
  obtain ⟨rfl, h2, h3, h4⟩ := hq
  exact ⟨.inl ⟨.bool true, .bool true, [], rfl, fun _ => rfl, .bool true, post_true l _, fun _ => ⟨List.Pairwise.nil, fun _ hm => (nomatch hm)⟩⟩, h2, h3, h4⟩


/-! ### rules over ANY heap (no ledger) from facts about the written part K: the library's own take a ledger (News) for what they write -/
section
variable {prog : Program} {w : World} {A : Around} {E : Value → Shared → Prop} {s : Shared} {K : Frag}





/-! the whole heap as the ledger: makes every rule that writes through a ledger a rule over any heap -/
def noObjs (h : Heap) : Heap := { h with objs := #[] }
def ledger (h : Heap) (L d : Addr) : List (Addr × Obj) := (List.range h.objs.size).filterMap fun a => if a = L ∨ a = d then none else (h.get? a).map fun o => (a, o)

end
end Att

namespace L2
open PySem PySem.Spec PyProof.Rows

theorem vals_ints : ∀ {vs : List Value} {ns : List Int}, IntsAre vs ns → Vals (ns.map V.int) vs
  | _, _, .nil => .nil
  | _, _, .cons n t h => .cons ⟨t, rfl⟩ (vals_ints h)

/-- nothing is tracked but the script, known to the object (or it is an object of the module) -/
def Only (H : Hp) : Prop := ∀ b, H b = none ∨ ∃ o xs, H b = some (.frz o (.lst xs))

/-- THE HEAD: the law's promise, at the heap behind the top. F, the promise of the law's def, may use that base is part of the heap (so K.In base, base.Ns mainGlobals mg stand in Mod) -/
theorem law_call {P : Program} {w : World} {K : PySem.W.Frag} {mg mb : Str → Option Value} {CX : CXT} {k : Nat} {fa a : Addr} {fd : FuncData} {x : Str} {sp : Sp} {s₁ : Shared} {vs : List Value} {ns : List Int}
    (KX : K.In s₁.heap) (hns : s₁.heap.Ns mainGlobals mg) (hb : s₁.heap.Ns builtinsNs mb) (hbb : ∀ x : Str, x ≠ "__name__" → mb x = bootBuiltins x) (hlim : s₁.heap.NoLimit) (hg : s₁.gens = #[])
    (ha : s₁.heap.get? a = some { cls := .type "list", data := .seq vs.toArray }) (hi : IntsAre vs ns) (hl : ns.length ≤ sizeLine) (hr : Room k callerA)
    (F : ∀ base : Heap, K.In base → base.Ns mainGlobals mg → FnOk P w K mg base CX k fa fd [x] sp) (hbind : ∀ (s : Shared) (u : Value), BindsTo s fd ⟨[u], []⟩ [(x, u)])
    (hsp : ∀ H : Hp, Only H → SqL K H a (ns.map V.int) → sp [.ref a] H (fun v _ => v = .bl true) fun _ _ _ => False)
    (hCX : ∀ H e s', CX [] H s₁ (fun _ _ _ => False) e s' → False) :
    codeAny (model P w) callerA (.call (.ref fa) ⟨[.ref a], []⟩) (fun r s' => r = .ok (.ret (.bool true)) ∧ OldK s₁.heap s'.heap ∧ s'.os = s₁.os ∧ AllBare s'.gens) s₁ := by
  have rv := vals_ints hi
  have lenV := hi.length
  -- from an abstract heap in which nothing but the script may be tracked
  have core : ∀ H : Hp, Only H → SqL K H a (ns.map V.int) → HOk P w H s₁.heap → (∀ b, H b ≠ none → b = a) → (H a ≠ none → K.lookup a = none) →
      codeAny (model P w) callerA (.call (.ref fa) ⟨[.ref a], []⟩) (fun r s' => r = .ok (.ret (.bool true)) ∧ OldK s₁.heap s'.heap ∧ s'.os = s₁.os ∧ AllBare s'.gens) s₁ := by
    intro H hO hS hok hA hK
    have base_of : ∀ {b : Addr} {o : Obj}, s₁.heap.get? b = some o → H b = none → (hidT s₁.heap H).get? b = some o := fun e n => hidT_get e n
    have noA : ∀ {b : Addr} {o : Obj} {es : Array DictEntry} {ep : Nat}, s₁.heap.get? b = some o → o.data = .dict es ep → H b = none := fun {b o es ep} e d => by
      cases q : H b with
      | none => rfl
      | some u =>
        have e' : b = a := hA b (by rw [q]; simp)
        subst e'
        rw [ha] at e; cases e
        have d' : Data.seq vs.toArray _ = Data.dict es ep := d
        cases d'
    have nsK : ∀ {b : Addr} {m : Str → Option Value}, s₁.heap.Ns b m → (hidT s₁.heap H).Ns b m := fun {b m} ⟨o, es, ep, e, d, r⟩ => ⟨o, es, ep, base_of e (noA e d), d, r⟩
    have hKb : K.In (hidT s₁.heap H) := fun b o e => base_of (KX b o e) (by
      cases q : H b with
      | none => rfl
      | some u =>
        have e' : b = a := hA b (by rw [q]; simp)
        subst e'
        rw [hK (by rw [q]; simp)] at e; cases e)
    have hM : Mod K mg (hidT s₁.heap H) := ⟨hKb, nsK hns, ⟨mb, nsK hb, hbb⟩, let ⟨mc, h1, h2⟩ := hlim; ⟨mc, nsK h1, h2⟩⟩
    have e0 : Env0 P w K mg (hidT s₁.heap H) callerA [] s₁ H := ⟨rfl, hM, fun b o e => of_hidT e, Nat.le_of_eq (hidT_size _ _), trivial, fun b hb => absurd (show b ∈ ([] : List Addr) from hb) (by simp), hok, .of_eq hg⟩
    refine codeAny_mono ((F _ hKb (nsK hns)).run callerA [] s₁ H ⟨[.ref a], []⟩ [.ref a] [.ref a] _ _ hr e0 (hbind s₁ (.ref a)) (.cons rfl .nil) (hsp H hO hS)) fun r s' h => ?_
    cases r with
    | error e => exact (hCX H e s' h).elim
    | ok fl =>
      cases fl with
      | next => exact False.elim h
      | brk => exact False.elim h
      | cont => exact False.elim h
      | ret u =>
        obtain ⟨v, H', os, bare, un, hok', r', q⟩ := h
        have q' : v = .bl true := q
        subst q'
        obtain rfl : u = Value.bool true := r'
        refine ⟨rfl, OldK.of_keep fun b o e => ?_, os, bare⟩
        cases q : H b with
        | none => exact un.keep b o e q (by intro z; exact absurd (show b ∈ ([] : List Addr) from z) (by simp)) (by simp)
        | some u =>
          rcases hO b with z | ⟨ob, xs, z⟩
          · rw [q] at z; cases z
          · have z2 := un.frzs b ob _ z
            obtain ⟨e1, _⟩ := hok b _ z
            obtain ⟨e2, _⟩ := hok' b _ z2
            rw [e] at e1; cases e1
            exact e2
  cases hk : K.lookup a with
  | some o =>
    -- the script is one of the module's own objects
    have e := KX a o hk
    rw [ha] at e
    cases e
    refine core (fun _ => none) (fun _ => .inl rfl) (.inr ⟨_, vs.toArray, _, hk, rfl, rfl, rfl, by rw [List.size_toArray, lenV]; exact hl, by simpa using rv⟩) (fun b u z => by have z' : (none : Option HO) = some u := z; cases z') (fun b z => absurd rfl z) fun z => absurd rfl z
  | none =>
    refine core (fun b => if b = a then some (.frz { cls := .type "list", data := .seq vs.toArray } (.lst (ns.map V.int))) else none) (fun b => ?_) (.inl (.inr ⟨{ cls := .type "list", data := .seq vs.toArray }, if_pos rfl⟩)) (fun b u z => ?_) (fun b z => ?_) fun _ => hk
    · by_cases hb : b = a
      · exact .inr ⟨_, _, if_pos hb⟩
      · exact .inl (if_neg hb)
    · by_cases hb : b = a
      · have z' := (if_pos hb).symm.trans z
        cases z'
        subst hb
        exact ⟨ha, by rw [List.length_map]; exact hl, vs, _, rv, ha⟩
      · have z' := (if_neg hb).symm.trans z
        cases z'
    · by_cases hb : b = a
      · exact hb
      · exact absurd (if_neg hb) z
end L2

namespace L2
open PySem PySem.Spec PyProof.Rows

abbrev KOf {K : PySem.W.Frag} {h : Heap} (_ : K.In h) : PySem.W.Frag := K

/-- the goal that k_head leaves (case hc), from the law's promise. F gives the function object fd (K's own) once, then the promise over every base -/
theorem walk_of {l : PySem.W.OpenLaw} {n k : Nat} {q : Program} {loose : List Str} {XP : (Str → Option Value) → Heap → Prop} {YP : World → Heap → Prop} {d : DefRec} {K : Params → PySem.W.Frag} {CX : World → CXT} {sp : World → Sp} {x : Str}
    (hn : l.most = some n) (hn2 : n ≤ sizeLine) (hdf : d.params.defaults = []) (hr : Room k callerA)
    (hY : ∀ (w : World) (h : Heap), YP w h → (K w.params).In h)
    (F : ∀ (w : World) (mg : Str → Option Value) (fa : Addr) (h : Heap), (K w.params).In h → h.Ns mainGlobals mg → mg d.name = some (.ref fa) →
      ∃ fd : FuncData, (∀ (s : Shared) (u : Value), BindsTo s fd ⟨[u], []⟩ [(x, u)]) ∧
        ∀ base : Heap, (K w.params).In base → base.Ns mainGlobals mg → FnOk l.prog w (K w.params) mg base (CX w) k fa fd [x] (sp w))
    (hsp : ∀ (w : World) (H : Hp) (a : Addr) (ns : List Int), ns.length ≤ n → Only H → SqL (K w.params) H a (ns.map V.int) → sp w [.ref a] H (fun v _ => v = .bl true) fun _ _ _ => False)
    (hCX : ∀ (w : World) (H : Hp) (s : Shared) (e : Value) (s' : Shared), CX w [] H s (fun _ _ _ => False) e s' → False) :
    PySem.W.WalkO q loose XP YP l.row.toRowW d [] (fun f vs => PySem.call f vs) := by
  refine Att.attach_call hn hdf fun w s₀ s₁ mg mb fa o pm cd doc a vs ns G Y ho hd hcd hmg hobj hints hlen hg => ?_
  have KX := hY w _ Y
  obtain ⟨fd, hb, hF⟩ := F w mg fa _ KX G.T.g hmg
  exact law_call KX G.T.g G.T.b G.T.builtins G.T.nolimit hg hobj hints (Nat.le_trans hlen hn2) hr hF hb (fun H hO hS => hsp w H a ns hlen hO hS) fun H e s' => hCX w H s₁ e s'
end L2

/- THE LAST THEOREM (shape; LID, My.* are yours):
   My.Adr: a structure of the addresses that your layer names (classes, functions); My.Txt K t: a structure (Prop) of the equations over K;
   My.txt_mk : {K} {implicit addresses ..} (e1 : nsIn K mainGlobals "law" = some (some (.ref f))) (e2 : K.lookup f = some ⟨oc, od, .func (fnOf "law" "law" params body scope dV kV doc pm an cdv ct), sl⟩) (e3 : codeIn K cdv "law" = true) .. : ∃ t, My.Txt K t

set_option maxRecDepth 100000 in
set_option maxHeartbeats 0 in
theorem PySem.Challenge.cw_LID_holds : PySem.Challenge.rw_LID.Holds := by
  w_on; o_law; k_head; (case hw => w_witness2)
  k_fill
  refine L2.walk_of (l := PySem.Challenge.rw_LID) (n := 63) (k := 40) (x := "script") (CX := fun w => ..) (sp := fun _ => My.sp_law) rfl (by decide) rfl ⟨rfl, by decide, by decide⟩ (fun w h Y => PySem.W.kIn_of Y) ?F ?S ?C
  case F =>
    intro w mg fa h KX G hmg
    have T : ∃ t, My.Txt (L2.KOf KX) t := by
      dsimp only [L2.KOf]                          -- K must stand as «<heap const> w.params» for k_is
      refine' My.txt_mk ?e1 ?e2 ?e3 ..
      (case e1 => PySem.W.k_is)                    -- in the order: a name -> its address -> its object -> its parts
      (case e2 => PySem.W.k_is)
      ..
    obtain ⟨t, T⟩ := T
    have e0 := hmg.symm.trans (PySem.W.mg_of KX G T.law)
    cases e0                                       -- fa is the law's own address
    exact ⟨_, fun s u => .of_eq rfl, fun base kb nb => My.law_fn T kb nb⟩     -- if «.of_eq rfl» comes too early: refine' ⟨_, ?b, fun base kb nb => My.law_fn T kb nb⟩; exact fun s u => .of_eq rfl
  case S => exact fun w H a ns hl hO hS => ..
  case C => exact ..
(the tactic k_is has no namespace: write k_is) -/

/-! SHORT WORDS over the layer: a def of the text, its body, what a loop and a test want. -/
namespace L2
open PySem PySem.Spec PyProof.Rows

/-! ### the text by places -/
/-- the j-th statement of a class's body -/
def inClass (s : Stmt) (j : Nat) : Stmt := match s with
  | .ClassDef _ _ _ body _ _ _ _ _ _ _ => body.getD j (.Pass ⟨0, 0, 0, 0⟩)
  | _ => .Pass ⟨0, 0, 0, 0⟩
def defArgs (s : Stmt) : Arguments := match s with
  | .FunctionDef _ a _ _ _ _ _ _ _ _ => a
  | _ => { posonlyargs := [], args := [], vararg := none, kwonlyargs := [], kw_defaults := [], kwarg := none, defaults := [] }
def defBody (s : Stmt) : List Stmt := match s with
  | .FunctionDef _ _ b _ _ _ _ _ _ _ => b
  | _ => []
def defScope (s : Stmt) : Scope := match s with
  | .FunctionDef _ _ _ _ _ _ sc _ _ _ => sc
  | _ => { kind := .function, names := [], isGenerator := false, isCoroutine := false }

/-! ### no exception leaves a def -/
abbrev CX0 : CXT := fun _ _ _ _ _ _ => False
abbrev E0 : XK := fun _ _ _ => False
theorem pass0 {X : Cx} : Passes CX0 X E0 := fun _ _ _ _ _ _ _ h => h.elim

/-! ### a def (or method) of the text as it stands behind the top -/
structure Fun (K : PySem.W.Frag) (x qual : Str) (st : Stmt) (f : Addr) (fd : FuncData) : Prop where
  ex : ∃ (oc : Value) (od : Option Addr) (kV doc pm : Value) (an : Option Addr) (cdv ct : Value) (osl : Array (Option Value)),
    fd = PySem.W.fnOf x qual (defArgs st) (defBody st) (defScope st) .none kV doc pm an cdv ct ∧ K.lookup f = some ⟨oc, od, .func fd, osl⟩ ∧ PySem.W.codeIn K cdv qual = true
  kp : PySem.W.keepIn K (.ref f) = true
section
variable {P : Program} {w : World} {K : PySem.W.Frag} {mg : Str → Option Value} {base : Heap}
/-- THE RULE for a def: its body as a term of rules, and the reading of that term -/
theorem Fun.ok {x qual : Str} {st : Stmt} {f : Addr} {fd : FuncData} {N ps : List Str} {k : Nat} {sp : Sp} (F : Fun K x qual st f fd) (S : FnScope N ps (defScope st)) (len : ∀ vs H Q E, sp vs H Q E → vs.length = ps.length)
    (hbody : ∀ (cdv : Value) (A : Around) (outer : List Env) (s : Shared) (H : Hp) (vs : List V) (Q : VK) (E : XK), Room k (A.deeper (envOfC qual (defScope st) s.heap.objs.size f cdv)) → sp vs H Q E →
      ∃ t, PSs (cxOf CX0 P w K mg base N qual (defScope st) f cdv A outer s H E).nox (defBody st) t ∧ t { nx := fun _ H' => Q .non H', rt := Q } (start N vs) H) : FnOk P w K mg base CX0 (k + 1) f fd ps sp := by
  obtain ⟨oc, od, kV, doc, pm, an, cdv, ct, osl, rfl, lk, hcd⟩ := F.ex
  refine fn_of lk hcd S len fun A outer s H vs Q E hr hsp => ?_
  obtain ⟨t, h, q⟩ := hbody cdv A outer s H vs Q E hr hsp
  exact ⟨t, h.nox, q⟩
/-- how its arguments bind (no defaults): h is «fun _ _ _ _ _ _ us hl => match us, hl with | [_, _], _ => rfl», one _ a parameter -/
theorem Fun.binds {x qual : Str} {st : Stmt} {f : Addr} {fd : FuncData} {ps : List Str} (F : Fun K x qual st f fd)
    (h : ∀ (kV doc pm : Value) (an : Option Addr) (cdv ct : Value) (us : List Value), us.length = ps.length → bindArgs (PySem.W.fnOf x qual (defArgs st) (defBody st) (defScope st) .none kV doc pm an cdv ct) ⟨us, []⟩ = pure (ps.zip us)) : Binds K fd ps [] := by
  obtain ⟨oc, od, kV, doc, pm, an, cdv, ct, osl, rfl, lk, hcd⟩ := F.ex
  exact .all (h kV doc pm an cdv ct)
theorem fun_mk {x qual : Str} {st : Stmt} {f : Addr} {oc : Value} {od an : Option Addr} {osl : Array (Option Value)} {kV doc pm cdv ct : Value} (l : K.lookup f = some ⟨oc, od, .func (PySem.W.fnOf x qual (defArgs st) (defBody st) (defScope st) .none kV doc pm an cdv ct), osl⟩)
    (c : PySem.W.codeIn K cdv qual = true) (k : PySem.W.keepIn K (.ref f) = true) : Fun K x qual st f (PySem.W.fnOf x qual (defArgs st) (defBody st) (defScope st) .none kV doc pm an cdv ct) := ⟨⟨oc, od, kV, doc, pm, an, cdv, ct, osl, rfl, l, c⟩, k⟩
end
theorem hu_of {A : Around} {k : Nat} (hr : Room k A) : A.units + 1 < cLine := Nat.lt_of_le_of_lt (Nat.add_le_add_left (by decide : 1 ≤ 64) _) hr.units

/-! ### expressions in short: the name that stands in the i-th slot -/
section
variable {X : Cx}
theorem pv (i : Nat) {x : Str} {pos : Pos} (hN : X.N[i]? = some x := by rfl) (hv : Vis X.env.scope x := by first | exact Or.inl rfl | exact Or.inr (Or.inl rfl) | exact Or.inr (Or.inr rfl)) (hd : (x == ("__debug__" : Str)) = false := by decide)
    (hcd : (x == ("__classdict__" : Str)) = false := by decide) : PE X (.Name x pos) (tVar i) := pe_var hN hv hd hcd
end

/-! ### tests -/
theorem iteF {A B : Prop} (h : B) : if false = true then A else B := by
  rw [if_neg Bool.false_ne_true]
  exact h
theorem iteT {A B : Prop} (h : A) : if true = true then A else B := by
  rw [if_pos rfl]
  exact h
theorem ite2 {c A B : Prop} [Decidable c] (h1 : c → A) (h2 : ¬ c → B) : if c then A else B := by
  by_cases h : c
  · rw [if_pos h]
    exact h1 h
  · rw [if_neg h]
    exact h2 h
theorem iteNS {c A B : Prop} [Decidable c] (hc : c) (h : B) : if (!decide c) = true then A else B := by
  rw [decide_eq_true hc]
  exact iteF h

/-! ### heaps -/
/-- all that was tracked is as it was -/
def Same (H H' : Hp) : Prop := ∀ b o, H b = some o → H' b = some o
theorem Same.refl (H : Hp) : Same H H := fun _ _ h => h
theorem Same.trans {H H1 H2 : Hp} (a : Same H H1) (b : Same H1 H2) : Same H H2 := fun c o h => b c o (a c o h)
theorem Same.free {H H' : Hp} (e : Same H H') {l : Addr} (h : H' l = Option.none) : H l = Option.none := by
  cases q : H l with
  | none => rfl
  | some o =>
    rw [e l o q] at h
    cases h
theorem Same.seq {K : PySem.W.Frag} {H H' : Hp} {a : Addr} {xs : List V} (e : Same H H') (h : SqL K H a xs) : SqL K H' a xs := by
  rcases h with (h | ⟨o, h⟩) | h
  · exact .inl (.inl (e _ _ h))
  · exact .inl (.inr ⟨o, e _ _ h⟩)
  · exact .inr h

end L2
namespace Yd
open PySem
theorem bitAnd_nat (a b : Nat) : Builtin.bitAnd (a : Int) (b : Int) = ((a &&& b : Nat) : Int) := by
  unfold Builtin.bitAnd
  simp
theorem bitNot_eq (x : Int) : Builtin.bitNot x = -x - 1 := by
  unfold Builtin.bitNot
  omega
theorem bitOr_nat (a b : Nat) : Builtin.bitOr (a : Int) (b : Int) = ((a ||| b : Nat) : Int) := by
  unfold Builtin.bitOr
  have h1 : Builtin.bitNot (a : Int) = -(a : Int) - 1 := bitNot_eq _
  have h2 : Builtin.bitNot (b : Int) = -(b : Int) - 1 := bitNot_eq _
  unfold Builtin.bitAnd
  rw [h1, h2]
  have e1 : decide (0 ≤ -(a : Int) - 1) = false := decide_eq_false (by omega)
  have e2 : decide (0 ≤ -(b : Int) - 1) = false := decide_eq_false (by omega)
  rw [e1, e2]
  simp only []
  have e3 : Builtin.bitNot (-(a : Int) - 1) = a := by rw [bitNot_eq]; omega
  have e4 : Builtin.bitNot (-(b : Int) - 1) = b := by rw [bitNot_eq]; omega
  rw [e3, e4]
  simp only [Int.toNat_natCast]
  rw [bitNot_eq, bitNot_eq]
  omega
/-- the set of a list, as a number -/
def setN : List Nat → Nat → Nat
  | [], s => s
  | n :: r, s => setN r (s ||| 2 ^ n)
theorem setN_bit (k : Nat) : ∀ (l : List Nat) (s : Nat), (setN l s).testBit k = (s.testBit k || decide (k ∈ l))
  | [], s => by simp [setN]
  | n :: r, s => by
    unfold setN
    rw [setN_bit k r]
    rw [Nat.testBit_or, Nat.testBit_two_pow]
    by_cases h : n = k
    · subst h; simp
    · have : ¬ k = n := fun z => h z.symm
      simp [h, this]
theorem setN_app (l r : List Nat) (s : Nat) : setN (l ++ r) s = setN r (setN l s) := by
  induction l generalizing s with
  | nil => rfl
  | cons n t ih => exact ih _
/-- what the law reckons: the worths of the numbers below n that stand in the list -/
def dueN (l : List Nat) : Nat → Nat
  | 0 => 0
  | n + 1 => if n ∈ l then dueN l n + 2 ^ n else dueN l n
theorem dueN_lt (l : List Nat) : ∀ n, dueN l n < 2 ^ n
  | 0 => by simp [dueN]
  | n + 1 => by
    have := dueN_lt l n
    unfold dueN
    rw [Nat.pow_succ]
    split <;> omega
theorem dueN_bit (l : List Nat) (k : Nat) : ∀ n, (dueN l n).testBit k = decide (k < n ∧ k ∈ l)
  | 0 => by simp [dueN]
  | n + 1 => by
    have ih := dueN_bit l k n
    have hlt := dueN_lt l n
    unfold dueN
    by_cases hn : n ∈ l
    · rw [if_pos hn, Nat.add_comm]
      rcases Nat.lt_trichotomy k n with h | h | h
      · rw [Nat.testBit_two_pow_add_gt h, ih]
        simp [h, Nat.lt_succ_of_lt h]
      · subst h
        rw [Nat.testBit_two_pow_add_eq, Nat.testBit_lt_two_pow hlt]
        simp [hn]
      · have hb : 2 ^ n + dueN l n < 2 ^ k := by
          have : 2 ^ (n + 1) ≤ 2 ^ k := Nat.pow_le_pow_right (by decide) h
          rw [Nat.pow_succ] at this
          omega
        rw [Nat.testBit_lt_two_pow hb]
        have : ¬ k < n + 1 := by omega
        simp [this]
    · rw [if_neg hn, ih]
      by_cases h : k = n
      · subst h; simp [hn]
      · have : k < n ↔ k < n + 1 := by omega
        simp [this]
theorem due_set {l : List Nat} {n : Nat} (h : ∀ k ∈ l, k < n) : dueN l n = setN l 0 := by
  apply Nat.eq_of_testBit_eq
  intro k
  rw [dueN_bit, setN_bit]
  by_cases hk : k ∈ l
  · simp [hk, h k hk]
  · simp [hk]
/-- the numbers of a set, rising -/
def memN (m b : Nat) : List Nat := (List.range b).filter fun k => m.testBit k
theorem memN_mem {m b k : Nat} (h : m < 2 ^ b) : k ∈ memN m b ↔ m.testBit k = true := by
  unfold memN
  rw [List.mem_filter, List.mem_range]
  constructor
  · exact fun z => z.2
  · intro z
    refine ⟨?_, z⟩
    by_cases hk : k < b
    · exact hk
    · have : m < 2 ^ k := Nat.lt_of_lt_of_le h (Nat.pow_le_pow_right (by decide) (by omega))
      rw [Nat.testBit_lt_two_pow this] at z
      cases z
theorem memN_rise (m b : Nat) : (memN m b).Pairwise (· < ·) := List.Pairwise.filter _ List.pairwise_lt_range
theorem set_mem {m b : Nat} (h : m < 2 ^ b) : setN (memN m b) 0 = m := by
  apply Nat.eq_of_testBit_eq
  intro k
  rw [setN_bit, Nat.zero_testBit, Bool.false_or]
  by_cases hk : m.testBit k = true
  · rw [hk]; exact decide_eq_true ((memN_mem h).mpr hk)
  · have : m.testBit k = false := by simpa using hk
    rw [this]
    exact decide_eq_false fun z => hk ((memN_mem h).mp z)
theorem rise_ext : ∀ {l r : List Int}, l.Pairwise (· < ·) → r.Pairwise (· < ·) → (∀ k, k ∈ l ↔ k ∈ r) → l = r
  | [], [], _, _, _ => rfl
  | [], y :: r, _, _, h => by
    have := (h y).mpr List.mem_cons_self
    cases this
  | x :: l, [], _, _, h => by
    have := (h x).mp List.mem_cons_self
    cases this
  | x :: l, y :: r, hl, hr, h => by
    obtain ⟨hx, hl'⟩ := List.pairwise_cons.mp hl
    obtain ⟨hy, hr'⟩ := List.pairwise_cons.mp hr
    have e : x = y := by
      rcases List.mem_cons.mp ((h x).mp List.mem_cons_self) with z | z
      · exact z
      · rcases List.mem_cons.mp ((h y).mpr List.mem_cons_self) with z' | z'
        · exact z'.symm
        · have := hx y z'
          have := hy x z
          omega
    subst e
    congr 1
    refine rise_ext hl' hr' fun k => ?_
    constructor
    · intro z
      rcases List.mem_cons.mp ((h k).mp (List.mem_cons_of_mem _ z)) with q | q
      · have := hx k z; omega
      · exact q
    · intro z
      rcases List.mem_cons.mp ((h k).mpr (List.mem_cons_of_mem _ z)) with q | q
      · have := hy k z; omega
      · exact q
theorem bits_lt (m : Nat) : m < 2 ^ (Builtin.Int.intBits (m : Int)) := by
  unfold Builtin.Int.intBits
  by_cases h : m = 0
  · subst h; simp
  · have e : ((m : Int) == 0) = false := by simp [h]
    rw [e]
    simp only [Bool.false_eq_true, if_false, Int.natAbs_natCast]
    exact Nat.lt_log2_self
theorem bits_le {m b : Nat} (h : m < 2 ^ b) : Builtin.Int.intBits (m : Int) ≤ b := by
  unfold Builtin.Int.intBits
  by_cases h0 : m = 0
  · subst h0; simp
  · have e : ((m : Int) == 0) = false := by simp [h0]
    rw [e]
    simp only [Bool.false_eq_true, if_false, Int.natAbs_natCast]
    have := (Nat.log2_lt h0).mpr h
    omega
theorem has_bit (m k : Nat) : decide (Builtin.bitAnd ((m : Int) / 2 ^ k) 1 = 1) = m.testBit k := by
  have e : ((m : Int) / 2 ^ k) = ((m / 2 ^ k : Nat) : Int) := by
    rw [Int.natCast_ediv, Int.natCast_pow]
    rfl
  rw [e, show (1 : Int) = ((1 : Nat) : Int) from rfl, bitAnd_nat, Nat.testBit_eq_decide_div_mod_eq]
  rw [Nat.and_one_is_mod]
  congr 1
  exact propext ⟨fun z => by exact_mod_cast z, fun z => by exact_mod_cast z⟩
end Yd
namespace L2
open PySem PySem.Spec PyProof.Rows
/-! ### list comprehensions: one clause, any target, at most one test; nothing is raised inside -/
def closOf (cells : List (Str × Addr)) : List (Str × NameKind) → List (Str × Addr) → List (Str × Addr)
  | [], acc => acc
  | (n, k) :: r, acc => if k == .free then closOf cells r ((n, (cells.lookup n).getD 0) :: acc) else closOf cells r acc
theorem closureFor_of {scope : Scope} {env : Env} (h : ∀ y ∈ scope.names, y.2 = .free → ∃ c, env.cells.lookup y.1 = some c) :
    closureFor scope env = pure (closOf env.cells scope.names []) := by
  unfold closureFor
  have key : ∀ (names : List (Str × NameKind)) (acc : List (Str × Addr)), (∀ y ∈ names, y.2 = .free → ∃ c, env.cells.lookup y.1 = some c) →
      (forIn names acc fun (x : Str × NameKind) (cs : List (Str × Addr)) => (match x with
        | (name, kind) => if (kind == NameKind.free) = true then do
            let c ← cellOf env name
            pure (ForInStep.yield ((name, c) :: cs))
          else pure (ForInStep.yield cs) : Sem (ForInStep (List (Str × Addr))))) = (pure (closOf env.cells names acc) : Sem (List (Str × Addr))) := by
    intro names
    induction names with
    | nil => intro acc _; rfl
    | cons y r ih =>
      intro acc hy
      obtain ⟨n, k⟩ := y
      rw [List.forIn_cons]
      by_cases hk : (k == NameKind.free) = true
      · obtain ⟨c, hc⟩ := hy (n, k) List.mem_cons_self (by simpa using hk)
        have e1 : cellOf env n = pure c := by
          unfold cellOf
          simp only [] at hc
          rw [hc]
        simp only [hk, if_true, e1, pure_bind]
        rw [ih _ fun z hz => hy z (List.mem_cons_of_mem _ hz)]
        unfold closOf
        simp only [] at hc
        rw [if_pos hk, hc]
        conv => rhs; unfold closOf
        rfl
      · simp only [hk, Bool.false_eq_true, if_false, pure_bind]
        rw [ih _ fun z hz => hy z (List.mem_cons_of_mem _ hz)]
        conv => rhs; unfold closOf
        rw [if_neg hk]
  exact (congrArg (fun (m : Sem (List (Str × Addr))) => m >>= fun z => pure z) (key scope.names [] h)).trans (pure_bind _ _)
theorem closOf_lookup {cells : List (Str × Addr)} {x : Str} {c : Addr} : ∀ (names : List (Str × NameKind)) (acc : List (Str × Addr)), (∀ y ∈ names, y.2 = .free → ∃ c, cells.lookup y.1 = some c) →
    (∀ c, acc.lookup x = some c → cells.lookup x = some c) → (closOf cells names acc).lookup x = some c → cells.lookup x = some c
  | [], acc, _, ha, e => ha c e
  | (n, k) :: r, acc, hn, ha, e => by
    unfold closOf at e
    have hr := fun z hz => hn z (List.mem_cons_of_mem _ hz)
    split at e
    · rename_i hk
      refine closOf_lookup r _ hr (fun c' e' => ?_) e
      rw [List.lookup_cons] at e'
      split at e'
      · rename_i hx
        have hx' : x = n := by simpa using hx
        subst hx'
        obtain ⟨c0, hc0⟩ := hn (x, k) List.mem_cons_self (by simpa using hk)
        simp only [] at hc0
        rw [hc0] at e' ⊢
        exact e'
      · exact ha c' e'
    · exact closOf_lookup r acc hr ha e
theorem closOf_has {cells : List (Str × Addr)} {x : Str} : ∀ (names : List (Str × NameKind)) (acc : List (Str × Addr)), ((x, NameKind.free) ∈ names ∨ ∃ c, acc.lookup x = some c) →
    ∃ c, (closOf cells names acc).lookup x = some c
  | [], acc, h => by
    rcases h with h | h
    · cases h
    · exact h
  | (n, k) :: r, acc, h => by
    unfold closOf
    split
    · rename_i hk
      refine closOf_has r _ ?_
      rcases h with h | ⟨c, h⟩
      · rcases List.mem_cons.mp h with h | h
        · refine .inr ⟨(cells.lookup n).getD 0, ?_⟩
          injection h with h1 h2
          rw [List.lookup_cons, h1]
          simp
        · exact .inl h
      · refine .inr ?_
        rw [List.lookup_cons]
        split
        · exact ⟨_, rfl⟩
        · exact ⟨c, h⟩
    · rename_i hk
      refine closOf_has r _ ?_
      rcases h with h | h
      · rcases List.mem_cons.mp h with h | h
        · injection h with h1 h2
          subst h2
          exact absurd rfl hk
        · exact .inl h
      · exact .inr h

theorem relabel_free {env : Env} {x : Str} : ∀ {names : List (Str × NameKind)}, names.lookup x = some .free →
    (names.map fun (n, k) => if (k == NameKind.free && env.scope.kind == .function && env.kindOf n == some .cell) then (n, NameKind.cell) else (n, k)).lookup x = some .cell ∨
    (names.map fun (n, k) => if (k == NameKind.free && env.scope.kind == .function && env.kindOf n == some .cell) then (n, NameKind.cell) else (n, k)).lookup x = some .free
  | [], h => by simp at h
  | (n, k) :: r, h => by
    have ih := @relabel_free env x r
    rw [List.map_cons]
    cases hx : x == n with
    | true =>
      rw [List.lookup_cons, hx] at h
      cases h
      simp only []
      split
      · left; rw [List.lookup_cons, hx]
      · right; rw [List.lookup_cons, hx]
    | false =>
      rw [List.lookup_cons, hx] at h
      simp only []
      split
      · rw [List.lookup_cons, hx]; exact ih h
      · rw [List.lookup_cons, hx]; exact ih h
theorem relabel_mem {env : Env} {x : Str} {k : NameKind} (hk : k = .cell ∨ k = .free) : ∀ {names : List (Str × NameKind)}, (∀ y ∈ names, y.2 ≠ .cell) →
    (names.map fun (n, k) => if (k == NameKind.free && env.scope.kind == .function && env.kindOf n == some .cell) then (n, NameKind.cell) else (n, k)).lookup x = some k → (x, NameKind.free) ∈ names
  | [], _, h => by simp at h
  | (n, k') :: r, hc, h => by
    have ih := @relabel_mem env x k hk r fun y hy => hc y (List.mem_cons_of_mem _ hy)
    rw [List.map_cons] at h
    simp only [] at h
    cases hx : x == n with
    | true =>
      have e : x = n := by simpa using hx
      subst e
      split at h
      · rename_i q
        have q' : k' = .free := by
          have := (Bool.and_eq_true _ _ ▸ q : _ ∧ _).1
          have := (Bool.and_eq_true _ _ ▸ this : _ ∧ _).1
          simpa using this
        rw [q']
        exact List.mem_cons_self
      · rw [List.lookup_cons, hx] at h
        have e2 : k' = k := Option.some.inj h
        rcases hk with z | z
        · exact absurd (e2.trans z) (hc (x, k') List.mem_cons_self)
        · rw [e2, z]; exact List.mem_cons_self
    | false =>
      split at h
      · rw [List.lookup_cons, hx] at h; exact List.mem_cons_of_mem _ (ih h)
      · rw [List.lookup_cons, hx] at h; exact List.mem_cons_of_mem _ (ih h)

section
variable {prog : Program} {w : World} {A : Around} {R : Result → Shared → Prop} {s : Shared}
/-- the tests of a clause, one after another -/
abbrev testsOf (ifs : List Expr) (env : Env) : Sem Bool :=
  forIn ifs true fun c r => if r = true then do let ok ← isTrue c env (eval c env); pure (ForInStep.yield ok) else pure (ForInStep.yield r)
theorem compLoop_by {elt tg iter : Expr} {ifs : List Expr} {scope : Scope} {pos : Pos} {it acc : Value} {env : Env} (I : Nat → Shared → Prop)
    (turn : ∀ n s, I n s → wpAny (model prog w) A (pyNext it) (fun r s1 => match r with
      | none => R (.ok .next) s1
      | some v => wpAny (model prog w) A (letOwnedTupleGo tg it v) (fun _ s2 => wpAny (model prog w) A (assign tg env v) (fun _ s3 =>
          wpAny (model prog w) A (testsOf ifs env) (fun ok s4 =>
            if ok = true then wpAny (model prog w) A (eval elt env) (fun x s5 =>
              wpAny (model prog w) A (call (.builtin "list.append") [acc, x]) (fun _ s6 => ∃ m, m < n ∧ I m s6) (fun _ _ => False) s5) (fun _ _ => False) s4
            else ∃ m, m < n ∧ I m s4) (fun _ _ => False) s3) (fun _ _ => False) s2) (fun _ _ => False) s1) (fun _ _ => False) s)
    (n : Nat) (h : I n s) : codeAny (model prog w) A (.compLoop (.ListComp elt [⟨tg, iter, ifs, 0⟩] scope pos) 0 it acc env) R s := by
  refine codeAny_loop rfl I (fun n s hI => ?_) n h
  have no : ∀ {E' : Value → Shared → Prop} (e : Value) (s' : Shared), False → E' e s' := fun _ _ z => z.elim
  show wpAny _ A (Sem.onRaise (compTurn (.ListComp elt [⟨tg, iter, ifs, 0⟩] scope pos) 0 it acc env) fun x => do
    noteFrame x env
    theTreesLotGoes x) _ _ s
  refine wpAny_noted ?_
  rw [compTurn_list]
  refine wpAny_bind (wpAny_standAt (wpAny_bind (wpAny_mono (turn n s hI) (fun r s1 h1 => ?_) no)))
  cases r with
  | none => exact wpAny_pure h1
  | some v =>
    refine wpAny_bind (wpAny_mono h1 (fun _ s2 h2 => ?_) no)
    refine wpAny_bind (wpAny_mono h2 (fun _ s3 h3 => ?_) no)
    refine wpAny_bind (wpAny_mono h3 (fun ok s4 h4 => ?_) no)
    cases ok with
    | false => exact wpAny_pure ⟨rfl, h4⟩
    | true =>
      refine wpAny_bind (wpAny_bind (wpAny_mono h4 (fun x s5 h5 => ?_) no))
      exact wpAny_bind (wpAny_mono h5 (fun _ s6 h6 => wpAny_pure (wpAny_pure ⟨rfl, h6⟩)) no)
end

/-- a clause's tests, by the layer -/
def PTs (X : Cx) (ifs : List Expr) (t : TT) : Prop :=
  ∀ (pins : List (Addr × Obj)) (s : Shared) (σ : St) (H : Hp) (Q : Bool → Hp → Prop), Inv X pins σ H s → t σ H Q → wpAny (model X.prog X.w) X.A (testsOf ifs X.env) (TP X pins σ Q) X.xe s
def tYes : TT := fun _ H Q => Q true H
theorem pts_nil {X : Cx} : PTs X [] tYes := fun _ _ _ H _ I h => wpAny_pure ⟨H, I, h⟩
theorem pts_one {X : Cx} {c : Expr} {t : TT} (h : PT X c t) : PTs X [c] t := fun pins s σ H Q I hw => by
  simp only [testsOf, List.forIn_cons, List.forIn_nil, if_true]
  exact wpAny_bind (wpAny_bind (thn (h pins s σ H Q I hw) fun b s' hb => wpAny_pure (wpAny_pure hb)))

/-- what is asked of the block's scope: N, sc are the def's -/
structure Blk (N : List Str) (sc scope : Scope) (capN : List Str) (cap : List Nat) : Prop where
  kind : scope.kind = .function
  nocell : ∀ y ∈ scope.names, y.2 ≠ .cell
  loc : ∀ y ∈ scope.names, y.2 = .local → scope.names.lookup y.1 = some .local
  free : ∀ y ∈ scope.names, y.2 = .free → sc.names.lookup y.1 = some .cell ∨ sc.names.lookup y.1 = some .free
  len : cap.length = capN.length
  cap : ∀ p ∈ capN.zip cap, scope.names.lookup p.1 = some .free ∧ N[p.2]? = some p.1
/-- the block's context -/
abbrev cxBlk (X : Cx) (scope : Scope) (N : List Str) (C : Addr) (s : Shared) (H : Hp) (fp : List Addr) : Cx :=
  { X with N := N, s₀ := s, H₀ := H, env := compEnvC scope (closOf X.env.cells scope.names []) C X.env, outer := X.stack, stack := X.stack, ex := fp, fn := fun _ => false, pn := [], xe := fun _ _ => False }
/-- its names at the start of a turn: its own ones, then what it takes from the def -/
def blkσ (n : Nat) (cap : List Nat) (σ : St) : St := List.replicate n none ++ cap.map fun j => (σ[j]?).join
theorem blkσ_len (n : Nat) (cap : List Nat) (σ : St) : (blkσ n cap σ).length = n + cap.length := by simp [blkσ]

section
variable {X : Cx} {pins : List (Addr × Obj)} {σ : St} {H : Hp} {s : Shared} {scope : Scope} {own capN : List Str} {cap : List Nat} {fp : List Addr}
theorem Blk.clos (B : Blk X.N X.env.scope scope capN cap) (ok : X.Ok) : ∀ y ∈ scope.names, y.2 = .free → ∃ c, X.env.cells.lookup y.1 = some c := fun y hy hf => ok.has y.1 (B.free y hy hf)
theorem Blk.cell (B : Blk X.N X.env.scope scope capN cap) (ok : X.Ok) {x : Str} {c : Addr} (h : (closOf X.env.cells scope.names []).lookup x = some c) : X.env.cells.lookup x = some c :=
  closOf_lookup scope.names [] (B.clos ok) (fun _ e => by cases e) h
/-- the values that the block takes from the def stand in cells, which nobody changes -/
theorem Blk.locs (I : Inv X pins σ H s) (B : Blk X.N X.env.scope scope capN cap) {h' : Heap} (k : ∀ x c v, X.env.cells.lookup x = some c → s.heap.IsCell c v → h'.IsCell c v) (C : Addr) (m0 : Str → Option Value) :
    ∀ (i : Nat) (x : Str) (v : V), (own ++ capN)[i]? = some x → (blkσ own.length cap σ)[i]? = some (some v) → ∃ u, RelV v u ∧ Look (compEnvC scope (closOf X.env.cells scope.names []) C X.env) h' m0 x u := by
  intro i x v e1 e2
  have hi : own.length ≤ i := by
    by_cases q : own.length ≤ i
    · exact q
    · unfold blkσ at e2
      rw [List.getElem?_append_left (by simp; omega), List.getElem?_replicate, if_pos (by omega)] at e2
      cases e2
  have e1' : capN[i - own.length]? = some x := by
    rwa [List.getElem?_append_right hi] at e1
  unfold blkσ at e2
  rw [List.getElem?_append_right (by simpa using hi), List.length_replicate, List.getElem?_map] at e2
  cases ej : cap[i - own.length]? with
  | none => rw [ej] at e2; cases e2
  | some j =>
    rw [ej] at e2
    have e2' : (σ[j]?).join = some v := Option.some.inj e2
    have e3' : σ[j]? = some (some v) := by
      cases q : σ[j]? with
      | none => rw [q] at e2'; cases e2'
      | some u => rw [q] at e2'; exact congrArg some e2'
    have hz : (x, j) ∈ capN.zip cap := by
      refine List.mem_iff_getElem?.mpr ⟨i - own.length, ?_⟩
      rw [List.getElem?_zip_eq_some]
      exact ⟨e1', ej⟩
    obtain ⟨c1, c2⟩ := B.cap (x, j) hz
    have hfx : (x, NameKind.free) ∈ scope.names := PySem.mem_of_lookup c1
    have hX := B.free _ hfx rfl
    obtain ⟨m, hm, hl⟩ := I.loc
    obtain ⟨u, ru, lk⟩ := hl j x v c2 e3' (hX.elim (fun z => .inr (.inl z)) fun z => .inr (.inr z))
    refine ⟨u, ru, .inr ⟨relabel_free c1, ?_⟩⟩
    rcases lk with ⟨q, _⟩ | ⟨_, c, ec, ic⟩
    · have q' : X.env.scope.names.lookup x = some .local := q
      rcases hX with z | z
      · rw [z] at q'; cases q'
      · rw [z] at q'; cases q'
    · obtain ⟨c', ec'⟩ := closOf_has (cells := X.env.cells) (x := x) scope.names [] (.inl hfx)
      have := B.cell I.ok ec'
      rw [ec] at this
      cases this
      exact ⟨c, ec', k x c _ ec ic⟩
theorem Inv.blk {h4 : Heap} {tk : Nat} {m0 : Str → Option Value} {C : Addr} (I : Inv X pins σ H s) (B : Blk X.N X.env.scope scope capN cap) (hC : s.heap.objs.size ≤ C) (k : ∀ b o, s.heap.get? b = some o → h4.get? b = some o)
    (hn : h4.Ns C m0) (hf : ∀ b ∈ fp, FpOk X pins H b) (hlt : ∀ b ∈ fp, b < s.heap.objs.size) :
    Inv (cxBlk X scope (own ++ capN) C s H fp) [] (blkσ own.length cap σ) H { s with heap := h4, toks := tk } := by
  have nfs : ∀ b ∈ fp, b ∉ frs X.stack := fun b hb z => by
    obtain ⟨_, f1, f2, _⟩ := hf b hb
    rcases List.mem_cons.mp (I.stkSub b z) with e | e
    · exact f1 e
    · exact f2 e
  have hinv : ∀ x, ((relabel scope X.env).names.lookup x = some .cell ∨ (relabel scope X.env).names.lookup x = some .free) → (x, NameKind.free) ∈ scope.names := fun x hx => by
    rcases hx with q | q
    · exact relabel_mem (.inl rfl) B.nocell q
    · exact relabel_mem (.inr rfl) B.nocell q
  refine ⟨⟨I.ok.mod, B.kind, I.ok.glob, I.ok.blt, hC, fun x y c h1 h2 => I.ok.inj x y c (B.cell I.ok h1) (B.cell I.ok h2), fun x hx => closOf_has scope.names [] (.inl (hinv x hx)), fun _ _ z => absurd z Bool.false_ne_true, I.ok.hd, I.ok.frames, .inl rfl,
    fun b hb => ⟨Nat.ne_of_lt (Nat.lt_of_lt_of_le (hlt b hb) hC), fun x c e => (hf b hb).2.2.2.2.1 x c (B.cell I.ok e)⟩, I.bs, Nat.le_trans I.ok.bsz I.sz, fun b o e hb => ?_, fun b hb => nfs b hb, I.stack, I.stkFree⟩,
    rfl, I.bare, Un.kept k, ⟨m0, hn, fun i x v e1 e2 _ => B.locs I (fun _ _ _ _ q => q.keeps k) C m0 i x v e1 e2⟩, fun x c e => ?_, I.hok.fresh hC, fun x c e => I.freeC x c (B.cell I.ok e), fun p hp => absurd (show p ∈ ([] : List (Addr × Obj)) from hp) (by simp), I.hok.kept k, ?_⟩
  · rcases (hf b hb).2.2.2.1 with z | z
    · exact I.ok.noex b o e z
    · exact absurd (Nat.lt_of_lt_of_le (Heap.lt_size e) (Nat.le_trans I.ok.bsz z)) (Nat.lt_irrefl _)
  · obtain ⟨v, q⟩ := I.cell x c (B.cell I.ok e)
    exact ⟨v, q.keeps k⟩
  · show (blkσ own.length cap σ).length = (own ++ capN).length
    rw [blkσ_len, List.length_append, B.len]
/-- behind a turn: the block's own names are forgotten -/
theorem Inv.reset {pins' : List (Addr × Obj)} {σ' : St} {H' : Hp} {s' : Shared} {C : Addr} (I : Inv X pins σ H s) (B : Blk X.N X.env.scope scope capN cap) (hf : ∀ b ∈ fp, FpOk X pins H b) (J : Inv (cxBlk X scope (own ++ capN) C s H fp) pins' σ' H' s') :
    Inv (cxBlk X scope (own ++ capN) C s H fp) pins' (blkσ own.length cap σ) H' s' := by
  obtain ⟨m, hn, _⟩ := J.loc
  refine ⟨J.ok, J.os, J.bare, J.base, ⟨m, hn, fun i x v e1 e2 _ => ?_⟩, J.cell, J.free, J.freeC, J.pin, J.hok, ?_⟩
  · refine B.locs I (fun y c v' ec ic => ?_) C m i x v e1 e2
    obtain ⟨o, ho, hd⟩ := ic
    have hx : c ∉ fp := fun z => (hf c z).2.2.2.2.1 y c ec rfl
    obtain ⟨sl, e⟩ := J.base.any ho (I.freeC y c ec) hx
    exact ⟨_, e, hd⟩
  · show (blkσ own.length cap σ).length = (own ++ capN).length
    rw [blkσ_len, List.length_append, B.len]
/-- an object of ours that was not tracked is tracked from here on -/
theorem Inv.adopt {D : Addr} {o : HO} (I : Inv X pins σ H s) (hn : H D = none) (h0 : X.s₀.heap.objs.size ≤ D) (hL : D ≠ X.env.locals) (hc : ∀ x c, X.env.cells.lookup x = some c → c ≠ D) (hp : ∀ p ∈ X.pn ++ pins, p.1 ≠ D)
    (new : ObjOk X.prog X.w (upd H D o) s.heap D o) : Inv X pins σ (upd H D o) s := by
  have ne : ∀ b u, H b = some u → b ≠ D := fun b u e => ne_of_none e hn
  refine ⟨I.ok, I.os, I.bare, ⟨I.base.keep, I.base.slot, fun b ob e n hx => ?_, I.base.there, fun b xs e => ?_, fun b ob u e => ?_, fun b ps e => ?_⟩, I.loc, I.cell, ?_, fun x c e => ?_, fun p hp' => ?_, fun b u e => ?_, I.len⟩
  · rw [upd_ne (Nat.ne_of_lt (Nat.lt_of_lt_of_le (Heap.lt_size e) h0))]
    exact I.base.free b ob e n hx
  · have q := I.base.tups b xs e
    rw [upd_ne (ne b _ q)]; exact q
  · have q := I.base.frzs b ob u e
    rw [upd_ne (ne b _ q)]; exact q
  · obtain ⟨more, q⟩ := I.base.tbls b ps e
    exact ⟨more, by rw [upd_ne (ne b _ q)]; exact q⟩
  · rw [upd_ne (Ne.symm hL)]; exact I.free
  · rw [upd_ne (hc x c e)]; exact I.freeC x c e
  · obtain ⟨e, n, r⟩ := I.pin p hp'
    exact ⟨e, by rw [upd_ne (hp p hp')]; exact n, r⟩
  · by_cases hb : b = D
    · subst hb; rw [upd_same] at e; cases e; exact new
    · rw [upd_ne hb] at e
      exact (I.hok b u e).stay (fun _ _ _ q => q) (fun c q => by rw [upd_ne (ne c _ q)]; exact q) fun c xs q => by rw [upd_ne (ne c _ q)]; exact q
end

/-- W: turn, a measure, what is gathered so far, the heap -/
def CompR (J : It) (g : TG) (tt : TT) (te : TE) (σ0 : St) (Q : VK) (H1 : Hp) : Prop := ∃ W : Nat → Nat → List V → Hp → Prop, (∃ m, W 0 m [] H1) ∧ ∀ i m acc H, W i m acc H →
  acc.length < sizeLine ∧ ((J.stop i H ∧ ∀ D, H D = none → Q (.ref D) (upd H D (.lst acc))) ∨ (J.go i H ∧ ∃ N : List V → Hp → Prop, (∀ acc' H', N acc' H' → ∃ m', m' < m ∧ W (i + 1) m' acc' H') ∧
    ∀ x H', J.yld i H x H' → g x σ0 H' fun σ2 H2 => tt σ2 H2 fun b H3 => if b = true then te σ2 H3 fun y H4 => N (acc ++ [y]) H4 else N acc H3))
def tComp (wi : TI) (g : TG) (tt : TT) (te : TE) (n : Nat) (cap : List Nat) : TE := fun σ H Q => wi σ H fun J H1 => CompR J g tt te (blkσ n cap σ) Q H1

section
variable {X : Cx} {tg iter elt : Expr} {ifs : List Expr} {scope : Scope} {pos : Pos} {wi : TI} {g : TG} {tt : TT} {te : TE} {own capN : List Str} {cap : List Nat}
abbrev lobj (its : List Value) (k : Nat) : Obj := { cls := .type "list", data := .seq its.toArray k }
theorem comp_run {pins : List (Addr × Obj)} {s : Shared} {σ : St} {H : Hp} {Q : VK} {it : Addr} {fp : List Addr} {tn : Nat → Heap → Prop} {J : It} (B : Blk X.N X.env.scope scope capN cap) (hc : X.calm = true)
    (hb : ∀ (C : Addr) (s : Shared) (H : Hp) (fp : List Addr), PG (cxBlk X scope (own ++ capN) C s H fp) tg g ∧ PTs (cxBlk X scope (own ++ capN) C s H fp) ifs tt ∧ PE (cxBlk X scope (own ++ capN) C s H fp) elt te)
    (I : Inv X pins σ H s) (T : Turn X.prog X.w X.K tg J fp it tn) (st : tn 0 s.heap) (hf : ∀ b ∈ fp, FpOk X pins H b) {W : Nat → Nat → List V → Hp → Prop} {m0 : Nat} (w0 : W 0 m0 [] H)
    (turn : ∀ i m acc H, W i m acc H → acc.length < sizeLine ∧ ((J.stop i H ∧ ∀ D, H D = none → Q (.ref D) (upd H D (.lst acc))) ∨ (J.go i H ∧ ∃ N : List V → Hp → Prop, (∀ acc' H', N acc' H' → ∃ m', m' < m ∧ W (i + 1) m' acc' H') ∧
      ∀ x H', J.yld i H x H' → g x (blkσ own.length cap σ) H' fun σ2 H2 => tt σ2 H2 fun b H3 => if b = true then te σ2 H3 fun y H4 => N (acc ++ [y]) H4 else N acc H3)))
    {RR : Value → Addr → Result → Shared → Prop}
    (fin : ∀ (D C : Addr) (H' : Hp) (s' : Shared), Q (.ref D) H' → Inv X pins σ H' s' → (∃ m, s'.heap.Ns C m) → H' C = none → C ≠ X.env.locals → X.s₀.heap.objs.size ≤ C → (∀ x c, X.env.cells.lookup x = some c → c ≠ C) → (∀ p ∈ X.pn ++ pins, p.1 ≠ C) →
      RR (.ref D) C (.ok .next) s') :
    wpAny (model X.prog X.w) X.A (newList []) (fun acc s3 => wpAny (model X.prog X.w) X.A (newFunctionEnv scope X.env.globals (closOf X.env.cells scope.names []) [] X.env.qual none .none (some X.env)) (fun cenv s4 =>
      codeAny (model X.prog X.w) X.A (.compStart (.ListComp elt [⟨tg, iter, ifs, 0⟩] scope pos) 0 (.ref it) acc { cenv with scope := relabel scope X.env }) (RR acc cenv.locals) s4) X.xe s3) X.xe s := by
  refine wpAny_newObj_type (wpAny_newFunctionEnv B.nocell (by intro y hy; simp at hy) (fun h1 hns hsb => ?_) B.kind)
  dsimp only at hns hsb ⊢
  generalize hH2 : s.heap.push { cls := .type "list", dict := none, data := .seq ([] : List Value).toArray } = H2 at hns hsb ⊢
  have hCs : H2.objs.size = s.heap.objs.size + 1 := by rw [← hH2, Heap.size_push]
  have hCle : s.heap.objs.size ≤ H2.objs.size := by omega
  have ltOf : ∀ b ∈ fp, b < s.heap.objs.size := fun b hb => by
    obtain ⟨o, e, _⟩ := T.obj 0 s.heap st b hb
    exact Heap.lt_size e
  have old : ∀ b o, s.heap.get? b = some o → h1.get? b = some o := fun b o e =>
    hsb.extBut b o (Nat.ne_of_lt (Nat.lt_of_lt_of_le (Heap.lt_size e) hCle)) (Heap.get?_push_of_some _ (hH2 ▸ Heap.get?_push_of_some _ e))
  have hDC : s.heap.objs.size ≠ H2.objs.size := by omega
  have hacc : h1.get? s.heap.objs.size = some (lobj [] 0) := hsb.extBut _ _ hDC (Heap.get?_push_of_some _ (hH2 ▸ Heap.get?_push_size _ rfl))
  have I4 : Inv (cxBlk X scope (own ++ capN) H2.objs.size s H fp) [] (blkσ own.length cap σ) H { s with heap := h1, toks := s.toks + ([] : List (Str × Value)).length } := I.blk (own := own) B hCle old hns hf ltOf
  have nfs : ∀ b ∈ fp, b ∉ frs X.stack := fun b hb z => by
    obtain ⟨_, f1, f2, _⟩ := hf b hb
    rcases List.mem_cons.mp (I.stkSub b z) with e | e
    · exact f1 e
    · exact f2 e
  have stackLt : ∀ b ∈ frs X.stack, b < s.heap.objs.size := fun b hb => by
    obtain ⟨_, o, ho, _⟩ := I.stack.mem hb
    exact Heap.lt_size ho
  have cellLt : ∀ x c, X.env.cells.lookup x = some c → c < s.heap.objs.size := fun x c e => by
    obtain ⟨v, q⟩ := I.cell x c e
    exact q.lt
  have pinOk : ∀ (H' : Hp) (h' : Heap) (its : List Value) (k : Nat), H' s.heap.objs.size = none → h'.get? s.heap.objs.size = some (lobj its k) →
      ∀ p ∈ [(s.heap.objs.size, lobj its k)], h'.get? p.1 = some p.2 ∧ H' p.1 = none ∧ p.1 ≠ (cxBlk X scope (own ++ capN) H2.objs.size s H fp).env.locals ∧ p.1 ∉ (cxBlk X scope (own ++ capN) H2.objs.size s H fp).fs ∧ ∀ v, p.2.data ≠ .cell v := fun H' h' its k hn he p hp => by
    have e : p = (s.heap.objs.size, lobj its k) := by simpa using hp
    subst e
    exact ⟨he, hn, hDC, fun z => absurd (stackLt _ z) (Nat.lt_irrefl _), fun v z => by cases z⟩
  have stat : ∀ (H' : Hp) (its : List Value) (k : Nat), (∀ b ∈ fp, H' b = none) → ∀ b ∈ fp, FpOk (cxBlk X scope (own ++ capN) H2.objs.size s H fp) [(s.heap.objs.size, lobj its k)] H' b := fun H' its k hn b hb =>
    ⟨hn b hb, Nat.ne_of_lt (Nat.lt_of_lt_of_le (ltOf b hb) hCle), nfs b hb, .inl hb, fun x c e => (hf b hb).2.2.2.2.1 x c (B.cell I.ok e), fun p hp => by
      have e : p = (s.heap.objs.size, lobj its k) := by simpa using hp
      subst e
      exact Nat.ne_of_gt (ltOf b hb)⟩
  have loop : ∀ s3 : Shared, s3 = { s with heap := h1, toks := s.toks + ([] : List (Str × Value)).length } →
      codeAny (model X.prog X.w) X.A (.compLoop (.ListComp elt [⟨tg, iter, ifs, 0⟩] scope pos) 0 (.ref it) (.ref s.heap.objs.size) (compEnvC scope (closOf X.env.cells scope.names []) H2.objs.size X.env))
        (RR (.ref s.heap.objs.size) H2.objs.size) s3 := by
    rintro s3 rfl
    refine compLoop_by (fun n s' => ∃ i acc its k H', Inv (cxBlk X scope (own ++ capN) H2.objs.size s H fp) [(s.heap.objs.size, lobj its k)] (blkσ own.length cap σ) H' s' ∧ tn i s'.heap ∧ (∀ b ∈ fp, H' b = none) ∧ Vals acc its ∧ W i n acc H') ?_ m0
      ⟨0, [], [], 0, H, I4.pins_of (pinOk _ _ _ _ (I.hok.fresh (Nat.le_refl _)) hacc), T.keep 0 s.heap h1 st fun b _ o e => old b o e, fun b hb => (hf b hb).1, .nil, w0⟩
    rintro n s5 ⟨i, acc, its, k, H5, I5, st5, fr5, rv, w5⟩
    obtain ⟨hsz, hcase⟩ := turn i n acc H5 w5
    obtain ⟨hgt, htt, hte⟩ := hb H2.objs.size s H fp
    rcases hcase with ⟨stop, q⟩ | ⟨go, N, hN, step⟩
    · refine thn (T.done (cxBlk X scope (own ++ capN) H2.objs.size s H fp) rfl rfl rfl hc i _ s5 _ H5 _ I5 (stat H5 its k fr5) st5 stop) fun r s6 ⟨hr, I6⟩ => ?_
      subst hr
      obtain ⟨hD, hDn, _⟩ := I6.pin (s.heap.objs.size, lobj its k) (by simp)
      have J1 : Inv X pins σ H5 s6 := I.call' (s' := s6) (ch := fp) I6.os I6.base I6.hok I6.bare fun b hb => by
        obtain ⟨_, f1, _, f3, f4, f5⟩ := hf b hb
        exact ⟨f3, f1, f4, f5⟩
      have J2 : Inv X pins σ (upd H5 s.heap.objs.size (.lst acc)) s6 := J1.adopt hDn I.sz (Nat.ne_of_gt I.lt) (fun x c e => Nat.ne_of_lt (cellLt x c e)) (fun p hp => Nat.ne_of_lt (Heap.lt_size (I.pin p hp).1)) ⟨Nat.le_of_lt hsz, its, k, rv, hD⟩
      obtain ⟨mC, hnC, _⟩ := I6.loc
      refine fin _ _ _ s6 (q _ hDn) J2 ⟨mC, hnC⟩ (by rw [upd_ne (Ne.symm hDC)]; exact I6.free) (Nat.ne_of_gt (Nat.lt_of_lt_of_le I.lt hCle)) (Nat.le_trans I.sz hCle) (fun x c e => Nat.ne_of_lt (Nat.lt_of_lt_of_le (cellLt x c e) hCle)) fun p hp =>
        Nat.ne_of_lt (Nat.lt_of_lt_of_le (Heap.lt_size (I.pin p hp).1) hCle)
    · refine thn (T.item (cxBlk X scope (own ++ capN) H2.objs.size s H fp) rfl rfl rfl hc i _ s5 _ H5 _ I5 (stat H5 its k fr5) st5 go) fun r s6 ⟨u, hr, h6⟩ => ?_
      subst hr
      refine thn h6 fun _ s7 ⟨x, H7, I7, r7, y7, st7, fr7⟩ => ?_
      have I7' := I7.pinned (stat H7 its k fr7) (T.obj _ _ st7)
      refine thn (hgt _ s7 _ H7 x u _ I7' r7 (step x H7 y7)) fun _ s8 ⟨σ8, H8, I8, q8⟩ => ?_
      refine thn (htt _ s8 σ8 H8 _ I8 q8) fun b s9 ⟨H9, I9, q9⟩ => ?_
      -- what is kept of the iterator through a turn
      have itk : ∀ {H' : Hp} {s' : Shared} {σ' : St}, Inv (cxBlk X scope (own ++ capN) H2.objs.size s H fp) (pinsAt fp s7.heap) σ' H' s' → tn (i + 1) s'.heap ∧ ∀ b ∈ fp, H' b = none := fun {H' s' σ'} K => by
        refine ⟨T.keep _ _ _ st7 fun b hb o e => (K.pin (b, o) (mem_pinsAt hb e)).1, fun b hb => ?_⟩
        obtain ⟨o, e, _⟩ := T.obj _ _ st7 b hb
        exact (K.pin (b, o) (mem_pinsAt hb e)).2.1
      cases b with
      | false =>
        rw [if_neg Bool.false_ne_true]
        obtain ⟨m', hm, w9⟩ := hN acc H9 (by simpa using q9)
        have K9 : Inv (cxBlk X scope (own ++ capN) H2.objs.size s H fp) (pinsAt fp s7.heap) σ8 H9 s9 := I9.pins_of fun p hp => I9.pin p (List.mem_append_right _ (List.mem_append_right _ hp))
        obtain ⟨t9, f9⟩ := itk K9
        exact ⟨m', hm, i + 1, acc, its, k, H9, I.reset B hf I9.unpinned, t9, f9, rv, w9⟩
      | true =>
        rw [if_pos rfl]
        have q9' : te σ8 H9 fun y H4 => N (acc ++ [y]) H4 := by simpa using q9
        refine thn (hte _ s9 σ8 H9 _ I9 q9') fun yv s10 ⟨y, H10, I10, r10, q10⟩ => ?_
        obtain ⟨hD, hDn, _⟩ := I10.pin (s.heap.objs.size, lobj its k) (by simp)
        have hlen := rv.length
        refine wpAny_list_append_plain ⟨k, hD⟩ (fun h' hpl hsb' => ?_) (by rw [List.size_toArray]; omega)
        obtain ⟨k', hD'⟩ := hpl
        obtain ⟨m', hm, w10⟩ := hN (acc ++ [y]) H10 q10
        have K10 : Inv (cxBlk X scope (own ++ capN) H2.objs.size s H fp) (pinsAt fp s7.heap) σ8 H10 s10 := I10.pins_of fun p hp => I10.pin p (List.mem_append_right _ (List.mem_append_right _ hp))
        have K11 : Inv (cxBlk X scope (own ++ capN) H2.objs.size s H fp) (pinsAt fp s7.heap) σ8 H10 { s10 with heap := h' } := K10.turned (t' := s10.toks) (it := s.heap.objs.size) (fun b o hb e => (hsb'.2 b hb).trans e) hDn hDC (.inr (Nat.le_refl _))
          (fun x c e => Nat.ne_of_lt (cellLt x c (B.cell I.ok e))) fun p hp => by
            obtain ⟨hb, _⟩ := of_pinsAt (show p ∈ pinsAt fp s7.heap from hp)
            exact Nat.ne_of_lt (ltOf p.1 hb)
        obtain ⟨t11, f11⟩ := itk K11
        refine ⟨m', hm, i + 1, acc ++ [y], its ++ [yv], k', H10, ?_, t11, f11, rv.append (.cons r10 .nil), w10⟩
        refine I.reset B hf (K11.pins_of (pinOk _ _ _ _ hDn ?_))
        show h'.get? s.heap.objs.size = some { cls := .type "list", data := .seq (its ++ [yv]).toArray k' }
        rw [show (its ++ [yv]).toArray = its.toArray.push yv by simp]
        exact hD'
  exact codeAny_compStart_list (loop _ rfl) (T.self X.A 0 _ _ _ (T.keep 0 s.heap h1 st fun b _ o e => old b o e) (loop _ rfl))

/-- [elt for tg in iter if ..] -/
theorem pe_comp (B : Blk X.N X.env.scope scope capN cap) (hc : X.calm = true) (hi : PI X tg iter wi)
    (hb : ∀ (C : Addr) (s : Shared) (H : Hp) (fp : List Addr), PG (cxBlk X scope (own ++ capN) C s H fp) tg g ∧ PTs (cxBlk X scope (own ++ capN) C s H fp) ifs tt ∧ PE (cxBlk X scope (own ++ capN) C s H fp) elt te)
    (hs : ∀ x, foldedSetIterable iter X.env x = pure x := by intro _; rfl) : PE X (.ListComp elt [⟨tg, iter, ifs, 0⟩] scope pos) (tComp wi g tt te own.length cap) := by
  intro pins s σ H Q I h
  rw [eval_ListComp]
  refine wpAny_comprehension_free (use := none) rfl hs (closureFor_of (B.clos I.ok)) B.kind B.loc (thn (hi pins s σ H _ I h) fun v s1 h1 => thn h1 fun itv s2 h2 => ?_)
  obtain ⟨it, fp, tn, J, H2, e, I2, T, st2, f2, W, ⟨m0, w0⟩, turn⟩ := h2
  subst e
  refine comp_run (own := own) B hc hb I2 T st2 f2 w0 turn (RR := fun acc C => compPost (model X.prog X.w) X.A X.xe none (EP X pins σ Q) acc C) fun D C H' s' q J2 ⟨mC, hnC⟩ fC n1 n2 n3 n4 => ?_
  refine ⟨mC, hnC, fun h' hsb => ⟨.ref D, H', ?_, rfl, q⟩⟩
  exact J2.turned (t' := s'.toks) (it := C) (fun b o hb e => (hsb.2 b hb).trans e) fC n1 (.inr n2) n3 n4
/-- name = [elt for tg in iter if ..], where the name is the def's own and stands in no cell: the store comes ahead of the block's end -/
theorem ps_setComp {i : Nat} {x : Str} {px : Pos} {spos : Pos} (B : Blk X.N X.env.scope scope capN cap) (hc : X.calm = true) (hN : X.N.Nodup) (hx : X.N[i]? = some x) (hl : X.env.scope.names.lookup x = some .local) (hi : PI X tg iter wi)
    (hb : ∀ (C : Addr) (s : Shared) (H : Hp) (fp : List Addr), PG (cxBlk X scope (own ++ capN) C s H fp) tg g ∧ PTs (cxBlk X scope (own ++ capN) C s H fp) ifs tt ∧ PE (cxBlk X scope (own ++ capN) C s H fp) elt te)
    (hsw : swapsWith (.ListComp elt [⟨tg, iter, ifs, 0⟩] scope pos) (some (.Name x px)) spos.line X.env = pure true := by rfl)
    (hs : ∀ x, foldedSetIterable iter X.env x = pure x := by intro _; rfl) : PS X (.Assign [.Name x px] (.ListComp elt [⟨tg, iter, ifs, 0⟩] scope pos) spos) (tAsg (tComp wi g tt te own.length cap) (gName i)) := by
  intro pins s σ H D0 I h
  rw [exec_Assign_Name_used _ _ _ _ hsw]
  refine wpAny_bind (wpAny_standAt (wpAny_bind ?_))
  show wpAny _ X.A (do
    let _ ← comprehension (.ListComp elt [⟨tg, iter, ifs, 0⟩] scope pos) scope X.env _ (newList []) false (eval iter X.env) (some (assign (.Name x px) X.env))) _ _ s
  refine wpAny_bind (wpAny_mono (wpAny_comprehension_free (use := some (assign (.Name x px) X.env)) (Q := fun _ s' => SP X pins D0 .next s') rfl hs (closureFor_of (B.clos I.ok)) B.kind B.loc
    (thn (hi pins s σ H _ I h) fun v s1 h1 => thn h1 fun itv s2 h2 => ?_)) (fun _ s' hq => wpAny_pure (wpAny_pure hq)) fun _ _ e => e)
  obtain ⟨it, fp, tn, J, H2, e, I2, T, st2, f2, W, ⟨m0, w0⟩, turn⟩ := h2
  subst e
  refine comp_run (own := own) (Q := fun x H1 => gName i x σ H1 D0.nx) B hc hb I2 T st2 f2 w0 turn (RR := fun acc C => compPost (model X.prog X.w) X.A X.xe (some (assign (.Name x px) X.env)) (fun _ s' => SP X pins D0 .next s') acc C) fun D C H' s' q J2 ⟨mC, hnC⟩ fC n1 n2 n3 n4 => ?_
  show wpAny _ X.A (assign (.Name x px) X.env (.ref D)) _ _ s'
  refine wpAny_assign_Name (store_ok2 J2 hN hx (.inl hl) (show RelV (.ref D) (.ref D) from rfl) (fun s'' J3 ⟨a, hsb, ha⟩ => ?_) (.inr hl))
  have hCa : C ≠ a := by
    rcases ha with z | z
    · rw [z]; exact n1
    · exact (n3 x a z).symm
  refine ⟨mC, hnC.sameBut hsb hCa, fun h' hsb' => ⟨_, H', ?_, q⟩⟩
  exact J3.turned (t' := s''.toks) (it := C) (fun b o hb e => (hsb'.2 b hb).trans e) fC n1 (.inr n2) n3 n4
end
end L2
namespace L2
open PySem PySem.Spec PyProof.Rows
/-! ### == of lists and tuples, at any depth, by what they hold -/
mutual
inductive Den (K : PySem.W.Frag) (H : Hp) : V → PyData → Prop
  | non : Den K H .non .none
  | bl (b : Bool) : Den K H (.bl b) (.bool b)
  | int (i : Int) : Den K H (.int i) (.int i)
  | str (x : Str) : Den K H (.str x) (.str x)
  | lst {a : Addr} {xs : List V} {ds : List PyData} : SqL K H a xs → Dens K H xs ds → Den K H (.ref a) (.list ds)
  | tup {a : Addr} {xs : List V} {ds : List PyData} : SqT K H a xs → Dens K H xs ds → Den K H (.ref a) (.tuple ds)
inductive Dens (K : PySem.W.Frag) (H : Hp) : List V → List PyData → Prop
  | nil : Dens K H [] []
  | cons {x : V} {d : PyData} {xs : List V} {ds : List PyData} : Den K H x d → Dens K H xs ds → Dens K H (x :: xs) (d :: ds)
end
section
variable {X : Cx} {pins : List (Addr × Obj)} {σ : St} {H : Hp} {s : Shared}
mutual
theorem Inv.den (I : Inv X pins σ H s) : ∀ {x : V} {d : PyData} {u : Value}, Den X.K H x d → RelV x u → ∃ as, Reads s.heap u d as
  | _, _, _, .non, r => by cases r; exact ⟨_, .none⟩
  | _, _, _, .bl b, r => by cases r; exact ⟨_, .bool b⟩
  | _, _, _, .int i, r => by obtain ⟨t, rfl⟩ := r; exact ⟨_, .int i t⟩
  | _, _, _, .str x, r => by obtain ⟨t, rfl⟩ := r; exact ⟨_, .str x t⟩
  | _, _, _, .lst hq hd, r => by
    cases r
    obtain ⟨its, rv, ⟨o, n, e, hc, _, hdt⟩, _⟩ := I.list hq
    obtain ⟨as, q⟩ := I.dens hd rv
    exact ⟨_, .list e hc hdt (by simpa using q)⟩
  | _, _, _, .tup hq hd, r => by
    cases r
    obtain ⟨its, rv, ⟨o, e, hc, n, hdt⟩, _⟩ := I.tuple hq
    obtain ⟨as, q⟩ := I.dens hd rv
    exact ⟨_, .tuple e hc hdt (by simpa using q)⟩
theorem Inv.dens (I : Inv X pins σ H s) : ∀ {xs : List V} {ds : List PyData} {us : List Value}, Dens X.K H xs ds → Vals xs us → ∃ as, ReadsAll s.heap us ds as
  | _, _, _, .nil, .nil => ⟨_, .nil⟩
  | _, _, _, .cons hd hr, .cons r rr => by
    obtain ⟨as, q⟩ := I.den hd r
    obtain ⟨bs, q'⟩ := I.dens hr rr
    exact ⟨_, .cons q q'⟩
end
def rEqD (K : PySem.W.Frag) : R2 := fun x y H Q => ∃ da db, Den K H x da ∧ Den K H y db ∧ SeqAt.shaped da = true ∧ SeqAt.shaped db = true ∧ Q (.bl (PyData.eqv da db)) H
def rNeD (K : PySem.W.Frag) : R2 := fun x y H Q => ∃ da db, Den K H x da ∧ Den K H y db ∧ SeqAt.shaped da = true ∧ SeqAt.shaped db = true ∧ Q (.bl (!PyData.eqv da db)) H
end
section
variable {X : Cx}
theorem op_eqD (hu : X.A.units + 64 < cLine) : OpR X (compareOp .Eq) (rEqD X.K) := by
  intro pins s σ H x y v u Q I rx ry h
  obtain ⟨da, db, h1, h2, h3, h4, q⟩ := h
  obtain ⟨as, r1⟩ := I.den h1 rx
  obtain ⟨bs, r2⟩ := I.den h2 ry
  exact SeqAt.compareEq_shaped r1 r2 h3 h4 hu ⟨.bl _, H, I, rfl, q⟩
theorem op_neD (hu : X.A.units + 64 < cLine) : OpR X (compareOp .NotEq) (rNeD X.K) := by
  intro pins s σ H x y v u Q I rx ry h
  obtain ⟨da, db, h1, h2, h3, h4, q⟩ := h
  obtain ⟨as, r1⟩ := I.den h1 rx
  obtain ⟨bs, r2⟩ := I.den h2 ry
  exact SeqAt.compareNe_shaped r1 r2 h3 h4 hu ⟨.bl _, H, I, rfl, q⟩
theorem dens_ints {K : PySem.W.Frag} {H : Hp} : ∀ ns : List Int, Dens K H (ns.map V.int) (ns.map PyData.int)
  | [] => .nil
  | n :: r => .cons (.int n) (dens_ints r)
theorem den_ints {K : PySem.W.Frag} {H : Hp} {a : Addr} {ns : List Int} (h : SqL K H a (ns.map V.int)) : Den K H (.ref a) (.list (ns.map PyData.int)) := .lst h (dens_ints ns)
/-- lists of ints -/
def rEqI (K : PySem.W.Frag) : R2 := fun x y H Q => ∃ (p q : Addr) (ns ms : List Int), x = .ref p ∧ y = .ref q ∧ SqL K H p (ns.map V.int) ∧ SqL K H q (ms.map V.int) ∧ Q (.bl (decide (ns = ms))) H
def rNeI (K : PySem.W.Frag) : R2 := fun x y H Q => ∃ (p q : Addr) (ns ms : List Int), x = .ref p ∧ y = .ref q ∧ SqL K H p (ns.map V.int) ∧ SqL K H q (ms.map V.int) ∧ Q (.bl (!decide (ns = ms))) H
theorem op_eqI (hu : X.A.units + 64 < cLine) : OpR X (compareOp .Eq) (rEqI X.K) := by
  intro pins s σ H x y v u Q I rx ry h
  obtain ⟨p, q, ns, ms, rfl, rfl, h1, h2, q⟩ := h
  refine op_eqD hu pins s σ H _ _ v u Q I rx ry ⟨_, _, den_ints h1, den_ints h2, PySem.W.shaped_ints ns, PySem.W.shaped_ints ms, ?_⟩
  simp only [PyData.eqv, PySem.W.ked_eqvAll]
  exact q
theorem op_neI (hu : X.A.units + 64 < cLine) : OpR X (compareOp .NotEq) (rNeI X.K) := by
  intro pins s σ H x y v u Q I rx ry h
  obtain ⟨p, q, ns, ms, rfl, rfl, h1, h2, q⟩ := h
  refine op_neD hu pins s σ H _ _ v u Q I rx ry ⟨_, _, den_ints h1, den_ints h2, PySem.W.shaped_ints ns, PySem.W.shaped_ints ms, ?_⟩
  simp only [PyData.eqv, PySem.W.ked_eqvAll]
  exact q

/-! ### isinstance, is not, all, bit_length, [::-1] -/
def rIsi (K : PySem.W.Frag) : List V → Hp → VK → Prop := fun xs H Q =>
  (∃ i, xs = [.int i, .ty "int"] ∧ Q (.bl true) H) ∨ (∃ i, xs = [.int i, .ty "bool"] ∧ Q (.bl false) H) ∨ (∃ p ys, xs = [.ref p, .ty "list"] ∧ SqL K H p ys ∧ Q (.bl true) H) ∨ (∃ p ys, xs = [.ref p, .ty "tuple"] ∧ SqT K H p ys ∧ Q (.bl true) H)
theorem call_isi : CallR X (.builtin "isinstance") (rIsi X.K) := by
  intro pins s σ H xs us Q I r h
  rcases h with ⟨i, rfl, q⟩ | ⟨i, rfl, q⟩ | ⟨p, ys, rfl, hq, q⟩ | ⟨p, ys, rfl, hq, q⟩
  · cases r with
    | cons r1 r2 =>
      cases r2 with
      | cons r2 r3 =>
        cases r3
        obtain ⟨t, rfl⟩ := r1
        cases r2
        exact IsiPair.int_int ⟨.bl true, H, I, rfl, q⟩
  · cases r with
    | cons r1 r2 =>
      cases r2 with
      | cons r2 r3 =>
        cases r3
        obtain ⟨t, rfl⟩ := r1
        cases r2
        exact IsiPair.int_bool ⟨.bl false, H, I.tok _, rfl, q⟩
  · cases r with
    | cons r1 r2 =>
      cases r2 with
      | cons r2 r3 =>
        cases r3
        cases r1
        cases r2
        obtain ⟨its, rv, ⟨o, n, e, hc, _⟩, _⟩ := I.list hq
        exact IsiPair.list_list e hc ⟨.bl true, H, I, rfl, q⟩
  · cases r with
    | cons r1 r2 =>
      cases r2 with
      | cons r2 r3 =>
        cases r3
        cases r1
        cases r2
        obtain ⟨its, rv, ⟨o, e, hc, _⟩, _⟩ := I.tuple hq
        exact IsiPair.tuple_tuple e hc ⟨.bl true, H, I, rfl, q⟩
theorem mt_bits : MtR X "int.bit_length" (fun x xs H Q => ∃ i, x = .int i ∧ xs = [] ∧ Q (.int (Builtin.Int.intBits i : Nat)) H) := by
  intro pins s σ H x xs v us Q I rx rv h
  obtain ⟨i, rfl, rfl, q⟩ := h
  obtain ⟨t, rfl⟩ := rx
  cases rv
  exact call_int_bit_length ⟨.int _, H, I.tok _, ⟨_, rfl⟩, q⟩
theorem Inv.same {pins : List (Addr × Obj)} {σ : St} {H : Hp} {s s' : Shared} (I : Inv X pins σ H s) (k : ∀ b o, s.heap.get? b = some o → s'.heap.get? b = some o) (g : s'.gens = s.gens) (ho : s'.os = s.os) : Inv X pins σ H s' := by
  obtain ⟨hh, gg, dd, tt, oo⟩ := s'
  simp only at k g ho
  subst g
  subst ho
  have J : Inv X pins σ H { s with heap := hh, toks := tt } := I.kept k
  exact ⟨J.ok, J.os, J.bare, J.base, J.loc, J.cell, J.free, J.freeC, J.pin, J.hok, J.len⟩
/-- all(a list of truths) -/
theorem call_all (hc : X.calm = true) : CallR X (.builtin "all") (fun xs H Q => ∃ (p : Addr) (bs : List Bool), xs = [.ref p] ∧ SqL X.K H p (bs.map V.bl) ∧ Q (.bl (bs.all id)) H) := by
  intro pins s σ H xs us Q I r h
  obtain ⟨p, bs, rfl, hq, q⟩ := h
  obtain ⟨u, rfl, rx⟩ := vals1 r
  cases rx
  obtain ⟨its, rv, pl, hz⟩ := I.list hq
  have hlen := rv.length
  rw [List.length_map] at hlen
  have hlt : p < s.heap.objs.size := by obtain ⟨o, n, e, _⟩ := pl; exact Heap.lt_size e
  have bAt : ∀ (i : Nat) (v : Value), its.toArray[i]? = some v → v = Value.bool (bs.getD i false) := fun i v hv => by
    have hv' : its[i]? = some v := by simpa using hv
    have hi : i < bs.length := by rw [hlen]; exact (List.getElem?_eq_some_iff.mp hv').1
    obtain ⟨u, hu, ru⟩ := rv.get (i := i) (x := .bl bs[i]) (by simp [hi])
    rw [hv'] at hu
    cases hu
    rw [List.getD_eq_getElem?_getD, List.getElem?_eq_getElem hi]
    exact ru
  have hh1 : X.A.in1.handled = none := I.ok.hd hc
  refine call_all_walkS (wpAny_pyIter_list pl.isList ⟨s.heap.objs.size, [s.heap.objs.size, p], [s.heap.objs.size], fun a b => b = a, its.toArray.size, fun i v => its.toArray[i]? = some v, _, fun i => bs.getD i false, rfl,
    (Walks.list hh1 _ p (Nat.ne_of_lt hlt) its.toArray).toS, ⟨⟨_, Heap.get?_push_size _ rfl, rfl, rfl⟩, pl.isList.push _⟩, fun i v s1 Q1 E1 hv hq1 => ?_, fun s' hm => ?_⟩)
  · rw [bAt i v hv]
    exact wpAny_truthy_bool hq1
  · have I1 : Inv X pins σ H { s with heap := s.heap.push { cls := .type "list_iterator", data := .fields #[.ref p, .int 0 0] } } := I.kept (t' := s.toks) fun b o e => Heap.get?_push_of_some _ e
    refine ⟨.bl _, H, I.same (fun b o e => hm.heap b o (fun hb => ?_) (Heap.get?_push_of_some _ e)) hm.gens hm.os, rfl, ?_⟩
    · have hb' : b = s.heap.objs.size := by simpa using hb
      exact absurd (Heap.lt_size e) (by rw [hb']; exact Nat.lt_irrefl _)
    · have e : ((List.range its.toArray.size).all fun i => bs.getD i false) = bs.all id := by
        rw [List.size_toArray, ← hlen]
        clear bAt hlen hq rv q
        have : (List.range bs.length).map (fun i => bs.getD i false) = bs := by
          apply List.ext_getElem
          · simp
          · intro i h1 h2
            simp [h2]
        conv => rhs; rw [← this]
        rw [List.all_map]
        rfl
      rw [e]
      exact q
/-- xs[::k], k = -1 -/
def tRev (K : PySem.W.Frag) (te tk : TE) : TE := fun σ H Q => te σ H fun x H1 => tk σ H1 fun y H2 => y = .int (-1) ∧ ∃ a xs, x = .ref a ∧ SqL K H2 a xs ∧ ∀ p, H2 p = none → Q (.ref p) (upd H2 p (.lst xs.reverse))

/-! ### sets of ints -/
end
end L2
namespace L2
open PySem PySem.Spec PyProof.Rows
/-! ### exceptions that fly: the record at e, its class, its own dict, its record of frames -/
theorem dict_mapFields {o : Obj} {vs : Array Value} (hd : o.data = .fields vs) (f : Array Value → Array Value) : (Obj.mapFields f o).dict = o.dict := by
  obtain ⟨c, d, dt, sl⟩ := o
  cases dt <;> rfl
def Fly (h : Heap) (e : Addr) (cls : Value) (dd : Option Addr) (ch : List Addr) : Prop :=
  ∃ oe vs, h.get? e = some oe ∧ oe.cls = cls ∧ oe.dict = dd ∧ oe.data = .fields vs ∧
    ((vs[1]? = some .none ∧ ch = [e]) ∨ ∃ T oT ts, vs[1]? = some (.ref T) ∧ T ≠ e ∧ h.get? T = some oT ∧ oT.data = .fields ts ∧ ts[3]? = some .none ∧ ch = [e, T])
theorem Fly.rec {h : Heap} {e : Addr} {cls : Value} {dd : Option Addr} {ch : List Addr} (x : Fly h e cls dd ch) : ∀ b ∈ ch, ∃ o vs, h.get? b = some o ∧ o.data = .fields vs := by
  obtain ⟨oe, vs, he, _, _, hd, h1 | ⟨T, oT, ts, _, _, hT, hdT, _, rfl⟩⟩ := x
  · obtain ⟨_, rfl⟩ := h1
    intro b hb
    simp only [List.mem_singleton] at hb
    subst hb
    exact ⟨oe, vs, he, hd⟩
  · intro b hb
    simp only [List.mem_cons, List.not_mem_nil, or_false] at hb
    rcases hb with rfl | rfl
    · exact ⟨oe, vs, he, hd⟩
    · exact ⟨oT, ts, hT, hdT⟩
structure Moved (fs ch : List Addr) (h h' : Heap) : Prop where
  keep : ∀ b o, h.get? b = some o → b ∉ ch → b ∉ fs → h'.get? b = some o
  slot : ∀ b o, h.get? b = some o → b ∉ ch → ∃ sl, h'.get? b = some { o with slots := sl }
  there : ∀ b o, h.get? b = some o → ∃ o', h'.get? b = some o'

section
variable {M : Model} {A : Around} {E : Value → Shared → Prop} {s : Shared}
theorem new_entry {base : Heap} {env : Env} {outer : List Env} {L e : Addr} {oe : Obj} {vs : Array Value} {head : Value} {hadNext : Bool} {Q : Unit → Shared → Prop}
    (hfr : A.frames = some (env :: outer)) (hl : s.heap.FunFrames base (env :: outer)) (hf : env.frame = some L)
    (he : s.heap.get? e = some oe) (hd : oe.data = .fields vs) (hsz : 1 < vs.size)
    (h : ∀ h', Fly h' e oe.cls oe.dict [e, s.heap.objs.size] → Moved (frs (env :: outer)) [e] s.heap h' → Q () { s with heap := h' }) :
    wpAny M A (do let a ← frameOf env; let pl ← entryPlaceOf L hadNext; let b ← EntryCells.newEntry head a .none (rawInt L) .none pl; setField (.ref e) 1 b) (fun _ s' => wpAny M A (setFlight (.ref e) none) Q E s') E s := by
  have hene : e ∉ (env :: outer).filterMap (·.frame) := fun hm => by
    obtain ⟨_, o, ho, hnf⟩ := hl.mem hm
    rw [he] at ho; injection ho with ho; subst ho; exact hnf vs hd
  refine wpAny_bind (wpAny_frameOf_fun hfr hl hf fun h₁ hs₁ => ?_)
  refine wpAny_bind (wpAny_entryPlaceOf fun pl hpl => ?_)
  unfold EntryCells.newEntry newFields
  refine wpAny_bind (wpAny_newObj_type ?_ (hpl.sizeOk5 _ _ _ _ _))
  have he₁ : h₁.get? e = some oe := (hs₁.2.1 e hene).trans he
  have he₂ := Heap.get?_push_of_some (h := h₁) { cls := .type "traceback", dict := none, data := .fields ([head, .ref L, .none, rawInt L, .none] ++ (if pl.isEmpty then List.replicate 6 Value.none else pl)).toArray } he₁
  refine wpAny_setField he₂ hd hsz ?_
  have hTe : h₁.objs.size ≠ e := Nat.ne_of_gt (Heap.lt_size he₁)
  have hd₃ := Obj.data_mapFields hd (·.setIfInBounds 1 (Value.ref h₁.objs.size))
  have he₃ := Heap.get?_update_self (Obj.mapFields (·.setIfInBounds 1 (Value.ref h₁.objs.size))) he₂ (Obj.isFreed_of_fields hd₃)
  have hT₃ := (Heap.get?_update_other (h₁.push { cls := .type "traceback", dict := none, data := .fields ([head, .ref L, .none, rawInt L, .none] ++ (if pl.isEmpty then List.replicate 6 Value.none else pl)).toArray })
    (Obj.mapFields (·.setIfInBounds 1 (Value.ref h₁.objs.size))) (Ne.symm hTe)).trans (Heap.get?_push_size h₁ rfl)
  unfold setFlight
  refine wpAny_bind (wpAny_field he₃ hd₃ (x := .ref h₁.objs.size) (by simp [hsz]) ?_)
  rw [if_pos (show (Value.ref h₁.objs.size != Value.none) = true from by simp)]
  refine wpAny_setField hT₃ rfl (by simp only [List.size_toArray, List.length_append, List.length_cons, List.length_nil] <;> omega) (h _ ?_ ?_)
  · refine ⟨_, _, ?_, Obj.cls_mapFields _ _, dict_mapFields hd _, hd₃, .inr ⟨h₁.objs.size, _, _, by simp [hsz], hTe, Heap.get?_update_self _ hT₃ (Obj.isFreed_of_fields (Obj.data_mapFields rfl _)), Obj.data_mapFields rfl _, by first | (simp; done) | (rcases hpl with rfl | ⟨_, _, _, _, _, _, _, rfl⟩ <;> simp), by rw [hs₁.1]⟩⟩
    rw [Heap.get?_update_other _ _ hTe]; exact he₃
  · have keep : ∀ b o, b ≠ e → h₁.get? b = some o →
        (((h₁.push { cls := .type "traceback", dict := none, data := .fields ([head, .ref L, .none, rawInt L, .none] ++ (if pl.isEmpty then List.replicate 6 Value.none else pl)).toArray }).update e (Obj.mapFields (·.setIfInBounds 1 (Value.ref h₁.objs.size)))).update h₁.objs.size
          (Obj.mapFields (·.setIfInBounds 3 ((none : Option Addr).elim Value.none fun f => rawInt f)))).get? b = some o := fun b o hbe hb => by
      have hbT : h₁.objs.size ≠ b := Nat.ne_of_gt (Heap.lt_size hb)
      rw [Heap.get?_update_other _ _ hbT, Heap.get?_update_other _ _ (Ne.symm hbe)]
      exact Heap.get?_push_of_some _ hb
    refine ⟨fun b o hb hc hfs => keep b o (by simpa using hc) ((hs₁.2.1 b hfs).trans hb), fun b o hb hc => ?_, fun b o hb => ?_⟩
    · obtain ⟨sl, hs⟩ := hs₁.2.2 b o hb
      exact ⟨sl, keep b _ (by simpa using hc) hs⟩
    · by_cases hbe : b = e
      · subst hbe
        exact ⟨_, by rw [Heap.get?_update_other _ _ hTe]; exact he₃⟩
      · obtain ⟨sl, hs⟩ := hs₁.2.2 b o hb
        exact ⟨_, keep b _ hbe hs⟩

/-- a frame is noted, then the flight is set back: so a frame is left, so a try looks -/
theorem note_step {base : Heap} {env : Env} {outer : List Env} {L e : Addr} {cls : Value} {dd : Option Addr} {ch : List Addr} {Q : Unit → Shared → Prop}
    (hfr : A.frames = some (env :: outer)) (hl : s.heap.FunFrames base (env :: outer)) (hf : env.frame = some L) (x : Fly s.heap e cls dd ch)
    (h : ∀ h' ch', Fly h' e cls dd ch' → Moved (frs (env :: outer)) ch s.heap h' → (∀ b ∈ ch', b ∈ ch ∨ s.heap.objs.size ≤ b) → Q () { s with heap := h' }) :
    wpAny M A (noteFrame (.ref e) env) (fun _ s' => wpAny M A (setFlight (.ref e) none) Q E s') E s := by
  obtain ⟨oe, vs, he, rfl, rfl, hd, ⟨h1, rfl⟩ | ⟨T, oT, ts, h1, hTe, hT, hdT, h3, rfl⟩⟩ := x
  · unfold noteFrame
    simp only [hf]
    refine wpAny_bind (wpAny_field he hd h1 ?_)
    rw [if_neg (by decide)]
    refine new_entry hfr hl hf he hd (Array.getElem?_eq_some_iff.mp h1).1 fun h' f m => h h' _ f m fun b hb => ?_
    simp only [List.mem_cons, List.not_mem_nil, or_false] at hb
    rcases hb with rfl | rfl
    · exact .inl (by simp)
    · exact .inr (Nat.le_refl _)
  · unfold noteFrame
    simp only [hf]
    refine wpAny_bind (wpAny_field he hd h1 ?_)
    rw [if_pos (show (Value.ref T != Value.none) = true from by simp)]
    refine wpAny_bind (wpAny_field hT hdT h3 ?_)
    rw [if_neg (show ¬ ((Value.none == rawInt L) = true) from by simp [rawInt])]
    refine wpAny_bind (wpAny_setField hT hdT (Array.getElem?_eq_some_iff.mp h3).1 ?_)
    have other : ∀ b, b ≠ T → (s.heap.update T (Obj.mapFields (·.setIfInBounds 3 Value.none))).get? b = s.heap.get? b := fun b hb => Heap.get?_update_other _ _ (Ne.symm hb)
    have selfT := Heap.get?_update_self (Obj.mapFields (·.setIfInBounds 3 Value.none)) hT (Obj.isFreed_of_fields (Obj.data_mapFields hdT _))
    have noRecord : ∀ b o, s.heap.get? b = some o → (∀ vs, o.data ≠ .fields vs) → b ≠ T := fun b o hb hnf q => by
      rw [q, hT] at hb; injection hb with hb; subst hb; exact hnf ts hdT
    have hsize : (s.heap.update T (Obj.mapFields (·.setIfInBounds 3 Value.none))).objs.size = s.heap.objs.size := Heap.size_after_update _ _ _
    refine new_entry (s := { s with heap := s.heap.update T (Obj.mapFields (·.setIfInBounds 3 Value.none)) }) hfr (hl.of_keeps fun b o hb hnf => ⟨o, (other b (noRecord b o hb hnf)).trans hb, rfl⟩) hf ((other e (Ne.symm hTe)).trans he) hd (Array.getElem?_eq_some_iff.mp h1).1
      fun h' f m => h h' _ f ⟨fun b o hb hc hfs => ?_, fun b o hb hc => ?_, fun b o hb => ?_⟩ fun b hb => ?_
    · simp only [List.mem_cons, List.not_mem_nil, or_false, not_or] at hc
      exact m.keep b o ((other b hc.2).trans hb) (by simpa using hc.1) hfs
    · simp only [List.mem_cons, List.not_mem_nil, or_false, not_or] at hc
      exact m.slot b o ((other b hc.2).trans hb) (by simpa using hc.1)
    · by_cases hbT : b = T
      · subst hbT
        exact m.there b _ selfT
      · exact m.there b o ((other b hbT).trans hb)
    · simp only [List.mem_cons, List.not_mem_nil, or_false] at hb
      rcases hb with rfl | rfl
      · exact .inl (by simp)
      · exact .inr (Nat.le_of_eq hsize.symm)
theorem leave_step {base : Heap} {env : Env} {outer : List Env} {L e : Addr} {cls : Value} {dd : Option Addr} {ch : List Addr} {Q : Unit → Shared → Prop}
    (hfr : A.frames = some (env :: outer)) (hl : s.heap.FunFrames base (env :: outer)) (hf : env.frame = some L) (x : Fly s.heap e cls dd ch)
    (h : ∀ h' ch', Fly h' e cls dd ch' → Moved (frs (env :: outer)) ch s.heap h' → (∀ b ∈ ch', b ∈ ch ∨ s.heap.objs.size ≤ b) → Q () { s with heap := h' }) :
    wpAny M A (leaving env (.ref e)) Q E s := by
  unfold leaving
  exact wpAny_bind (note_step hfr hl hf x h)
end

section
variable {X : Cx} {pins : List (Addr × Obj)} {σ : St} {H : Hp} {s : Shared}
theorem Inv.excStep {h' : Heap} {ch : List Addr} (I : Inv X pins σ H s) (m : Moved (frs X.stack) ch s.heap h')
    (hch : ∀ b ∈ ch, X.s₀.heap.get? b = none ∧ H b = none ∧ (∀ p ∈ X.pn ++ pins, p.1 ≠ b) ∧ ∃ o vs, s.heap.get? b = some o ∧ o.data = .fields vs) :
    Inv X pins σ H { s with heap := h' } := by
  have notF : ∀ b o, s.heap.get? b = some o → (∀ vs, o.data ≠ .fields vs) → b ∉ ch := fun b o hb hn hc => by
    obtain ⟨_, _, _, o', vs, hb', hd⟩ := hch b hc
    rw [hb] at hb'; cases hb'
    exact hn vs hd
  have cellK : ∀ c v, s.heap.IsCell c v → h'.IsCell c v := fun c v ⟨o, ho, hd⟩ => by
    obtain ⟨sl, e⟩ := m.slot c o ho (notF c o ho fun vs q => by rw [hd] at q; cases q)
    exact ⟨_, e, hd⟩
  refine ⟨I.ok, I.os, I.bare, ⟨fun b o e n hf hx => ?_, fun b o e n hf hx => ?_, I.base.free, fun b o e hx => ?_, I.base.tups, I.base.frzs, I.base.tbls⟩, ?_, fun x c hc => ?_, I.free, I.freeC, fun p hp => ?_, fun b u e => ?_, I.len⟩
  · have e1 := I.base.keep b o e n hf hx
    refine m.keep b o e1 (fun hc => ?_) fun hs => ?_
    · rw [(hch b hc).1] at e; cases e
    · rcases List.mem_cons.mp (I.stkSub b hs) with z | z
      · rw [z] at e
        exact absurd (Heap.lt_size e) (Nat.not_lt.mpr I.ok.above)
      · exact hf z
  · obtain ⟨sl, e1⟩ := I.base.slot b o e n hf hx
    obtain ⟨sl2, e2⟩ := m.slot b _ e1 fun hc => by rw [(hch b hc).1] at e; cases e
    exact ⟨sl2, e2⟩
  · obtain ⟨o', e1⟩ := I.base.there b o e hx
    exact m.there b o' e1
  · obtain ⟨mm, ⟨o, es, ep, ho, hd, r⟩, hl⟩ := I.loc
    obtain ⟨sl, e⟩ := m.slot _ o ho (notF _ o ho fun vs q => by rw [hd] at q; cases q)
    refine ⟨mm, ⟨_, es, ep, e, hd, r⟩, fun i x v h1 h2 h3 => ?_⟩
    obtain ⟨u, ru, lk⟩ := hl i x v h1 h2 h3
    refine ⟨u, ru, ?_⟩
    rcases lk with ⟨a, b⟩ | ⟨a, c, hc, hcell⟩
    · exact .inl ⟨a, b⟩
    · exact .inr ⟨a, c, hc, cellK c _ hcell⟩
  · obtain ⟨v, hv⟩ := I.cell x c hc
    exact ⟨v, cellK c v hv⟩
  · obtain ⟨a, b, c, d, e⟩ := I.pin p hp
    refine ⟨m.keep _ _ a (fun hc => (hch _ hc).2.2.1 p hp rfl) fun hs => ?_, b, c, d, e⟩
    rcases List.mem_cons.mp (I.stkSub _ hs) with z | z
    · exact c z
    · exact d z
  · refine (I.hok b u e).stay (fun c v hc q => m.keep c v q (fun z => ?_) fun z => ?_) (fun _ q => q) fun _ _ q => q
    · have n := (hch c z).2.1
      rcases hc with rfl | hc
      · rw [e] at n; cases n
      · rw [hc] at n; cases n
    · have n := I.stkFree c z
      rcases hc with rfl | hc
      · rw [e] at n; cases n
      · rw [hc] at n; cases n

/-- an exception lies behind a call: CX of the layer -/
def CXe (P : Program) (w : World) : CXT := fun outer H s E ev s' => ∃ e cls dd ch H', ev = .ref e ∧ s'.os = s.os ∧ AllBare s'.gens ∧ Un (frs outer) [] H H' s.heap s'.heap ∧ HOk P w H' s'.heap ∧
  Fly s'.heap e cls dd ch ∧ (∀ b ∈ ch, s.heap.get? b = none ∧ H' b = none) ∧ E cls dd H'
/-- an exception flies in a body -/
def XP (X : Cx) (pins : List (Addr × Obj)) (σ : St) (E : XK) (ev : Value) (s' : Shared) : Prop := ∃ e cls dd ch H', ev = .ref e ∧ Inv X pins σ H' s' ∧ Fly s'.heap e cls dd ch ∧
  (∀ b ∈ ch, X.s₀.heap.get? b = none ∧ H' b = none ∧ ∀ p ∈ X.pn ++ pins, p.1 ≠ b) ∧ E cls dd H'
theorem Inv.new_of (I : Inv X pins σ H s) (hex : X.ex = []) {b : Addr} (hb : s.heap.get? b = none) : X.s₀.heap.get? b = none := by
  cases q : X.s₀.heap.get? b with
  | none => rfl
  | some o =>
    obtain ⟨o', e⟩ := I.base.there b o q (by rw [hex]; simp)
    rw [e] at hb; cases hb
/-- what is wanted of exceptions here follows from E -/
def PassX (X : Cx) (E : XK) : Prop := ∀ (pins : List (Addr × Obj)) (σ : St) (ev : Value) (s' : Shared), XP X pins σ E ev s' → X.xe ev s'
theorem passX_def {P : Program} {w : World} {K : PySem.W.Frag} {mg : Str → Option Value} {base : Heap} {N : List Str} {qual : Str} {scope : Scope} {f : Addr} {cd : Value} {A : Around} {outer : List Env} {s : Shared} {H : Hp} {E : XK} :
    PassX (cxOf (CXe P w) P w K mg base N qual scope f cd A outer s H E) E := by
  intro pins σ ev s' x
  obtain ⟨e, cls, dd, ch, H', rfl, I, fly, hch, q⟩ := x
  refine leave_step (base := base) (outer := outer) I.ok.frames I.stack rfl fly fun h' ch' fly' m new => ?_
  have I' := I.excStep m fun b hb => ⟨(hch b hb).1, (hch b hb).2.1, (hch b hb).2.2, fly.rec b hb⟩
  refine ⟨e, cls, dd, ch', H', rfl, I'.os, I'.bare, I'.base, I'.hok, fly', fun b hb => ?_, q⟩
  rcases new b hb with z | z
  · exact ⟨(hch b z).1, (hch b z).2.1⟩
  · exact ⟨Heap.get?_none_of_le (Nat.le_trans I.sz z), I.hok.fresh z⟩
theorem own_def {P : Program} {w : World} {K : PySem.W.Frag} {mg : Str → Option Value} {base : Heap} {N : List Str} {qual : Str} {scope : Scope} {f : Addr} {cd : Value} {A : Around} {outer : List Env} {s : Shared} {H : Hp} {E : XK} :
    PassesOwn (model P w) (cxOf (CXe P w) P w K mg base N qual scope f cd A outer s H E).A (cxOf (CXe P w) P w K mg base N qual scope f cd A outer s H E).env (cxOf (CXe P w) P w K mg base N qual scope f cd A outer s H E).xe :=
  PassesOwn.leaving (Q₁ := fun e s'' => CXe P w outer H s E e s'')
end
end L2
namespace L2
open PySem PySem.Spec PyProof.Rows
/-! ### attributes of an exception of an own class beneath ValueError -/
def vErr : List Value := [.type "ValueError", .type "Exception", .type "BaseException", .type "object"]
def excMro : List Value → Bool
  | [] => false
  | .ref _ :: r => excMro r
  | l => l == vErr
theorem refuse_exc (self : Value) : ∀ {l : List Value}, excMro l = true → refuseLoop self "__setattr__" l = pure ()
  | .ref c :: r, e => by rw [refuseLoop_ref]; exact refuse_exc self e
  | .type a :: r, e => by
    have e' : (Value.type a :: r) = vErr := beq_iff_eq.mp e
    rw [e']; exact PySem.F.store_ValueError.passes self
  | .none :: r, e => by have := beq_iff_eq.mp (show (_ == vErr) = true from e); cases this
  | .bool _ :: r, e => by have := beq_iff_eq.mp (show (_ == vErr) = true from e); cases this
  | .int _ _ :: r, e => by have := beq_iff_eq.mp (show (_ == vErr) = true from e); cases this
  | .float _ _ :: r, e => by have := beq_iff_eq.mp (show (_ == vErr) = true from e); cases this
  | .str _ _ :: r, e => by have := beq_iff_eq.mp (show (_ == vErr) = true from e); cases this
  | .bytes _ _ :: r, e => by have := beq_iff_eq.mp (show (_ == vErr) = true from e); cases this
  | .builtin _ :: r, e => by have := beq_iff_eq.mp (show (_ == vErr) = true from e); cases this
theorem excMro_has : ∀ {l : List Value}, excMro l = true → l.contains (.type "object") = true ∧ l.contains (.type "BaseException") = true ∧ l.isEmpty = false
  | .ref c :: r, e => by
    obtain ⟨a, b, _⟩ := excMro_has (l := r) e
    exact ⟨by rw [List.contains_cons, a, Bool.or_true], by rw [List.contains_cons, b, Bool.or_true], rfl⟩
  | .type a :: r, e => by
    have e' : (Value.type a :: r) = vErr := beq_iff_eq.mp e
    rw [e']; exact ⟨by decide, by decide, rfl⟩
  | .none :: r, e => by have := beq_iff_eq.mp (show (_ == vErr) = true from e); cases this
  | .bool _ :: r, e => by have := beq_iff_eq.mp (show (_ == vErr) = true from e); cases this
  | .int _ _ :: r, e => by have := beq_iff_eq.mp (show (_ == vErr) = true from e); cases this
  | .float _ _ :: r, e => by have := beq_iff_eq.mp (show (_ == vErr) = true from e); cases this
  | .str _ _ :: r, e => by have := beq_iff_eq.mp (show (_ == vErr) = true from e); cases this
  | .bytes _ _ :: r, e => by have := beq_iff_eq.mp (show (_ == vErr) = true from e); cases this
  | .builtin _ :: r, e => by have := beq_iff_eq.mp (show (_ == vErr) = true from e); cases this
def exOver (K : PySem.W.Frag) (C : Addr) : Bool := (PySem.W.clsIn K C).any fun cd => excMro cd.mro
/-- an own class of exceptions, beneath ValueError -/
structure XCls (K : PySem.W.Frag) (C : Addr) : Prop where
  mro : exOver K C = true
  hd : PySem.W.hasDictIn K C = true
  sa : PySem.W.findIn K (.ref C) "__setattr__" = some (some (.builtin "object.__setattr__"))
  ga : PySem.W.findIn K (.ref C) "__getattribute__" = some (some (.builtin "BaseException.__getattribute__"))
  gn : PySem.W.findIn K (.ref C) "__getattr__" = some none
section
variable {prog : Program} {w : World} {A : Around} {E : Value → Shared → Prop} {s : Shared} {K : PySem.W.Frag} {x C : Addr} {ox : Obj} {name : Str} {v : Value}
open PySem.W in
theorem osa_exc {R : Result → Shared → Prop} {od : Option Obj} {tk : Tok} (X : K.In s.heap) (I : PySem.W.InstAt s.heap x ox C od) (hp : exOver K C = true) (ht : findIn K (.ref C) name = some none)
    (h : ∀ b, wpAny (model prog w) A.in1 (Builtin.ObjectAttr.storeInOwnDict (.ref x) (.ref C) (.str name tk) name v b)
      (fun fin s' => match fin with | .done f => R (.ok f) s' | .again c' => c'.quiet = true ∧ codeAny (model prog w) A c' R s') (fun e s' => R (.error e) s') s) :
    codeAny (model prog w) A (.call (.builtin "object.__setattr__") ⟨[.ref x, .str name tk, v], []⟩) R s := by
  have SF := PySem.F.store_object
  obtain ⟨cd, hc, ho⟩ := any_some hp
  obtain ⟨h1, h2, ne⟩ := excMro_has ho
  have sub : Looks (model prog w) s.heap (isInstance (.ref x) (.type "object")) true := I.type.andThen (looks_mroIn X (by unfold mroIn; rw [hc, Option.bind_some, if_neg (by rw [ne]; decide), h1]))
  refine codeAny_call_builtin SF.slot.plain SF.entry (@check_slot (model prog w) _ _ s "object.__setattr__" "object" "__setattr__" (.ref x) [.str name tk, v] [] _ SF.kind SF.split sub (SF.args (.ref x) (.str name tk) v) ?_)
  have hm : Looks (model prog w) s.heap (mroOf (.ref C)) cd.mro := (looks_clsIn X hc).andThen .now
  have L3 : Looks (model prog w) s.heap (Builtin.ObjectAttr.storeTaker? none) none := .now
  rw [osa_eq, refuse_eq]
  refine wpAny_bind (wpAny_bind (I.type.here (wpAny_bind (hm.here ?_))))
  rw [refuse_exc _ ho]
  refine wpAny_pure (wpAny_bind (I.type.here (wpAny_bind ((looks_findIn X ht).here (wpAny_bind (L3.here ?_))))))
  exact h _
/-- the first attribute of an exception: its dict is made -/
theorem set_exc0 {vs : Array Value} {Q : Unit → Shared → Prop} (X : K.In s.heap) (hx : s.heap.get? x = some ⟨.ref C, none, .fields vs, #[]⟩) (c : XCls K C) (ht : PySem.W.findIn K (.ref C) name = some none)
    (h : ∀ h' t', h'.get? x = some ⟨.ref C, some s.heap.objs.size, .fields vs, #[]⟩ → h'.Ns1 s.heap.objs.size (fun y => if y = name then some v else none) →
      (∀ b o, b ≠ x → s.heap.get? b = some o → h'.get? b = some o) → Q () { s with heap := h', toks := t' }) :
    wpAny (model prog w) A (setAttr (.ref x) name v) Q E s := by
  have I : PySem.W.InstAt s.heap x ⟨.ref C, none, .fields vs, #[]⟩ C none := ⟨hx, rfl, rfl, True.intro⟩
  refine PySem.W.set_plain X I c.sa (osa_exc (s := { s with toks := s.toks + 1 }) X I c.mro ht fun b => ?_)
  obtain ⟨cd, hc, hd'⟩ := PySem.W.any_some c.hd
  obtain ⟨hp, g, d, t, os⟩ := s
  dsimp only at X hx h I ⊢
  refine wpAny_bind (wpAny_pure (wpAny_bind (wpAny_bind (wpAny_loadPart hx (wpAny_bind (PySem.W.Looks.here (s := ⟨hp, g, d, t + 1, os⟩) (PySem.W.looks_clsIn X hc) ?_))))))
  rw [hd']
  have hx₁ : (hp.push { cls := .type "dict", data := .dict #[] }).get? x = some ⟨.ref C, none, .fields vs, #[]⟩ := Heap.get?_push_of_some _ hx
  have hxs : x ≠ hp.objs.size := Nat.ne_of_lt (Heap.lt_size hx)
  rw [if_neg (by decide)]
  dsimp only
  rw [if_neg (by simp [typeHasDict])]
  refine wpAny_bind (wpAny_alloc' ?_)
  refine wpAny_bind (wpAny_update' hx₁ ?_)
  refine wpAny_pure ?_
  have hgd : ((hp.push { cls := .type "dict", data := .dict #[] }).update x fun o => { cls := o.cls, dict := some hp.objs.size, data := o.data, slots := o.slots }).get? hp.objs.size
      = some { cls := .type "dict", data := .dict #[] } :=
    (Heap.get?_update_ne _ _ _ _ hxs.symm).trans (Heap.get?_push_at rfl rfl)
  have hnd : ((hp.push { cls := .type "dict", data := .dict #[] }).update x fun o => { cls := o.cls, dict := some hp.objs.size, data := o.data, slots := o.slots }).Ns hp.objs.size (fun _ => none) :=
    ⟨_, #[], _, hgd, rfl, fun e he => absurd he (by simp), fun _ => rfl⟩
  show wpAny _ _ (Builtin.ObjectAttr.storeInDict hp.objs.size (.str name t) name v) _ _ _
  unfold Builtin.ObjectAttr.storeInDict Builtin.ObjectAttr.newKeyGuard
  refine wpAny_bind (wpAny_pure (wpAny_bind (wpAny_nsSet1 (Heap.Ns1.of_empty hnd) fun h' hn' hs => ?_)))
  obtain ⟨oD, esD, epD, hoD, hdD, hcD⟩ := hn'.count (Within.cons name v Within.nil)
  refine wpAny_bind (wpAny_lookBehind hoD (by rw [hdD]; exact pastItsLine_dict (Nat.le_trans hcD (by rw [List.length_cons, List.length_nil, sizeLine_eq]; omega))) ?_)
  refine wpAny_pure (h h' _ ?_ hn' fun b o hbx hb => ?_)
  · exact (hs.2 x hxs).trans (Heap.get?_update_self _ hx₁ rfl)
  · exact (hs.2 b (Nat.ne_of_lt (Heap.lt_size hb))).trans ((Heap.get?_update_ne _ _ _ _ hbx).trans (Heap.get?_push_of_some _ hb))
open PySem.W in
end
end L2
namespace PySem
section
variable {prog : Program} {w : World} {A : Around} {E : Value → Shared → Prop} {h : Heap} {g : Array GenState} {d : Drawn} {t : Nat} {os : OsState}
variable {nm q : Str} {C N : Addr} {bs bm bmB : List Value} {hdct : Bool} {sn : List Str} {sub : List Value} {ab : Bool} {col : Option Bool} {dd : Option Addr} {k0 k1 k2 k3 k5 : Option Value} {B newId initId : String}
theorem y_type_call_initT (F : ExcBaseFacts B newId initId bmB) (T : OwnTail h bmB bm) {mN : Str → Option Value} {rest : List Value} {fI : Addr} {oI : Obj} {Q : Fin → Shared → Prop}
    (hC : h.get? C = some (excClassObj nm q C N bs bm hdct sn sub ab col dd k0 k1 k2 k3 k5 newId)) (hn : h.Ns N mN) (hi : mN "__init__" = some (.ref fI))
    (hfI : h.get? fI = some oI) (hfc : oI.cls = .type "function")
    (hq : wpAny (model prog w) A (call (.ref fI) (.ref (h.objs.size + 1) :: rest)) (fun r s' => r = .none ∧ Q (.done (.ret (.ref (h.objs.size + 1)))) s') E
      ⟨(h.push { cls := .type "tuple", data := .seq rest.toArray }).push { cls := .ref C, data := .fields #[.ref h.objs.size, .none, .none, .none, .bool false, .none] }, g, d, t, os⟩) (hrest : rest.length ≤ sizeLine := by size_fits) :
    wpAny (model prog w) A (Builtin.«type.__call__» ⟨.ref C :: rest, []⟩) Q E ⟨h, g, d, t, os⟩ := by
  repeat (first | with_reducible refine wpAny_loadPart_at hC ?_ | with_reducible refine wpAny_madeBy_exc hC ?_ | wp_step)
  refine codeAny_call_builtin_code (Code.quiet_builtin _ F.quiet) (wpAny_check_new_subT F T hC ?_)
  refine codeAny_exc_new_subT F T hC ?_ hrest
  show wpAny _ _ _ _ _ _
  have hC₁ := Heap.get?_push_of_some { cls := .ref C, data := .fields #[.ref h.objs.size, .none, .none, .none, .bool false, .none] }
    (Heap.get?_push_of_some { cls := .type "tuple", data := .seq rest.toArray } hC)
  have hfI₁ := Heap.get?_push_of_some { cls := .ref C, data := .fields #[.ref h.objs.size, .none, .none, .none, .bool false, .none] }
    (Heap.get?_push_of_some { cls := .type "tuple", data := .seq rest.toArray } hfI)
  have hn₁ : ((h.push { cls := .type "tuple", data := .seq rest.toArray }).push { cls := .ref C, data := .fields #[.ref h.objs.size, .none, .none, .none, .bool false, .none] }).Ns N mN :=
    let ⟨o, es, ep, e, r⟩ := hn; ⟨o, es, ep, Heap.get?_push_of_some _ (Heap.get?_push_of_some _ e), r⟩
  have hget : ((h.push { cls := .type "tuple", data := .seq rest.toArray }).push
      { cls := .ref C, data := .fields #[.ref h.objs.size, .none, .none, .none, .bool false, .none] }).get? (h.objs.size + 1) = some
      { cls := .ref C, data := .fields #[.ref h.objs.size, .none, .none, .none, .bool false, .none] } := by heap_get
  have hcC : (Value.ref C :: bm).contains (.ref C) = true := by simp
  have T₁ := T.keeps (h' := (h.push { cls := .type "tuple", data := .seq rest.toArray }).push { cls := .ref C, data := .fields #[.ref h.objs.size, .none, .none, .none, .bool false, .none] })
    fun b o e => Heap.get?_push_of_some _ (Heap.get?_push_of_some _ e)
  unfold isInstance
  repeat (first | with_reducible refine wpAny_loadPart_at hget ?_ | (with_reducible refine wpAny_isSubtype_exc hC₁ ?_; rw [hcC]) | wp_step)
  show wpAny _ _ (typeLookup (.ref C) _) _ _ _
  refine wpAny_typeLookup_tail hC₁ hn₁ T₁ F.mroIs F.init.lookup ?_
  rw [hi]
  refine wpAny_holding (wpAny_bind ?_)
  unfold bindSpecial
  refine wpAny_bind (wpAny_typeOf (T := "function") ⟨_, hfI₁, hfc⟩ ?_)
  rw [if_pos (by decide)]
  refine wpAny_pure (wpAny_bind (wpAny_mono hq (fun r s' hr => ?_) fun _ _ x => x))
  obtain ⟨rfl, hQ⟩ := hr
  wp_walk
  exact hQ

theorem y_call_initT (F : ExcBaseFacts B newId initId bmB) (T : OwnTail h bmB bm) {mN : Str → Option Value} {rest : List Value} {fI : Addr} {oI : Obj} {Q : Value → Shared → Prop}
    (hC : h.get? C = some (excClassObj nm q C N bs bm hdct sn sub ab col dd k0 k1 k2 k3 k5 newId)) (hn : h.Ns N mN) (hi : mN "__init__" = some (.ref fI))
    (hfI : h.get? fI = some oI) (hfc : oI.cls = .type "function")
    (hq : wpAny (model prog w) (A.under (.builtin "type.__call__" ⟨.ref C :: rest, []⟩)) (call (.ref fI) (.ref (h.objs.size + 1) :: rest)) (fun r s' => r = .none ∧ Q (.ref (h.objs.size + 1)) s') E
      ⟨(h.push { cls := .type "tuple", data := .seq rest.toArray }).push { cls := .ref C, data := .fields #[.ref h.objs.size, .none, .none, .none, .bool false, .none] }, g, d, t, os⟩) (hrest : rest.length ≤ sizeLine := by size_fits) :
    wpAny (model prog w) A (call (.ref C) rest) Q E ⟨h, g, d, t, os⟩ := by
  have f1 := tc_lookup
  have f2 := tc_bind (.ref C)
  have hT : (⟨h, g, d, t, os⟩ : Shared).TypeIs (.ref C) "type" := ⟨_, hC, rfl⟩
  refine wpAny_call (codeAny_of_tree ?_)
  show wpAny _ _ (callAny (.ref C) _) _ _ _
  repeat (any_goals (first | assumption | with_reducible refine wpAny_loadPart_at hC ?_ | wp_step))
  refine ⟨rfl, ?_⟩
  refine codeAny_call_builtin_at (Code.quiet_builtin _ (by decide +kernel)) entry_typeCall (wpAny_check_type_call_sub hC (y_type_call_initT (hrest := hrest) F T hC hn hi hfI hfc ?_))
  exact hq
end
section
variable {M : Model} {A : Around} {E : Value → Shared → Prop} {env : Env}
variable {nm q : Str} {C N : Addr} {bs bm : List Value} {hdct : Bool} {sn : List Str} {sub : List Value} {ab : Bool} {col : Option Bool} {dd : Option Addr} {k0 k1 k2 k3 k5 : Option Value} {newId : String}
theorem y_raise_made {s : Shared} {x : Sem Value} {Q : Flow → Shared → Prop} (hh : A.handled = none)
    (h : wpAny M A x (fun v s₁ => ∃ e t de nm q N bs bm hdct sn sub ab col dd k0 k1 k2 k3 k5 newId, v = .ref e ∧ bm.contains (.type "BaseException") = true ∧ s₁.heap.get? C = some (excClassObj nm q C N bs bm hdct sn sub ab col dd k0 k1 k2 k3 k5 newId) ∧
      s₁.heap.get? e = some { cls := .ref C, dict := de, data := .fields #[.ref t, .none, .none, .none, .bool false, .none] } ∧ E (.ref e) s₁) E s) :
    wpAny M A (raiseStmt env (some x) none) Q E s := by
  unfold raiseStmt
  refine wpAny_bind (wpAny_mono h (fun v s₁ h₁ => ?_) fun _ _ x => x)
  obtain ⟨e, t, de, nm, q, N, bs, bm, hdct, sn, sub, ab, col, dd, k0, k1, k2, k3, k5, newId, rfl, hbase, hC, he, hE⟩ := h₁
  have hcB : (Value.ref C :: bm).contains (.type "BaseException") = true := by rw [List.contains_cons, hbase, Bool.or_true]
  obtain ⟨hp, g, d, tk, os⟩ := s₁
  repeat (first | with_reducible refine wpAny_loadPart_at he ?_ | with_reducible refine wpAny_loadPart_at hC ?_ | (with_reducible refine wpAny_isSubtype_exc hC ?_; rw [hcB]) | wp_step)
  exact wpAny_raiseNew_none hh hE
end
end PySem
namespace L2
open PySem PySem.Spec PyProof.Rows
/-! ### classes of exceptions, by the written part -/
def excInI (K : PySem.W.Frag) (C : Addr) (init : Option Value) : Bool := match K.lookup C with
  | some ⟨.type "type", _, .cls cd, sl⟩ => (match cd.mro, sl.toList with
    | .ref C' :: bm, [_, _, _, _, some (.builtin n), _] => C' == C && n == "ValueError.__new__" && !cd.hasDel && PySem.W.tailIn K vErr bm && PySem.W.nsOkIn K cd.ns && PySem.W.nsIn K cd.ns "__init__" == some init
    | _, _ => false)
  | _ => false
theorem nsMap_some_of_in {K : PySem.W.Frag} {h : Heap} {N : Addr} {x : Str} {v : Value} (X : K.In h) (e : PySem.W.nsOkIn K N = true) (q : PySem.W.nsIn K N x = some (some v)) : h.nsMap N x = some v := by
  have G : h.Ns N (h.nsMap N) := .of_isNs (PySem.W.isNs_of_in X e)
  generalize h.nsMap N = m at G ⊢
  obtain ⟨o, es, ep, ho, hd, _, hf⟩ := G
  unfold PySem.W.nsIn at q
  split at q
  · rename_i c d es' n' sl z
    have := X _ _ z
    rw [ho] at this
    cases this
    cases hd
    split at q
    · rename_i en he
      cases q
      rw [← hf]
      unfold nsFind findBy
      rw [← Array.find?_toList, he]
      rfl
    · split at q <;> cases q
  · cases q
theorem excI_of {K : PySem.W.Frag} {h : Heap} {C : Addr} {init : Option Value} (X : K.In h) (q : excInI K C init = true) : ∃ bm N nm qn bs hdct sn sub ab col dd k0 k1 k2 k3 k5 mN,
    h.get? C = some (excClassObj nm qn C N bs bm hdct sn sub ab col dd k0 k1 k2 k3 k5 "ValueError.__new__") ∧ h.Ns N mN ∧ mN "__init__" = init ∧ OwnTail h vErr bm := by
  unfold excInI at q
  split at q
  · rename_i dd cd sl ho
    split at q
    · rename_i C' bm k0 k1 k2 k3 n k5 hm hs
      simp only [Bool.and_eq_true, beq_iff_eq, Bool.not_eq_true'] at q
      obtain ⟨⟨⟨⟨⟨rfl, rfl⟩, hdel⟩, ht⟩, hok⟩, hni⟩ := q
      obtain ⟨nm, bs, mro, ns, qn, hd, sn, sub, ab, col, del⟩ := cd
      dsimp only at hm hdel hok hni
      subst hm hdel
      have hsl : sl = #[k0, k1, k2, k3, some (.builtin "ValueError.__new__"), k5] := by
        obtain ⟨l⟩ := sl
        simp only at hs
        rw [hs]
      subst hsl
      refine ⟨bm, ns, nm, qn, bs, hd, sn, sub, ab, col, dd, k0, k1, k2, k3, k5, _, X _ _ ho, .of_isNs (PySem.W.isNs_of_in X hok), ?_, PySem.W.tail_of_in X ht⟩
      cases init with
      | none => exact PySem.W.nsMap_none_of_in X hok hni
      | some v => exact nsMap_some_of_in X hok hni
    · cases q
  · cases q
theorem vErr_base {h : Heap} {bm : List Value} (T : OwnTail h vErr bm) : bm.contains (.type "BaseException") = true := T.hasType (by decide)

/-! ### an exception is made -/
def excObj (C t : Addr) (dd : Option Addr) : Obj := { cls := .ref C, dict := dd, data := .fields #[.ref t, .none, .none, .none, .bool false, .none] }
/-- the reading of C(..): its own dict, if it has one -/
abbrev TX := St → Hp → (Option Addr → Hp → Prop) → Prop
def PX (X : Cx) (e : Expr) (C : Addr) (t : TX) : Prop :=
  ∀ (pins : List (Addr × Obj)) (s : Shared) (σ : St) (H : Hp) (R : Option Addr → Hp → Prop), Inv X pins σ H s → t σ H R → wpAny (model X.prog X.w) X.A (eval e X.env)
    (fun u s' => ∃ ea dd tt H', u = .ref ea ∧ Inv X pins σ H' s' ∧ s'.heap.get? ea = some (excObj C tt dd) ∧ X.s₀.heap.get? ea = none ∧ H' ea = none ∧ (∀ p ∈ X.pn ++ pins, p.1 ≠ ea) ∧ R dd H') X.xe s
theorem HOk.at {P : Program} {w : World} {H : Hp} {h : Heap} {a : Addr} {o : HO} (x : HOk P w H h) (e : H a = some o) : ∃ ob, h.get? a = some ob := by
  have q := x a o e
  have all : ∀ o, ObjOk P w H h a o → ∃ ob, h.get? a = some ob := by
    intro o
    induction o with
    | lst xs => intro ⟨_, its, n, _, e⟩; exact ⟨_, e⟩
    | tup xs => intro ⟨_, its, _, ob, e, _⟩; exact ⟨_, e⟩
    | dK kvs => intro ⟨_, _, vs, _, q⟩; obtain ⟨o, es, ep, e, _⟩ := q; exact ⟨_, e⟩
    | dT kvs => intro ⟨_, _, xs, _, o, es, ep, e, _⟩; exact ⟨_, e⟩
    | set S n => intro q; obtain ⟨o, _, _, _, e, _⟩ := q; exact ⟨_, e⟩
    | ins C dx fs => intro ⟨_, _, _, e, _⟩; exact ⟨_, e⟩
    | own x => intro ⟨o, e⟩; exact ⟨_, e⟩
    | xd fs => intro ⟨mA, ⟨o, es, ep, e, _⟩, _⟩; exact ⟨_, e⟩
    | rng lo hi => intro ⟨_, _, _, e⟩; exact ⟨_, e⟩
    | frz o u ih => intro ⟨e, _⟩; exact ⟨_, e⟩
    | tbl ps => intro e; exact ⟨_, e⟩
    | met f x => intro e; exact ⟨_, e⟩
    | ext φ => intro ⟨_, e, _⟩; exact e
  exact all o q
theorem HOk.none_of {P : Program} {w : World} {H : Hp} {h : Heap} {a : Addr} (x : HOk P w H h) (e : h.get? a = none) : H a = none := by
  cases q : H a with
  | none => rfl
  | some o =>
    obtain ⟨ob, z⟩ := x.at q
    rw [e] at z; cases z
/-- no longer tracked -/
def del (H : Hp) (a : Addr) : Hp := fun b => if b = a then none else H b
theorem del_same {H : Hp} {a : Addr} : del H a a = none := if_pos rfl
theorem del_ne {H : Hp} {a b : Addr} (h : b ≠ a) : del H a b = H b := if_neg h
theorem Inv.drop {X : Cx} {pins : List (Addr × Obj)} {σ : St} {H : Hp} {s : Shared} {a : Addr} {φ : Heap → Prop} (I : Inv X pins σ H s) (e : H a = some (.ext φ)) : Inv X pins σ (del H a) s := by
  have nx : ∀ b u, H b = some u → (∀ φ, u ≠ .ext φ) → b ≠ a := fun b u q n z => by rw [z, e] at q; cases q; exact n φ rfl
  have nn : ∀ b, H b = none → del H a b = none := fun b q => by unfold del; split <;> first | rfl | exact q
  refine ⟨I.ok, I.os, I.bare, ⟨I.base.keep, I.base.slot, fun b o h1 h2 h3 => nn b (I.base.free b o h1 h2 h3), I.base.there, fun b xs q => ?_, fun b o u q => ?_, fun b ps q => ?_⟩, I.loc, I.cell, nn _ I.free, fun x c h => nn _ (I.freeC x c h), fun p hp => ?_, fun b u q => ?_, I.len⟩
  · have z := I.base.tups b xs q
    rw [del_ne (nx b _ z fun φ h => by cases h)]; exact z
  · have z := I.base.frzs b o u q
    rw [del_ne (nx b _ z fun φ h => by cases h)]; exact z
  · obtain ⟨more, z⟩ := I.base.tbls b ps q
    exact ⟨more, by rw [del_ne (nx b _ z fun φ h => by cases h)]; exact z⟩
  · obtain ⟨h1, h2, h3⟩ := I.pin p hp
    exact ⟨h1, nn _ h2, h3⟩
  · have hb : b ≠ a := fun z => by rw [z, del_same] at q; cases q
    rw [del_ne hb] at q
    refine (I.hok b u q).stay (fun c v _ z => z) (fun c z => ?_) fun c xs z => ?_
    · rw [del_ne (nx c _ z fun φ h => by cases h)]; exact z
    · rw [del_ne (nx c _ z fun φ h => by cases h)]; exact z

section
variable {X : Cx} {C f : Addr} {x : Str} {p pos apos : Pos} {e : Expr} {es : List Expr} {t : TA}
/-- C(..) of a class without an __init__ of its own -/
def tXmake (t : TA) : TX := fun σ H R => t σ H fun vs H1 => vs.length ≤ sizeLine ∧ R none H1
theorem px_plain (hq : excInI X.K C none = true) (kp : PySem.W.keepIn X.K (.ref C) = true) (hex : X.ex = []) (hg : Gl X x) (hm : X.mg x = some (.ref C)) (ha : PA X (e :: es) t)
    (hdb : (x == ("__debug__" : Str)) = false := by decide) (he : starEach (e :: es) X.env = (false, eval e X.env) :: starEach es X.env := by rfl) (hpl : (backTo pos (starEach es X.env)).any (·.1) = false := by rfl) :
    PX X (.Call (.Name x p) (e :: es) [] pos) C (tXmake t) := by
  intro pins s σ H R I h
  refine wpAny_Call_Name_kw (ld_glob I hg hm ?_ hdb)
  refine PySem.W.callWith_K (h₀ := X.base) I.ok.mod.kin kp (thn (ha pos pins s σ H _ I h) fun us s1 ⟨vs, H1, I1, r, hl, q⟩ => ⟨I1.kIn, ?_⟩) he hpl
  obtain ⟨bm, N, nm, qn, bs, hdct, sn, sub, ab, col, dd, k0, k1, k2, k3, k5, mN, hC, hn, hni, T⟩ := excI_of I1.kIn hq
  obtain ⟨hp, g, d, tk, os⟩ := s1
  refine wpAny_call_exc_subT (hrest := by show us.length ≤ _; rw [← r.length]; exact hl) PySem.F.excBase_ValueError T hC hn hni fun h' ea hmade => ?_
  obtain ⟨tt, ht, _, _⟩ := hmade.there
  refine ⟨ea, none, tt, H1, rfl, I1.kept (t' := tk) hmade.keeps, ht, I1.new_of hex hmade.new, I1.hok.none_of hmade.new, fun p hp z => ?_, q⟩
  have := (I1.pin p hp).1
  rw [z] at this
  have h2 := hmade.new
  rw [this] at h2
  cases h2
def ExcAt (e C t : Addr) (dd : Option Addr) : HO := .ext fun h => h.get? e = some (excObj C t dd)
theorem excAt_ok {P : Program} {w : World} {H : Hp} {h : Heap} {e C t : Addr} {dd : Option Addr} (q : h.get? e = some (excObj C t dd)) : ObjOk P w H h e (ExcAt e C t dd) :=
  ⟨q, ⟨_, q⟩, fun h1 h2 a b => b _ a⟩
/-- C(..) of a class with an __init__ of its own: e is tracked while it runs -/
def tXinit (C : Addr) (sp : Sp) (t : TA) : TX := fun σ H R => t σ H fun vs H1 => vs.length ≤ sizeLine ∧ ∀ e tt, H1 e = none → sp (.ref e :: vs) (upd H1 e (ExcAt e C tt none)) (fun v H2 => v = .non ∧ ∃ dd, H2 e = some (ExcAt e C tt dd) ∧ R dd (del H2 e)) E0
theorem px_init {k : Nat} {fd : FuncData} {ps : List Str} {sp : Sp} (hq : excInI X.K C (some (.ref f)) = true) (hf : PySem.W.isFn X.K (.ref f) = true) (kp : PySem.W.keepIn X.K (.ref C) = true) (F : FnOk X.prog X.w X.K X.mg X.base CX0 k f fd ps sp) (hr : Room (k + 1) X.A) (hb : Binds X.K fd ps [])
    (hg : Gl X x) (hm : X.mg x = some (.ref C)) (ha : PA X (e :: es) t)
    (hdb : (x == ("__debug__" : Str)) = false := by decide) (he : starEach (e :: es) X.env = (false, eval e X.env) :: starEach es X.env := by rfl) (hpl : (backTo pos (starEach es X.env)).any (·.1) = false := by rfl) :
    PX X (.Call (.Name x p) (e :: es) [] pos) C (tXinit C sp t) := by
  intro pins s σ H R I h
  refine wpAny_Call_Name_kw (ld_glob I hg hm ?_ hdb)
  refine PySem.W.callWith_K (h₀ := X.base) I.ok.mod.kin kp (thn (ha pos pins s σ H _ I h) fun us s1 ⟨vs, H1, I1, r, hl, q⟩ => ⟨I1.kIn, ?_⟩) he hpl
  obtain ⟨bm, N, nm, qn, bs, hdct, sn, sub, ab, col, dd, k0, k1, k2, k3, k5, mN, hC, hn, hni, T⟩ := excI_of I1.kIn hq
  obtain ⟨oI, hoI, hcI⟩ : ∃ oI, s1.heap.get? f = some oI ∧ oI.cls = .type "function" := by
    have z := beq_iff_eq.mp hf
    obtain ⟨o, ho, z⟩ := Option.map_eq_some_iff.mp (show (X.K.lookup f).map (·.cls) = some (.type "function") from z)
    exact ⟨o, I1.kIn _ _ ho, z⟩
  obtain ⟨hp, g, d, tk, os⟩ := s1
  dsimp only at hC hn T hoI
  refine y_call_initT (hrest := by show us.length ≤ _; rw [← r.length]; exact hl) PySem.F.excBase_ValueError T hC hn hni hoI hcI ?_
  have nE : hp.objs.size ≤ hp.objs.size + 1 := Nat.le_succ _
  have hq2 := q (hp.objs.size + 1) hp.objs.size (I1.hok.fresh nE)
  have hget : ((hp.push { cls := .type "tuple", data := .seq us.toArray }).push (excObj C hp.objs.size none)).get? (hp.objs.size + 1) = some (excObj C hp.objs.size none) := by
    have := Heap.get?_push_size (hp.push { cls := .type "tuple", data := .seq us.toArray }) (o := excObj C hp.objs.size none) rfl
    rwa [Heap.size_push] at this
  have I2 : Inv X pins σ (upd H1 (hp.objs.size + 1) (ExcAt (hp.objs.size + 1) C hp.objs.size none)) ⟨(hp.push { cls := .type "tuple", data := .seq us.toArray }).push (excObj C hp.objs.size none), g, d, tk, os⟩ :=
    I1.laid (t' := tk) (fun b u z => Heap.get?_push_of_some _ (Heap.get?_push_of_some _ z)) nE (excAt_ok hget)
  have r2 : Vals (V.ref (hp.objs.size + 1) :: vs) (Value.ref (hp.objs.size + 1) :: us) := .cons rfl r
  have hl2 : (Value.ref (hp.objs.size + 1) :: us ++ []).length = ps.length := by
    have e := r2.length
    rw [F.len _ _ _ _ hq2] at e
    rw [List.append_nil]; exact e.symm
  have hb2 := hb ⟨(hp.push { cls := .type "tuple", data := .seq us.toArray }).push (excObj C hp.objs.size none), g, d, tk, os⟩ (Value.ref (hp.objs.size + 1) :: us) I2.kIn hl2
  rw [List.append_nil] at hb2
  refine wpAny_call (codeAny_mono (F.run _ X.stack _ _ ⟨Value.ref (hp.objs.size + 1) :: us, []⟩ (Value.ref (hp.objs.size + 1) :: us) _ _ E0 (hr.make C us []) (I2.env0.make C us []) hb2 r2 hq2) fun rr s' hq' => ?_)
  cases rr with
  | error e => exact hq'.elim
  | ok fl =>
    cases fl with
    | ret u =>
      obtain ⟨v, H', I3, rv, ev, de, hde, q3⟩ := I2.after hq'
      subst ev
      refine ⟨rv, hp.objs.size + 1, de, hp.objs.size, del H' (hp.objs.size + 1), rfl, I3.drop hde, (I3.hok _ _ hde).1, Heap.get?_none_of_le (Nat.le_trans I1.sz nE), del_same, fun p hp' z => ?_, q3⟩
      have := Heap.lt_size (I1.pin p hp').1
      rw [z] at this
      exact absurd this (Nat.not_lt.mpr nE)
    | next => exact False.elim hq'
    | brk => exact False.elim hq'
    | cont => exact False.elim hq'
/-- raise C(..) -/
def tRaise (C : Addr) (E : XK) (t : TX) : TS := fun _ σ H => t σ H fun dd H1 => E (.ref C) dd H1
theorem ps_raise {E : XK} {tx : TX} {init : Option Value} (hc : X.calm = true) (hq : excInI X.K C init = true) (hx : PassX X E) (h : PX X e C tx) : PS X (.Raise (some e) none pos) (tRaise C E tx) := by
  intro pins s σ H D I hw
  rw [arm_exec_Raise]
  have key : wpAny (model X.prog X.w) X.A (eval e X.env) (fun v s₁ => ∃ ea t de nm q N bs bm hdct sn sub ab col dd k0 k1 k2 k3 k5 newId, v = .ref ea ∧ bm.contains (.type "BaseException") = true ∧ s₁.heap.get? C = some (excClassObj nm q C N bs bm hdct sn sub ab col dd k0 k1 k2 k3 k5 newId) ∧
      s₁.heap.get? ea = some { cls := .ref C, dict := de, data := .fields #[.ref t, .none, .none, .none, .bool false, .none] } ∧ X.xe (.ref ea) s₁) X.xe s := by
    refine thn (h pins s σ H _ I hw) fun u s1 ⟨ea, dd, tt, H', eu, I1, ho, hn, hh, hp, q⟩ => ?_
    obtain ⟨bm, N, nm, qn, bs, hdct, sn, sub, ab, col, ddc, k0, k1, k2, k3, k5, mN, hC, hns, hni, T⟩ := excI_of I1.kIn hq
    refine ⟨ea, tt, dd, nm, qn, N, bs, bm, hdct, sn, sub, ab, col, ddc, k0, k1, k2, k3, k5, _, eu, vErr_base T, hC, ho, hx pins σ _ _ ⟨ea, .ref C, dd, [ea], H', rfl, I1, ⟨_, _, ho, rfl, rfl, rfl, .inl ⟨rfl, rfl⟩⟩, fun b hb => ?_, q⟩⟩
    simp only [List.mem_singleton] at hb
    subst hb
    exact ⟨hn, hh, hp⟩
  first
    | refine wpAny_bind (wpAny_standAt (y_raise_made (C := C) (I.ok.hd hc) (wpAny_bind (wpAny_mono key (fun v s₃ h₃ => wpAny_bind (wpAny_standAt (wpAny_pure h₃))) fun _ _ x => x))))
    | (simp only [evalOpt, Option.map]; refine wpAny_bind (wpAny_standAt (y_raise_made (C := C) (I.ok.hd hc) (wpAny_bind (wpAny_mono key (fun v s₃ h₃ => wpAny_bind (wpAny_standAt (wpAny_pure h₃))) fun _ _ x => x)))))
end
end L2
namespace L2
open PySem PySem.Spec PyProof.Rows
section
variable {prog : Program} {w : World} {A : Around} {E : Value → Shared → Prop} {s : Shared} {K : PySem.W.Frag} {x C : Addr} {ox : Obj} {od : Option Obj} {name : Str} {v : Value}
open PySem.W in
/-- what is asked of a class of exceptions for isinstance -/
structure XIsi (K : PySem.W.Frag) (C : Addr) : Prop where
  at_ : PySem.W.findIn K (.ref C) "__class__" = some (some (.builtin "object.__class__"))
  get : PySem.W.specialIn K (.builtin "object.__class__") "__get__" = some (some (.builtin "getset_descriptor.__get__"))
  tak : PySem.W.takesIn K (.builtin "object.__class__") = some true
open PySem.W in
end

/-! ### in an except suite -/
/-- the context of an except suite: the exception is pinned -/
abbrev Cx.hand (X : Cx) (ea : Addr) (oe : Obj) : Cx := { X with A := X.A.mark (some (.ref ea)), calm := false, pn := (ea, oe) :: X.pn, xe := fun _ _ => False }
section
variable {X : Cx} {pins : List (Addr × Obj)} {σ : St} {H : Hp} {s : Shared} {ea : Addr} {oe : Obj}
/-- isinstance(e, C) of a pinned exception; a class as a value -/
def ValC : V → Value → Prop
  | .ref a, u => u = .ref a
  | .ty n, u => u = .type n
  | _, _ => False
def DictAt (H : Hp) : Option Addr → Prop
  | none => True
  | some d => ∃ fs, H d = some (.xd fs)
def rIsX (X : Cx) : List V → Hp → VK → Prop := fun xs H Q => ∃ ea oe c cv C vs b, xs = [.ref ea, c] ∧ ValC c cv ∧ (ea, oe) ∈ X.pn ∧ oe.cls = .ref C ∧ oe.data = .fields vs ∧ DictAt H oe.dict ∧ XCls X.K C ∧ XIsi X.K C ∧ PySem.W.kitOne X.K (.ref C) cv = some b ∧ Q (.bl b) H
/-- e.f of a pinned exception -/
def tXFld (X : Cx) (ta : TE) (f : Str) : TE := fun σ H Q => ta σ H fun x H1 => ∃ ea oe C vs d fs v, x = .ref ea ∧ (ea, oe) ∈ X.pn ∧ oe.cls = .ref C ∧ oe.data = .fields vs ∧ oe.dict = some d ∧ H1 d = some (.xd fs) ∧ XCls X.K C ∧ PySem.W.findIn X.K (.ref C) f = some none ∧ fs.lookup f = some v ∧ Q v H1
end
end L2
namespace L2
open PySem PySem.Spec PyProof.Rows
/-! ### self.f = v in the __init__ of an exception: the first one -/
def sFldX (K : PySem.W.Frag) (ta tv : TE) (f : Str) : TS := fun D σ H => tv σ H fun y H1 => ta σ H1 fun x H2 => ∃ a C tt, x = .ref a ∧ H2 a = some (ExcAt a C tt none) ∧ XCls K C ∧ PySem.W.findIn K (.ref C) f = some none ∧
  ∀ d, H2 d = none → D.nx σ (upd (upd H2 d (.xd [(f, y)])) a (ExcAt a C tt (some d)))
section
variable {X : Cx} {o e value : Expr} {f : Str} {pos pos' : Pos} {ta tv : TE}
theorem ps_fldX (ha : PE X o ta) (hv : PE X value tv) (hs : swapsWith value (some (.Attribute o f pos')) pos.line X.env = pure false) : PS X (.Assign [.Attribute o f pos'] value pos) (sFldX X.K ta tv f) := by
  intro pins s σ H D I h
  refine plainObj_wpAny_Assign_Attribute (thn (hv pins s σ H _ I h) fun u s1 ⟨y, H1, I1, ry, q⟩ => thn (ha pins s1 σ H1 _ I1 q) fun ov s2 ⟨x, H2, I2, rx, a, C, tt, ex, ea, c, n, q2⟩ => ?_) hs
  subst ex
  obtain rfl : ov = Value.ref a := rx
  have ho : s2.heap.get? a = some (excObj C tt none) := (I2.hok a _ ea).1
  have hlt : a < s2.heap.objs.size := Heap.lt_size ho
  refine set_exc0 I2.kIn ho c n fun h' t' hx' hn' hk => ⟨σ, _, ?_, q2 s2.heap.objs.size (I2.hok.fresh (Nat.le_refl _))⟩
  obtain ⟨od, es, ep, hod, r⟩ := id hn'
  have hfr : od.isFreed = false := (Heap.get?_some_iff.mp hod).2
  have hpush : (s2.heap.push od).get? s2.heap.objs.size = some od := Heap.get?_push_size s2.heap hfr
  have I3 := I2.laid (a := s2.heap.objs.size) (o := .xd [(f, y)]) (h' := s2.heap.push od) (t' := s2.toks) (fun b u z => Heap.get?_push_of_some _ z) (Nat.le_refl _)
    ⟨_, hn'.at (fun o z => by rw [hod] at z; cases z; exact hpush), fun g => by
      by_cases hg : g = f
      · have hb : (g == f) = true := beq_iff_eq.mpr hg
        simp only [List.lookup, hb, if_pos hg]
        exact ry
      · have hb : (g == f) = false := beq_eq_false_iff_ne.mpr hg
        simp only [List.lookup, hb, if_neg hg]
        trivial⟩
  have hne : a ≠ s2.heap.objs.size := Nat.ne_of_lt hlt
  refine I3.write (x := a) (e := a) (h' := h') (t' := t') (by rw [upd_ne hne, ea]; exact True.intro) (.inl rfl) (fun b u hb z => ?_) ⟨_, hx'⟩ (excAt_ok hx')
  by_cases hbs : b = s2.heap.objs.size
  · subst hbs
    have z' : (s2.heap.push od).get? s2.heap.objs.size = some u := z
    rw [hpush] at z'
    cases z'
    exact hod
  · have z' : s2.heap.get? b = some u := by
      have z0 : (s2.heap.push od).get? b = some u := z
      exact (Heap.get?_push_cases z0).elim (fun w => absurd w.1 hbs) fun w => w
    exact hk b u hb z'
end

/-! ### a def that may raise -/
section
variable {P : Program} {w : World} {K : PySem.W.Frag} {mg : Str → Option Value} {base : Heap}
theorem Fun.okX {x qual : Str} {st : Stmt} {f : Addr} {fd : FuncData} {N ps : List Str} {k : Nat} {sp : Sp} (F : Fun K x qual st f fd) (S : FnScope N ps (defScope st)) (len : ∀ vs H Q E, sp vs H Q E → vs.length = ps.length)
    (hbody : ∀ (cdv : Value) (A : Around) (outer : List Env) (s : Shared) (H : Hp) (vs : List V) (Q : VK) (E : XK), Room k (A.deeper (envOfC qual (defScope st) s.heap.objs.size f cdv)) → sp vs H Q E →
      ∃ t, PSs (cxOf (CXe P w) P w K mg base N qual (defScope st) f cdv A outer s H E) (defBody st) t ∧ t { nx := fun _ H' => Q .non H', rt := Q } (start N vs) H) : FnOk P w K mg base (CXe P w) (k + 1) f fd ps sp := by
  obtain ⟨oc, od, kV, doc, pm, an, cdv, ct, osl, rfl, lk, hcd⟩ := F.ex
  exact fn_of lk hcd S len fun A outer s H vs Q E hr hsp => hbody cdv A outer s H vs Q E hr hsp
end
theorem passE0 {P : Program} {w : World} {X : Cx} : Passes (CXe P w) X E0 := fun _ _ _ _ _ _ _ ⟨_, _, _, _, _, _, _, _, _, _, _, _, h⟩ => h.elim

/-! ### expressions whose exceptions are caught here -/
def PEx (X : Cx) (e : Expr) (t : St → Hp → VK → XK → Prop) : Prop :=
  ∀ (pins : List (Addr × Obj)) (s : Shared) (σ : St) (H : Hp) (Q : VK) (E : XK), Inv X pins σ H s → t σ H Q E → wpAny (model X.prog X.w) X.A (eval e X.env) (EP X pins σ Q) (XP X pins σ E) s
section
variable {X : Cx} {k : Nat} {f C : Addr} {fd : FuncData} {ps : List Str} {sp : Sp} {dvs : List V} {ds : List Value} {x m : Str} {p pos apos : Pos} {e o : Expr} {es : List Expr} {ta : TE} {t : TA}
end
/-- a block whose exceptions are caught here -/
def PBx (X : Cx) (body : List Stmt) (t : Ends → St → Hp → (St → XK) → Prop) : Prop :=
  ∀ (pins : List (Addr × Obj)) (s : Shared) (σ : St) (H : Hp) (D : Ends) (E : St → XK), Inv X pins σ H s → t D σ H E → wpAny (model X.prog X.w) X.A (execs body X.env) (SP X pins D) (fun ev s' => ∃ σ', XP X pins σ' (E σ') ev s') s
section
variable {X : Cx} {e : Expr} {t : St → Hp → VK → XK → Prop} {pos tpos : Pos} {n : Str} {i : Nat}
end

/-! ### try, with one except clause -/
section
variable {M : Model} {A : Around} {E : Value → Shared → Prop} {s : Shared}
end
/-- try: body; except y as n: suite. The suite raises nothing -/
def tTryAs (K : PySem.W.Frag) (c : Value) (i : Nat) (tb : Ends → St → Hp → (St → XK) → Prop) (th : Addr → Obj → TS) : TS := fun D σ H =>
  tb D σ H fun σ' cls dd H' => PySem.W.exmOne K cls c = some true ∧ ∀ ea oe vs, oe.cls = cls → oe.dict = dd → oe.data = .fields vs → H' ea = none →
    th ea oe { nx := fun σ2 H2 => D.nx (σ2.set i none) H2, rt := D.rt, bk := fun σ2 H2 => D.bk (σ2.set i none) H2, ct := fun σ2 H2 => D.ct (σ2.set i none) H2 } (σ'.set i (some (.ref ea))) H'
end L2
namespace PySem
open Sem (wp)
open AutoSeq1 (wpAny_loadPart')
theorem y_meets_enumerate_newT (l : Addr) (items : Array Value) (n : Nat) (dct : Option Addr) (sl : Array (Option Value)) :
    Meets (Builtin.«enumerate.__new__» ⟨[.type "enumerate", .ref l], []⟩) (fun _ R s => s.heap.get? l = some { cls := .type "tuple", dict := dct, data := .seq items n, slots := sl } ∧
      R (.ok (.ret (.ref (s.heap.push { cls := .type "tuple_iterator", data := .fields #[.ref l, .int 0 0] }).objs.size)))
        { s with heap := (s.heap.push { cls := .type "tuple_iterator", data := .fields #[.ref l, .int 0 0] }).push { cls := .type "enumerate", data := .fields #[.none, .bool false, .ref s.heap.objs.size, rawInt 0, .none, .none] } }) :=
  .of_wp fun prog w A R s h => by
    obtain ⟨hp, g, d, tk, os⟩ := s; obtain ⟨hl, h⟩ := h
    have hsub := sub_enumerate
    have hL : Heap.IsTuple (Shared.heap ⟨hp, g, d, tk, os⟩) l items := ⟨_, hl, rfl, n, rfl⟩
    wp_walk using wpAny_loadPart' hl
    refine wpAny_stack_any fun st => wpAny_pure ?_
    split
    · rename_i c _ _ _ _ _
      cases (c == Value.type "enumerate")
      · wp_walk using wpAny_loadPart' hl, wpAny_pyIter_tuple hL
        exact ⟨_, rfl, h⟩
      · wp_walk using wpAny_loadPart' hl, wpAny_pyIter_tuple hL
        exact ⟨_, rfl, h⟩
    · wp_walk using wpAny_loadPart' hl, wpAny_pyIter_tuple hL
      exact ⟨_, rfl, h⟩
section
variable {prog : Program} {w : World} {A : Around} {E : Value → Shared → Prop} {s : Shared}
theorem y_call_enumerate_tuple {l : Addr} {items : Array Value} {Q : Value → Shared → Prop} (hL : s.heap.IsTuple l items)
    (h : ∀ h', IsEnum h' (s.heap.objs.size + 1) s.heap.objs.size 0 .none → h'.IsTupleIter s.heap.objs.size l 0 → h'.objs.size = s.heap.objs.size + 2 →
      (∀ b o, s.heap.get? b = some o → h'.get? b = some o) → Q (.ref (s.heap.objs.size + 1)) { s with heap := h' }) :
    wpAny (model prog w) A (call (.type "enumerate") [.ref l]) Q E s := by
  obtain ⟨⟨c, dct, dt, sl⟩, hl, hc, n, hd⟩ := hL
  replace hc : c = .type "tuple" := hc
  replace hd : dt = .seq items n := hd
  subst hc hd
  refine callType_new F.called_enumerate (by decide) (F.typeCall_enumerate_1 _) (F.newCall_enumerate_1 _) (fun obj => F.args_object_init_2 obj _) F.entry_enumerate_new
    (y_meets_enumerate_newT l items n dct sl) ⟨hl, ?_⟩
  have hz : (s.heap.push { cls := .type "tuple_iterator", data := .fields #[.ref l, .int 0 0] }).objs.size = s.heap.objs.size + 1 := Heap.size_push ..
  show _ ∧ _
  rw [hz]
  have he : IsEnum ((s.heap.push { cls := .type "tuple_iterator", data := .fields #[.ref l, .int 0 0] }).push
      { cls := .type "enumerate", data := .fields #[.none, .bool false, .ref s.heap.objs.size, rawInt 0, .none, .none] }) (s.heap.objs.size + 1) s.heap.objs.size 0 .none := by
    have := Heap.get?_push_size (s.heap.push { cls := .type "tuple_iterator", data := .fields #[.ref l, .int 0 0] })
      (o := { cls := .type "enumerate", data := .fields #[.none, .bool false, .ref s.heap.objs.size, rawInt 0, .none, .none] }) rfl
    rw [hz] at this; exact this
  refine ⟨⟨_, he, rfl⟩, h _ he ⟨_, Heap.get?_push_of_some _ (Heap.get?_push_size _ rfl), rfl, rfl⟩ (by rw [Heap.size_push, hz]) fun b o x => Heap.get?_push_of_some _ (Heap.get?_push_of_some _ x)⟩
theorem y_nextOf_tuple_item {it l : Addr} {i : Nat} {items} {x : Value} {Q : Value → Shared → Prop} (hit : s.heap.IsTupleIter it l i)
    (hl : s.heap.IsTuple l items) (hx : items[i]? = some x)
    (hQ : ∀ h', h'.IsTupleIter it l (i + 1) → Heap.SameBut it s.heap h' → Q x { s with heap := h' }) :
    wpAny (model prog w) A (Builtin.SmallTypes.nextOf (.ref it)) Q E s := by
  obtain ⟨o, ho, hc, hd⟩ := id hit
  obtain ⟨ol, hol, _, nl, hdl⟩ := hl
  unfold Builtin.SmallTypes.nextOf
  refine wpAny_bind (wpAny_callSpecial?_slot (name := Str.ofString "__next__") hit.typeIs F.slot_tuple_iterator_next
    (wpAny_call_entry F.slot_tuple_iterator_next hit.typeIs F.entry_tuple_iterator_next ?_ (F.args_tuple_iterator_next_1 _)))
  show wpAny _ _ (field (.ref it) 0 >>= _) _ _ s
  refine wpAny_bind (wpAny_field ho hd (x := .ref l) rfl ?_)
  show wpAny _ _ (if (Value.ref l == Value.none) = true then _ else _) _ _ s
  rw [if_neg (show ¬ ((Value.ref l == Value.none) = true) from Bool.false_ne_true)]
  show wpAny _ _ (field (.ref it) 1 >>= _) _ _ s
  refine wpAny_bind (wpAny_field ho hd (x := .int i 0) rfl ?_)
  show wpAny _ _ (seqItems? (.ref l) >>= _) _ _ s
  refine wpAny_bind (wpAny_seqItems hol hdl ?_)
  simp only [Int.toNat_natCast, hx]
  refine wpAny_bind (wpAny_setField ho hd (by simp) (wpAny_pure ⟨x, rfl, wpAny_pure (hQ _ ?_ (Heap.SameBut.update ..))⟩))
  exact ⟨_, Heap.get?_update_self _ ho (Obj.isFreed_of_fields (Obj.data_mapFields hd _)), (Obj.cls_mapFields ..).trans hc, by
    rw [Obj.data_mapFields hd]; simp [rawInt]⟩
theorem y_nextOf_tuple_end {it l : Addr} {i : Nat} {items} {Q : Value → Shared → Prop} (hh : A.handled = none)
    (hit : s.heap.IsTupleIter it l i) (hl : s.heap.IsTuple l items) (hx : items[i]? = none)
    (hE : ∀ h' e, Heap.ExtBut it s.heap h' → (∃ o, h'.get? e = some o ∧ o.cls = .type "StopIteration") → E (.ref e) { s with heap := h' }) :
    wpAny (model prog w) A (Builtin.SmallTypes.nextOf (.ref it)) Q E s := by
  obtain ⟨o, ho, hc, hd⟩ := id hit
  obtain ⟨ol, hol, _, nl, hdl⟩ := hl
  unfold Builtin.SmallTypes.nextOf
  refine wpAny_bind (wpAny_callSpecial?_slot (name := Str.ofString "__next__") hit.typeIs F.slot_tuple_iterator_next
    (wpAny_call_entry F.slot_tuple_iterator_next hit.typeIs F.entry_tuple_iterator_next ?_ (F.args_tuple_iterator_next_1 _)))
  show wpAny _ _ (field (.ref it) 0 >>= _) _ _ s
  refine wpAny_bind (wpAny_field ho hd (x := .ref l) rfl ?_)
  show wpAny _ _ (if (Value.ref l == Value.none) = true then _ else _) _ _ s
  rw [if_neg (show ¬ ((Value.ref l == Value.none) = true) from Bool.false_ne_true)]
  show wpAny _ _ (field (.ref it) 1 >>= _) _ _ s
  refine wpAny_bind (wpAny_field ho hd (x := .int i 0) rfl ?_)
  show wpAny _ _ (seqItems? (.ref l) >>= _) _ _ s
  refine wpAny_bind (wpAny_seqItems hol hdl ?_)
  simp only [Int.toNat_natCast, hx]
  refine wpAny_bind (wpAny_rule (wpAny_bind (wpAny_setField ho hd (by simp) ?_)))
  show wpAny _ _ (newExc (.type "StopIteration") [] >>= _) _ _ _
  refine wpAny_bind ?_
  simp only [newExc, newTuple]
  refine wpAny_bind (wpAny_newObj_type ?_ (by size_fits))
  refine wpAny_bind (m := firstArgMember _ _) (wpAny_of_eq (a := Value.none) (by first | rfl | (simp only [firstArgMember]; rfl)) ?_)
  refine wpAny_newObj_type ?_ (by size_fits)
  simp only [raiseNew]
  refine wpAny_bind (wpAny_handled ?_)
  first | rw [show A.in1.handled = none from hh] | rw [hh]
  refine wpAny_bind (wpAny_pure (wpAny_throw ?_))
  exact hE _ _ (((Heap.SameBut.update ..).extBut.push _).push _) ⟨_, Heap.get?_push_size _ rfl, rfl⟩
end
theorem y_Draws_tuple {prog : Program} {w : World} {A : Around} (hh : A.handled = none) (it l : Addr) (hne : l ≠ it) (items : Array Value) :
    Draws prog w A it [it, l] items.size (fun i v => items[i]? = some v) (fun i h => h.IsTupleIter it l i ∧ h.IsTuple l items) where
  live := fun _ _ st => let ⟨o, ho, _⟩ := st.1; ⟨o, ho⟩
  frame := fun _ _ _ st hk => ⟨st.1.at fun o e => hk it (by simp) o e, let ⟨o, ho, r⟩ := st.2; ⟨o, hk l (by simp) o ho, r⟩⟩
  item := fun i s Q E hi st hQ => by
    refine y_nextOf_tuple_item st.1 st.2 (x := items[i]) (by simp [hi]) fun h' hit' hs' => ?_
    exact hQ _ h' s.toks (by simp [hi]) ⟨hit', let ⟨o, ho, r⟩ := st.2; ⟨o, hs'.extBut l o hne ho, r⟩⟩ hs'
  done := fun s Q E st hE => y_nextOf_tuple_end hh st.1 st.2 (by simp) hE
end PySem
namespace L2
open PySem PySem.Spec PyProof.Rows
section
variable {X : Cx} {pins : List (Addr × Obj)} {σ : St} {H : Hp} {s : Shared}
/-- two records turn, a tuple is laid -/
theorem Inv.drawn2 {h' : Heap} {t' : Nat} {a b p : Addr} {xs : List V} {us : List Value} (I : Inv X pins σ H s) (fa : FpOk X pins H a) (fb : FpOk X pins H b) (hp : s.heap.objs.size ≤ p)
    (k : ∀ c o, c ≠ a → c ≠ b → s.heap.get? c = some o → h'.get? c = some o) (ka : ∃ o, h'.get? a = some o) (kb : ∃ o, h'.get? b = some o) (hl : xs.length ≤ sizeLine) (r : Vals xs us) (ht : IsTupN h' p us.toArray) :
    Inv X pins σ (upd H p (.tup xs)) { s with heap := h', toks := t' } := by
  have hf : H p = none := I.hok.fresh hp
  have nt : ∀ c u, H c = some u → c ≠ p := fun c u q z => by rw [z, hf] at q; cases q
  have lt : ∀ c o, s.heap.get? c = some o → c ≠ p := fun c o q => Nat.ne_of_lt (Nat.lt_of_lt_of_le (Heap.lt_size q) hp)
  have ne : ∀ c, c ∉ [a, b] → c ≠ a ∧ c ≠ b := fun c hc => by simpa using hc
  refine I.call (g' := s.gens) (d' := s.drawn) (ch := [a, b]) ⟨fun c o e n h1 h2 => k c o (ne c h2).1 (ne c h2).2 e, fun c o e n h1 h2 => ⟨o.slots, k c o (ne c h2).1 (ne c h2).2 e⟩, fun c o e n h2 => by rw [upd_ne (lt c o e)]; exact n,
    fun c o e h2 => ⟨o, k c o (ne c h2).1 (ne c h2).2 e⟩, fun c ys q => by rw [upd_ne (nt c _ q)]; exact q, fun c o u q => by rw [upd_ne (nt c _ q)]; exact q, fun c ps q => ⟨#[], by rw [upd_ne (nt c _ q), q]; simp⟩⟩ (fun c u q => ?_) I.bare fun c hc => ?_
  · by_cases hc : c = p
    · subst hc
      rw [upd_same] at q
      cases q
      exact ⟨hl, us, r, ht⟩
    · rw [upd_ne hc] at q
      refine (I.hok c u q).stay (fun d v hd z => ?_) (fun d z => by rw [upd_ne (nt d _ z)]; exact z) fun d ys z => by rw [upd_ne (nt d _ z)]; exact z
      have nd : ∀ e, H e = none → d ≠ e := fun e he w => by
        rcases hd with rfl | hd
        · rw [w, he] at q; cases q
        · rw [w, he] at hd; cases hd
      exact k d v (nd a fa.1) (nd b fb.1) z
  · have hc' : c = a ∨ c = b := by simpa using hc
    rcases hc' with rfl | rfl
    · obtain ⟨_, f1, _, f3, f4, f5⟩ := fa; exact ⟨f3, f1, f4, f5⟩
    · obtain ⟨_, f1, _, f3, f4, f5⟩ := fb; exact ⟨f3, f1, f4, f5⟩
theorem Inv.turned2 {h' : Heap} {t' : Nat} {a b : Addr} (I : Inv X pins σ H s) (fa : FpOk X pins H a) (fb : FpOk X pins H b)
    (k : ∀ c o, c ≠ a → c ≠ b → s.heap.get? c = some o → h'.get? c = some o) : Inv X pins σ H { s with heap := h', toks := t' } := by
  have ne : ∀ c, c ∉ [a, b] → c ≠ a ∧ c ≠ b := fun c hc => by simpa using hc
  refine I.call (g' := s.gens) (d' := s.drawn) (ch := [a, b]) ⟨fun c o e n h1 h2 => k c o (ne c h2).1 (ne c h2).2 e, fun c o e n h1 h2 => ⟨o.slots, k c o (ne c h2).1 (ne c h2).2 e⟩, fun c o e n h2 => n,
    fun c o e h2 => ⟨o, k c o (ne c h2).1 (ne c h2).2 e⟩, fun c ys q => q, fun c o u q => q, fun c ps q => ⟨#[], by rw [q]; simp⟩⟩ (fun c u q => ?_) I.bare fun c hc => ?_
  · refine (I.hok c u q).stay (fun d v hd z => ?_) (fun d z => z) fun d ys z => z
    have nd : ∀ e, H e = none → d ≠ e := fun e he w => by
      rcases hd with rfl | hd
      · rw [w, he] at q; cases q
      · rw [w, he] at hd; cases hd
    exact k d v (nd a fa.1) (nd b fb.1) z
  · have hc' : c = a ∨ c = b := by simpa using hc
    rcases hc' with rfl | rfl
    · obtain ⟨_, f1, _, f3, f4, f5⟩ := fa; exact ⟨f3, f1, f4, f5⟩
    · obtain ⟨_, f1, _, f3, f4, f5⟩ := fb; exact ⟨f3, f1, f4, f5⟩
/-- one turn of enumerate -/
theorem enum_item {e it : Addr} {fp : List Addr} {n i : Nat} {P : Nat → Value → Prop} {Sx : Nat → Heap → Prop} {old : Value} {xs : List V} {E : Value → Shared → Prop} {elts : List Expr} {kk : Nat} {pos : Pos}
    (D : Draws X.prog X.w X.A.in1 it fp n P Sx) (I : Inv X pins σ H s) (he : IsEnum s.heap e it i old) (hst : Sx i s.heap) (hlt : i < n) (hne : e ≠ it) (hef : e ∉ fp) (fe : FpOk X pins H e) (fi : FpOk X pins H it)
    (hP : ∀ v, P i v → ∃ x, xs[i]? = some x ∧ RelV x v) :
    wpAny (model X.prog X.w) X.A (pyNext (.ref e)) (fun r s1 => ∃ u, r = some u ∧ wpAny (model X.prog X.w) X.A (letOwnedTupleGo (.Tuple elts kk pos) (.ref e) u) (fun _ s2 => ∃ p x, xs[i]? = some x ∧ H p = none ∧ u = .ref p ∧
      Inv X pins σ (upd H p (.tup [.int i, x])) s2 ∧ (∃ old, IsEnum s2.heap e it ((i + 1 : Nat) : Int) old) ∧ Sx (i + 1) s2.heap ∧ p ≠ e ∧ p ≠ it) E s1) E s := by
  refine wpAny_pyNext_enum_itemD D he hst hlt hne hef fun x h' tk hx ho hs' hT hsz hk => ⟨_, rfl, ?_⟩
  refine wpAny_letOwnedTupleGo_enum ho fun h2 he2 hs2 => ?_
  obtain ⟨y, hy, ry⟩ := hP x hx
  have hee : e < s.heap.objs.size := Heap.lt_size he
  have hie : it < s.heap.objs.size := by obtain ⟨_, z⟩ := D.live _ _ hst; exact Heap.lt_size z
  have hst2 : Sx (i + 1) h2 := D.frame _ _ _ hs' fun b hb o z => (hs2.2 b fun q => hef (q ▸ hb)).trans z
  refine ⟨s.heap.objs.size, y, hy, I.hok.fresh (Nat.le_refl _), rfl, ?_, ⟨x, by simpa using he2⟩, hst2, Nat.ne_of_gt hee, Nat.ne_of_gt hie⟩
  refine Inv.drawn2 (s := s) (h' := h2) (t' := tk + 1) I fe fi (Nat.le_refl _) (fun c o h1 h2' z => (hs2.2 c h1).trans (hk c o h1 h2' z)) ⟨_, he2⟩ (let ⟨o, z⟩ := D.live _ _ hst2; ⟨o, z⟩) (by show 2 ≤ sizeLine; decide) (us := [.int i tk, x]) (.cons ⟨tk, rfl⟩ (.cons ry .nil)) ?_
  exact ⟨_, (hs2.2 _ (Nat.ne_of_gt hee)).trans hT, ⟨rfl, _, rfl⟩, rfl⟩
end
/-- enumerate of the list (tuple) at a: a new tuple at each turn -/
def Ite (sq : Hp → List V → Prop) : It :=
  ⟨fun i H => ∃ xs x, sq H xs ∧ xs[i]? = some x, fun i H v H' => ∃ p, H p = none ∧ v = .ref p ∧ ∀ xs, sq H xs → ∃ x, xs[i]? = some x ∧ H' = upd H p (.tup [.int i, x]), fun i H => ∃ xs, sq H xs ∧ xs.length = i⟩
theorem turn_enumL {P : Program} {w : World} {K : PySem.W.Frag} {elts : List Expr} {kk : Nat} {pos : Pos} (a e it : Addr) (hne : e ≠ it) : Turn P w K (.Tuple elts kk pos) (Ite fun H => SqL K H a) [e, it] e (fun i h => (∃ old, IsEnum h e it (i : Int) old) ∧ h.IsListIter it a i) where
  mem := by simp
  obj := fun i h st b hb => by
    obtain ⟨⟨old, he⟩, o, ho, c, d⟩ := st
    have hb' : b = e ∨ b = it := by simpa using hb
    rcases hb' with rfl | rfl
    · exact ⟨_, he, fun v z => by have z' : Data.fields _ = Data.cell v := z; cases z'⟩
    · exact ⟨o, ho, fun v z => by rw [d] at z; cases z⟩
  keep := fun i h h' st k => by
    obtain ⟨⟨old, he⟩, hi⟩ := st
    exact ⟨⟨old, k e (by simp) _ he⟩, hi.at fun o z => k it (by simp) o z⟩
  item := by
    intro X hP hw hK hc i pins s σ H E I hf st hg
    subst hP hw hK
    obtain ⟨xs, x, hq, hx⟩ := hg
    obtain ⟨its, rv, p, hz⟩ := I.list hq
    obtain ⟨⟨old, he⟩, hi⟩ := st
    have hl : i < its.toArray.size := by
      have := (List.getElem?_eq_some_iff.mp hx).1
      have l2 := rv.length
      simp; omega
    have hae : e ≠ a := by
      rintro rfl
      obtain ⟨o, ho, hcl, _⟩ := p.isList
      rw [he] at ho; cases ho
      injection hcl with z; exact absurd z (by decide)
    have hai : a ≠ it := by
      rintro rfl
      obtain ⟨o, ho, hcl, _⟩ := p.isList
      obtain ⟨o2, ho2, hc2, _⟩ := hi
      rw [ho] at ho2; cases ho2; rw [hcl] at hc2
      injection hc2 with z; exact absurd z (by decide)
    refine thn (enum_item (xs := xs) (Draws.list (A := X.A.in1) (I.ok.hd hc) it a hai its.toArray) I he ⟨hi, p.isList⟩ hl hne (by simp only [List.mem_cons, List.not_mem_nil, or_false, not_or]; exact ⟨hne, hae⟩) (hf e (by simp)) (hf it (by simp)) fun v hv => ?_) fun r s1 ⟨u, hr, h1⟩ => ⟨u, hr, thn h1 fun _ s2 ⟨q, y, hy, hqn, hu, I2, he2, hs2, n1, n2⟩ => ?_⟩
    · obtain ⟨u, hu, ru⟩ := rv.get hx
      have e1 : its[i]? = some v := by simpa using hv
      rw [hu] at e1; cases e1
      exact ⟨x, hx, ru⟩
    · refine ⟨.ref q, _, I2, hu, ⟨q, hqn, rfl, fun zs hz' => ⟨y, by rw [I.list_inj hz' hq]; exact hy, rfl⟩⟩, ⟨he2, hs2.1⟩, fun b hb => ?_⟩
      have hb' : b = e ∨ b = it := by simpa using hb
      rcases hb' with rfl | rfl
      · rw [upd_ne (Ne.symm n1)]; exact (hf b (by simp)).1
      · rw [upd_ne (Ne.symm n2)]; exact (hf b (by simp)).1
  done := by
    intro X hP hw hK hc i pins s σ H E I hf st hg
    subst hP hw hK
    obtain ⟨xs, hq, hx⟩ := hg
    obtain ⟨its, rv, p, hz⟩ := I.list hq
    obtain ⟨⟨old, he⟩, hi⟩ := st
    have hl : i = its.toArray.size := by have l2 := rv.length; simp; omega
    have hai : a ≠ it := by
      rintro rfl
      obtain ⟨o, ho, hcl, _⟩ := p.isList
      obtain ⟨o2, ho2, hc2, _⟩ := hi
      rw [ho] at ho2; cases ho2; rw [hcl] at hc2
      injection hc2 with z; exact absurd z (by decide)
    refine wpAny_pyNext_enum_endD (Draws.list (A := X.A.in1) (I.ok.hd hc) it a hai its.toArray) he (by rw [← hl]; exact ⟨hi, p.isList⟩) fun h' hx' => ⟨rfl, ?_⟩
    exact I.turned2 (t' := s.toks) (hf e (by simp)) (hf it (by simp)) fun c o h1 h2 z => hx' c o h2 z
  self := fun _ _ _ _ _ st h => by
    obtain ⟨⟨old, he⟩, _⟩ := st
    exact wpAny_pyIter_enum he h
theorem turn_enumT {P : Program} {w : World} {K : PySem.W.Frag} {elts : List Expr} {kk : Nat} {pos : Pos} (a e it : Addr) (hne : e ≠ it) : Turn P w K (.Tuple elts kk pos) (Ite fun H => SqT K H a) [e, it] e (fun i h => (∃ old, IsEnum h e it (i : Int) old) ∧ h.IsTupleIter it a i) where
  mem := by simp
  obj := fun i h st b hb => by
    obtain ⟨⟨old, he⟩, o, ho, c, d⟩ := st
    have hb' : b = e ∨ b = it := by simpa using hb
    rcases hb' with rfl | rfl
    · exact ⟨_, he, fun v z => by have z' : Data.fields _ = Data.cell v := z; cases z'⟩
    · exact ⟨o, ho, fun v z => by rw [d] at z; cases z⟩
  keep := fun i h h' st k => by
    obtain ⟨⟨old, he⟩, hi⟩ := st
    exact ⟨⟨old, k e (by simp) _ he⟩, hi.at fun o z => k it (by simp) o z⟩
  item := by
    intro X hP hw hK hc i pins s σ H E I hf st hg
    subst hP hw hK
    obtain ⟨xs, x, hq, hx⟩ := hg
    obtain ⟨its, rv, p, hz⟩ := I.tuple hq
    have pt : s.heap.IsTuple a its.toArray := p
    obtain ⟨⟨old, he⟩, hi⟩ := st
    have hl : i < its.toArray.size := by
      have := (List.getElem?_eq_some_iff.mp hx).1
      have l2 := rv.length
      simp; omega
    have hae : e ≠ a := by
      rintro rfl
      obtain ⟨o, ho, hcl, _⟩ := pt
      rw [he] at ho; cases ho
      injection hcl with z; exact absurd z (by decide)
    have hai : a ≠ it := by
      rintro rfl
      obtain ⟨o, ho, hcl, _⟩ := pt
      obtain ⟨o2, ho2, hc2, _⟩ := hi
      rw [ho] at ho2; cases ho2; rw [hcl] at hc2
      injection hc2 with z; exact absurd z (by decide)
    refine thn (enum_item (xs := xs) (y_Draws_tuple (A := X.A.in1) (I.ok.hd hc) it a hai its.toArray) I he ⟨hi, pt⟩ hl hne (by simp only [List.mem_cons, List.not_mem_nil, or_false, not_or]; exact ⟨hne, hae⟩) (hf e (by simp)) (hf it (by simp)) fun v hv => ?_) fun r s1 ⟨u, hr, h1⟩ => ⟨u, hr, thn h1 fun _ s2 ⟨q, y, hy, hqn, hu, I2, he2, hs2, n1, n2⟩ => ?_⟩
    · obtain ⟨u, hu, ru⟩ := rv.get hx
      have e1 : its[i]? = some v := by simpa using hv
      rw [hu] at e1; cases e1
      exact ⟨x, hx, ru⟩
    · refine ⟨.ref q, _, I2, hu, ⟨q, hqn, rfl, fun zs hz' => ⟨y, by rw [I.tuple_inj hz' hq]; exact hy, rfl⟩⟩, ⟨he2, hs2.1⟩, fun b hb => ?_⟩
      have hb' : b = e ∨ b = it := by simpa using hb
      rcases hb' with rfl | rfl
      · rw [upd_ne (Ne.symm n1)]; exact (hf b (by simp)).1
      · rw [upd_ne (Ne.symm n2)]; exact (hf b (by simp)).1
  done := by
    intro X hP hw hK hc i pins s σ H E I hf st hg
    subst hP hw hK
    obtain ⟨xs, hq, hx⟩ := hg
    obtain ⟨its, rv, p, hz⟩ := I.tuple hq
    have pt : s.heap.IsTuple a its.toArray := p
    obtain ⟨⟨old, he⟩, hi⟩ := st
    have hl : i = its.toArray.size := by have l2 := rv.length; simp; omega
    have hai : a ≠ it := by
      rintro rfl
      obtain ⟨o, ho, hcl, _⟩ := pt
      obtain ⟨o2, ho2, hc2, _⟩ := hi
      rw [ho] at ho2; cases ho2; rw [hcl] at hc2
      injection hc2 with z; exact absurd z (by decide)
    refine wpAny_pyNext_enum_endD (y_Draws_tuple (A := X.A.in1) (I.ok.hd hc) it a hai its.toArray) he (by rw [← hl]; exact ⟨hi, pt⟩) fun h' hx' => ⟨rfl, ?_⟩
    exact I.turned2 (t' := s.toks) (hf e (by simp)) (hf it (by simp)) fun c o h1 h2 z => hx' c o h2 z
  self := fun _ _ _ _ _ st h => by
    obtain ⟨⟨old, he⟩, _⟩ := st
    exact wpAny_pyIter_enum he h
section
variable {X : Cx} {elts : List Expr} {kk : Nat} {tpos p pos : Pos} {a : Expr} {ta : TE}
def iEnL (K : PySem.W.Frag) (t : TA) : TI := fun σ H R => t σ H fun vs H1 => ∃ a, vs = [.ref a] ∧ (∃ xs, SqL K H1 a xs) ∧ R (Ite fun H => SqL K H a) H1
def iEnT (K : PySem.W.Frag) (t : TA) : TI := fun σ H R => t σ H fun vs H1 => ∃ a, vs = [.ref a] ∧ (∃ xs, SqT K H1 a xs) ∧ R (Ite fun H => SqT K H a) H1
theorem pi_enumL {t : TA} (hg : Gl X "enumerate") (hm : X.mg "enumerate" = none) (ha : PA X [a] t) (hs : starEach [a] X.env = [(false, eval a X.env)] := by rfl) : PI X (.Tuple elts kk tpos) (.Call (.Name "enumerate" p) [a] [] pos) (iEnL X.K t) := by
  intro pins s σ H R I h
  refine Call_ (ld_blt I hg hm boot_enumerate (PyProof.Rows.callWith_type1 (thn (ha pos pins s σ H _ I h) fun us s1 ⟨vs, H1, I1, r1, q1⟩ => ?_) hs rfl))
  obtain ⟨l, e, ⟨xs, hq⟩, q⟩ := q1
  subst e
  cases r1 with
  | cons r rr =>
    cases rr
    cases r
    obtain ⟨its, rv, pp, hz⟩ := I1.list hq
    refine call_enumerate_list pp.isList fun h' he hit hsz hk => ?_
    have I2 : Inv X pins σ H1 { s1 with heap := h' } := I1.kept (t' := s1.toks) hk
    refine wpAny_pyIter_enum (s := { s1 with heap := h' }) he ?_
    refine ⟨_, _, _, _, H1, rfl, I2, turn_enumL l _ s1.heap.objs.size (Nat.succ_ne_self _), ⟨⟨_, he⟩, hit⟩, fun b hb => ?_, q⟩
    have hb' : b = s1.heap.objs.size + 1 ∨ b = s1.heap.objs.size := by simpa using hb
    have hle : s1.heap.objs.size ≤ b := by
      rcases hb' with e | e
      · rw [e]; exact Nat.le_succ _
      · rw [e]; exact Nat.le_refl _
    exact I1.fpOk hle (I1.hok.fresh hle)
theorem pi_enumT {t : TA} (hg : Gl X "enumerate") (hm : X.mg "enumerate" = none) (ha : PA X [a] t) (hs : starEach [a] X.env = [(false, eval a X.env)] := by rfl) : PI X (.Tuple elts kk tpos) (.Call (.Name "enumerate" p) [a] [] pos) (iEnT X.K t) := by
  intro pins s σ H R I h
  refine Call_ (ld_blt I hg hm boot_enumerate (PyProof.Rows.callWith_type1 (thn (ha pos pins s σ H _ I h) fun us s1 ⟨vs, H1, I1, r1, q1⟩ => ?_) hs rfl))
  obtain ⟨l, e, ⟨xs, hq⟩, q⟩ := q1
  subst e
  cases r1 with
  | cons r rr =>
    cases rr
    cases r
    obtain ⟨its, rv, pp, hz⟩ := I1.tuple hq
    refine y_call_enumerate_tuple (show s1.heap.IsTuple l its.toArray from pp) fun h' he hit hsz hk => ?_
    have I2 : Inv X pins σ H1 { s1 with heap := h' } := I1.kept (t' := s1.toks) hk
    refine wpAny_pyIter_enum (s := { s1 with heap := h' }) he ?_
    refine ⟨_, _, _, _, H1, rfl, I2, turn_enumT l _ s1.heap.objs.size (Nat.succ_ne_self _), ⟨⟨_, he⟩, hit⟩, fun b hb => ?_, q⟩
    have hb' : b = s1.heap.objs.size + 1 ∨ b = s1.heap.objs.size := by simpa using hb
    have hle : s1.heap.objs.size ≤ b := by
      rcases hb' with e | e
      · rw [e]; exact Nat.le_succ _
      · rw [e]; exact Nat.le_refl _
    exact I1.fpOk hle (I1.hok.fresh hle)
end
/-- over enumerate of what the body leaves as it is -/
theorem for_enum {sq : Hp → List V → Prop} {xs : List V} {g : TG} {tb : TS} {D : Ends} {σ : St} {H : Hp} (Pv : Nat → St → Hp → Prop) (h0 : Pv 0 σ H) (hl : ∀ i σ H, i ≤ xs.length → Pv i σ H → sq H xs)
    (hs : ∀ i x p σ H, xs[i]? = some x → Pv i σ H → H p = none → g (.ref p) σ (upd H p (.tup [.int i, x])) fun σ2 H2 => tb { D with nx := Pv (i + 1), ct := Pv (i + 1), bk := D.nx } σ2 H2) (hd : ∀ σ H, Pv xs.length σ H → D.nx σ H) :
    ∃ W : Nat → Nat → St → Hp → Prop, (∃ m, W 0 m σ H) ∧ ∀ i m σ H, W i m σ H →
      ((Ite sq).stop i H ∧ D.nx σ H) ∨ ((Ite sq).go i H ∧ ∃ N : St → Hp → Prop, (∀ σ' H', N σ' H' → ∃ m', m' < m ∧ W (i + 1) m' σ' H') ∧ ∀ x H', (Ite sq).yld i H x H' → g x σ H' fun σ2 H2 => tb { D with nx := N, ct := N, bk := D.nx } σ2 H2) := by
  refine ⟨fun i m σ H => m = xs.length - i ∧ i ≤ xs.length ∧ Pv i σ H, ⟨xs.length, by simp, Nat.zero_le _, h0⟩, ?_⟩
  rintro i m σ H ⟨rfl, hi, p⟩
  have q := hl i σ H hi p
  by_cases hlt : i < xs.length
  · refine .inr ⟨⟨xs, xs[i], q, by simp [hlt]⟩, Pv (i + 1), fun σ' H' p' => ⟨xs.length - (i + 1), by omega, rfl, hlt, p'⟩, fun x H' y => ?_⟩
    obtain ⟨pp, hn, rfl, hx⟩ := y
    obtain ⟨x', hx', e⟩ := hx xs q
    subst e
    exact hs i x' pp σ H hx' p hn
  · have e : i = xs.length := by omega
    subst e
    exact .inl ⟨⟨xs, q, rfl⟩, hd σ H p⟩
end L2
namespace L2
open PySem PySem.Spec PyProof.Rows
/-! ### == of deep things that are the same -/
def Shp (d : PyData) (m : Nat) : Prop := d.canLay0 = true ∧ d.depth ≤ m
end L2
namespace L2
open PySem
/-! comprehensions whose test and element leave the heap as it is -/
theorem comp_rng {n : Nat} {lo : Int} {g : TG} {tt : TT} {te : TE} {σ0 : St} {H : Hp} {Q : VK} (p : Nat → Bool) (f : Nat → V) (hn : n < sizeLine)
    (hs : ∀ (i : Nat) (acc : List V) (N : List V → Hp → Prop), i < n → N (if p i then acc ++ [f i] else acc) H → g (.int (lo + i)) σ0 H fun σ2 H2 => tt σ2 H2 fun b H3 => if b = true then te σ2 H3 fun y H4 => N (acc ++ [y]) H4 else N acc H3)
    (hq : ∀ D, H D = none → Q (.ref D) (upd H D (.lst (((List.range n).filter p).map f)))) :
    CompR (Itr lo n) g tt te σ0 Q H := by
  refine ⟨fun i m acc H' => m = n - i ∧ i ≤ n ∧ H' = H ∧ acc = ((List.range i).filter p).map f, ⟨n, by simp, Nat.zero_le _, rfl, rfl⟩, ?_⟩
  rintro i m acc H' ⟨rfl, hi, rfl, rfl⟩
  have hl : (((List.range i).filter p).map f).length < sizeLine := by
    rw [List.length_map]
    have := List.length_filter_le p (List.range i)
    rw [List.length_range] at this
    omega
  refine ⟨hl, ?_⟩
  by_cases hlt : i < n
  · refine .inr ⟨hlt, fun acc' H2 => H2 = H' ∧ acc' = ((List.range (i + 1)).filter p).map f, fun acc' H2 ⟨h1, h2⟩ => ⟨n - (i + 1), by omega, rfl, hlt, h1, h2⟩, fun x H2 y => ?_⟩
    obtain ⟨e, y⟩ := y
    subst e y
    refine hs i _ (fun acc' H3 => H3 = H2 ∧ acc' = ((List.range (i + 1)).filter p).map f) hlt ⟨rfl, ?_⟩
    rw [List.range_succ, List.filter_append]
    cases hp : p i with
    | true => simp [hp]
    | false => simp [hp]
  · have e : i = n := by omega
    subst e
    exact .inl ⟨Nat.le_refl _, hq⟩
theorem comp_lst {K : PySem.W.Frag} {a : Addr} {xs : List V} {g : TG} {tt : TT} {te : TE} {σ0 : St} {H : Hp} {Q : VK} (p : V → Bool) (f : V → V) (hn : xs.length < sizeLine) (ha : SqL K H a xs)
    (hs : ∀ (x : V) (acc : List V) (N : List V → Hp → Prop), x ∈ xs → N (if p x then acc ++ [f x] else acc) H → g x σ0 H fun σ2 H2 => tt σ2 H2 fun b H3 => if b = true then te σ2 H3 fun y H4 => N (acc ++ [y]) H4 else N acc H3)
    (hq : ∀ D, H D = none → Q (.ref D) (upd H D (.lst ((xs.filter p).map f)))) :
    CompR (Itl K a) g tt te σ0 Q H := by
  refine ⟨fun i m acc H' => m = xs.length - i ∧ i ≤ xs.length ∧ H' = H ∧ acc = ((xs.take i).filter p).map f, ⟨xs.length, by simp, Nat.zero_le _, rfl, rfl⟩, ?_⟩
  rintro i m acc H' ⟨rfl, hi, rfl, rfl⟩
  have hl : (((xs.take i).filter p).map f).length < sizeLine := by
    rw [List.length_map]
    have h1 := List.length_filter_le p (xs.take i)
    have h2 := List.length_take_le i xs
    omega
  refine ⟨hl, ?_⟩
  by_cases hlt : i < xs.length
  · refine .inr ⟨⟨xs, xs[i], ha, by simp [hlt]⟩, fun acc' H2 => H2 = H' ∧ acc' = ((xs.take (i + 1)).filter p).map f, fun acc' H2 ⟨h1, h2⟩ => ⟨xs.length - (i + 1), by omega, rfl, hlt, h1, h2⟩, fun x H2 y => ?_⟩
    obtain ⟨e, y⟩ := y
    subst e
    have hx := y xs ha
    refine hs x _ (fun acc' H3 => H3 = H2 ∧ acc' = ((xs.take (i + 1)).filter p).map f) (List.mem_of_getElem? hx) ⟨rfl, ?_⟩
    rw [List.take_succ, hx, List.filter_append]
    cases hp : p x with
    | true => simp [hp]
    | false => simp [hp]
  · have e : i = xs.length := by omega
    subst e
    rw [List.take_length]
    exact .inl ⟨⟨xs, ha, Nat.le_refl _⟩, hq⟩
theorem inV_int (k : Int) : ∀ ns : List Int, inV (.int k) (ns.map V.int) = decide (k ∈ ns)
  | [] => by simp [inV]
  | n :: r => by
    have ih := inV_int k r
    unfold inV at ih ⊢
    rw [List.map_cons, List.any_cons, ih]
    show ((n == k) || decide (k ∈ r)) = decide (k ∈ n :: r)
    by_cases h : k = n
    · subst h; simp
    · have h' : ¬ n = k := fun z => h z.symm
      simp [h, h']
theorem flat_ints : ∀ ns : List Int, (ns.map V.int).all flatV = true
  | [] => rfl
  | n :: r => by rw [List.map_cons, List.all_cons, flat_ints r]; rfl
end L2
namespace L2
open PySem
/-! ### None or a whole number, as a part of a key -/
def isOpt : Option Int → Value → Bool
  | none, v => v == .none
  | some k, v => Value.isInt k v
def optHash : Option Int → Int
  | none => 4238894112
  | some k => hashInt k
theorem isOpt_shape {k : Option Int} {v : Value} (h : isOpt k v = true) : (k = none ∧ v = .none) ∨ ∃ i t, k = some i ∧ v = .int i t := by
  cases k with
  | none => exact .inl ⟨rfl, eq_of_beq h⟩
  | some i => obtain ⟨t, e⟩ := Value.isInt_shape h; exact .inr ⟨i, t, rfl, e⟩
section
variable {prog : Program} {w : World} {A : Around} {E : Value → Shared → Prop} {s : Shared}
theorem hash_none {Q : Int → Shared → Prop} (h : Q 4238894112 { s with toks := s.toks + 1 }) : wpAny (model prog w) A (pyHash .none) Q E s := by
  have hT : s.TypeIs .none "NoneType" := rfl
  unfold pyHash
  have hv : [Value.none].any Value.onHeap = false := rfl
  refine wpAny_bind ?_
  rw [cRoomFor, if_neg (by rw [hv]; exact Bool.false_ne_true)]; refine wpAny_pure ?_
  refine wpAny_bind (wpAny_specialOf hT F.slot_NoneType_hash.lookup ?_)
  show wpAny _ _ (if (some (Value.builtin "NoneType.__hash__") == some Value.none) = true then _ else _) Q E s
  rw [if_neg (by rw [beq_builtin_none]; exact Bool.false_ne_true)]
  refine wpAny_bind (wpAny_specialOf hT F.slot_NoneType_hash.lookup ?_)
  show wpAny _ _ (callSpecialIfBoundUnlessNone? .none "__hash__" _ >>= _) Q E s
  refine wpAny_bind (wpAny_callSpecialIfBoundUnlessNone?_slot hT F.slot_NoneType_hash (wpAny_call_entry F.slot_NoneType_hash hT F.entry_NoneType_hash
    (show wpAny _ _ (do ret (← mkInt 4238894112)) _ _ s from wpAny_ret_mkInt ?_) (F.args_NoneType_hash_1 _)))
  exact wpAny_pure h
theorem eq_opt {a b : Option Int} {u v : Value} {Q : Bool → Shared → Prop} (hu : isOpt a u = true) (hv : isOpt b v = true) (h : Q (decide (a = b)) s) : wpAny (model prog w) A (PySem.eqBool u v) Q E s := by
  rcases isOpt_shape hu with ⟨rfl, rfl⟩ | ⟨i, t, rfl, rfl⟩ <;> rcases isOpt_shape hv with ⟨rfl, rfl⟩ | ⟨j, t', rfl, rfl⟩
  · unfold eqBool
    refine wpAny_holding ?_
    refine wpAny_ite_split (fun _ => wpAny_bind (wpAny_rule (wpAny_pure (by simpa using h)))) (fun n => absurd rfl n)
  · exact PySem.SeqAt.EqAt.none_int j t' prog w E Q (by simpa using h)
  · exact PySem.SeqAt.EqAt.int_none i t prog w E Q (by simpa using h)
  · refine wpAny_eqBool_int ?_
    have e : (i == j) = decide (some i = some j) := by
      by_cases q : i = j
      · simp [q]
      · simp [q]
    rw [e]; exact h
end
def optKind (prog : Program) (w : World) : KeyKind prog w (Option Int) where
  is := isOpt
  hash := optHash
  inj := fun v a b ha hb => by
    rcases isOpt_shape ha with ⟨rfl, rfl⟩ | ⟨i, t, rfl, rfl⟩ <;> rcases isOpt_shape hb with ⟨rfl, e⟩ | ⟨j, t', rfl, e⟩
    · rfl
    · cases e
    · cases e
    · cases e; rfl
  byValue := fun k v h => by
    rcases isOpt_shape h with ⟨_, rfl⟩ | ⟨i, t, _, rfl⟩ <;> rfl
  pyHash := fun {A E s k v Q} hv h => by
    rcases isOpt_shape hv with ⟨rfl, rfl⟩ | ⟨i, t, rfl, rfl⟩
    · exact hash_none h
    · exact wpAny_pyHash_int h
  eqBool := fun hu hv h => eq_opt hu hv h
  «strs» := fun k x t v h => by
    rcases isOpt_shape h with ⟨_, e⟩ | ⟨i, t, _, e⟩ <;> cases e
end L2
namespace L2
open PySem PySem.Spec PyProof.Rows
/-! ### a dict whose keys are tuples of whole numbers and None -/
abbrev Oks := List (Option Int)
def okV : Option Int → V
  | none => .non
  | some i => .int i
abbrev Ent := Oks × Addr × V
abbrev EntR (p : Ent) (q : Oks × Addr × Value) : Prop := p.1 = q.1 ∧ p.2.1 = q.2.1 ∧ RelV p.2.2 q.2.2
def DicP (P : Program) (w : World) (a : Addr) (kvs : List Ent) : Heap → Prop := fun h => kvs.length ≤ sizeLine ∧ (a == sysModules) = false ∧ ∃ xs, Paired EntR kvs xs ∧
  ∃ o es ep, h.get? a = some o ∧ o.ExactDict ∧ o.data = .dict es ep ∧ es.toList = xs.map (entryOfKey (tupleKind (optKind P w))) ∧ (xs.map (·.1)).Nodup
def DicO (P : Program) (w : World) (a : Addr) (kvs : List Ent) : HO := .ext (DicP P w a kvs)
/-- the dict at a, and the tuples of its keys -/
def DicAt (P : Program) (w : World) (H : Hp) (a : Addr) (kvs : List Ent) : Prop := H a = some (DicO P w a kvs) ∧ ∀ x ∈ kvs, H x.2.1 = some (.tup (x.1.map okV))
theorem DicAt.same {P : Program} {w : World} {H H' : Hp} {a : Addr} {kvs : List Ent} (h : DicAt P w H a kvs) (s : Same H H') : DicAt P w H' a kvs := ⟨s _ _ h.1, fun x hx => s _ _ (h.2 x hx)⟩
def valO (kvs : List Ent) (k : Oks) : Option V := (kvs.find? fun x => decide (x.1 = k)).map (·.2.2)
def putE (k : Oks) (v : V) (x : Ent) : Ent := if x.1 = k then (x.1, x.2.1, v) else x
def putO (kvs : List Ent) (k : Oks) (b : Addr) (v : V) : List Ent := if (valO kvs k).isSome then kvs.map (putE k v) else kvs ++ [(k, b, v)]
theorem valO_nil {k : Oks} : valO [] k = none := rfl
theorem valO_cons {x : Ent} {kvs : List Ent} {k : Oks} : valO (x :: kvs) k = if x.1 = k then some x.2.2 else valO kvs k := by
  unfold valO
  rw [List.find?_cons]
  by_cases h : x.1 = k
  · rw [decide_eq_true h, if_pos h]; rfl
  · rw [decide_eq_false h, if_neg h]
theorem valO_map {kvs : List Ent} {k k' : Oks} {v : V} : valO (kvs.map (putE k v)) k' = if k' = k then (valO kvs k).map (fun _ => v) else valO kvs k' := by
  induction kvs with
  | nil => rw [List.map_nil, valO_nil, valO_nil]; split <;> rfl
  | cons x kvs ih =>
    rw [List.map_cons, valO_cons, ih, valO_cons, valO_cons]
    unfold putE
    by_cases h : x.1 = k <;> by_cases h' : k' = k
    · have : x.1 = k' := h.trans h'.symm
      simp [h, h']
    · have : ¬ x.1 = k' := fun z => h' (z.symm.trans h)
      rw [if_pos h, if_neg h', if_neg this, if_neg this, if_neg h']
    · subst h'
      simp [h]
    · simp [h, h']
theorem valO_append {kvs : List Ent} {k k' : Oks} {b : Addr} {v : V} (h : valO kvs k = none) : valO (kvs ++ [(k, b, v)]) k' = if k' = k then some v else valO kvs k' := by
  induction kvs with
  | nil =>
    rw [List.nil_append, valO_cons, valO_nil]
    by_cases e : k' = k
    · rw [if_pos e, if_pos e.symm]
    · rw [if_neg e, if_neg (Ne.symm e)]
  | cons x kvs ih =>
    rw [valO_cons] at h
    by_cases hx : x.1 = k
    · rw [if_pos hx] at h; cases h
    · rw [if_neg hx] at h
      rw [List.cons_append, valO_cons, ih h, valO_cons]
      by_cases e : k' = k
      · subst e; rw [if_neg hx, if_pos rfl, if_pos rfl]
      · rw [if_neg e, if_neg e]
theorem valO_put {kvs : List Ent} {k k' : Oks} {b : Addr} {v : V} : valO (putO kvs k b v) k' = if k' = k then some v else valO kvs k' := by
  unfold putO
  cases h : valO kvs k with
  | none => rw [if_neg (by simp)]; exact valO_append h
  | some u =>
    rw [if_pos (by simp), valO_map, h]; rfl
theorem putO_length {kvs : List Ent} {k : Oks} {b : Addr} {v : V} : (putO kvs k b v).length ≤ kvs.length + 1 := by
  unfold putO
  split
  · rw [List.length_map]; omega
  · rw [List.length_append]; exact Nat.le_refl _
theorem putO_keys {kvs : List Ent} {k : Oks} {b : Addr} {v : V} {F : Oks → Addr → Prop} (h : ∀ x ∈ kvs, F x.1 x.2.1) (hk : F k b) : ∀ x ∈ putO kvs k b v, F x.1 x.2.1 := by
  intro x hx
  unfold putO at hx
  split at hx
  · obtain ⟨y, hy, rfl⟩ := List.mem_map.mp hx
    unfold putE
    split
    · exact h y hy
    · exact h y hy
  · rcases List.mem_append.mp hx with q | q
    · exact h x q
    · rw [List.mem_singleton.mp q]; exact hk
/-! how the entries stand to the object's -/
theorem ent_val {kvs : List Ent} {xs : List (Oks × Addr × Value)} (r : Paired EntR kvs xs) (k : Oks) : RelO (valO kvs k) ((atKey xs k).map (·.2)) := by
  induction r with
  | nil => exact True.intro
  | @cons p q _ _ h1 _ ih =>
    rw [valO_cons]
    unfold atKey at ih ⊢
    rw [List.find?_cons]
    by_cases e : p.1 = k
    · rw [if_pos e, decide_eq_true (h1.1.symm.trans e)]; exact h1.2.2
    · rw [if_neg e, decide_eq_false (fun z => e (h1.1.trans z))]; exact ih
theorem relO_isSome {o : Option V} {u : Option Value} (r : RelO o u) : o.isSome = u.isSome := by
  cases o <;> cases u <;> first | rfl | exact r.elim
theorem relO_getD {o : Option V} {u : Option Value} {d : V} {r : Value} (h : RelO o u) (hd : RelV d r) : RelV (o.getD d) (u.getD r) := by
  cases o <;> cases u <;> first | exact hd | exact h | exact h.elim
theorem ent_map {kvs : List Ent} {xs : List (Oks × Addr × Value)} {k : Oks} {v : V} {u : Value} (r : Paired EntR kvs xs) (hv : RelV v u) : Paired EntR (kvs.map (putE k v)) (xs.map (putAt k u)) := by
  induction r with
  | nil => exact .nil
  | @cons p q _ _ h1 _ ih =>
    refine .cons ?_ ih
    unfold putE putAt
    by_cases e : p.1 = k
    · rw [if_pos e, if_pos (h1.1.symm.trans e)]; exact ⟨h1.1, h1.2.1, hv⟩
    · rw [if_neg e, if_neg (fun z => e (h1.1.trans z))]; exact h1
theorem ent_snoc {kvs : List Ent} {xs : List (Oks × Addr × Value)} {p : Ent} {q : Oks × Addr × Value} (r : Paired EntR kvs xs) (h : EntR p q) : Paired EntR (kvs ++ [p]) (xs ++ [q]) := by
  induction r with
  | nil => exact .cons h .nil
  | cons h1 _ ih => exact .cons h1 ih
theorem ent_put {kvs : List Ent} {xs : List (Oks × Addr × Value)} {k : Oks} {b : Addr} {v : V} {u : Value} (r : Paired EntR kvs xs) (hv : RelV v u) : Paired EntR (putO kvs k b v) (storedH xs k b u) := by
  have h := relO_isSome (ent_val r k)
  rw [Option.isSome_map] at h
  unfold putO storedH
  rw [h]
  split
  · exact ent_map r hv
  · exact ent_snoc r ⟨rfl, rfl, hv⟩
section
variable {P : Program} {w : World} {H : Hp} {h : Heap} {a b : Addr} {kvs : List Ent} {k : Oks}
theorem opt_items : ∀ {k : Oks} {us : List Value}, Vals (k.map okV) us → ItemsAre (optKind P w) k us
  | [], _, .nil => .nil
  | none :: _, _, .cons r t => .cons (by have e : _ = Value.none := r; subst e; rfl) (opt_items t)
  | some i :: _, _, .cons r t => .cons (by obtain ⟨tk, e⟩ := (show ∃ t, _ = Value.int i t from r); subst e; exact beq_self_eq_true i) (opt_items t)
theorem opt_key (ok : HOk P w H h) (e : H b = some (.tup (k.map okV))) : (tupleKind (optKind P w)).is h k b := by
  obtain ⟨_, its, r, o, ho, ⟨hc, n, hd⟩, _⟩ := ok _ _ e
  exact ⟨o, its.toArray, n, ho, hc, hd, opt_items r⟩
theorem dicO_of (ok : HOk P w H h) (e : DicAt P w H a kvs) : kvs.length ≤ sizeLine ∧ (a == sysModules) = false ∧ ∃ xs, Paired EntR kvs xs ∧ h.DictOfH (tupleKind (optKind P w)) a xs := by
  obtain ⟨e, ek⟩ := e
  obtain ⟨⟨z, hs, xs, r, o, es, ep, h1, h2, h3, h4, h5⟩, _⟩ := ok _ _ e
  refine ⟨z, hs, xs, r, o, es, ep, h1, h2, h3, h4, ?_, h5⟩
  have all : ∀ {kvs : List Ent} {xs : List (Oks × Addr × Value)}, Paired EntR kvs xs → (∀ x ∈ kvs, H x.2.1 = some (.tup (x.1.map okV))) → ∀ x ∈ xs, (tupleKind (optKind P w)).is h x.1 x.2.1 := by
    intro kvs xs r
    induction r with
    | nil => intro _ x hx; cases hx
    | @cons p q _ _ h1 _ ih =>
      intro hk x hx
      rcases List.mem_cons.mp hx with rfl | hx
      · have := hk p List.mem_cons_self
        rw [h1.1, h1.2.1] at this
        exact opt_key ok this
      · exact ih (fun y hy => hk y (List.mem_cons_of_mem _ hy)) x hx
  exact all r ek
theorem dicO_stab (h1 h2 : Heap) (p : DicP P w a kvs h1) (st : ∀ o, h1.get? a = some o → h2.get? a = some o) : DicP P w a kvs h2 := by
  obtain ⟨z, hs, xs, r, o, es, ep, q, c⟩ := p
  exact ⟨z, hs, xs, r, o, es, ep, st _ q, c⟩
theorem dicO_new (hb : sysModules < h.objs.size) : ObjOk P w H (h.push { cls := .type "dict", data := .dict #[] }) h.objs.size (DicO P w h.objs.size []) :=
  ⟨⟨Nat.zero_le _, beq_eq_false_iff_ne.mpr (Ne.symm (Nat.ne_of_lt hb)), [], .nil, _, #[], 0, Heap.get?_push_size _ rfl, ⟨rfl, rfl, rfl⟩, rfl, rfl, List.nodup_nil⟩, ⟨_, Heap.get?_push_size _ rfl⟩, fun _ _ => dicO_stab _ _⟩
end
/-- what is found at a tuple -/
def OGet (P : Program) (w : World) (H : Hp) (a : Addr) (y : V) (r : Option V) : Prop := ∃ kvs k b, DicAt P w H a kvs ∧ y = .ref b ∧ H b = some (.tup (k.map okV)) ∧ r = valO kvs k
section
variable {X : Cx} {pins : List (Addr × Obj)} {σ : St} {H : Hp} {s : Shared} {a b : Addr} {y v d : V} {u r : Value} {o : Option V} {A : Around} {E : Value → Shared → Prop}
theorem big_of (I : Inv X pins σ H s) : sysModules < s.heap.objs.size :=
  Nat.lt_trans (by decide) (show mainGlobals < s.heap.objs.size from (I.mod.glob.keeps I.bk).lt)
theorem o_in {Q : Value → Shared → Prop} (hu : A.units + 1 < cLine) (I : Inv X pins σ H s) (g : OGet X.prog X.w H a y o) (ry : RelV y u) (h : ∀ s', Inv X pins σ H s' → Q (.bool o.isSome) s') :
    wpAny (model X.prog X.w) A (compareOp .In u (.ref a)) Q E s := by
  obtain ⟨kvs, k, b, e, rfl, eb, rfl⟩ := g
  cases (show u = Value.ref b from ry)
  obtain ⟨_, hd, xs, rel, dd⟩ := dicO_of I.hok e
  refine wpAny_in_heap (tupleKind_room_in1 hu) (opt_key I.hok eb) hd dd ?_
  have q := relO_isSome (ent_val rel k)
  rw [Option.isSome_map] at q
  rw [← q]
  exact h _ (I.tok _)
theorem o_get2 {Q : Value → Shared → Prop} (hu : A.units + 1 < cLine) (I : Inv X pins σ H s) (g : OGet X.prog X.w H a y o) (ry : RelV y u) (rd : RelV d r) (h : ∀ w' s', Inv X pins σ H s' → RelV (o.getD d) w' → Q w' s') :
    wpAny (model X.prog X.w) A (call (.builtin "dict.get") [.ref a, u, r]) Q E s := by
  obtain ⟨kvs, k, b, e, rfl, eb, rfl⟩ := g
  cases (show u = Value.ref b from ry)
  obtain ⟨_, hd, xs, rel, dd⟩ := dicO_of I.hok e
  exact call_meetsIn PySem.F.slot_dict_get dd.typeIs PySem.F.entry_dict_get (PySem.F.args_dict_get_3 _ _ _) (meetsH_dict_get_default (tupleKind (optKind X.prog X.w)) a b hd r)
    ⟨tupleKind_room_in1 hu, k, xs, opt_key I.hok eb, dd, h _ _ (I.tok _) (relO_getD (ent_val rel k) rd)⟩
theorem o_set {kvs : List Ent} {k : Oks} {Q : Unit → Shared → Prop} (hu : A.units + 1 < cLine) (I : Inv X pins σ H s) (e : DicAt X.prog X.w H a kvs) (eb : H b = some (.tup (k.map okV))) (hl : kvs.length < sizeLine) (rv : RelV v r)
    (h : ∀ s', Inv X pins σ (upd H a (DicO X.prog X.w a (putO kvs k b v))) s' → Q () s') : wpAny (model X.prog X.w) A (setItem (.ref a) (.ref b) r) Q E s := by
  obtain ⟨z, hd, xs, rel, dd⟩ := dicO_of I.hok e
  have hz : xs.length ≤ sizeLine := by rw [← Paired.length rel]; exact z
  have hl' : (putO kvs k b v).length ≤ sizeLine := Nat.le_trans putO_length hl
  refine wpAny_setItem_heap (hsz := hz) (tupleKind_room_in1 hu) (opt_key I.hok eb) dd fun h' dd' hs => h _ ?_
  obtain ⟨q, es, ep, hq, h2, h3, h4, _, h5⟩ := dd'
  exact I.write (x := a) (e := a) (by rw [e.1]; exact True.intro) (.inl rfl) (fun c q hc z => (hs.2 c hc).trans z) ⟨q, hq⟩
    ⟨⟨hl', hd, _, ent_put rel rv, q, es, ep, hq, h2, h3, h4, h5⟩, ⟨q, hq⟩, fun _ _ => dicO_stab _ _⟩
theorem dicO_type {kvs : List Ent} (I : Inv X pins σ H s) (e : DicAt X.prog X.w H a kvs) : s.TypeIs (.ref a) "dict" ∧ ∀ b, Value.ref a = .ref b → ∃ ob, s.heap.get? b = some ob ∧ ob.dict = none := by
  obtain ⟨_, _, xs, _, dd⟩ := dicO_of I.hok e
  refine ⟨dd.typeIs, fun b q => ?_⟩
  cases q
  obtain ⟨ob, _, _, h1, h2, _⟩ := dd
  exact ⟨ob, h1, h2.2.1⟩
end
/-! the readings and the rules -/
def tONew (P : Program) (w : World) : TE := fun _ H Q => ∀ p, H p = none → Q (.ref p) (upd H p (DicO P w p []))
def tOIn (P : Program) (w : World) (ty td : TE) : TE := fun σ H Q => ty σ H fun y H1 => td σ H1 fun x H2 => ∃ a o, x = .ref a ∧ OGet P w H2 a y o ∧ Q (.bl o.isSome) H2
def tONotIn (P : Program) (w : World) (ty td : TE) : TE := fun σ H Q => ty σ H fun y H1 => td σ H1 fun x H2 => ∃ a o, x = .ref a ∧ OGet P w H2 a y o ∧ Q (.bl (!o.isSome)) H2
def sOPut (P : Program) (w : World) (td ty tv : TE) : TS := fun D σ H => tv σ H fun v H1 => td σ H1 fun x H2 => ty σ H2 fun y H3 => ∃ a kvs k b, x = .ref a ∧ DicAt P w H3 a kvs ∧ y = .ref b ∧ H3 b = some (.tup (k.map okV)) ∧ kvs.length < sizeLine ∧ D.nx σ (upd H3 a (DicO P w a (putO kvs k b v)))
def tOGet2 (P : Program) (w : World) (td : TE) (t : TA) : TE := fun σ H Q => td σ H fun x H1 => ∃ a kvs, x = .ref a ∧ DicAt P w H1 a kvs ∧ t σ H1 fun xs H2 => ∃ y z o, xs = [y, z] ∧ OGet P w H2 a y o ∧ Q (o.getD z) H2
section
variable {X : Cx} {o i e f value : Expr} {pos pos' apos cpos : Pos} {td ty tv tx : TE}
theorem pe_onew : PE X (.Dict [] [] pos) (tONew X.prog X.w) := fun pins s σ H Q I h =>
  wpAny_Dict_empty ⟨.ref s.heap.objs.size, _, I.laid (a := s.heap.objs.size) (o := DicO X.prog X.w s.heap.objs.size []) (t' := s.toks) (fun _ _ q => Heap.get?_push_of_some _ q) (Nat.le_refl _) (dicO_new (big_of I)), rfl, h _ (I.hok.fresh (Nat.le_refl _))⟩
theorem pc_oin (hu : X.A.units + 1 < cLine) (hi : PE X i ty) (ho : PE X o td) : PC X .In i o (tOIn X.prog X.w ty td) := by
  intro pins s σ H Q I h
  refine thn (hi pins s σ H _ I h) fun iv s1 ⟨y, H1, I1, ry, q1⟩ => thn (ho pins s1 σ H1 _ I1 q1) fun u s2 ⟨x, H2, I2, rx, a, ov, ex, g, q2⟩ => ?_
  subst ex
  obtain rfl : u = Value.ref a := rx
  exact o_in hu I2 g ry fun s3 I3 => ⟨.bl ov.isSome, H2, I3, rfl, q2⟩
theorem ps_oput (hu : X.A.units + 1 < cLine) (ho : PE X o td) (hi : PE X i ty) (hv : PE X value tv) (hs : swapsWith value (some (.Subscript o i pos')) pos.line X.env = pure false) :
    PS X (.Assign [.Subscript o i pos'] value pos) (sOPut X.prog X.w td ty tv) := by
  intro pins s σ H D I h
  refine wpAny_Assign_Subscript (thn (hv pins s σ H _ I h) fun r s1 ⟨v, H1, I1, rv, q1⟩ => thn (ho pins s1 σ H1 _ I1 q1) fun u s2 ⟨x, H2, I2, rx, q2⟩ => thn (hi pins s2 σ H2 _ I2 q2) fun iv s3 ⟨y, H3, I3, ry, a, kvs, k, b, ex, e, ey, eb, hl, q3⟩ => ?_) hs
  subst ex ey
  obtain rfl : u = Value.ref a := rx
  obtain rfl : iv = Value.ref b := ry
  exact o_set hu I3 e eb hl rv fun s4 I4 => ⟨σ, _, I4, q3⟩
theorem pe_oget2 {es : List Expr} {t : TA} (hu : X.A.units + 1 < cLine) (ho : PE X o td) (ha : PA X (e :: es) t)
    (h1 : attributeBase o "get" X.env (eval o X.env) = eval o X.env := by rfl)
    (h2 : ((backTo cpos (starEach (e :: es) X.env)).all (fun x => !x.1) && (backToKw cpos (keywordEach [] X.env)).all (fun x => x.1.isSome) && decide ((e :: es).length + ([] : List Keyword).length + (if ([] : List Keyword).isEmpty then 0 else 1) < 30)) = true := by rfl)
    (h3 : (apos.endLine == cpos.line) = true := by rfl) (h4 : starEach (e :: es) X.env = (false, eval e X.env) :: starEach es X.env := by rfl) (h5 : (backTo cpos (starEach es X.env)).any (·.1) = false := by rfl) :
    PE X (.Call (.Attribute o "get" apos) (e :: es) [] cpos) (tOGet2 X.prog X.w td t) := by
  intro pins s σ H Q I h
  refine wpAny_Call_method_late h1 h2 h3 rfl (thn (ho pins s σ H _ I h) fun v s1 ⟨x, H1, I1, r1, a, kvs, ex, e1, q1⟩ => ?_)
  subst ex
  obtain rfl : v = Value.ref a := r1
  obtain ⟨t1, t2⟩ := dicO_type I1 e1
  refine ⟨"dict", "dict.get", PySem.F.plainAttrs_dict, PySem.F.slot_dict_get, PySem.F.type_dict_get, t1, t2, ?_⟩
  have hA := ha cpos pins s1 σ H1 _ I1 q1
  rw [h4] at hA ⊢
  refine Calls.callWith_builtin (by show (false || (backTo cpos (starEach es X.env)).any (·.1)) = false; rw [h5] <;> rfl) (Calls.evalArgs_plain ?_)
  refine thn hA fun us s2 ⟨vs, H2, I2, r2, y, z, ov, evs, g, q2⟩ => ?_
  subst evs
  cases r2 with
  | cons ry r2 => cases r2 with
    | cons rz r2 => cases r2 with
      | nil => exact o_get2 hu I2 g ry rz fun w' s4 I4 rw' => ⟨_, H2, I4, rw', q2⟩
end
end L2
namespace L2
open PySem PySem.Spec PyProof.Rows
/-! ### a def of a class, called by the class: C.m(self, ..) -/
structure CMeth (K : PySem.W.Frag) (C : Addr) (m : Str) (f : Addr) : Prop where
  reads : PySem.W.readsIn K C (.type "type") = true
  found : PySem.W.findCls K (.ref C) (.type "type") m = some (.val (.ref f))
  spec : PySem.W.specialIn K (.ref C) "__getattribute__" = some (some (.builtin "type.__getattribute__"))
  kp : PySem.W.keepIn K (.ref f) = true
def tCMeth (C : Addr) (sp : Sp) (dvs : List V) (E : XK) (ta : TE) (t : TA) : TE := fun σ H Q => ta σ H fun x H1 => x = .ref C ∧ t σ H1 fun vs H2 => sp (vs ++ dvs) H2 Q E
section
variable {X : Cx} {CX : CXT} {k : Nat} {f C : Addr} {fd : FuncData} {ps : List Str} {sp : Sp} {dvs : List V} {ds : List Value} {E : XK} {x m : Str} {p pos apos : Pos} {e o : Expr} {es : List Expr} {ta : TE} {t : TA}
theorem pe_cmeth {pl : Sem Bool} (he : PE X o ta) (hm : CMeth X.K C m f) (F : FnOk X.prog X.w X.K X.mg X.base CX k f fd ps sp) (hr : Room k X.A) (hb : Binds X.K fd ps ds) (hd : Vals dvs ds) (hx : Passes CX X E) (ha : PA X (e :: es) t)
    (h1 : starEach (e :: es) X.env = (false, eval e X.env) :: starEach es X.env := by rfl) (h2 : (backTo pos (starEach es X.env)).any (·.1) = false := by rfl)
    (ht : eval (.Call (.Attribute o m apos) (e :: es) [] pos) X.env = (do
      let ov ← eval o X.env
      standAt apos.atName
      let (f, first) ← holding [ov] (getMethod ov m pl)
      callWith pos f first (backTo pos (starEach (e :: es) X.env)) (backToKw pos (keywordEach [] X.env))) := by rfl) :
    PE X (.Call (.Attribute o m apos) (e :: es) [] pos) (tCMeth C sp dvs E ta t) := by
  intro pins s σ H Q I h
  refine PySem.W.methodCall_KW (pl := pl) (thn (he pins s σ H _ I h) fun u s1 ⟨x, H1, I1, rx, ex, q⟩ => ?_) ht
  subst ex
  obtain rfl : u = Value.ref C := rx
  refine PySem.W.method_cls I1.kIn hm.spec (PySem.W.cls_value I1.kIn hm.reads hm.found rfl ?_)
  refine PySem.W.callWith_K (first := []) (h₀ := X.base) I.ok.mod.kin hm.kp (thn (ha pos pins _ σ H1 _ (I1.tok _) q) fun us s2 ⟨vs, H2, I2, r, q2⟩ => ⟨I2.kIn, ?_⟩) h1 h2
  exact run_fn F hr hb hd hx I2 r q2
end
/-! ### isinstance of what was caught, by a tuple of classes -/
section
variable {X : Cx}
def rIsXs (X : Cx) : List V → Hp → VK → Prop := fun xs H Q => ∃ ea oe tp cs cvs C vs b, xs = [.ref ea, .ref tp] ∧ H tp = some (.tup cs) ∧ Paired ValC cs cvs ∧ (ea, oe) ∈ X.pn ∧ oe.cls = .ref C ∧ oe.data = .fields vs ∧ DictAt H oe.dict ∧ XCls X.K C ∧ XIsi X.K C ∧ PySem.W.kitAny X.K (.ref C) cvs = some b ∧ Q (.bl b) H
end
end L2
namespace L2
open PySem PySem.Spec PyProof.Rows

/-! ### lists of pairs as tables -/
section
variable {κ : Type} [DecidableEq κ]
def valV (kvs : List (κ × V)) (k : κ) : Option V := (kvs.find? fun kv => decide (kv.1 = k)).map (·.2)
/-- in its place, or at the end -/
def putK (kvs : List (κ × V)) (k : κ) (v : V) : List (κ × V) :=
  if (kvs.any fun kv => decide (kv.1 = k)) = true then kvs.map (fun kv => if kv.1 = k then (kv.1, v) else kv) else kvs ++ [(k, v)]
def dropK (kvs : List (κ × V)) (k : κ) : List (κ × V) := kvs.filter fun kv => decide (kv.1 ≠ k)

theorem valV_pos {p : κ × V} {r : List (κ × V)} {k : κ} (e : p.1 = k) : valV (p :: r) k = some p.2 := by simp [valV, List.find?_cons, e]
theorem valV_neg {p : κ × V} {r : List (κ × V)} {k : κ} (e : ¬ p.1 = k) : valV (p :: r) k = valV r k := by simp [valV, List.find?_cons, e]
theorem valV_any (k : κ) : ∀ kvs : List (κ × V), (kvs.any fun kv => decide (kv.1 = k)) = (valV kvs k).isSome
  | [] => rfl
  | p :: r => by
    rw [List.any_cons]
    by_cases e : p.1 = k
    · simp only [valV_pos e, decide_eq_true e, Bool.true_or, Option.isSome_some]
    · rw [valV_neg e, decide_eq_false e, Bool.false_or]; exact valV_any k r
theorem length_putK (kvs : List (κ × V)) (k : κ) (v : V) : (putK kvs k v).length ≤ kvs.length + 1 := by
  unfold putK
  split
  · rw [List.length_map]; omega
  · rw [List.length_append, List.length_cons, List.length_nil]; omega
theorem putK_new {kvs : List (κ × V)} {k : κ} (v : V) (h : valV kvs k = none) : putK kvs k v = kvs ++ [(k, v)] := by
  unfold putK
  rw [valV_any, h]
  exact if_neg (by decide)

theorem RelO.isSome_eq {o : Option V} {u : Option Value} (r : RelO o u) : o.isSome = u.isSome := by
  cases o with
  | none => cases u with
    | none => rfl
    | some _ => exact (show False from r).elim
  | some _ => cases u with
    | none => exact (show False from r).elim
    | some _ => rfl

/-- raw tables of the same keys -/
theorem KV.val {kvs : List (κ × V)} {vs : List (κ × Value)} (r : KV kvs vs) (k : κ) : RelO (valV kvs k) (valueAt vs k) := by
  unfold KV at r
  induction r with
  | nil => exact True.intro
  | @cons p q ps qs h t ih =>
    obtain ⟨h1, h2⟩ := h
    by_cases e : p.1 = k
    · have e' : q.1 = k := h1.symm.trans e
      have b : valueAt (q :: qs) k = some q.2 := by simp [valueAt, List.find?_cons, e']
      rw [valV_pos e, b]; exact h2
    · have e' : ¬ q.1 = k := fun z => e (h1.trans z)
      have b : valueAt (q :: qs) k = valueAt qs k := by simp [valueAt, List.find?_cons, e']
      rw [valV_neg e, b]; exact ih
theorem KV.any {kvs : List (κ × V)} {vs : List (κ × Value)} (r : KV kvs vs) (k : κ) : (kvs.any fun kv => decide (kv.1 = k)) = vs.any fun kv => decide (kv.1 = k) := by
  unfold KV at r
  induction r with
  | nil => rfl
  | cons h t ih => rw [List.any_cons, List.any_cons, ih, h.1]
theorem KV.repl {kvs : List (κ × V)} {vs : List (κ × Value)} (r : KV kvs vs) (k : κ) {y : V} {u : Value} (ry : RelV y u) :
    KV (kvs.map fun kv => if kv.1 = k then (kv.1, y) else kv) (vs.map fun kv => if kv.1 = k then (kv.1, u) else kv) := by
  unfold KV at r ⊢
  induction r with
  | nil => exact .nil
  | @cons p q ps qs h t ih =>
    rw [List.map_cons, List.map_cons]
    refine .cons ?_ ih
    obtain ⟨h1, h2⟩ := h
    by_cases e : p.1 = k
    · rw [if_pos e, if_pos (h1.symm.trans e)]; exact ⟨h1, ry⟩
    · rw [if_neg e, if_neg (fun z => e (h1.trans z))]; exact ⟨h1, h2⟩
theorem KV.put {kvs : List (κ × V)} {vs : List (κ × Value)} (r : KV kvs vs) (k : κ) {y : V} {u : Value} (ry : RelV y u) : KV (putK kvs k y) (stored vs k u) := by
  unfold putK stored
  rw [r.any k]
  by_cases e : (vs.any fun kv => decide (kv.1 = k)) = true
  · rw [if_pos e, if_pos e]; exact r.repl k ry
  · rw [if_neg e, if_neg e]; exact Paired.snoc r ⟨rfl, ry⟩
theorem KV.keys {kvs : List (κ × V)} {vs : List (κ × Value)} (r : KV kvs vs) : kvs.map (·.1) = vs.map (·.1) := by
  unfold KV at r
  induction r with
  | nil => rfl
  | cons h t ih => rw [List.map_cons, List.map_cons, ih, h.1]
theorem KV.length {kvs : List (κ × V)} {vs : List (κ × Value)} (r : KV kvs vs) : kvs.length = vs.length := Paired.length r
end


/-! ### a tracked dict, its keys ints and texts or tuples of these -/
theorem kV_is {P : Program} {w : World} {k : Key} {u : Value} (r : RelV (kV k) u) : (mixKind P w).is k u = true := by
  cases k with
  | inl i => obtain ⟨t, e⟩ := (show ∃ t, u = Value.int i t from r); subst e; exact mixKind_int P w i t
  | inr x => obtain ⟨t, e⟩ := (show ∃ t, u = Value.str x t from r); subst e; exact mixKind_str P w x t
theorem items_are {P : Program} {w : World} : ∀ {ks : List Key} {us : List Value}, Vals (ks.map kV) us → ItemsAre (mixKind P w) ks us
  | [], _, r => by rw [List.map_nil] at r; cases r; exact .nil
  | k :: ks, _, r => by
    rw [List.map_cons] at r
    cases r with
    | cons h t => exact .cons (kV_is h) (items_are t)

/-- raw entries of a dict with tuple keys -/
abbrev KT (H : Hp) : List (List Key × V) → List (List Key × Addr × Value) → Prop := Paired fun p q => p.1 = q.1 ∧ H q.2.1 = some (.tup (p.1.map kV)) ∧ RelV p.2 q.2.2
theorem KT.val {H : Hp} {kvs : List (List Key × V)} {xs : List (List Key × Addr × Value)} (r : KT H kvs xs) (k : List Key) : RelO (valV kvs k) ((atKey xs k).map (·.2)) := by
  induction r with
  | nil => exact True.intro
  | @cons p q ps qs h t ih =>
    obtain ⟨h1, _, h2⟩ := h
    by_cases e : p.1 = k
    · have e' : q.1 = k := h1.symm.trans e
      have b : atKey (q :: qs) k = some q.2 := by simp [atKey, List.find?_cons, e']
      rw [valV_pos e, b]; exact h2
    · have e' : ¬ q.1 = k := fun z => e (h1.trans z)
      have b : atKey (q :: qs) k = atKey qs k := by simp [atKey, List.find?_cons, e']
      rw [valV_neg e, b]; exact ih
theorem KT.repl {H : Hp} {kvs : List (List Key × V)} {xs : List (List Key × Addr × Value)} (r : KT H kvs xs) (k : List Key) {y : V} {u : Value} (ry : RelV y u) :
    KT H (kvs.map fun kv => if kv.1 = k then (kv.1, y) else kv) (xs.map (putAt k u)) := by
  induction r with
  | nil => exact .nil
  | @cons p q ps qs h t ih =>
    rw [List.map_cons, List.map_cons]
    refine .cons ?_ ih
    obtain ⟨h1, h2, h3⟩ := h
    unfold putAt
    by_cases e : p.1 = k
    · rw [if_pos e, if_pos (h1.symm.trans e)]; exact ⟨h1, h2, ry⟩
    · rw [if_neg e, if_neg (fun z => e (h1.trans z))]; exact ⟨h1, h2, h3⟩
theorem KT.put {H : Hp} {kvs : List (List Key × V)} {xs : List (List Key × Addr × Value)} (r : KT H kvs xs) (k : List Key) {b : Addr} {y : V} {u : Value} (hb : H b = some (.tup (k.map kV))) (ry : RelV y u) :
    KT H (putK kvs k y) (storedH xs k b u) := by
  have e : (kvs.any fun kv => decide (kv.1 = k)) = (atKey xs k).isSome := by
    rw [valV_any, (r.val k).isSome_eq, Option.isSome_map]
  unfold putK storedH
  rw [e]
  by_cases q : (atKey xs k).isSome = true
  · rw [if_pos q, if_pos q]; exact r.repl k ry
  · rw [if_neg q, if_neg q]; exact Paired.snoc r ⟨rfl, hb, ry⟩
theorem KT.keeps {H H' : Hp} {kvs : List (List Key × V)} {xs : List (List Key × Addr × Value)} (r : KT H kvs xs) (ht : ∀ b ys, H b = some (.tup ys) → H' b = some (.tup ys)) : KT H' kvs xs :=
  Paired.mapP r fun _ _ z => ⟨z.1, ht _ _ z.2.1, z.2.2⟩

section
variable {P : Program} {w : World} {H : Hp} {h : Heap} {a : Addr}
theorem rd_of {u : HO} (ok : HOk P w H h) (e : Rd H a u) : ObjOk P w H h a u := e.ok ok
theorem dk_rd {kvs : List (Key × V)} (ok : HOk P w H h) (e : Rd H a (.dK kvs)) : kvs.length ≤ sizeLine ∧ (a == sysModules) = false ∧ ∃ vs, KV kvs vs ∧ h.DictOf (mixKind P w) a vs :=
  show ObjOk P w H h a (.dK kvs) from rd_of ok e
theorem dk_of {kvs : List (Key × V)} (ok : HOk P w H h) (e : H a = some (.dK kvs)) : kvs.length ≤ sizeLine ∧ (a == sysModules) = false ∧ ∃ vs, KV kvs vs ∧ h.DictOf (mixKind P w) a vs := dk_rd ok (.inl e)
/-- a tracked tuple of ints and texts is a key -/
theorem key_of {ks : List Key} (ok : HOk P w H h) (e : H a = some (.tup (ks.map kV))) : (tupleKind (mixKind P w)).is h ks a := by
  obtain ⟨_, its, r, o, h1, ⟨h2, n, h3⟩, _⟩ := (show ObjOk P w H h a (.tup (ks.map kV)) from ok a _ e)
  exact ⟨o, its.toArray, n, h1, h2, h3, by simpa using items_are r⟩
theorem dt_rd {kvs : List (List Key × V)} (ok : HOk P w H h) (e : Rd H a (.dT kvs)) : kvs.length ≤ sizeLine ∧ (a == sysModules) = false ∧
    ∃ xs, KT H kvs xs ∧ h.DictOfH (tupleKind (mixKind P w)) a xs := by
  obtain ⟨z, y, xs, r, o, es, ep, h1, h2, h3, h4, h5⟩ := (show ObjOk P w H h a (.dT kvs) from rd_of ok e)
  refine ⟨z, y, xs, r, o, es, ep, h1, h2, h3, h4, fun x hx => ?_, h5⟩
  have all : ∀ {l : List (List Key × V)} {m : List (List Key × Addr × Value)}, KT H l m → ∀ x ∈ m, (tupleKind (mixKind P w)).is h x.1 x.2.1 := by
    intro l m q
    induction q with
    | nil => intro x hx; exact nomatch hx
    | @cons p q ps qs hq t ih =>
      intro x hx
      rcases List.mem_cons.mp hx with e | hx
      · subst e
        exact key_of ok (by rw [← hq.1]; exact hq.2.1)
      · exact ih x hx
  exact all r x hx
theorem dt_of {kvs : List (List Key × V)} (ok : HOk P w H h) (e : H a = some (.dT kvs)) : kvs.length ≤ sizeLine ∧ (a == sysModules) = false ∧
    ∃ xs, KT H kvs xs ∧ h.DictOfH (tupleKind (mixKind P w)) a xs := dt_rd ok (.inl e)
end

/-- what the dict at a holds at the key y -/
def DGet (H : Hp) (a : Addr) (y : V) (r : Option V) : Prop :=
  (∃ kvs k, Rd H a (.dK kvs) ∧ y = kV k ∧ r = valV kvs k) ∨ ∃ kvs k b, Rd H a (.dT kvs) ∧ y = .ref b ∧ H b = some (.tup (k.map kV)) ∧ r = valV kvs k
/-- the heap behind a[y] = v -/
def DPut (H : Hp) (a : Addr) (y v : V) (H' : Hp) : Prop :=
  (∃ kvs k, H a = some (.dK kvs) ∧ y = kV k ∧ kvs.length < sizeLine ∧ H' = upd H a (.dK (putK kvs k v))) ∨
  ∃ kvs k b, H a = some (.dT kvs) ∧ y = .ref b ∧ H b = some (.tup (k.map kV)) ∧ kvs.length < sizeLine ∧ H' = upd H a (.dT (putK kvs k v))
theorem DGet.k {H : Hp} {a : Addr} {kvs : List (Key × V)} {k : Key} (e : H a = some (.dK kvs)) : DGet H a (kV k) (valV kvs k) := .inl ⟨kvs, k, .inl e, rfl, rfl⟩
theorem DPut.k {H : Hp} {a : Addr} {kvs : List (Key × V)} {k : Key} {v : V} (e : H a = some (.dK kvs)) (hl : kvs.length < sizeLine) : DPut H a (kV k) v (upd H a (.dK (putK kvs k v))) := .inl ⟨kvs, k, e, rfl, hl, rfl⟩


section
variable {X : Cx} {pins : List (Addr × Obj)} {σ : St} {H : Hp} {s : Shared} {a : Addr} {y v : V} {u r : Value} {o : Option V} {A : Around} {E : Value → Shared → Prop}

theorem Inv.big (I : Inv X pins σ H s) : sysModules < s.heap.objs.size := by
  have h : mainGlobals < s.heap.objs.size := (I.mod.glob.keeps I.bk).lt
  exact Nat.lt_trans (by decide) h

/-- d[y], there -/
theorem d_getItem {Q : Value → Shared → Prop} (hu : A.units + 1 < cLine) (I : Inv X pins σ H s) (g : DGet H a y (some v)) (ry : RelV y u) (h : ∀ w' s', Inv X pins σ H s' → RelV v w' → Q w' s') :
    wpAny (model X.prog X.w) A (getItem (.ref a) u) Q E s := by
  rcases g with ⟨kvs, k, e, ey, l⟩ | ⟨kvs, k, b, e, ey, eb, l⟩
  · subst ey
    obtain ⟨z, hd, vs, rel, dd⟩ := dk_rd I.hok e
    obtain ⟨w', hw, rw'⟩ := RelO.some_of (v := v) (o := valueAt vs k) (by rw [l]; exact rel.val k)
    exact wpAny_getItem_of (kV_is ry) dd.mapOf hw (h w' _ (I.tok _) rw')
  · subst ey
    cases (show u = Value.ref b from ry)
    obtain ⟨z, hd, xs, rel, dd⟩ := dt_rd I.hok e
    obtain ⟨w', hw, rw'⟩ := RelO.some_of (v := v) (o := (atKey xs k).map (·.2)) (by rw [l]; exact rel.val k)
    obtain ⟨p, hp, hp2⟩ := Option.map_eq_some_iff.mp hw
    refine wpAny_getItem_heap (tupleKind_room_in1 hu) (key_of I.hok eb) dd hp ?_
    rw [hp2]
    exact h w' _ (I.tok _) rw'
/-- y in d -/
theorem d_in {Q : Value → Shared → Prop} (hu : A.units + 1 < cLine) (I : Inv X pins σ H s) (g : DGet H a y o) (ry : RelV y u) (h : ∀ s', Inv X pins σ H s' → Q (.bool o.isSome) s') :
    wpAny (model X.prog X.w) A (compareOp .In u (.ref a)) Q E s := by
  rcases g with ⟨kvs, k, e, ey, l⟩ | ⟨kvs, k, b, e, ey, eb, l⟩
  · subst ey
    obtain ⟨z, hd, vs, rel, dd⟩ := dk_rd I.hok e
    refine wpAny_in_of (kV_is ry) hd dd.mapOf ?_
    rw [← (rel.val k).isSome_eq, ← l]
    exact h _ (I.tok _)
  · subst ey
    cases (show u = Value.ref b from ry)
    obtain ⟨z, hd, xs, rel, dd⟩ := dt_rd I.hok e
    refine wpAny_in_heap (tupleKind_room_in1 hu) (key_of I.hok eb) hd dd ?_
    have q := (rel.val k).isSome_eq
    rw [Option.isSome_map] at q
    rw [← q, ← l]
    exact h _ (I.tok _)
theorem d_notIn {Q : Value → Shared → Prop} (hu : A.units + 1 < cLine) (I : Inv X pins σ H s) (g : DGet H a y o) (ry : RelV y u) (h : ∀ s', Inv X pins σ H s' → Q (.bool (!o.isSome)) s') :
    wpAny (model X.prog X.w) A (compareOp .NotIn u (.ref a)) Q E s := by
  rcases g with ⟨kvs, k, e, ey, l⟩ | ⟨kvs, k, b, e, ey, eb, l⟩
  · subst ey
    obtain ⟨z, hd, vs, rel, dd⟩ := dk_rd I.hok e
    refine wpAny_notIn_of (kV_is ry) hd dd.mapOf ?_
    rw [← (rel.val k).isSome_eq, ← l]
    exact h _ (I.tok _)
  · subst ey
    cases (show u = Value.ref b from ry)
    obtain ⟨z, hd, xs, rel, dd⟩ := dt_rd I.hok e
    refine wpAny_notIn_heap (tupleKind_room_in1 hu) (key_of I.hok eb) hd dd ?_
    have q := (rel.val k).isSome_eq
    rw [Option.isSome_map] at q
    rw [← q, ← l]
    exact h _ (I.tok _)
/-- a dict's object is replaced -/
theorem d_write {h' : Heap} {t' : Nat} {ob : HO} (I : Inv X pins σ H s) (mu : Mut (H a)) (hs : Heap.SameBut a s.heap h') (he : ∃ q, h'.get? a = some q) (new : ObjOk X.prog X.w (upd H a ob) h' a ob) :
    Inv X pins σ (upd H a ob) { s with heap := h', toks := t' } :=
  I.write (x := a) (e := a) mu (.inl rfl) (fun b q hb z => (hs.2 b hb).trans z) he new
theorem dk_new {P : Program} {w : World} {H' : Hp} {h' : Heap} {kvs : List (Key × V)} {vs : List (Key × Value)} (z : kvs.length ≤ sizeLine) (hd : (a == sysModules) = false) (rel : KV kvs vs) (dd : h'.DictOf (mixKind P w) a vs) :
    ObjOk P w H' h' a (.dK kvs) := ⟨z, hd, vs, rel, dd⟩
/-- d[y] = v -/
theorem d_setItem {H' : Hp} {Q : Unit → Shared → Prop} (hu : A.units + 1 < cLine) (I : Inv X pins σ H s) (g : DPut H a y v H') (ry : RelV y u) (rv : RelV v r) (h : ∀ s', Inv X pins σ H' s' → Q () s') :
    wpAny (model X.prog X.w) A (setItem (.ref a) u r) Q E s := by
  rcases g with ⟨kvs, k, e, ey, l, eH⟩ | ⟨kvs, k, b, e, ey, eb, l, eH⟩
  · subst ey eH
    obtain ⟨z, hd, vs, rel, dd⟩ := dk_of I.hok e
    have hz : vs.length ≤ sizeLine := by rw [← rel.length]; exact z
    have hl : (putK kvs k v).length ≤ sizeLine := by have := length_putK kvs k v; omega
    refine wpAny_setItem_pairs (hsz := hz) (kV_is ry) dd fun h' dd' hs => h _ ?_
    have he : ∃ q, h'.get? a = some q := let ⟨q, _, _, hq, _⟩ := dd'; ⟨q, hq⟩
    exact d_write I (by rw [e]; exact True.intro) hs he (dk_new hl hd (rel.put k rv) dd')
  · subst ey eH
    cases (show u = Value.ref b from ry)
    obtain ⟨z, hd, xs, rel, dd⟩ := dt_of I.hok e
    have hz : xs.length ≤ sizeLine := by rw [← Paired.length rel]; exact z
    have hl : (putK kvs k v).length ≤ sizeLine := by have := length_putK kvs k v; omega
    refine wpAny_setItem_heap (hsz := hz) (tupleKind_room_in1 hu) (key_of I.hok eb) dd fun h' dd' hs => h _ ?_
    obtain ⟨q, es, ep, hq, h2, h3, h4, _, h5⟩ := dd'
    refine d_write I (by rw [e]; exact True.intro) hs ⟨q, hq⟩ ⟨hl, hd, _, (rel.put k eb rv).keeps fun c ys ec => ?_, q, es, ep, hq, h2, h3, h4, h5⟩
    rw [upd_ne (ne_of ec e (fun z => nomatch z))]
    exact ec
end

section
variable {X : Cx} {pins : List (Addr × Obj)} {σ : St} {H : Hp} {s : Shared} {a : Addr} {kvs : List (Key × V)} {k : Key} {u : Value} {A : Around} {E : Value → Shared → Prop}
end


/-! ### readings and rules -/
/-- the element of a subscription, not a slice -/
def NoSl (i : Expr) : Prop := ∀ ov iv, subscripted i false ov iv = operate [ov, iv] (getItem ov iv)
theorem subD_of {prog : Program} {w : World} {A : Around} {E : Value → Shared → Prop} {s : Shared} {env : Env} {value slice : Expr} {pos : Pos} {T id : String} {Q : Value → Shared → Prop}
    (hl : typeLookup (.type T) "__getitem__" = pure (some (.builtin id))) (hs : NoSl slice)
    (h : wpAny (model prog w) A (eval value env) (fun o s₁ => wpAny (model prog w) A (eval slice env) (fun i s₂ => s₂.TypeIs o T ∧ wpAny (model prog w) A (getItem o i) Q E s₂) E s₁) E s) :
    wpAny (model prog w) A (eval (.Subscript value slice pos) env) Q E s := by
  refine Subscript_ (wpAny_mono h (fun o s₁ h₁ => wpAny_mono h₁ (fun i s₂ h₂ => ?_) fun _ _ x => x) fun _ _ x => x)
  obtain ⟨hT, h₂⟩ := h₂
  unfold subscriptTail
  refine wpAny_bind ?_
  rw [getitemInPython_of_ne hT.not_modules]
  refine wpAny_bind (wpAny_specialOf hT hl ?_)
  have fin : wpAny (model prog w) A (subscripted slice false o i) (fun r s₃ => wpAny (model prog w) A (letTemporaryGo value o r >>= fun _ => pure r) Q E s₃) E s₂ := by
    rw [hs o i]
    exact wpAny_operating (wpAny_mono h₂ (fun r s₃ h₃ => wpAny_bind (wpAny_letTemporaryGo (wpAny_pure h₃))) fun _ _ x => x)
  first
    | exact wpAny_pure (wpAny_bind fin)
    | exact wpAny_bind (wpAny_pure (wpAny_bind fin))
    | exact wpAny_bind fin

theorem dict_typeIs {X : Cx} {pins : List (Addr × Obj)} {σ : St} {H : Hp} {s : Shared} {a : Addr} {y : V} {o : Option V} (I : Inv X pins σ H s) (g : DGet H a y o) : s.TypeIs (.ref a) "dict" := by
  rcases g with ⟨kvs, k, e, _, _⟩ | ⟨kvs, k, b, e, _, _, _⟩
  · obtain ⟨_, _, vs, _, dd⟩ := dk_rd I.hok e
    exact dd.typeIs
  · obtain ⟨_, _, xs, _, dd⟩ := dt_rd I.hok e
    exact dd.typeIs

/-- d[y] -/
def tDGet (td ty : TE) : TE := fun σ H Q => td σ H fun x H1 => ty σ H1 fun y H2 => ∃ a v, x = .ref a ∧ DGet H2 a y (some v) ∧ Q v H2
/-- y in d, y not in d -/
def tDIn (ty td : TE) : TE := fun σ H Q => ty σ H fun y H1 => td σ H1 fun x H2 => ∃ a o, x = .ref a ∧ DGet H2 a y o ∧ Q (.bl o.isSome) H2
def tDNotIn (ty td : TE) : TE := fun σ H Q => ty σ H fun y H1 => td σ H1 fun x H2 => ∃ a o, x = .ref a ∧ DGet H2 a y o ∧ Q (.bl (!o.isSome)) H2
/-- d[y] = v -/
def sDPut (td ty tv : TE) : TS := fun D σ H => tv σ H fun v H1 => td σ H1 fun x H2 => ty σ H2 fun y H3 => ∃ a H4, x = .ref a ∧ DPut H3 a y v H4 ∧ D.nx σ H4
/-- d[y] op= v -/
def sDAug (td ty tv : TE) (rd : V → V → Hp → VK → Prop) : TS := fun D σ H => td σ H fun x H1 => ty σ H1 fun y H2 => ∃ a v, x = .ref a ∧ DGet H2 a y (some v) ∧
  tv σ H2 fun y2 H3 => rd v y2 H3 fun z H4 => ∃ H5, DPut H4 a y z H5 ∧ D.nx σ H5
/-- del d[y] -/
def sDDel (td ty : TE) : TS := fun D σ H => td σ H fun x H1 => ty σ H1 fun y H2 => ∃ a kvs k, x = .ref a ∧ H2 a = some (.dK kvs) ∧ y = kV k ∧ (valV kvs k).isSome = true ∧ D.nx σ (upd H2 a (.dK (dropK kvs k)))

section
variable {X : Cx} {o i e value : Expr} {pos pos' tpos : Pos} {td ty tv : TE}
theorem pe_dget (hu : X.A.units + 1 < cLine) (ho : PE X o td) (hi : PE X i ty) (hs : NoSl i) : PE X (.Subscript o i pos) (tDGet td ty) := by
  intro pins s σ H Q I h
  refine subD_of PySem.F.slot_dict_getitem.lookup hs (thn (ho pins s σ H _ I h) fun u s1 ⟨x, H1, I1, rx, q1⟩ => thn (hi pins s1 σ H1 _ I1 q1) fun iv s2 ⟨y, H2, I2, ry, a, v, ex, g, q2⟩ => ?_)
  subst ex
  obtain rfl : u = Value.ref a := rx
  exact ⟨dict_typeIs I2 g, d_getItem hu I2 g ry fun w' s3 I3 rw' => ⟨v, H2, I3, rw', q2⟩⟩
theorem pc_din (hu : X.A.units + 1 < cLine) (hi : PE X i ty) (ho : PE X o td) : PC X .In i o (tDIn ty td) := by
  intro pins s σ H Q I h
  refine thn (hi pins s σ H _ I h) fun iv s1 ⟨y, H1, I1, ry, q1⟩ => thn (ho pins s1 σ H1 _ I1 q1) fun u s2 ⟨x, H2, I2, rx, a, ov, ex, g, q2⟩ => ?_
  subst ex
  obtain rfl : u = Value.ref a := rx
  exact d_in hu I2 g ry fun s3 I3 => ⟨.bl ov.isSome, H2, I3, rfl, q2⟩
theorem pc_dnotin (hu : X.A.units + 1 < cLine) (hi : PE X i ty) (ho : PE X o td) : PC X .NotIn i o (tDNotIn ty td) := by
  intro pins s σ H Q I h
  refine thn (hi pins s σ H _ I h) fun iv s1 ⟨y, H1, I1, ry, q1⟩ => thn (ho pins s1 σ H1 _ I1 q1) fun u s2 ⟨x, H2, I2, rx, a, ov, ex, g, q2⟩ => ?_
  subst ex
  obtain rfl : u = Value.ref a := rx
  exact d_notIn hu I2 g ry fun s3 I3 => ⟨.bl (!ov.isSome), H2, I3, rfl, q2⟩
theorem ps_dput (hu : X.A.units + 1 < cLine) (ho : PE X o td) (hi : PE X i ty) (hv : PE X value tv) (hs : swapsWith value (some (.Subscript o i pos')) pos.line X.env = pure false) :
    PS X (.Assign [.Subscript o i pos'] value pos) (sDPut td ty tv) := by
  intro pins s σ H D I h
  refine wpAny_Assign_Subscript (thn (hv pins s σ H _ I h) fun r s1 ⟨v, H1, I1, rv, q1⟩ => thn (ho pins s1 σ H1 _ I1 q1) fun u s2 ⟨x, H2, I2, rx, q2⟩ => thn (hi pins s2 σ H2 _ I2 q2) fun iv s3 ⟨y, H3, I3, ry, a, H4, ex, g, q3⟩ => ?_) hs
  subst ex
  obtain rfl : u = Value.ref a := rx
  exact d_setItem hu I3 g ry rv fun s4 I4 => ⟨σ, H4, I4, q3⟩
end


/-! ### displays -/
theorem dk_empty {P : Program} {w : World} {H : Hp} (h : Heap) (hb : sysModules < h.objs.size) : ObjOk P w H (h.push { cls := .type "dict", data := .dict #[] }) h.objs.size (.dK []) :=
  ⟨Nat.zero_le _, beq_eq_false_iff_ne.mpr (Ne.symm (Nat.ne_of_lt hb)), [], .nil, Heap.DictOf.new h⟩
/-- {}, to be a dict of the kind that is wanted -/
def tDNewK : TE := fun _ H Q => ∀ p, H p = none → Q (.ref p) (upd H p (.dK []))
def tDNewT : TE := fun _ H Q => ∀ p, H p = none → Q (.ref p) (upd H p (.dT []))
section
variable {X : Cx} {pos : Pos}
theorem pe_dnewK : PE X (.Dict [] [] pos) tDNewK := fun pins s σ H Q I h =>
  wpAny_Dict_empty ⟨.ref s.heap.objs.size, _, I.laid (a := s.heap.objs.size) (o := .dK []) (t' := s.toks) (fun _ _ q => Heap.get?_push_of_some _ q) (Nat.le_refl _) (dk_empty s.heap I.big), rfl, h _ (I.hok.fresh (Nat.le_refl _))⟩
end

/-- the pairs of a display, from the left -/
def tPairs : List (TE × TE) → St → Hp → (List (V × V) → Hp → Prop) → Prop
  | [], _, H, Q => Q [] H
  | (tk, tv) :: r, σ, H, Q => tk σ H fun x H1 => tv σ H1 fun y H2 => tPairs r σ H2 fun ps H3 => Q ((x, y) :: ps) H3
abbrev VV : List (V × V) → List (Value × Value) → Prop := Paired fun p q => RelV p.1 q.1 ∧ RelV p.2 q.2
def PPs (X : Cx) (pos : Pos) (keys : List (Option Expr)) (values : List Expr) (trs : List (TE × TE)) : Prop :=
  ∀ (pins : List (Addr × Obj)) (s : Shared) (σ : St) (H : Hp) (Q : List (V × V) → Hp → Prop), Inv X pins σ H s → tPairs trs σ H Q →
    wpAny (model X.prog X.w) X.A (evalPairs (pairTrees keys values X.env pos)) (fun vs s' => ∃ ps H', Inv X pins σ H' s' ∧ VV ps vs ∧ Q ps H') X.xe s

def mergeK (kvs more : List (Key × V)) : List (Key × V) := more.foldl (fun acc kv => putK acc kv.1 kv.2) kvs
/-- {k: v, ..} with keys ints and texts; the new dict stands empty while the pairs are made -/
def tDisp (trs : List (TE × TE)) : TE := fun σ H Q => ∀ p, H p = none → tPairs trs σ (upd H p (.dK [])) fun ps H2 => H2 p = some (.dK []) ∧ ∃ kvs : List (Key × V), ps = kvs.map (fun kv => (kV kv.1, kv.2)) ∧ kvs.length ≤ 15 ∧ Q (.ref p) (upd H2 p (.dK (mergeK [] kvs)))


/-! ### methods -/
/-- a method call o.m(e) of a built-in, with one argument: what must be seen of the text -/
structure M1 (X : Cx) (o : Expr) (m : Str) (apos : Pos) (e : Expr) (cpos : Pos) : Prop where
  base : attributeBase o m X.env (eval o X.env) = eval o X.env
  few : ((backTo cpos (starEach [e] X.env)).all (fun x => !x.1) && (backToKw cpos (keywordEach [] X.env)).all (fun x => x.1.isSome)
    && decide (([e] : List Expr).length + ([] : List Keyword).length + (if ([] : List Keyword).isEmpty then 0 else 1) < 30)) = true
  line : (apos.endLine == cpos.line) = true
  trees : backTo cpos (starEach [e] X.env) = [(false, eval e X.env)]
structure M2 (X : Cx) (o : Expr) (m : Str) (apos : Pos) (e f : Expr) (cpos : Pos) : Prop where
  base : attributeBase o m X.env (eval o X.env) = eval o X.env
  few : ((backTo cpos (starEach [e, f] X.env)).all (fun x => !x.1) && (backToKw cpos (keywordEach [] X.env)).all (fun x => x.1.isSome)
    && decide (([e, f] : List Expr).length + ([] : List Keyword).length + (if ([] : List Keyword).isEmpty then 0 else 1) < 30)) = true
  line : (apos.endLine == cpos.line) = true
  trees : backTo cpos (starEach [e, f] X.env) = [(false, eval e X.env), (false, eval f X.env)]

/-- a is a dict, whatever its keys -/
def IsD (H : Hp) (a : Addr) : Prop := (∃ kvs, Rd H a (.dK kvs)) ∨ ∃ kvs, Rd H a (.dT kvs)

section
variable {X : Cx} {pins : List (Addr × Obj)} {σ : St} {H : Hp} {s : Shared} {a : Addr} {y d : V} {u r : Value} {o : Option V} {A : Around} {E : Value → Shared → Prop}
end

def tDGet1 (td ty : TE) : TE := fun σ H Q => td σ H fun x H1 => ∃ a, x = .ref a ∧ IsD H1 a ∧ ty σ H1 fun y H2 => ∃ o, DGet H2 a y o ∧ Q (o.getD .non) H2
def tDGet2 (td ty tx : TE) : TE := fun σ H Q => td σ H fun x H1 => ∃ a, x = .ref a ∧ IsD H1 a ∧ ty σ H1 fun y H2 => tx σ H2 fun z H3 => ∃ o, DGet H3 a y o ∧ Q (o.getD z) H3
/-- d.pop(k): there; d.pop(k, x): there or not -/
def tDPop1 (td ty : TE) : TE := fun σ H Q => td σ H fun x H1 => ∃ a, x = .ref a ∧ IsD H1 a ∧ ty σ H1 fun y H2 => ∃ kvs k v, H2 a = some (.dK kvs) ∧ y = kV k ∧ valV kvs k = some v ∧ Q v (upd H2 a (.dK (dropK kvs k)))
def tDPop2 (td ty tx : TE) : TE := fun σ H Q => td σ H fun x H1 => ∃ a, x = .ref a ∧ IsD H1 a ∧ ty σ H1 fun y H2 => tx σ H2 fun z H3 => ∃ kvs k, H3 a = some (.dK kvs) ∧ y = kV k ∧
  (∀ v, valV kvs k = some v → Q v (upd H3 a (.dK (dropK kvs k)))) ∧ (valV kvs k = none → Q z H3)
section
variable {X : Cx} {o e f : Expr} {apos cpos : Pos} {td ty tx : TE}
end

/-! ### dict(d): a copy -/
section
variable {X : Cx} {pins : List (Addr × Obj)} {σ : St} {H : Hp} {s : Shared} {a : Addr} {kvs : List (Key × V)} {A : Around} {E : Value → Shared → Prop}
end


section
variable {X : Cx} {pins : List (Addr × Obj)} {σ : St} {H : Hp} {s : Shared} {a : Addr} {y : V} {u : Value} {A : Around} {E : Value → Shared → Prop}
end
end L2
namespace L2
open PySem PySem.Spec PyProof.Rows
section
variable {X : Cx}
end
/-! ### a dict's pairs: keys that differ -/
section
variable {κ : Type} [DecidableEq κ]
end
end L2
namespace L2
open PySem PySem.Spec PyProof.Rows
/-! ### a dict's keys, walked: the dict is held as it is from there on -/
theorem key_rel {P : Program} {w : World} {k : Key} {u : Value} (h : (mixKind P w).is k u = true) : RelV (kV k) u := by
  rcases keyIs_shape (show keyIs k u = true from h) with ⟨i, t, rfl, rfl⟩ | ⟨x, t, rfl, rfl⟩
  · exact ⟨t, rfl⟩
  · exact ⟨t, rfl⟩
def DcO (P : Program) (w : World) (o : Obj) (kvs : List (Key × V)) (ep : Nat) : Prop := ∃ vs es, KV kvs vs ∧ o.ExactDict ∧ o.data = .dict es ep ∧ KeysOf (mixKind P w) es ∧ Pairs (mixKind P w) es.toList vs ∧ (vs.map (·.1)).Nodup
def Itk (a : Addr) (o : Obj) (kvs : List (Key × V)) : It :=
  ⟨fun i H => H a = some (.frz o (.dK kvs)) ∧ i < kvs.length, fun i H x H' => H' = H ∧ ∃ k, (kvs.map (·.1))[i]? = some k ∧ x = kV k, fun i H => H a = some (.frz o (.dK kvs)) ∧ i = kvs.length⟩
theorem Inv.frzAt {X : Cx} {pins : List (Addr × Obj)} {σ : St} {H : Hp} {s : Shared} {a : Addr} {o : Obj} {u : HO} (I : Inv X pins σ H s) (ha : H a = some (.frz o u)) : s.heap.get? a = some o := (I.hok a _ ha).1
theorem turn_keys {P : Program} {w : World} {K : PySem.W.Frag} {tg : Expr} (a it : Addr) (o : Obj) (kvs : List (Key × V)) (ep : Nat) (hD : DcO P w o kvs ep) : Turn P w K tg (Itk a o kvs) [it] it (fun i h => h.IsKeyIter it a i kvs.length ep) where
  mem := by simp
  obj := fun i h st b hb => by
    have e : b = it := by simpa using hb
    subst e
    obtain ⟨ob, e, c, d⟩ := st
    exact ⟨ob, e, fun v z => by rw [d] at z; cases z⟩
  keep := fun i h h' st k => by
    obtain ⟨ob, e, c, d⟩ := st
    exact ⟨ob, k it (by simp) ob e, c, d⟩
  item := by
    intro X hP hw hK hc i pins s σ H E I hf st hg
    subst hP hw hK
    obtain ⟨ha, hi⟩ := hg
    obtain ⟨vs, es, rel, d1, d2, d3, d4, d5⟩ := hD
    obtain ⟨f0, f1, f2, f3, f4, f5⟩ := hf it (by simp)
    have hl := rel.length
    have hv : vs[i]? = some (vs[i]'(by omega)) := List.getElem?_eq_getElem (by omega)
    have st : s.heap.IsKeyIter it a i vs.length ep := by rw [← hl]; exact st
    refine wpAny_pyNext_dict_item (knd := mixKind X.prog X.w) (k := (vs[i]'(by omega)).1) (v := (vs[i]'(by omega)).2) st ⟨o, es, I.frzAt ha, d1, d2, d3, d4, d5⟩ hv fun key h' hk st' sb => ?_
    rw [← hl] at st'
    have I1 : Inv X pins σ H { s with heap := h' } := I.turned (t' := s.toks) (fun b o hb e => (sb.2 b hb).trans e) f0 f1 f3 f4 f5
    obtain ⟨ob, e, c, d⟩ := id st'
    exact ⟨key, rfl, go_of (s := { s with heap := h' }) e c d (by decide) ⟨_, H, I1, key_rel hk, ⟨rfl, _, by rw [rel.keys, List.getElem?_map, hv]; rfl, rfl⟩, st', fun b hb => (hf b hb).1⟩⟩
  done := by
    intro X hP hw hK hc i pins s σ H E I hf st hg
    subst hP hw hK
    obtain ⟨ha, rfl⟩ := hg
    obtain ⟨vs, es, rel, d1, d2, d3, d4, d5⟩ := hD
    obtain ⟨f0, f1, f2, f3, f4, f5⟩ := hf it (by simp)
    have hl := rel.length
    have st : s.heap.IsKeyIter it a vs.length vs.length ep := by rw [← hl]; exact st
    exact wpAny_pyNext_dict_end (knd := mixKind X.prog X.w) (I.ok.hd hc) st ⟨o, es, I.frzAt ha, d1, d2, d3, d4, d5⟩ (List.getElem?_eq_none (Nat.le_refl _)) fun h' eb => ⟨rfl, I.turned (t' := s.toks) (fun b o hb e => eb b o hb e) f0 f1 f3 f4 f5⟩
  self := fun _ _ _ _ _ st h => wpAny_pyIter_keyiter st h
theorem vals_at : ∀ {xs : List V} {us : List Value}, xs.length = us.length → (∀ (i : Nat) (x : V) (u : Value), xs[i]? = some x → us[i]? = some u → RelV x u) → Vals xs us
  | [], [], _, _ => .nil
  | x :: xs, u :: us, hl, h => .cons (h 0 x u rfl rfl) (vals_at (by simpa using hl) fun i x u hx hu => h (i + 1) x u hx hu)
section
variable {X : Cx} {tg : Expr}
def iKeys (tl : TE) : TI := fun σ H R => tl σ H fun x H1 => ∃ a kvs, x = .ref a ∧ H1 a = some (.dK kvs) ∧ ∀ o, R (Itk a o kvs) (upd H1 a (.frz o (.dK kvs)))
theorem pi_keys {l : Expr} {tl : TE} (hl : PE X l tl) : PI X tg l (iKeys tl) := by
  intro pins s σ H R I h
  refine thn (hl pins s σ H _ I h) fun v s1 ⟨x, H1, I1, r1, q1⟩ => ?_
  obtain ⟨a, kvs, e, ha, q⟩ := q1
  subst e
  cases r1
  obtain ⟨z, hd, vs, rel, o, es, ep, eo, d1, d2, d3, d4, d5⟩ := dk_of I1.hok ha
  have I2 : Inv X pins σ (upd H1 a (.frz o (.dK kvs))) s1 := I1.write (x := a) (e := a) (h' := s1.heap) (t' := s1.toks) (by rw [ha]; trivial) (.inl rfl) (fun b u _ q => q) ⟨_, eo⟩ ⟨eo, z, hd, vs, rel, o, es, ep, eo, d1, d2, d3, d4, d5⟩
  refine wpAny_pyIter_dict (knd := mixKind X.prog X.w) hd ⟨o, es, eo, d1, d2, d3, d4, d5⟩ ?_
  refine ⟨s1.heap.objs.size, [s1.heap.objs.size], _, _, _, rfl, I2.kept (t' := s1.toks) fun b o e => Heap.get?_push_of_some _ e, turn_keys a _ o kvs ep ⟨vs, es, rel, d1, d2, d3, d4, d5⟩, ⟨_, Heap.get?_push_size _ rfl, rfl, by rw [rel.length]; rfl⟩, fun b hb => ?_, q o⟩
  have e : b = s1.heap.objs.size := by simpa using hb
  subst e
  exact I2.fpOk (Nat.le_refl _) (I2.hok.fresh (Nat.le_refl _))
/-- a loop over a dict's keys by an invariant -/
theorem for_keys {a : Addr} {o : Obj} {kvs : List (Key × V)} {g : TG} {tb : TS} {D : Ends} {σ : St} {H : Hp} (Pv : Nat → St → Hp → Prop) (h0 : Pv 0 σ H) (hl : ∀ i σ H, i ≤ kvs.length → Pv i σ H → H a = some (.frz o (.dK kvs)))
    (hs : ∀ i k σ H, (kvs.map (·.1))[i]? = some k → Pv i σ H → g (kV k) σ H fun σ2 H2 => tb { D with nx := Pv (i + 1), ct := Pv (i + 1), bk := D.nx } σ2 H2) (hd : ∀ σ H, Pv kvs.length σ H → D.nx σ H) :
    ∃ W : Nat → Nat → St → Hp → Prop, (∃ m, W 0 m σ H) ∧ ∀ i m σ H, W i m σ H →
      ((Itk a o kvs).stop i H ∧ D.nx σ H) ∨ ((Itk a o kvs).go i H ∧ ∃ N : St → Hp → Prop, (∀ σ' H', N σ' H' → ∃ m', m' < m ∧ W (i + 1) m' σ' H') ∧ ∀ x H', (Itk a o kvs).yld i H x H' → g x σ H' fun σ2 H2 => tb { D with nx := N, ct := N, bk := D.nx } σ2 H2) := by
  refine ⟨fun i m σ H => m = kvs.length - i ∧ i ≤ kvs.length ∧ Pv i σ H, ⟨kvs.length, by simp, Nat.zero_le _, h0⟩, ?_⟩
  rintro i m σ H ⟨rfl, hi, p⟩
  have q := hl i σ H hi p
  by_cases hlt : i < kvs.length
  · refine .inr ⟨⟨q, hlt⟩, Pv (i + 1), fun σ' H' p' => ⟨kvs.length - (i + 1), by omega, rfl, hlt, p'⟩, fun x H' y => ?_⟩
    obtain ⟨e, k, hk, ex⟩ := y
    subst e ex
    exact hs i k σ _ hk p
  · have e : i = kvs.length := by omega
    subst e
    exact .inl ⟨⟨q, rfl⟩, hd σ H p⟩
/-- list(d): its keys -/
theorem call_list_keys (hc : X.calm = true) : CallR X (.type "list") (fun xs H Q => ∃ a kvs, xs = [.ref a] ∧ Rd H a (.dK kvs) ∧ ∀ l, H l = none → Q (.ref l) (upd H l (.lst (kvs.map fun p => kV p.1)))) := by
  intro pins s σ H xs us Q I r h
  obtain ⟨a, kvs, rfl, ha, q⟩ := h
  obtain ⟨u, rfl, ru⟩ := r.one
  cases ru
  obtain ⟨z, hd, vs, rel, o, es, ep, eo, d1, d2, d3, d4, d5⟩ := dk_rd I.hok ha
  have hD : s.heap.DictAt (mixKind X.prog X.w) a vs ep := ⟨o, es, eo, d1, d2, d3, d4, d5⟩
  refine PySem.W.kdl_call (PySem.W.kdl_dict (knd := mixKind X.prog X.w) (kvs := vs) (ep := ep) hd) (I.ok.hd hc) hD (by rw [← rel.length]; exact z) fun h' tk acc c keep hl it => ?_
  have hv : Vals (kvs.map fun p => kV p.1) acc.toList := by
    refine vals_at (by rw [List.length_map, rel.length]; exact it.1.symm) fun i x u hx hu => ?_
    obtain ⟨k, y, hk, hku⟩ := it.2 i u (by simpa using hu)
    have e1 : (kvs.map (·.1))[i]? = some k := by rw [rel.keys, List.getElem?_map, hk]; rfl
    have e2 : x = kV k := by
      rw [List.getElem?_map] at hx e1
      cases hkv : kvs[i]? with
      | none => rw [hkv] at e1; cases e1
      | some p =>
        rw [hkv] at hx e1
        have e1 : p.1 = k := Option.some.inj e1
        have hx : kV p.1 = x := Option.some.inj hx
        rw [← hx, e1]
    rw [e2]
    exact key_rel hku
  refine ⟨.ref _, _, I.laid (a := s.heap.objs.size) (o := .lst (kvs.map fun p => kV p.1)) (t' := tk) (fun b q hq => keep b q hq) (Nat.le_refl _) ⟨by rw [List.length_map]; exact z, acc.toList, c, hv, by simpa using hl⟩, rfl, q _ (I.hok.fresh (Nat.le_refl _))⟩
end
end L2
namespace L2
open PySem
/-- a comprehension by an invariant -/
theorem comp_gen {J : It} {g : TG} {tt : TT} {te : TE} {σ0 : St} {H : Hp} {Q : VK} (n : Nat) (hn : n < sizeLine) (W : Nat → List V → Hp → Prop) (h0 : W 0 [] H) (hlen : ∀ i acc H', W i acc H' → acc.length ≤ i)
    (turn : ∀ i acc H', i < n → W i acc H' → J.go i H' ∧ ∀ x H2, J.yld i H' x H2 → g x σ0 H2 fun σ2 H3 => tt σ2 H3 fun b H4 => if b = true then te σ2 H4 fun y H5 => W (i + 1) (acc ++ [y]) H5 else W (i + 1) acc H4)
    (stop : ∀ acc H', W n acc H' → J.stop n H' ∧ ∀ D, H' D = none → Q (.ref D) (upd H' D (.lst acc))) : CompR J g tt te σ0 Q H := by
  refine ⟨fun i m acc H' => m = n - i ∧ i ≤ n ∧ W i acc H', ⟨n, by simp, Nat.zero_le _, h0⟩, ?_⟩
  rintro i m acc H' ⟨rfl, hi, w⟩
  refine ⟨by have := hlen i acc H' w; omega, ?_⟩
  by_cases hlt : i < n
  · obtain ⟨go, q⟩ := turn i acc H' hlt w
    exact .inr ⟨go, fun acc' H2 => W (i + 1) acc' H2, fun acc' H2 w2 => ⟨n - (i + 1), by omega, rfl, hlt, w2⟩, q⟩
  · have e : i = n := by omega
    subst e
    exact .inl (stop acc H' w)
theorem Same.new {H H' : Hp} {a : Addr} {o : HO} (h : Same H H') (n : H' a = none) : Same H (upd H' a o) := fun b u e => by rw [upd_ne (ne_of_none (h _ _ e) n)]; exact h _ _ e
end L2
namespace K73
open PySem L2
def top (i : Nat) : Stmt := PySem.Challenge.pw_wormyard_k73_whole_papers_of_what_is_lef.main.body.getD i (.Pass ⟨0, 0, 0, 0⟩)
abbrev sHas : Stmt := top 2
abbrev sMem : Stmt := top 3
abbrev sSet : Stmt := top 4
abbrev sTM : Stmt := inClass (top 8) 0
abbrev sNR : Stmt := inClass (top 9) 0
abbrev sNE : Stmt := inClass (top 10) 0
abbrev sWhole : Stmt := top 12
abbrev sWithin : Stmt := top 13
abbrev sOne : Stmt := top 14
abbrev sTwo : Stmt := top 18
abbrev sInit : Stmt := inClass (top 19) 0
abbrev sEnd : Stmt := inClass (top 19) 2
abbrev sOut : Stmt := inClass (top 19) 3
abbrev sInto : Stmt := inClass (top 19) 4
abbrev sFits : Stmt := top 21
abbrev sOn : Stmt := top 22
abbrev sTab : Stmt := inClass (top 23) 0
abbrev sTabW : Stmt := inClass (top 23) 1
abbrev sTold : Stmt := inClass (top 24) 0
abbrev sToldW : Stmt := inClass (top 24) 1
abbrev sStarts : Stmt := top 26
abbrev sFirst : Stmt := top 27
abbrev sAhead : Stmt := top 28
abbrev sMet : Stmt := top 29
abbrev sIsLost : Stmt := top 30
abbrev sLost : Stmt := top 31
abbrev sAlive : Stmt := top 33
abbrev sLess : Stmt := inClass (top 34) 0
abbrev sLessW : Stmt := inClass (top 34) 1
abbrev sSize : Stmt := top 36
abbrev sStF : Stmt := top 37
abbrev sWayF : Stmt := top 38
abbrev sPairF : Stmt := top 39
abbrev sLaneF : Stmt := top 40
abbrev sFault : Stmt := top 41
abbrev sDraw : Stmt := top 43
abbrev sLand : Stmt := top 44
abbrev sNums : Stmt := top 45
abbrev sReach : Stmt := top 46
abbrev sFewer : Stmt := top 47
abbrev sRows : Stmt := top 48
abbrev sLSet : Stmt := top 49
abbrev sLaw : Stmt := top 50
structure Txt (mg : Str → Option Value) : Prop where
  isi : mg "isinstance" = none
  int : mg "int" = none
  bool : mg "bool" = none
  len : mg "len" = none
  enum : mg "enumerate" = none
  tuple : mg "tuple" = none
  range : mg "range" = none
  list : mg "list" = none
  all : mg "all" = none
/-! lanes in the heap -/
def LnV (H : Hp) (v : V) (p : Int × Int) : Prop := ∃ t, v = .ref t ∧ H t = some (.tup [.int p.1, .int p.2])
abbrev Lns (H : Hp) : List V → List (Int × Int) → Prop := Paired (LnV H)
theorem Lns.same {H H' : Hp} (h : Same H H') : ∀ {vs : List V} {ps : List (Int × Int)}, Lns H vs ps → Lns H' vs ps
  | _, _, .nil => .nil
  | _, _, .cons ⟨t, e, q⟩ r => .cons ⟨t, e, h _ _ q⟩ (Lns.same h r)
theorem Lns.get {H : Hp} : ∀ {vs : List V} {ps : List (Int × Int)} {i : Nat} {v : V}, Lns H vs ps → vs[i]? = some v → ∃ p, ps[i]? = some p ∧ LnV H v p
  | _, _, _, _, .nil, e => by simp at e
  | _, _, 0, _, .cons h _, e => by simp at e; subst e; exact ⟨_, rfl, h⟩
  | _, _, i + 1, _, .cons _ r, e => by
    obtain ⟨p, e1, h⟩ := Lns.get (i := i) r (by simpa using e)
    exact ⟨p, by simpa using e1, h⟩
theorem Lns.get2 {H : Hp} : ∀ {vs : List V} {ps : List (Int × Int)} {i : Nat} {p : Int × Int}, Lns H vs ps → ps[i]? = some p → ∃ v, vs[i]? = some v ∧ LnV H v p
  | _, _, _, _, .nil, e => by simp at e
  | _, _, 0, _, .cons h _, e => by simp at e; subst e; exact ⟨_, rfl, h⟩
  | _, _, i + 1, _, .cons _ r, e => by
    obtain ⟨p, e1, h⟩ := Lns.get2 (i := i) r (by simpa using e)
    exact ⟨p, by simpa using e1, h⟩
theorem Lns.snoc {H : Hp} {v : V} {p : Int × Int} (h : LnV H v p) : ∀ {vs : List V} {ps : List (Int × Int)}, Lns H vs ps → Lns H (vs ++ [v]) (ps ++ [p])
  | _, _, .nil => .cons h .nil
  | _, _, .cons q r => .cons q (Lns.snoc h r)
def okP (n : Int) (p : Int × Int) : Bool := decide (0 ≤ p.1 ∧ p.1 ≤ n - 1) && (decide (0 ≤ p.2 ∧ p.2 ≤ n - 1) && !decide (p.1 = p.2))
/-! the promises -/
def spWhole : Sp := fun vs H Q _ => ∃ i : Int, vs = [.int i] ∧ Q (.bl true) H
def spWithin : Sp := fun vs H Q _ => ∃ i a b : Int, vs = [.int i, .int a, .int b] ∧ Q (.bl (decide (a ≤ i ∧ i ≤ b))) H
def spTwo : Sp := fun vs H Q _ => ∃ n a b : Int, vs = [.int n, .int a, .int b] ∧ Q (.bl (okP n (a, b))) H
section
variable {P : Program} {w : World} {K : PySem.W.Frag} {mg : Str → Option Value} {base : Heap}
theorem scWhole : FnScope ["value"] ["value"] (defScope sWhole) := ⟨rfl, rfl, rfl, by decide +kernel, rfl, by decide +kernel, by decide +kernel⟩
theorem ok_whole {f : Addr} {fd : FuncData} (F : Fun K "is_whole" "is_whole" sWhole f fd) (T : Txt mg) : FnOk P w K mg base CX0 1 f fd ["value"] spWhole := by
  refine F.ok scWhole (fun vs H Q E h => ?_) (fun cdv A outer s H vs Q E hr h => ?_)
  · obtain ⟨m, rfl, _⟩ := h
    rfl
  · obtain ⟨i, rfl, q⟩ := h
    refine ⟨_, pss_one (ps_ret (pe_and (pe_callB call_isi rfl T.isi PyProof.Rows.boot_isinstance (pa_cons (pv 0) (pa_cons (pe_bltn (v := .ty "int") rfl T.int PySem.Pv.boot_int rfl) pa_nil)))
      (pe_one (pe_not (pe_callB call_isi rfl T.isi PyProof.Rows.boot_isinstance (pa_cons (pv 0) (pa_cons (pe_bltn (v := .ty "bool") rfl T.bool PySem.Pv.boot_bool rfl) pa_nil))))))), ?_⟩
    refine ⟨_, rfl, .inl ⟨i, rfl, true, rfl, ?_⟩⟩
    refine iteT ?_
    exact ⟨_, rfl, .inr (.inl ⟨i, rfl, false, rfl, q⟩)⟩
theorem scWithin : FnScope ["value", "least", "most"] ["value", "least", "most"] (defScope sWithin) := ⟨rfl, rfl, rfl, by decide +kernel, rfl, by decide +kernel, by decide +kernel⟩
theorem ok_within {f fh : Addr} {fd fdh : FuncData} (F : Fun K "is_within" "is_within" sWithin f fd) (T : Txt mg) (mh : mg "is_whole" = some (.ref fh)) (Fh : Fun K "is_whole" "is_whole" sWhole fh fdh) (bh : Binds K fdh ["value"] []) :
    FnOk P w K mg base CX0 2 f fd ["value", "least", "most"] spWithin := by
  have G : FnOk P w K mg base CX0 1 fh fdh ["value"] spWhole := ok_whole Fh T
  refine F.ok scWithin (fun vs H Q E h => ?_) (fun cdv A outer s H vs Q E hr h => ?_)
  · obtain ⟨i, a, b, rfl, _⟩ := h
    rfl
  · obtain ⟨i, a, b, rfl, q⟩ := h
    refine ⟨_, pss_one (ps_ret (pe_and (pe_call G hr rfl mh Fh.kp bh .nil pass0 (pa_cons (pv 0) pa_nil)) (pe_one (pe_chain op_le op_le (pv 1) (pv 0) (pv 2))))), ?_⟩
    refine ⟨_, rfl, i, rfl, true, rfl, iteT ?_⟩
    refine ⟨_, rfl, _, rfl, _, _, rfl, rfl, _, rfl, ?_⟩
    by_cases h1 : a ≤ i
    · rw [decide_eq_true h1]
      refine iteT ⟨_, rfl, _, _, rfl, rfl, ?_⟩
      show Q (V.bl (decide (i ≤ b))) H
      by_cases h2 : i ≤ b
      · rw [decide_eq_true h2]; rw [decide_eq_true ⟨h1, h2⟩] at q; exact q
      · rw [decide_eq_false h2]; rw [decide_eq_false fun z => h2 z.2] at q; exact q
    · rw [decide_eq_false h1]
      refine iteF ?_
      rw [decide_eq_false fun z => h1 z.1] at q; exact q
theorem scTwo : FnScope ["places", "one", "other", "last"] ["places", "one", "other"] (defScope sTwo) := ⟨rfl, rfl, rfl, by decide +kernel, rfl, by decide +kernel, by decide +kernel⟩
theorem ok_two {f fh : Addr} {fd fdh : FuncData} (F : Fun K "are_two_places" "are_two_places" sTwo f fd) (mh : mg "is_within" = some (.ref fh)) (kh : PySem.W.keepIn K (.ref fh) = true) (bh : Binds K fdh ["value", "least", "most"] [])
    (G : FnOk P w K mg base CX0 2 fh fdh ["value", "least", "most"] spWithin) :
    FnOk P w K mg base CX0 3 f fd ["places", "one", "other"] spTwo := by
  refine F.ok scTwo (fun vs H Q E h => ?_) (fun cdv A outer s H vs Q E hr h => ?_)
  · obtain ⟨i, a, b, rfl, _⟩ := h
    rfl
  · obtain ⟨n, a, b, rfl, q⟩ := h
    refine ⟨_, pss_cons (ps_set (i := 3) scTwo.nd rfl (Or.inl rfl) (pe_op op_sub (pv 0) pe_int))
      (pss_one (ps_ret (pe_and (pe_call G hr rfl mh kh bh .nil pass0 (pa_cons (pv 1) (pa_cons pe_int (pa_cons (pv 3) pa_nil))))
        (pe_and (pe_call G hr rfl mh kh bh .nil pass0 (pa_cons (pv 2) (pa_cons pe_int (pa_cons (pv 3) pa_nil)))) (pe_one (pe_cmpR op_ne (pv 1) (pv 2) (nomark _))))))), ?_⟩
    refine ⟨_, rfl, _, _, rfl, rfl, ?_⟩
    refine ⟨_, rfl, _, rfl, a, 0, n - 1, rfl, _, rfl, ?_⟩
    unfold okP at q
    dsimp only at q
    by_cases h1 : 0 ≤ a ∧ a ≤ n - 1
    · rw [decide_eq_true h1] at q ⊢
      rw [Bool.true_and] at q
      refine iteT ⟨_, rfl, _, rfl, b, 0, n - 1, rfl, _, rfl, ?_⟩
      by_cases h2 : 0 ≤ b ∧ b ≤ n - 1
      · rw [decide_eq_true h2] at q ⊢
        rw [Bool.true_and] at q
        refine iteT ⟨_, rfl, _, rfl, rfl, ?_⟩
        have e : decide (V.int a = V.int b) = decide (a = b) := by
          by_cases h : a = b
          · rw [h]; simp
          · rw [decide_eq_false h, decide_eq_false fun z => h (by injection z)]
        show Q (V.bl (!decide (V.int a = V.int b))) H
        rw [e]; exact q
      · rw [decide_eq_false h2] at q ⊢
        exact iteF q
    · rw [decide_eq_false h1] at q ⊢
      exact iteF q
end
end K73
namespace L2
open PySem
theorem made_heap {H1 : Hp} {e d : Addr} {o o' x : HO} (he : H1 e = none) (hd : upd H1 e o d = none) :
    Same H1 (del (upd (upd (upd H1 e o) d x) e o') e) ∧ (del (upd (upd (upd H1 e o) d x) e o') e) d = some x ∧ (upd (upd (upd H1 e o) d x) e o') e = some o' := by
  have hde : d ≠ e := fun z => by rw [z, upd_same] at hd; cases hd
  have hd1 : H1 d = none := by rw [upd_ne hde] at hd; exact hd
  refine ⟨fun b u q => ?_, ?_, upd_same⟩
  · have hbe : b ≠ e := ne_of_none q he
    have hbd : b ≠ d := ne_of_none q hd1
    rw [del_ne hbe, upd_ne hbe, upd_ne hbd, upd_ne hbe]; exact q
  · rw [del_ne hde, upd_ne hde, upd_same]
end L2
namespace K73
open PySem L2
inductive Due | places | many (k : Nat) | lane (k : Nat) | good
def badIx (n : Int) (ps : List (Int × Int)) : Option Nat := ps.findIdx? fun p => !okP n p
def dueOf (n : Int) (ps : List (Int × Int)) : Due := if decide (1 ≤ n ∧ n ≤ 12) = false then .places else if 40 < ps.length then .many ps.length else match badIx n ps with | some k => .lane k | none => .good
structure Cs where
  np : Addr
  tm : Addr
  nr : Addr
  land : Addr
def spXi (K : PySem.W.Frag) (fld : Str) : Sp := fun vs H Q _ => ∃ e C tt v, vs = [.ref e, v] ∧ H e = some (ExcAt e C tt none) ∧ XCls K C ∧ PySem.W.findIn K (.ref C) fld = some none ∧ ∀ d, H d = none → Q .non (upd (upd H d (.xd [(fld, v)])) e (ExcAt e C tt (some d)))
def LandAt (H : Hp) (c : Cs) (x dx t : Addr) (n : Int) (tvs : List V) (ps : List (Int × Int)) : Prop := H x = some (.ins c.land dx [("places", .int n), ("lanes", .ref t)]) ∧ H t = some (.tup tvs) ∧ Lns H tvs ps
def spInit (K : PySem.W.Frag) (c : Cs) : Sp := fun vs H Q E => ∃ x dx n p lvs ps, vs = [.ref x, .int n, .ref p] ∧ H x = some (.ins c.land dx []) ∧ SqL K H p lvs ∧ Lns H lvs ps ∧ lvs.length ≤ 1000 ∧
  (dueOf n ps = .places → ∀ H', Same H H' → E (.ref c.np) none H') ∧
  (∀ k, dueOf n ps = .many k → ∀ H' d, Same H H' → H' d = some (.xd [("many", .int k)]) → E (.ref c.tm) (some d) H') ∧
  (∀ k, dueOf n ps = .lane k → ∀ H' d, Same H H' → H' d = some (.xd [("lane", .int k)]) → E (.ref c.nr) (some d) H') ∧
  (dueOf n ps = .good → ∀ H' t tvs, (∀ b o, b ≠ x → H b = some o → H' b = some o) → LandAt H' c x dx t n tvs ps → Q .non H')
def tupScope (s : Stmt) : Scope := match s with
  | .Assign _ (.Call _ [.ListComp _ _ sc _] _ _) _ => sc
  | _ => { kind := .function, names := [], isGenerator := false, isCoroutine := false }
def retScope (s : Stmt) : Scope := match defBody s with
  | .Return (some (.ListComp _ _ sc _)) _ :: _ => sc
  | _ => { kind := .function, names := [], isGenerator := false, isCoroutine := false }
abbrev NI : List Str := ["self", "places", "lanes", "lane", "pair"]
structure Exc (K : PySem.W.Frag) (mg : Str → Option Value) (c : Cs) (f1 f2 : Addr) (d1 d2 : FuncData) : Prop where
  mnp : mg "NoPlaces" = some (.ref c.np)
  xnp : excInI K c.np none = true
  knp : PySem.W.keepIn K (.ref c.np) = true
  mtm : mg "TooMany" = some (.ref c.tm)
  xtm : excInI K c.tm (some (.ref f1)) = true
  ktm : PySem.W.keepIn K (.ref c.tm) = true
  ctm : XCls K c.tm
  ntm : PySem.W.findIn K (.ref c.tm) "many" = some none
  itm : PySem.W.isFn K (.ref f1) = true
  Ftm : Fun K "__init__" "TooMany.__init__" sTM f1 d1
  btm : Binds K d1 ["self", "many"] []
  mnr : mg "NoRoad" = some (.ref c.nr)
  xnr : excInI K c.nr (some (.ref f2)) = true
  knr : PySem.W.keepIn K (.ref c.nr) = true
  cnr : XCls K c.nr
  nnr : PySem.W.findIn K (.ref c.nr) "lane" = some none
  inr : PySem.W.isFn K (.ref f2) = true
  Fnr : Fun K "__init__" "NoRoad.__init__" sNR f2 d2
  bnr : Binds K d2 ["self", "lane"] []
structure Lnd (K : PySem.W.Frag) (c : Cs) : Prop where
  cl : Cls K c.land
  np : NoAttr K c.land "places"
  nl : NoAttr K c.land "lanes"
theorem badIx_none {n : Int} {ps : List (Int × Int)} (h : ∀ p ∈ ps, okP n p = true) : badIx n ps = none := by
  unfold badIx
  rw [List.findIdx?_eq_none_iff]
  intro p hp
  rw [h p hp]; rfl
theorem badIx_some {n : Int} {ps : List (Int × Int)} {i : Nat} {p : Int × Int} (h : ∀ q ∈ ps.take i, okP n q = true) (hi : ps[i]? = some p) (hb : okP n p = false) : badIx n ps = some i := by
  unfold badIx
  rw [List.findIdx?_eq_some_iff_getElem]
  obtain ⟨hlt, e⟩ := List.getElem?_eq_some_iff.mp hi
  refine ⟨hlt, by rw [e, hb]; rfl, fun j hj => ?_⟩
  have hm : ps[j]'(Nat.lt_trans hj hlt) ∈ ps.take i := List.mem_take_iff_getElem.mpr ⟨j, by omega, rfl⟩
  rw [h _ hm]; simp
/-- all but the instance at x is as it was -/
def Off (x : Addr) (H H' : Hp) : Prop := ∀ b o, b ≠ x → H b = some o → H' b = some o
theorem Off.sq {K : PySem.W.Frag} {H H' : Hp} {x p C dx : Addr} {fs : List (Str × V)} {xs : List V} (o : Off x H H') (hx : H x = some (.ins C dx fs)) (h : SqL K H p xs) : SqL K H' p xs := by
  rcases h with (h | ⟨ob, h⟩) | h
  · exact .inl (.inl (o _ _ (ne_of h hx (by intro z; cases z)) h))
  · exact .inl (.inr ⟨ob, o _ _ (ne_of h hx (by intro z; cases z)) h⟩)
  · exact .inr h
theorem Off.lns {H H' : Hp} {x C dx : Addr} {fs : List (Str × V)} (o : Off x H H') (hx : H x = some (.ins C dx fs)) : ∀ {vs : List V} {ps : List (Int × Int)}, Lns H vs ps → Lns H' vs ps
  | _, _, .nil => .nil
  | _, _, .cons ⟨t, e, q⟩ r => .cons ⟨t, e, o _ _ (ne_of q hx (by intro z; cases z)) q⟩ (Off.lns o hx r)
theorem Off.same {H H1 H2 : Hp} {x : Addr} (a : Off x H H1) (b : Same H1 H2) : Off x H H2 := fun c o n e => b _ _ (a c o n e)
section
variable {P : Program} {w : World} {K : PySem.W.Frag} {mg : Str → Option Value} {base : Heap}
theorem scTM : FnScope ["self", "many"] ["self", "many"] (defScope sTM) := ⟨rfl, rfl, rfl, by decide +kernel, rfl, by decide +kernel, by decide +kernel⟩
theorem scNR : FnScope ["self", "lane"] ["self", "lane"] (defScope sNR) := ⟨rfl, rfl, rfl, by decide +kernel, rfl, by decide +kernel, by decide +kernel⟩
theorem ok_tm {f : Addr} {fd : FuncData} (F : Fun K "__init__" "TooMany.__init__" sTM f fd) : FnOk P w K mg base CX0 1 f fd ["self", "many"] (spXi K "many") := by
  refine F.ok scTM (fun vs H Q E h => ?_) (fun cdv A outer s H vs Q E hr h => ?_)
  · obtain ⟨e, C, tt, v, rfl, _⟩ := h
    rfl
  · obtain ⟨e, C, tt, v, rfl, h1, h2, h3, q⟩ := h
    refine ⟨_, pss_one (ps_fldX (pv 0) (pv 1) rfl), ?_⟩
    exact ⟨_, rfl, _, rfl, e, C, tt, rfl, h1, h2, h3, q⟩
theorem ok_nr {f : Addr} {fd : FuncData} (F : Fun K "__init__" "NoRoad.__init__" sNR f fd) : FnOk P w K mg base CX0 1 f fd ["self", "lane"] (spXi K "lane") := by
  refine F.ok scNR (fun vs H Q E h => ?_) (fun cdv A outer s H vs Q E hr h => ?_)
  · obtain ⟨e, C, tt, v, rfl, _⟩ := h
    rfl
  · obtain ⟨e, C, tt, v, rfl, h1, h2, h3, q⟩ := h
    refine ⟨_, pss_one (ps_fldX (pv 0) (pv 1) rfl), ?_⟩
    exact ⟨_, rfl, _, rfl, e, C, tt, rfl, h1, h2, h3, q⟩
theorem scInit : FnScope NI ["self", "places", "lanes"] (defScope sInit) := ⟨rfl, rfl, rfl, by decide +kernel, rfl, by decide +kernel, by decide +kernel⟩
theorem bkInit : Blk NI (defScope sInit) (tupScope ((defBody sInit).getD 4 (.Pass ⟨0, 0, 0, 0⟩))) [] [] := ⟨rfl, by decide +kernel, by decide +kernel, by decide +kernel, rfl, by decide +kernel⟩
theorem ndPair : (["pair"] : List Str).Nodup := by decide +kernel
theorem ok_init {c : Cs} {f fw ft f1 f2 : Addr} {fd dw dt d1 d2 : FuncData} {t1 t2 : Tok} (F : Fun K "__init__" "Land.__init__" sInit f fd) (T : Txt mg) (L : Lnd K c) (X : Exc K mg c f1 f2 d1 d2)
    (mw : mg "is_within" = some (.ref fw)) (kw : PySem.W.keepIn K (.ref fw) = true) (bw : Binds K dw ["value", "least", "most"] []) (Gw : FnOk P w K mg base CX0 2 fw dw ["value", "least", "most"] spWithin)
    (mt : mg "are_two_places" = some (.ref ft)) (kt : PySem.W.keepIn K (.ref ft) = true) (bt : Binds K dt ["places", "one", "other"] []) (Gt : FnOk P w K mg base CX0 3 ft dt ["places", "one", "other"] spTwo)
    (mp : mg "MOST_PLACES" = some (.int 12 t1)) (ml : mg "MOST_LANES" = some (.int 40 t2)) :
    FnOk P w K mg base (CXe P w) 4 f fd ["self", "places", "lanes"] (spInit K c) := by
  have Gm : FnOk P w K mg base CX0 1 f1 d1 ["self", "many"] (spXi K "many") := ok_tm X.Ftm
  have Gr : FnOk P w K mg base CX0 1 f2 d2 ["self", "lane"] (spXi K "lane") := ok_nr X.Fnr
  refine F.okX scInit (fun vs H Q E h => ?_) (fun cdv A outer s H vs Q E hr h => ?_)
  · obtain ⟨x, dx, n, p, lvs, ps, rfl, _⟩ := h
    rfl
  · obtain ⟨x, dx, n, p, lvs, ps, rfl, hx, hp, hl, hlen, h1, h2, h3, h4⟩ := h
    have hr2 : Room 2 _ := hr.mono (by decide)
    refine ⟨_, pss_cons (ps_if (pt_not (pt_val (pe_call Gw hr2 rfl mw kw bw .nil pass0 (pa_cons (pv 1) (pa_cons pe_int (pa_cons (pe_glob (v := .int 12) rfl mp ⟨_, rfl⟩) pa_nil))))))
        (pss_one (ps_raise rfl X.xnp passX_def (px_plain X.xnp X.knp rfl rfl X.mnp (pa_cons pe_str pa_nil)))) pss_nil)
      (pss_cons (ps_if (pt_cmpR op_gt (pe_callB call_len_seq rfl T.len PySem.boot_len (pa_cons (pv 2) pa_nil)) (pe_glob (v := .int 40) rfl ml ⟨_, rfl⟩) (nomark _))
        (pss_one (ps_raise rfl X.xtm passX_def (px_init X.xtm X.itm X.ktm Gm hr2 X.btm rfl X.mtm (pa_cons (pe_callB call_len_seq rfl T.len PySem.boot_len (pa_cons (pv 2) pa_nil)) pa_nil)))) pss_nil)
      (pss_cons (ps_for own_def rfl (pi_enumL rfl T.enum (pa_cons (pv 2) pa_nil)) (pg_tup rfl (pgs_cons (pg_name (i := 3) scInit.nd rfl (Or.inl rfl)) (pgs_cons (pg_name (i := 4) scInit.nd rfl (Or.inl rfl)) pgs_nil)))
        (pss_one (ps_if (pt_not (pt_val (pe_call Gt hr rfl mt kt bt .nil pass0 (pa_cons (pv 1) (pa_cons (pe_ix ix_tup (pv 4) pe_int (fun _ _ => rfl)) (pa_cons (pe_ix ix_tup (pv 4) pe_int (fun _ _ => rfl)) pa_nil))))))
          (pss_one (ps_raise rfl X.xnr passX_def (px_init X.xnr X.inr X.knr Gr hr2 X.bnr rfl X.mnr (pa_cons (pv 3) pa_nil)))) pss_nil)))
      (pss_cons (ps_fld (pv 0) (pv 1) rfl)
      (pss_one (ps_fld (pv 0) (pe_callTy call_tuple_of rfl T.tuple PySem.Pv.boot_tuple (pa_cons (pe_comp (own := ["pair"]) (capN := []) (cap := []) bkInit rfl (pi_list (pv 2))
        (fun C s' H' fp => ⟨pg_name (i := 0) ndPair rfl (Or.inl rfl), pts_nil, pe_tup (pa_cons (pe_ix (show IxR _ (rIxT K) from ix_tup) (pv 0) pe_int (fun _ _ => rfl)) (pa_cons (pe_ix (show IxR _ (rIxT K) from ix_tup) (pv 0) pe_int (fun _ _ => rfl)) pa_nil))⟩)) pa_nil)) rfl))))), ?_⟩
    -- 1. the places
    refine ⟨_, rfl, n, 1, 12, rfl, _, rfl, ?_⟩
    by_cases hn : 1 ≤ n ∧ n ≤ 12
    rotate_left
    · rw [decide_eq_false hn]
      refine iteT ⟨by show 1 ≤ sizeLine; decide, ?_⟩
      exact h1 (by unfold dueOf; rw [if_pos (decide_eq_false hn)]) H (Same.refl H)
    rw [decide_eq_true hn]
    refine iteF ?_
    have hps : lvs.length = ps.length := Paired.length hl
    -- 2. how many
    refine ⟨_, rfl, p, _, rfl, .inl hp, _, _, rfl, rfl, _, rfl, ?_⟩
    by_cases hm : 40 < ps.length
    · rw [decide_eq_true (show (40 : Int) < (lvs.length : Nat) by omega)]
      refine iteT ⟨_, rfl, p, _, rfl, .inl hp, by show 1 ≤ sizeLine; decide, fun e tt he => ⟨e, _, tt, _, rfl, upd_same, X.ctm, X.ntm, fun d hd => ⟨rfl, ?_⟩⟩⟩
      obtain ⟨m1, m2, m3⟩ := made_heap (o := ExcAt e c.tm tt none) (o' := ExcAt e c.tm tt (some d)) (x := .xd [("many", .int (lvs.length : Nat))]) he hd
      refine ⟨some d, m3, h2 ps.length ?_ _ d m1 (by rw [m2, hps])⟩
      unfold dueOf
      rw [decide_eq_true hn, if_neg (by decide), if_pos hm]
    rw [decide_eq_false (show ¬ (40 : Int) < (lvs.length : Nat) by omega)]
    refine iteF ?_
    -- 3. each lane
    refine ⟨_, rfl, p, rfl, ⟨_, hp⟩, for_enum (sq := fun H => SqL K H p) (xs := lvs) (fun i σ H2 => ∃ a b : Option V, Same H H2 ∧ σ = [some (.ref x), some (.int n), some (.ref p), a, b] ∧ ∀ q ∈ ps.take i, okP n q = true)
      ⟨none, none, Same.refl H, rfl, fun q hq => by simp at hq⟩ (fun i σ H2 _ ⟨a, b, s2, _⟩ => s2.seq hp) ?_ ?_⟩
    · rintro i v q σ H2 hv ⟨a, b, s2, rfl, hall⟩ hq
      obtain ⟨pr, hpr, t, rfl, ht⟩ := Lns.get hl hv
      have s3 : Same H (upd H2 q (.tup [.int i, .ref t])) := s2.new hq
      refine ⟨q, _, rfl, SqT.of upd_same, rfl, _, _, rfl, _, _, rfl, rfl, ?_⟩
      have htt : SqT K (upd H2 q (.tup [.int i, .ref t])) t [.int pr.1, .int pr.2] := SqT.of (s3 _ _ ht)
      refine ⟨_, rfl, _, rfl, t, _, 0, _, rfl, rfl, htt, atI_nat (j := 0) rfl, ?_⟩
      refine ⟨_, rfl, t, _, 1, _, rfl, rfl, htt, atI_nat (j := 1) rfl, n, pr.1, pr.2, rfl, _, rfl, ?_⟩
      cases ho : okP n (pr.1, pr.2) with
      | true =>
        refine iteF ⟨some (.int i), some (.ref t), s3, rfl, fun z hz => ?_⟩
        rw [List.take_succ, hpr] at hz
        rcases List.mem_append.mp hz with hz | hz
        · exact hall z hz
        · have : z = pr := by simpa using hz
          rw [this]; exact ho
      | false =>
        refine iteT ⟨_, rfl, by show 1 ≤ sizeLine; decide, fun e tt he => ⟨e, _, tt, _, rfl, upd_same, X.cnr, X.nnr, fun d hd => ⟨rfl, ?_⟩⟩⟩
        obtain ⟨m1, m2, m3⟩ := made_heap (o := ExcAt e c.nr tt none) (o' := ExcAt e c.nr tt (some d)) (x := .xd [("lane", .int i)]) he hd
        refine ⟨some d, m3, h3 i ?_ _ d (s3.trans m1) m2⟩
        unfold dueOf
        rw [decide_eq_true hn, if_neg (by decide), if_neg hm, badIx_some hall hpr ho]
    · rintro σ H2 ⟨a, b, s2, rfl, hall⟩
      have hgood : dueOf n ps = .good := by
        unfold dueOf
        rw [decide_eq_true hn, if_neg (by decide), if_neg hm, badIx_none (fun z hz => hall z (by rw [hps, List.take_length]; exact hz))]
      -- 4. the places are stored
      have hx2 := s2 _ _ hx
      refine ⟨_, rfl, _, rfl, x, c.land, dx, _, rfl, hx2, L.cl, L.np, by show 0 < 1000; decide, ?_⟩
      -- 5. the lanes
      generalize hH3 : upd H2 x (.ins c.land dx (putF "places" (.int n) [])) = H3
      have o3 : Off x H H3 := fun b o hb e => by rw [← hH3, upd_ne hb]; exact s2 _ _ e
      have x3 : H3 x = some (.ins c.land dx [("places", .int n)]) := by rw [← hH3, upd_same]; rfl
      have l3 : Lns H3 lvs ps := o3.lns hx hl
      have p3 : SqL K H3 p lvs := o3.sq hx hp
      refine ⟨_, rfl, p, rfl, ⟨_, p3⟩, comp_gen lvs.length (by rw [PySem.sizeLine_eq]; omega) (fun i acc H4 => Same H3 H4 ∧ acc.length = i ∧ Lns H4 acc (ps.take i)) ⟨Same.refl _, rfl, .nil⟩ (fun i acc H4 h => Nat.le_of_eq h.2.1) ?_ ?_⟩
      · rintro i acc H4 hi ⟨s4, ha, hA⟩
        have q4 := s4.seq p3
        refine ⟨⟨lvs, lvs[i], q4, by simp [hi]⟩, fun y H5 ⟨e5, hy⟩ => ?_⟩
        subst e5
        have hy := hy lvs q4
        obtain ⟨pr, hpr, t, rfl, ht⟩ := Lns.get l3 hy
        have htt : SqT K H5 t [.int pr.1, .int pr.2] := SqT.of (s4 _ _ ht)
        refine ⟨_, rfl, t, _, 0, _, rfl, rfl, htt, atI_nat (j := 0) rfl, ?_⟩
        refine ⟨_, rfl, t, _, 1, _, rfl, rfl, htt, atI_nat (j := 1) rfl, by show 2 ≤ sizeLine; decide, fun r hr' => ?_⟩
        refine ⟨s4.new hr', by rw [List.length_append, ha]; rfl, ?_⟩
        rw [List.take_succ, hpr]
        exact Lns.snoc ⟨r, rfl, upd_same⟩ (Lns.same (Same.new (Same.refl _) hr') hA)
      · rintro acc H4 ⟨s4, ha, hA⟩
        have q4 := s4.seq p3
        refine ⟨⟨lvs, q4, Nat.le_refl _⟩, fun D hD => ?_⟩
        have s5 : Same H3 (upd H4 D (.lst acc)) := s4.new hD
        refine ⟨D, acc, rfl, .inl ⟨SqL.of upd_same, fun t ht => ?_⟩⟩
        have s6 : Same H3 (upd (upd H4 D (.lst acc)) t (.tup acc)) := s5.new ht
        have x6 := s6 _ _ x3
        refine ⟨_, rfl, x, c.land, dx, _, rfl, x6, L.cl, L.nl, by show 1 < 1000; decide, ?_⟩
        have htx : t ≠ x := fun z => by rw [z, s5 _ _ x3] at ht; cases ht
        refine h4 hgood _ t acc (fun b o hb e => ?_) ⟨by rw [upd_same]; rfl, by rw [upd_ne htx, upd_same], ?_⟩
        · rw [upd_ne hb]; exact s6 _ _ (o3 b o hb e)
        · have hA' : Lns H4 acc ps := by rw [hps, List.take_length] at hA; exact hA
          have x4 := s4 _ _ x3
          have hA6 : Lns (upd (upd H4 D (.lst acc)) t (.tup acc)) acc ps := Lns.same (Same.new (Same.new (Same.refl _) hD) ht) hA'
          exact Off.lns (x := x) (fun b o hb e => by rw [upd_ne hb]; exact e) x6 hA6
end
end K73
namespace K73
open PySem L2
def ixV (sel : Int × Int → Int) (ps : List (Int × Int)) (pl : Int) (m : Nat) : List V := ((List.range m).filter fun k => decide (sel (ps.getD k (0, 0)) = pl)).map fun k : Nat => V.int k
def spIx (c : Cs) (sel : Int × Int → Int) : Sp := fun vs H Q _ => ∃ (x dx t : Addr) (n : Int) (tvs : List V) (ps : List (Int × Int)) (pl : Int), vs = [.ref x, .int pl] ∧ LandAt H c x dx t n tvs ps ∧ ps.length ≤ 1000 ∧
  ∀ H' D, Same H H' → H' D = none → Q (.ref D) (upd H' D (.lst (ixV sel ps pl ps.length)))
theorem ixV_succ {sel : Int × Int → Int} {ps : List (Int × Int)} {pl : Int} {i : Nat} {pr : Int × Int} (h : ps[i]? = some pr) : ixV sel ps pl (i + 1) = if decide (sel pr = pl) then ixV sel ps pl i ++ [V.int i] else ixV sel ps pl i := by
  have e : ps.getD i (0, 0) = pr := by rw [List.getD_eq_getElem?_getD, h]; rfl
  unfold ixV
  rw [List.range_succ, List.filter_append]
  by_cases hs : sel pr = pl
  · rw [if_pos (decide_eq_true hs), List.filter_cons_of_pos (by rw [e]; exact decide_eq_true hs)]; simp
  · rw [if_neg (by rw [decide_eq_false hs]; decide), List.filter_cons_of_neg (by rw [e, decide_eq_false hs]; decide)]; simp
theorem ixV_len {sel : Int × Int → Int} {ps : List (Int × Int)} {pl : Int} {i : Nat} : (ixV sel ps pl i).length ≤ i := by
  unfold ixV
  rw [List.length_map]
  have := List.length_filter_le (fun k => decide (sel (ps.getD k (0, 0)) = pl)) (List.range i)
  rwa [List.length_range] at this
section
variable {P : Program} {w : World} {K : PySem.W.Frag} {mg : Str → Option Value} {base : Heap}
theorem scOut : FnScope ["self", "place"] ["self", "place"] (defScope sOut) := ⟨rfl, rfl, rfl, by decide +kernel, rfl, by decide +kernel, by decide +kernel⟩
theorem bkOut : Blk ["self", "place"] (defScope sOut) (retScope sOut) ["place"] [1] := ⟨rfl, by decide +kernel, by decide +kernel, by decide +kernel, rfl, by decide +kernel⟩
theorem scInto : FnScope ["self", "place"] ["self", "place"] (defScope sInto) := ⟨rfl, rfl, rfl, by decide +kernel, rfl, by decide +kernel, by decide +kernel⟩
theorem bkInto : Blk ["self", "place"] (defScope sInto) (retScope sInto) ["place"] [1] := ⟨rfl, by decide +kernel, by decide +kernel, by decide +kernel, rfl, by decide +kernel⟩
theorem ndOut : (["lane", "pair", "place"] : List Str).Nodup := by decide +kernel
theorem int_eq (a b : Int) : decide (V.int a = V.int b) = decide (a = b) := by
  by_cases h : a = b
  · rw [h]; simp
  · rw [decide_eq_false h, decide_eq_false fun z => h (by injection z)]
theorem ok_out {c : Cs} {f : Addr} {fd : FuncData} (F : Fun K "out_of" "Land.out_of" sOut f fd) (T : Txt mg) (L : Lnd K c) : FnOk P w K mg base CX0 1 f fd ["self", "place"] (spIx c Prod.fst) := by
  refine F.ok scOut (fun vs H Q E h => ?_) (fun cdv A outer s H vs Q E hr h => ?_)
  · obtain ⟨x, dx, t, n, tvs, ps, pl, rfl, _⟩ := h
    rfl
  · obtain ⟨x, dx, t, n, tvs, ps, pl, rfl, ⟨hx, ht, hl⟩, hlen, q⟩ := h
    refine ⟨_, pss_one (ps_ret (pe_comp (own := ["lane", "pair"]) (capN := ["place"]) (cap := [1]) bkOut rfl (pi_enumT rfl T.enum (pa_cons (pe_fld (pv 0) rfl) pa_nil))
      (fun C s' H' fp => ⟨(show PG _ _ (gTup K 2 _) from pg_tup rfl (pgs_cons (pg_name (i := 0) ndOut rfl (Or.inl rfl)) (pgs_cons (pg_name (i := 1) ndOut rfl (Or.inl rfl)) pgs_nil))),
        pts_one (pt_cmpR op_eq (pe_ix (show IxR _ (rIxT K) from ix_tup) (pv 1) pe_int (fun _ _ => rfl)) (pv 2) (nomark _)), pv 0⟩))), ?_⟩
    have hps : tvs.length = ps.length := Paired.length hl
    refine ⟨_, rfl, x, c.land, dx, _, _, rfl, hx, L.cl, L.nl, rfl, t, rfl, ⟨_, SqT.of ht⟩, comp_gen ps.length (by rw [PySem.sizeLine_eq]; omega) (fun i acc H4 => Same H H4 ∧ acc = ixV Prod.fst ps pl i) ⟨Same.refl _, rfl⟩ (fun i acc H4 h => by rw [h.2]; exact ixV_len) ?_ ?_⟩
    · rintro i acc H4 hi ⟨s4, rfl⟩
      have q4 : SqT K H4 t tvs := SqT.of (s4 _ _ ht)
      refine ⟨⟨tvs, tvs[i]'(by omega), q4, by simp [hps, hi]⟩, fun y H5 ⟨r, hr4, ey, h5⟩ => ?_⟩
      obtain ⟨v, hv, rfl⟩ := h5 tvs q4
      subst ey
      obtain ⟨pr, hpr, u, rfl, hu⟩ := Lns.get hl hv
      have s5 : Same H (upd H4 r (.tup [.int i, .ref u])) := s4.new hr4
      refine ⟨r, _, rfl, SqT.of upd_same, rfl, _, _, rfl, _, _, rfl, rfl, ?_⟩
      refine ⟨_, rfl, u, _, 0, _, rfl, rfl, SqT.of (s5 _ _ hu), atI_nat (j := 0) rfl, _, rfl, rfl, _, rfl, ?_⟩
      rw [int_eq, ixV_succ hpr]
      cases hd : decide (pr.1 = pl) with
      | true => exact iteT ⟨_, rfl, s5, by simp [hd]⟩
      | false => exact iteF ⟨s5, by simp [hd]⟩
    · rintro acc H4 ⟨s4, rfl⟩
      exact ⟨⟨tvs, SqT.of (s4 _ _ ht), hps⟩, fun D hD => q H4 D s4 hD⟩
theorem ok_into {c : Cs} {f : Addr} {fd : FuncData} (F : Fun K "into" "Land.into" sInto f fd) (T : Txt mg) (L : Lnd K c) : FnOk P w K mg base CX0 1 f fd ["self", "place"] (spIx c Prod.snd) := by
  refine F.ok scInto (fun vs H Q E h => ?_) (fun cdv A outer s H vs Q E hr h => ?_)
  · obtain ⟨x, dx, t, n, tvs, ps, pl, rfl, _⟩ := h
    rfl
  · obtain ⟨x, dx, t, n, tvs, ps, pl, rfl, ⟨hx, ht, hl⟩, hlen, q⟩ := h
    refine ⟨_, pss_one (ps_ret (pe_comp (own := ["lane", "pair"]) (capN := ["place"]) (cap := [1]) bkInto rfl (pi_enumT rfl T.enum (pa_cons (pe_fld (pv 0) rfl) pa_nil))
      (fun C s' H' fp => ⟨(show PG _ _ (gTup K 2 _) from pg_tup rfl (pgs_cons (pg_name (i := 0) ndOut rfl (Or.inl rfl)) (pgs_cons (pg_name (i := 1) ndOut rfl (Or.inl rfl)) pgs_nil))),
        pts_one (pt_cmpR op_eq (pe_ix (show IxR _ (rIxT K) from ix_tup) (pv 1) pe_int (fun _ _ => rfl)) (pv 2) (nomark _)), pv 0⟩))), ?_⟩
    have hps : tvs.length = ps.length := Paired.length hl
    refine ⟨_, rfl, x, c.land, dx, _, _, rfl, hx, L.cl, L.nl, rfl, t, rfl, ⟨_, SqT.of ht⟩, comp_gen ps.length (by rw [PySem.sizeLine_eq]; omega) (fun i acc H4 => Same H H4 ∧ acc = ixV Prod.snd ps pl i) ⟨Same.refl _, rfl⟩ (fun i acc H4 h => by rw [h.2]; exact ixV_len) ?_ ?_⟩
    · rintro i acc H4 hi ⟨s4, rfl⟩
      have q4 : SqT K H4 t tvs := SqT.of (s4 _ _ ht)
      refine ⟨⟨tvs, tvs[i]'(by omega), q4, by simp [hps, hi]⟩, fun y H5 ⟨r, hr4, ey, h5⟩ => ?_⟩
      obtain ⟨v, hv, rfl⟩ := h5 tvs q4
      subst ey
      obtain ⟨pr, hpr, u, rfl, hu⟩ := Lns.get hl hv
      have s5 : Same H (upd H4 r (.tup [.int i, .ref u])) := s4.new hr4
      refine ⟨r, _, rfl, SqT.of upd_same, rfl, _, _, rfl, _, _, rfl, rfl, ?_⟩
      refine ⟨_, rfl, u, _, 1, _, rfl, rfl, SqT.of (s5 _ _ hu), atI_nat (j := 1) rfl, _, rfl, rfl, _, rfl, ?_⟩
      rw [int_eq, ixV_succ hpr]
      cases hd : decide (pr.2 = pl) with
      | true => exact iteT ⟨_, rfl, s5, by simp [hd]⟩
      | false => exact iteF ⟨s5, by simp [hd]⟩
    · rintro acc H4 ⟨s4, rfl⟩
      exact ⟨⟨tvs, SqT.of (s4 _ _ ht), hps⟩, fun D hD => q H4 D s4 hD⟩
end
end K73
namespace K73
open PySem L2
def spDraw (K : PySem.W.Frag) : Sp := fun vs H Q _ => ∃ (a : Addr) (ns : List Int) (k : Int), vs = [.ref a, .int k] ∧ SqL K H a (ns.map V.int) ∧ 0 ≤ k ∧ k ≤ 100000 ∧ ∀ d H', Same H H' → Q (.int d) H'
abbrev ND : List Str := ["_law_script", "_law_k", "_law_cell", "_law_number"]
theorem small_mod {i j : Int} (h : 0 < j ∧ j < 2 ^ 64) : -(2 ^ 64) < i % j ∧ i % j < 2 ^ 64 := by
  have h0 := Int.emod_nonneg i (show j ≠ 0 by omega)
  have h1 := Int.emod_lt_of_pos i h.1
  omega
section
variable {P : Program} {w : World} {K : PySem.W.Frag} {mg : Str → Option Value} {base : Heap}
theorem scDraw : FnScope ND ["_law_script", "_law_k"] (defScope sDraw) := ⟨rfl, rfl, rfl, by decide +kernel, rfl, by decide +kernel, by decide +kernel⟩
theorem ints_at {ns : List Int} {i : Int} (h0 : 0 ≤ i) (h1 : i < (ns.length : Nat)) : ∃ m, atI (ns.map V.int) i = some (.int m) := by
  obtain ⟨j, rfl⟩ := Int.eq_ofNat_of_zero_le h0
  have hj : j < ns.length := by omega
  exact ⟨ns[j], atI_nat (j := j) (by simp [hj])⟩
theorem ok_draw {f : Addr} {fd : FuncData} (F : Fun K "_law_draw" "_law_draw" sDraw f fd) (T : Txt mg) : FnOk P w K mg base CX0 1 f fd ["_law_script", "_law_k"] (spDraw K) := by
  refine F.ok scDraw (fun vs H Q E h => ?_) (fun cdv A outer s H vs Q E hr h => ?_)
  · obtain ⟨a, ns, k, rfl, _⟩ := h
    rfl
  · obtain ⟨a, ns, k, rfl, hS, k0, k1, q⟩ := h
    have hu := hr.units
    refine ⟨_, pss_cons (ps_set (i := 2) scDraw.nd rfl (Or.inl rfl) pe_int)
      (pss_cons (ps_if (PW.pt (pw_and (pt_cmpR (op_neI hu) (pv 0) (pe_lst pa_nil) (nomark _)) (pw_and1 (pt_cmpR op_eq (pe_op op_mod (pe_ix ix_list (pv 0) pe_int (fun _ _ => rfl)) pe_int) pe_int (nomark _)))))
        (pss_cons (ps_if (pt_cmpR op_lt (pe_op op_add pe_int (pe_op op_fdiv (pv 1) pe_int)) (pe_callB call_len_seq rfl T.len PySem.boot_len (pa_cons (pv 0) pa_nil)) (nomark _))
            (pss_one (ps_set (i := 2) scDraw.nd rfl (Or.inl rfl) (pe_ix ix_list (pv 0) (pe_op op_add pe_int (pe_op op_fdiv (pv 1) pe_int)) (fun _ _ => rfl)))) pss_nil)
          (pss_one (ps_ret (pe_op op_mod (pe_op op_shr (pv 2) (pe_op op_mul pe_int (pe_op op_mod (pv 1) pe_int))) (pe_op op_pow pe_int pe_int))))) pss_nil)
      (pss_cons (ps_if (pt_cmpR (op_neI hu) (pv 0) (pe_lst pa_nil) (nomark _)) (pss_one (ps_set (i := 2) scDraw.nd rfl (Or.inl rfl) (pe_ix ix_list (pv 0) (pe_op op_mod (pv 1) (pe_callB call_len_seq rfl T.len PySem.boot_len (pa_cons (pv 0) pa_nil))) (fun _ _ => rfl)))) pss_nil)
      (pss_cons (ps_set (i := 3) scDraw.nd rfl (Or.inl rfl) (pe_op op_mod (pe_op op_mul (pe_op op_add (pe_op op_add (pv 2) (pe_op op_mul pe_int (pv 1))) pe_int) pe_int) pe_int))
      (pss_cons (ps_set (i := 3) scDraw.nd rfl (Or.inl rfl) (pe_op op_mod (pe_op op_mul (pv 3) (pe_op op_add (pe_op op_fdiv (pv 3) pe_int) pe_int)) pe_int))
      (pss_one (ps_ret (pe_op op_mod (pe_op op_mul (pv 3) (pe_op op_add (pe_op op_fdiv (pv 3) pe_int) pe_int)) pe_int))))))), ?_⟩
    have m30a : 0 ≤ k % 30 := Int.emod_nonneg _ (by decide)
    have d30 : 0 ≤ k / 30 := Int.ediv_nonneg k0 (by decide)
    have L0 : ∀ {H' : Hp}, Same H H' → ∀ l, SqL K (upd H' l (.lst [])) l (([] : List Int).map V.int) := fun _ l => SqL.of upd_same
    refine ⟨_, rfl, by show 0 ≤ sizeLine; exact Nat.zero_le _, fun l hl => ⟨a, l, ns, [], rfl, rfl, (Same.new (Same.refl H) hl).seq hS, SqL.of upd_same, _, rfl, ?_⟩⟩
    have s1 : Same H (upd H l (.lst [])) := Same.new (Same.refl H) hl
    generalize upd H l (.lst []) = H1 at s1 ⊢
    by_cases hne : ns = []
    · refine iteNS hne (iteF ?_)
      refine ⟨_, rfl, by show 0 ≤ sizeLine; exact Nat.zero_le _, fun l2 hl2 => ⟨a, l2, ns, [], rfl, rfl, (Same.new s1 hl2).seq hS, SqL.of upd_same, _, rfl, iteNS hne ?_⟩⟩
      have s2 : Same H (upd H1 l2 (.lst [])) := Same.new s1 hl2
      generalize upd H1 l2 (.lst []) = H2 at s2 ⊢
      refine ⟨_, rfl, _, rfl, _, _, rfl, rfl, .inl ⟨by decide, by decide⟩, _, _, rfl, rfl, _, _, rfl, rfl, _, _, rfl, rfl, .inr ⟨by decide, by decide⟩, _, _, rfl, rfl, (by show (0 : Int) < 2147483647; decide), ?_⟩
      refine ⟨_, rfl, _, rfl, _, _, rfl, rfl, ⟨by decide, by decide⟩, _, _, rfl, rfl, _, _, rfl, rfl, .inl (small_mod (by decide)), _, _, rfl, rfl, (by show (0 : Int) < 2147483647; decide), ?_⟩
      exact ⟨_, rfl, _, rfl, _, _, rfl, rfl, ⟨by decide, by decide⟩, _, _, rfl, rfl, _, _, rfl, rfl, .inl (small_mod (by decide)), _, _, rfl, rfl, (by show (0 : Int) < 2147483399; decide), q _ _ s2⟩
    · have hlen : 0 < ns.length := List.length_pos_iff.mpr hne
      rw [decide_eq_false hne]
      refine iteT ?_
      obtain ⟨m0, hm0⟩ := ints_at (ns := ns) (i := 0) (by decide) (by omega)
      refine ⟨_, rfl, a, _, 0, _, rfl, rfl, s1.seq hS, hm0, _, _, rfl, rfl, (by show (0 : Int) < 2; decide), rfl, _, rfl, ?_⟩
      rw [int_eq]
      cases hodd : decide (m0 % 2 = 1) with
      | true =>
        refine iteT ?_
        have hin : ∀ cell : Int, Q (.int (cell / 2 ^ (32 * (k % 30)).toNat % 2 ^ (32 : Int).toNat)) H1 := fun cell => q _ _ s1
        have fin : ∀ cell : Int, 0 ≤ 32 * (k % 30) := fun _ => by omega
        refine ⟨_, rfl, _, _, rfl, rfl, ⟨by decide, by decide⟩, _, _, rfl, rfl, _, rfl, a, _, rfl, .inl (s1.seq hS), _, _, rfl, rfl, _, rfl, ?_⟩
        refine ite2 (fun hlt => ?_) fun _ => ?_
        · have hlt' : 1 + k / 30 < ((ns.map V.int).length : Nat) := of_decide_eq_true hlt
          rw [List.length_map] at hlt'
          obtain ⟨m1, hm1⟩ := ints_at (ns := ns) (i := 1 + k / 30) (by omega) hlt'
          refine ⟨_, rfl, _, rfl, _, _, rfl, rfl, ⟨by decide, by decide⟩, _, _, rfl, rfl, a, _, _, _, rfl, rfl, s1.seq hS, hm1, ?_⟩
          exact ⟨_, rfl, _, rfl, _, _, rfl, rfl, (by show (0 : Int) < 30; decide), _, _, rfl, rfl, .inl ⟨by decide, by decide⟩, _, _, rfl, rfl, fin 0, _, _, rfl, rfl, ⟨by decide, by decide, by decide⟩, _, _, rfl, rfl, (by show (0 : Int) < 2 ^ (32 : Int).toNat; decide), hin _⟩
        · exact ⟨_, rfl, _, rfl, _, _, rfl, rfl, (by show (0 : Int) < 30; decide), _, _, rfl, rfl, .inl ⟨by decide, by decide⟩, _, _, rfl, rfl, fin 0, _, _, rfl, rfl, ⟨by decide, by decide, by decide⟩, _, _, rfl, rfl, (by show (0 : Int) < 2 ^ (32 : Int).toNat; decide), hin _⟩
      | false =>
        refine iteF ?_
        refine ⟨_, rfl, by show 0 ≤ sizeLine; exact Nat.zero_le _, fun l2 hl2 => ⟨a, l2, ns, [], rfl, rfl, (Same.new s1 hl2).seq hS, SqL.of upd_same, _, rfl, ?_⟩⟩
        have s2 : Same H (upd H1 l2 (.lst [])) := Same.new s1 hl2
        generalize upd H1 l2 (.lst []) = H2 at s2 ⊢
        rw [decide_eq_false hne]
        refine iteT ?_
        have hl' : 0 < ((ns.map V.int).length : Int) := by rw [List.length_map]; omega
        obtain ⟨m2, hm2⟩ := ints_at (ns := ns) (i := k % ((ns.map V.int).length : Nat)) (Int.emod_nonneg _ (by omega)) (by have := Int.emod_lt_of_pos k hl'; rw [List.length_map] at this ⊢; exact this)
        refine ⟨_, rfl, _, rfl, _, rfl, a, _, rfl, .inl (s2.seq hS), _, _, rfl, rfl, hl', a, _, _, _, rfl, rfl, s2.seq hS, hm2, ?_⟩
        refine ⟨_, rfl, _, rfl, _, _, rfl, rfl, .inl ⟨by decide, by decide⟩, _, _, rfl, rfl, _, _, rfl, rfl, _, _, rfl, rfl, .inr ⟨by decide, by decide⟩, _, _, rfl, rfl, (by show (0 : Int) < 2147483647; decide), ?_⟩
        refine ⟨_, rfl, _, rfl, _, _, rfl, rfl, ⟨by decide, by decide⟩, _, _, rfl, rfl, _, _, rfl, rfl, .inl (small_mod (by decide)), _, _, rfl, rfl, (by show (0 : Int) < 2147483647; decide), ?_⟩
        exact ⟨_, rfl, _, rfl, _, _, rfl, rfl, ⟨by decide, by decide⟩, _, _, rfl, rfl, _, _, rfl, rfl, .inl (small_mod (by decide)), _, _, rfl, rfl, (by show (0 : Int) < 2147483399; decide), q _ _ s2⟩
end
end K73
namespace K73
open PySem L2
def spHas : Sp := fun vs H Q _ => ∃ m k : Nat, vs = [.int m, .int k] ∧ Q (.bl (m.testBit k)) H
def memV (m : Nat) : List V := (Yd.memN m (Builtin.Int.intBits (m : Int))).map fun k : Nat => V.int k
def spMem : Sp := fun vs H Q _ => ∃ m : Nat, vs = [.int m] ∧ m < 2 ^ 400 ∧ ∀ p, H p = none → Q (.ref p) (upd H p (.lst (memV m)))
def spSet (K : PySem.W.Frag) : Sp := fun vs H Q _ => ∃ (a : Addr) (ks : List Nat), vs = [.ref a] ∧ SqL K H a (ks.map fun k : Nat => V.int k) ∧ (∀ k ∈ ks, k ≤ 1000) ∧ Q (.int (Yd.setN ks 0 : Nat)) H
section
variable {P : Program} {w : World} {K : PySem.W.Frag} {mg : Str → Option Value} {base : Heap}
theorem scHas : FnScope ["some", "number"] ["some", "number"] (defScope sHas) := ⟨rfl, rfl, rfl, by decide +kernel, rfl, by decide +kernel, by decide +kernel⟩
theorem ok_has {f : Addr} {fd : FuncData} (F : Fun K "has" "has" sHas f fd) : FnOk P w K mg base CX0 1 f fd ["some", "number"] spHas := by
  refine F.ok scHas (fun vs H Q E h => ?_) (fun cdv A outer s H vs Q E hr h => ?_)
  · obtain ⟨m, k, rfl, _⟩ := h
    rfl
  · obtain ⟨m, k, rfl, q⟩ := h
    refine ⟨_, pss_one (ps_ret (pe_and (pe_cmpR op_ge (pv 1) pe_int (nomark _)) (pe_one (pe_cmpR op_eq (pe_op op_and (pe_op op_shr (pv 0) (pv 1)) pe_int) pe_int (nomark _))))), ?_⟩
    refine ⟨_, rfl, _, _, rfl, rfl, _, rfl, ?_⟩
    rw [decide_eq_true (show (0 : Int) ≤ (k : Int) by omega)]
    refine iteT ?_
    refine ⟨_, rfl, _, rfl, _, _, rfl, rfl, (show (0 : Int) ≤ (k : Int) by omega), _, _, rfl, rfl, rfl, ?_⟩
    have e : decide (V.int (Builtin.bitAnd ((m : Int) / 2 ^ (k : Int).toNat) 1) = V.int 1) = m.testBit k := by
      rw [Int.toNat_natCast, ← Yd.has_bit m k]
      by_cases h : Builtin.bitAnd ((m : Int) / 2 ^ k) 1 = 1
      · rw [h]; simp
      · rw [decide_eq_false h, decide_eq_false fun z => h (by injection z)]
    rw [e]
    exact q
theorem natV_get {ks : List Nat} {i : Nat} {x : V} (h : (ks.map fun k : Nat => V.int k)[i]? = some x) : ∃ k, ks[i]? = some k ∧ x = V.int k := by
  rw [List.getElem?_map] at h
  cases e : ks[i]? with
  | none => rw [e] at h; cases h
  | some k => rw [e] at h; exact ⟨k, rfl, (Option.some.inj h).symm⟩
theorem scSet : FnScope ["numbers", "some", "number"] ["numbers"] (defScope sSet) := ⟨rfl, rfl, rfl, by decide +kernel, rfl, by decide +kernel, by decide +kernel⟩
theorem ok_set {f : Addr} {fd : FuncData} (F : Fun K "set_of" "set_of" sSet f fd) : FnOk P w K mg base CX0 1 f fd ["numbers"] (spSet K) := by
  refine F.ok scSet (fun vs H Q E h => ?_) (fun cdv A outer s H vs Q E hr h => ?_)
  · obtain ⟨a, ks, rfl, _⟩ := h
    rfl
  · obtain ⟨a, ks, rfl, hS, hk, q⟩ := h
    refine ⟨_, pss_cons (ps_set (i := 1) scSet.nd rfl (Or.inl rfl) pe_int)
      (pss_cons (ps_for PassesOwn.never rfl (pi_list (pv 0)) (pg_name (i := 2) scSet.nd rfl (Or.inl rfl))
        (pss_one (ps_set (i := 1) scSet.nd rfl (Or.inl rfl) (pe_op op_or (pv 1) (pe_op op_shl pe_int (pv 2))))))
      (pss_one (ps_ret (pv 1)))), ?_⟩
    refine ⟨_, rfl, a, rfl, ⟨_, hS⟩, for_list (K := K) (a := a) (xs := ks.map fun k : Nat => V.int k) (fun i σ H2 => ∃ v : Option V, H2 = H ∧ σ = [some (.ref a), some (.int (Yd.setN (ks.take i) 0 : Nat)), v])
      ⟨none, rfl, rfl⟩ (fun i σ H2 _ ⟨_, e, _⟩ => by rw [e]; exact hS) ?_ ?_⟩
    · rintro i x σ H2 hx ⟨v, rfl, rfl⟩
      obtain ⟨k, ek, rfl⟩ := natV_get hx
      have hk' := hk k (List.mem_of_getElem? ek)
      refine ⟨_, rfl, _, rfl, _, _, rfl, rfl, ⟨(show (0 : Int) ≤ (k : Int) by omega), (show (k : Int) ≤ 1000000 by omega), (by decide)⟩, _, _, rfl, rfl, some (.int k), rfl, ?_⟩
      have e : Builtin.bitOr ((Yd.setN (ks.take i) 0 : Nat) : Int) (1 * 2 ^ (k : Int).toNat) = ((Yd.setN (ks.take (i + 1)) 0 : Nat) : Int) := by
        rw [List.take_succ, ek, Int.toNat_natCast, Int.one_mul, show (2 : Int) ^ k = ((2 ^ k : Nat) : Int) by rw [Int.natCast_pow]; rfl, Yd.bitOr_nat, Yd.setN_app]
        rfl
      show [some (V.ref a), some (V.int _), some (V.int k)] = _
      rw [e]
    · rintro σ H2 ⟨v, rfl, rfl⟩
      refine ⟨_, rfl, ?_⟩
      rw [List.length_map, List.take_length]
      exact q
theorem scMem : FnScope ["some"] ["some"] (defScope sMem) := ⟨rfl, rfl, rfl, by decide +kernel, rfl, by decide +kernel, by decide +kernel⟩
theorem ndMem : (["number", "some"] : List Str).Nodup := by decide +kernel
theorem bkMem : Blk ["some"] (defScope sMem) (retScope sMem) ["some"] [0] := ⟨rfl, by decide +kernel, by decide +kernel, by decide +kernel, rfl, by decide +kernel⟩
theorem ok_mem {f fh : Addr} {fd fdh : FuncData} (F : Fun K "members" "members" sMem f fd) (T : Txt mg) (mh : mg "has" = some (.ref fh)) (Fh : Fun K "has" "has" sHas fh fdh) (bh : Binds K fdh ["some", "number"] []) : FnOk P w K mg base CX0 2 f fd ["some"] spMem := by
  have G : FnOk P w K mg base CX0 1 fh fdh ["some", "number"] spHas := ok_has Fh
  refine F.ok scMem (fun vs H Q E h => ?_) (fun cdv A outer s H vs Q E hr h => ?_)
  · obtain ⟨m, rfl, _⟩ := h
    rfl
  · obtain ⟨m, rfl, hm, q⟩ := h
    refine ⟨_, pss_one (ps_ret (pe_comp (own := ["number"]) (capN := ["some"]) (cap := [0]) bkMem rfl
      (pi_range1 rfl T.range (pa_cons (pe_bm0 PySem.F.plainAttrs_int PySem.F.slot_int_bit_length PySem.F.type_int_bit_length mt_bits (pv 0)) pa_nil))
      (fun C s' H' fp => ⟨pg_name (i := 0) ndMem rfl (Or.inl rfl), pts_one (pt_val (pe_call G hr rfl mh Fh.kp bh .nil pass0 (pa_cons (pv 1) (pa_cons (pv 0) pa_nil)))), pv 0⟩))), ?_⟩
    have hb : Builtin.Int.intBits (m : Int) ≤ 400 := Yd.bits_le hm
    refine ⟨_, rfl, rfl, _, rfl, rfl, (Builtin.Int.intBits (m : Int) : Nat), rfl, by omega, by omega, ?_⟩
    rw [Int.toNat_natCast]
    refine comp_rng (fun k => m.testBit k) (fun k => V.int k) (by rw [PySem.sizeLine_eq]; omega) (fun i acc N hi h => ?_) q
    refine ⟨_, rfl, _, rfl, m, i, by simp, _, rfl, ?_⟩
    cases e : m.testBit i with
    | true =>
      rw [e] at h
      refine iteT ⟨_, rfl, ?_⟩
      simpa using h
    | false =>
      rw [e] at h
      exact iteF (by simpa using h)
end
/-- the ints of a list of numbers -/
def iz (ks : List Nat) : List Int := ks.map fun k : Nat => (k : Int)
theorem iz_V (ks : List Nat) : (iz ks).map V.int = ks.map fun k : Nat => V.int k := by rw [iz, List.map_map]; rfl
theorem iz_rise {ks : List Nat} (h : ks.Pairwise (· < ·)) : (iz ks).Pairwise (· < ·) := by
  unfold iz
  rw [List.pairwise_map]
  exact h.imp fun z => by omega
theorem iz_mem {ks : List Nat} {k : Int} : k ∈ iz ks ↔ ∃ n ∈ ks, (n : Int) = k := List.mem_map
/-- the numbers told are the sorted ones -/
theorem mem_sorted {ks : List Nat} {ms : List Int} (h1 : ms.Pairwise (· < ·)) (h2 : ∀ k, k ∈ ms ↔ k ∈ iz ks) : iz (Yd.memN (Yd.setN ks 0) (Builtin.Int.intBits ((Yd.setN ks 0 : Nat) : Int))) = ms := by
  refine Yd.rise_ext (iz_rise (Yd.memN_rise _ _)) h1 fun k => ?_
  rw [h2 k, iz_mem, iz_mem]
  constructor
  · rintro ⟨n, hn, e⟩
    rw [Yd.memN_mem (Yd.bits_lt _), Yd.setN_bit] at hn
    exact ⟨n, by simpa using hn, e⟩
  · rintro ⟨n, hn, e⟩
    refine ⟨n, ?_, e⟩
    rw [Yd.memN_mem (Yd.bits_lt _), Yd.setN_bit]
    simpa using hn
theorem set_lt {ks : List Nat} {b : Nat} (h : ∀ k ∈ ks, k < b) : Yd.setN ks 0 < 2 ^ b := by
  rw [← Yd.due_set h]
  exact Yd.dueN_lt ks b
end K73
namespace K73
open PySem L2
/-! ### rows, and which of them is bad -/
/-- a row: place, goal, came, lanes -/
structure Rw where
  p : Int
  g : Int
  c : Option Nat
  s : List Nat
def keyOf (r : Rw) : Oks := [some r.p, some r.g, r.c.map fun k : Nat => (k : Int)]
def ixM (sel : Int × Int → Int) (ps : List (Int × Int)) (pl : Int) : List Nat := (List.range ps.length).filter fun k => decide (sel (ps.getD k (0, 0)) = pl)
def fits (n : Int) (ps : List (Int × Int)) (r : Rw) : Bool :=
  okP n (r.p, r.g) && ((match r.c with | none => true | some k => decide (k ∈ ixM Prod.snd ps r.p)) && r.s.all fun k => decide (k ∈ ixM Prod.fst ps r.p))
/-- a lane that is none, or another place's, by the law -/
def offL (sel : Int × Int → Int) (ps : List (Int × Int)) (pl : Int) (k : Nat) : Bool := decide (ps.length ≤ k) || !decide (sel (ps.getD k (0, 0)) = pl)
def badL (n : Int) (ps : List (Int × Int)) (ahead : List Rw) (r : Rw) : Bool :=
  !okP n (r.p, r.g) || ((match r.c with | none => false | some k => offL Prod.snd ps r.p k) || ((r.s.any fun k => offL Prod.fst ps r.p k) || ahead.any fun a => decide (keyOf a = keyOf r)))
theorem ixM_mem {sel : Int × Int → Int} {ps : List (Int × Int)} {pl : Int} {k : Nat} : decide (k ∈ ixM sel ps pl) = !offL sel ps pl k := by
  unfold ixM offL
  by_cases h1 : ps.length ≤ k
  · rw [decide_eq_true h1, decide_eq_false]
    · rfl
    · intro z
      have := List.mem_range.mp (List.mem_filter.mp z).1
      omega
  · rw [decide_eq_false h1]
    by_cases h2 : sel (ps.getD k (0, 0)) = pl
    · rw [decide_eq_true h2, decide_eq_true]
      · rfl
      · exact List.mem_filter.mpr ⟨List.mem_range.mpr (by omega), decide_eq_true h2⟩
    · rw [decide_eq_false h2, decide_eq_false]
      · rfl
      · intro z
        exact h2 (of_decide_eq_true (List.mem_filter.mp z).2)
theorem all_any {l : List Nat} {f : Nat → Bool} : (l.all fun k => !f k) = !(l.any f) := by
  induction l with
  | nil => rfl
  | cons a l ih => rw [List.all_cons, List.any_cons, ih, Bool.not_or]
theorem bad_fits (n : Int) (ps : List (Int × Int)) (ahead : List Rw) (r : Rw) : badL n ps ahead r = (!fits n ps r || ahead.any fun a => decide (keyOf a = keyOf r)) := by
  unfold badL fits
  have e : (r.s.all fun k => decide (k ∈ ixM Prod.fst ps r.p)) = !(r.s.any fun k => offL Prod.fst ps r.p k) := by
    rw [← all_any]
    congr 1
    funext k
    exact ixM_mem
  rw [e]
  cases hc : r.c with
  | none =>
    dsimp only
    cases okP n (r.p, r.g) <;> cases (r.s.any fun k => offL Prod.fst ps r.p k) <;> cases (ahead.any fun a => decide (keyOf a = keyOf r)) <;> rfl
  | some k =>
    dsimp only
    rw [ixM_mem]
    cases okP n (r.p, r.g) <;> cases (offL Prod.snd ps r.p k) <;> cases (r.s.any fun k => offL Prod.fst ps r.p k) <;> cases (ahead.any fun a => decide (keyOf a = keyOf r)) <;> rfl
/-- the number of the first bad row -/
def firstBad (n : Int) (ps : List (Int × Int)) (rs : List Rw) (m : Nat) : Option Nat := (List.range m).find? fun k => badL n ps (rs.take k) (rs.getD k ⟨0, 0, none, []⟩)
theorem firstBad_none {n : Int} {ps : List (Int × Int)} {rs : List Rw} : ∀ {m : Nat}, (∀ k, k < m → badL n ps (rs.take k) (rs.getD k ⟨0, 0, none, []⟩) = false) → firstBad n ps rs m = none := by
  intro m h
  unfold firstBad
  rw [List.find?_eq_none]
  intro k hk
  rw [h k (List.mem_range.mp hk)]
  decide
theorem firstBad_some {n : Int} {ps : List (Int × Int)} {rs : List Rw} {m i : Nat} (hi : i < m) (h : ∀ k, k < i → badL n ps (rs.take k) (rs.getD k ⟨0, 0, none, []⟩) = false) (hb : badL n ps (rs.take i) (rs.getD i ⟨0, 0, none, []⟩) = true) : firstBad n ps rs m = some i := by
  unfold firstBad
  rw [List.find?_range_eq_some]
  refine ⟨hb, List.mem_range.mpr hi, fun j hj => ?_⟩
  rw [h j hj]
  rfl
/-- the last row of a key -/
def lastR (rs : List Rw) (k : Oks) : Option Rw := rs.reverse.find? fun r => decide (keyOf r = k)
theorem lastR_snoc {rs : List Rw} {r : Rw} {k : Oks} : lastR (rs ++ [r]) k = if k = keyOf r then some r else lastR rs k := by
  unfold lastR
  rw [List.reverse_append, List.reverse_singleton, List.singleton_append, List.find?_cons]
  by_cases h : keyOf r = k
  · rw [decide_eq_true h, if_pos h.symm]
  · rw [decide_eq_false h, if_neg (Ne.symm h)]
theorem lastR_isSome {rs : List Rw} {k : Oks} : (lastR rs k).isSome = rs.any fun r => decide (keyOf r = k) := by
  unfold lastR
  rw [Bool.eq_iff_iff, List.find?_isSome, List.any_eq_true]
  exact ⟨fun ⟨x, hx, h⟩ => ⟨x, List.mem_reverse.mp hx, h⟩, fun ⟨x, hx, h⟩ => ⟨x, List.mem_reverse.mpr hx, h⟩⟩

/-! rows in the heap -/
def cV : Option Nat → V
  | none => .non
  | some k => .int k
def natV (ks : List Nat) : List V := ks.map fun k : Nat => V.int k
theorem natV_iz (ks : List Nat) : natV ks = (iz ks).map V.int := (iz_V ks).symm
def RwT (H : Hp) (t l : Addr) (r : Rw) : Prop := H t = some (.tup [.int r.p, .int r.g, cV r.c, .ref l]) ∧ H l = some (.lst (natV r.s))
def RwV (H : Hp) (v : V) (r : Rw) : Prop := ∃ t l, v = .ref t ∧ RwT H t l r
abbrev Rws (H : Hp) : List V → List Rw → Prop := Paired (RwV H)
theorem RwT.same {H H' : Hp} {t l : Addr} {r : Rw} (h : Same H H') (x : RwT H t l r) : RwT H' t l r := ⟨h _ _ x.1, h _ _ x.2⟩
theorem RwV.same {H H' : Hp} {v : V} {r : Rw} (h : Same H H') : RwV H v r → RwV H' v r := fun ⟨t, l, e, x⟩ => ⟨t, l, e, x.same h⟩
theorem Rws.imp {H H' : Hp} (h : ∀ v r, RwV H v r → RwV H' v r) : ∀ {vs : List V} {rs : List Rw}, Rws H vs rs → Rws H' vs rs
  | _, _, .nil => .nil
  | _, _, .cons x r => .cons (h _ _ x) (Rws.imp h r)
theorem Rws.same {H H' : Hp} (h : Same H H') {vs : List V} {rs : List Rw} (x : Rws H vs rs) : Rws H' vs rs := Rws.imp (fun _ _ z => z.same h) x
theorem Rws.get {H : Hp} : ∀ {vs : List V} {rs : List Rw} {i : Nat} {v : V}, Rws H vs rs → vs[i]? = some v → ∃ r, rs[i]? = some r ∧ RwV H v r
  | _, _, _, _, .nil, e => by simp at e
  | _, _, 0, _, .cons x _, e => by simp at e; subst e; exact ⟨_, rfl, x⟩
  | _, _, i + 1, v, .cons _ t, e => by
    obtain ⟨r, h1, h2⟩ := Rws.get (i := i) (v := v) t (by simpa using e)
    exact ⟨r, by simpa using h1, h2⟩
theorem key_tup (r : Rw) : (keyOf r).map okV = [.int r.p, .int r.g, cV r.c] := by
  cases r with
  | mk p g c s => cases c <;> rfl
theorem ixV_iz {sel : Int × Int → Int} {ps : List (Int × Int)} {pl : Int} : ixV sel ps pl ps.length = (iz (ixM sel ps pl)).map V.int := by rw [iz_V]; rfl
theorem iz_dec {k : Nat} {l : List Nat} : decide ((k : Int) ∈ iz l) = decide (k ∈ l) := by
  congr 1
  refine propext ⟨fun h => ?_, fun h => iz_mem.mpr ⟨k, h, rfl⟩⟩
  obtain ⟨n, hn, e⟩ := iz_mem.mp h
  have : n = k := by omega
  rw [← this]
  exact hn
theorem all_bls (ks l : List Nat) : ((natV ks).filter fun _ => true).map (fun v => match v with | .int i => V.bl (decide (i ∈ iz l)) | _ => .non) = (ks.map fun k => decide (k ∈ l)).map V.bl := by
  rw [List.filter_eq_self.mpr (fun _ _ => rfl)]
  unfold natV
  rw [List.map_map, List.map_map]
  refine List.map_congr_left fun k _ => ?_
  show V.bl (decide ((k : Int) ∈ iz l)) = V.bl (decide (k ∈ l))
  rw [iz_dec]
theorem all_id (ks : List Nat) (p : Nat → Bool) : (ks.map p).all id = ks.all p := by rw [List.all_map]; rfl
/-! ### the promises -/
def spOne (K : PySem.W.Frag) : Sp := fun vs H Q _ => ∃ (i : Int) (p : Addr) (ns : List Int), vs = [.int i, .ref p] ∧ SqL K H p (ns.map V.int) ∧ Q (.bl (decide (i ∈ ns))) H
def spFits (c : Cs) : Sp := fun vs H Q _ => ∃ (x dx lt t l : Addr) (n : Int) (tvs : List V) (ps : List (Int × Int)) (r : Rw), vs = [.ref x, .ref t] ∧ LandAt H c x dx lt n tvs ps ∧ RwT H t l r ∧ ps.length ≤ 1000 ∧ r.s.length ≤ 1000 ∧ ∀ H', Same H H' → Q (.bl (fits n ps r)) H'
structure Mths (K : PySem.W.Frag) (c : Cs) (f3 f4 : Addr) (d3 d4 : FuncData) : Prop where
  m3 : Meth K c.land "out_of" f3
  m4 : Meth K c.land "into" f4
  b3 : Binds K d3 ["self", "place"] []
  b4 : Binds K d4 ["self", "place"] []
abbrev NF : List Str := ["land", "row", "place", "came", "begin_here"]
def allScope (s : Stmt) : Scope := match s with
  | .Return (some (.Call _ [.ListComp _ _ sc _] _ _)) _ => sc
  | _ => { kind := .function, names := [], isGenerator := false, isCoroutine := false }
section
variable {P : Program} {w : World} {K : PySem.W.Frag} {mg : Str → Option Value} {base : Heap}
theorem scOne : FnScope ["value", "numbers"] ["value", "numbers"] (defScope sOne) := ⟨rfl, rfl, rfl, by decide +kernel, rfl, by decide +kernel, by decide +kernel⟩
theorem ok_one {f fh : Addr} {fd fdh : FuncData} (F : Fun K "is_one_of" "is_one_of" sOne f fd) (T : Txt mg) (mh : mg "is_whole" = some (.ref fh)) (Fh : Fun K "is_whole" "is_whole" sWhole fh fdh) (bh : Binds K fdh ["value"] []) :
    FnOk P w K mg base CX0 2 f fd ["value", "numbers"] (spOne K) := by
  have G : FnOk P w K mg base CX0 1 fh fdh ["value"] spWhole := ok_whole Fh T
  refine F.ok scOne (fun vs H Q E h => ?_) (fun cdv A outer s H vs Q E hr h => ?_)
  · obtain ⟨i, p, ns, rfl, _⟩ := h
    rfl
  · obtain ⟨i, p, ns, rfl, hS, q⟩ := h
    refine ⟨_, pss_one (ps_ret (pe_and (pe_call G hr rfl mh Fh.kp bh .nil pass0 (pa_cons (pv 0) pa_nil)) (pe_one (pe_cmpR op_in_seq (pv 0) (pv 1) (by with_unfolding_all rfl))))), ?_⟩
    refine ⟨_, rfl, i, rfl, true, rfl, iteT ?_⟩
    refine ⟨_, rfl, _, rfl, p, _, rfl, .inl hS, rfl, flat_ints _, ?_⟩
    show Q (V.bl (inV (V.int i) (ns.map V.int))) H
    rw [inV_int]
    exact q
theorem scFits : FnScope NF ["land", "row"] (defScope sFits) := ⟨rfl, rfl, rfl, by decide +kernel, rfl, by decide +kernel, by decide +kernel⟩
theorem bkFits : Blk NF (defScope sFits) (allScope ((defBody sFits).getD 5 (.Pass ⟨0, 0, 0, 0⟩))) ["begin_here"] [4] := ⟨rfl, by decide +kernel, by decide +kernel, by decide +kernel, rfl, by decide +kernel⟩
theorem ndFits : (["lane", "begin_here"] : List Str).Nodup := by decide +kernel
theorem ok_fits {c : Cs} {f ft fo f3 f4 : Addr} {fd dt d1 d3 d4 : FuncData} (F : Fun K "row_fits" "row_fits" sFits f fd) (T : Txt mg) (L : Lnd K c) (M : Mths K c f3 f4 d3 d4)
    (mt : mg "are_two_places" = some (.ref ft)) (kt : PySem.W.keepIn K (.ref ft) = true) (bt : Binds K dt ["places", "one", "other"] []) (Gt : FnOk P w K mg base CX0 3 ft dt ["places", "one", "other"] spTwo)
    (mo : mg "is_one_of" = some (.ref fo)) (ko : PySem.W.keepIn K (.ref fo) = true) (bo : Binds K d1 ["value", "numbers"] []) (Go : FnOk P w K mg base CX0 2 fo d1 ["value", "numbers"] (spOne K))
    (G3 : FnOk P w K mg base CX0 1 f3 d3 ["self", "place"] (spIx c Prod.fst)) (G4 : FnOk P w K mg base CX0 1 f4 d4 ["self", "place"] (spIx c Prod.snd)) :
    FnOk P w K mg base CX0 4 f fd ["land", "row"] (spFits c) := by
  refine F.ok scFits (fun vs H Q E h => ?_) (fun cdv A outer s H vs Q E hr h => ?_)
  · obtain ⟨x, dx, lt, t, l, n, tvs, ps, r, rfl, _⟩ := h
    rfl
  · obtain ⟨x, dx, lt, t, l, n, tvs, ps, r, rfl, hL, hR, hlen, hsl, q⟩ := h
    have hr1 : Room 1 _ := hr.mono (by decide)
    have hr2 : Room 2 _ := hr.mono (by decide)
    refine ⟨_, pss_cons (ps_set (i := 2) scFits.nd rfl (Or.inl rfl) (pe_ix ix_tup (pv 1) pe_int (fun _ _ => rfl)))
      (pss_cons (ps_set (i := 3) scFits.nd rfl (Or.inl rfl) (pe_ix ix_tup (pv 1) pe_int (fun _ _ => rfl)))
      (pss_cons (ps_if (pt_not (pt_val (pe_call Gt hr rfl mt kt bt .nil pass0 (pa_cons (pe_fld (pv 0) rfl) (pa_cons (pv 2) (pa_cons (pe_ix ix_tup (pv 1) pe_int (fun _ _ => rfl)) pa_nil)))))) (pss_one (ps_ret pe_bl)) pss_nil)
      (pss_cons (ps_if (PW.pt (pw_and (pt_cmpR op_notN (pv 3) pe_non (nomark _)) (pw_and1 (pt_not (pt_val (pe_call Go hr2 rfl mo ko bo .nil pass0 (pa_cons (pv 3) (pa_cons (pe_meth (pv 0) L.cl M.m4 G4 hr1 M.b4 .nil pass0 (pa_cons (pv 2) pa_nil)) pa_nil)))))))) (pss_one (ps_ret pe_bl)) pss_nil)
      (pss_cons (ps_set (i := 4) scFits.nd rfl (Or.inr rfl) (pe_meth (pv 0) L.cl M.m3 G3 hr1 M.b3 .nil pass0 (pa_cons (pv 2) pa_nil)))
      (pss_one (ps_ret (pe_callB (call_all rfl) rfl T.all PyProof.Rows.boot_all (pa_cons (pe_comp (own := ["lane"]) (capN := ["begin_here"]) (cap := [4]) bkFits rfl (pi_list (pe_ix ix_tup (pv 1) pe_int (fun _ _ => rfl)))
        (fun C s' H' fp => ⟨pg_name (i := 0) ndFits rfl (Or.inl rfl), pts_nil, pe_call Go hr2 rfl mo ko bo .nil pass0 (pa_cons (pv 0) (pa_cons (pv 1) pa_nil))⟩)) pa_nil)))))))), ?_⟩
    obtain ⟨hT, hl⟩ := hR
    have hTT : SqT K H t [.int r.p, .int r.g, cV r.c, .ref l] := SqT.of hT
    refine ⟨_, rfl, t, _, 0, _, rfl, rfl, hTT, atI_nat (j := 0) rfl, ?_⟩
    refine ⟨_, rfl, t, _, 2, _, rfl, rfl, hTT, atI_nat (j := 2) rfl, ?_⟩
    refine ⟨_, rfl, x, c.land, dx, _, _, rfl, hL.1, L.cl, L.np, rfl, _, rfl, _, rfl, t, _, 1, _, rfl, rfl, hTT, atI_nat (j := 1) rfl, n, r.p, r.g, rfl, _, rfl, ?_⟩
    cases ho : okP n (r.p, r.g) with
    | false =>
      have e : fits n ps r = false := by unfold fits; rw [ho]; rfl
      refine iteT ?_
      have := q H (Same.refl H)
      rw [e] at this
      exact this
    | true =>
      refine iteF ?_
      cases hc : r.c with
      | none =>
        refine ⟨_, rfl, rfl, _, rfl, iteF (iteF ?_)⟩
        have s1 := Same.refl H
        have e1 : fits n ps r = r.s.all fun k => decide (k ∈ ixM Prod.fst ps r.p) := by unfold fits; rw [ho, hc]; rfl
        refine ⟨_, rfl, x, dx, _, rfl, s1 _ _ hL.1, rfl, _, rfl, x, dx, lt, n, tvs, ps, r.p, rfl, ⟨s1 _ _ hL.1, s1 _ _ hL.2.1, Lns.same s1 hL.2.2⟩, hlen, fun H2 D2 s2 hD2 => ?_⟩
        have s3 := (s1.trans s2).new (o := .lst (ixV Prod.fst ps r.p ps.length)) hD2
        have g2 : (upd H2 D2 (.lst (ixV Prod.fst ps r.p ps.length))) D2 = some (.lst (ixV Prod.fst ps r.p ps.length)) := upd_same
        generalize upd H2 D2 (.lst (ixV Prod.fst ps r.p ps.length)) = H3 at s3 g2 ⊢
        refine ⟨_, rfl, t, _, 3, _, rfl, rfl, SqT.of (s3 _ _ hT), atI_nat (j := 3) rfl, l, rfl, ⟨_, SqL.of (s3 _ _ hl)⟩, ?_⟩
        refine comp_lst (xs := natV r.s) (fun _ => true) (fun v => match v with | .int i => .bl (decide (i ∈ iz (ixM Prod.fst ps r.p))) | _ => .non) (by rw [PySem.sizeLine_eq]; simp only [natV, List.length_map]; omega) (SqL.of (s3 _ _ hl)) (fun y acc N hy h => ?_) (fun D hD => ?_)
        · obtain ⟨k', _, rfl⟩ := List.mem_map.mp hy
          exact ⟨_, rfl, _, rfl, (k' : Int), D2, iz (ixM Prod.fst ps r.p), rfl, by rw [← ixV_iz]; exact SqL.of g2, by simpa using h⟩
        · rw [all_bls]
          refine ⟨D, r.s.map fun k => decide (k ∈ ixM Prod.fst ps r.p), rfl, SqL.of upd_same, ?_⟩
          have := q _ (s3.new (o := .lst ((r.s.map fun k => decide (k ∈ ixM Prod.fst ps r.p)).map V.bl)) hD)
          rw [e1] at this
          rw [all_id]
          exact this
      | some k =>
        refine ⟨_, rfl, rfl, _, rfl, iteT ?_⟩
        refine ⟨_, rfl, _, rfl, x, dx, _, rfl, hL.1, rfl, _, rfl, x, dx, lt, n, tvs, ps, r.p, rfl, hL, hlen, fun H' D s' hD => ?_⟩
        have s1 := s'.new (o := .lst (ixV Prod.snd ps r.p ps.length)) hD
        refine ⟨(k : Int), D, iz (ixM Prod.snd ps r.p), rfl, by rw [← ixV_iz]; exact SqL.of upd_same, _, rfl, ?_⟩
        rw [iz_dec]
        cases hk : decide (k ∈ ixM Prod.snd ps r.p) with
        | false =>
          refine iteT ?_
          have e : fits n ps r = false := by unfold fits; rw [ho, hc]; dsimp only; rw [hk]; rfl
          have := q _ s1
          rw [e] at this
          exact this
        | true =>
          have e1 : fits n ps r = r.s.all fun k => decide (k ∈ ixM Prod.fst ps r.p) := by unfold fits; rw [ho, hc]; dsimp only; rw [hk]; rfl
          refine iteF ?_
          refine ⟨_, rfl, x, dx, _, rfl, s1 _ _ hL.1, rfl, _, rfl, x, dx, lt, n, tvs, ps, r.p, rfl, ⟨s1 _ _ hL.1, s1 _ _ hL.2.1, Lns.same s1 hL.2.2⟩, hlen, fun H2 D2 s2 hD2 => ?_⟩
          have s3 := (s1.trans s2).new (o := .lst (ixV Prod.fst ps r.p ps.length)) hD2
          have g2 : (upd H2 D2 (.lst (ixV Prod.fst ps r.p ps.length))) D2 = some (.lst (ixV Prod.fst ps r.p ps.length)) := upd_same
          generalize upd H2 D2 (.lst (ixV Prod.fst ps r.p ps.length)) = H3 at s3 g2 ⊢
          refine ⟨_, rfl, t, _, 3, _, rfl, rfl, SqT.of (s3 _ _ hT), atI_nat (j := 3) rfl, l, rfl, ⟨_, SqL.of (s3 _ _ hl)⟩, ?_⟩
          refine comp_lst (xs := natV r.s) (fun _ => true) (fun v => match v with | .int i => .bl (decide (i ∈ iz (ixM Prod.fst ps r.p))) | _ => .non) (by rw [PySem.sizeLine_eq]; simp only [natV, List.length_map]; omega) (SqL.of (s3 _ _ hl)) (fun y acc N hy h => ?_) (fun D hD => ?_)
          · obtain ⟨k', _, rfl⟩ := List.mem_map.mp hy
            exact ⟨_, rfl, _, rfl, (k' : Int), D2, iz (ixM Prod.fst ps r.p), rfl, by rw [← ixV_iz]; exact SqL.of g2, by simpa using h⟩
          · rw [all_bls]
            refine ⟨D, r.s.map fun k => decide (k ∈ ixM Prod.fst ps r.p), rfl, SqL.of upd_same, ?_⟩
            have := q _ (s3.new (o := .lst ((r.s.map fun k => decide (k ∈ ixM Prod.fst ps r.p)).map V.bl)) hD)
            rw [e1] at this
            rw [all_id]
            exact this
end
end K73
namespace K73
open PySem L2
/-! ### tables -/
structure Ts where
  tab : Addr
  told : Addr
  ne : Addr
def spTab (K : PySem.W.Frag) : Sp := fun vs H Q _ => ∃ (x C dx : Addr) (lv : V), vs = [.ref x, lv] ∧ H x = some (.ins C dx []) ∧ Cls K C ∧ NoAttr K C "land" ∧ Q .non (upd H x (.ins C dx [("land", lv)]))
def spTabW : Sp := fun vs H Q _ => ∃ a b c d : V, vs = [a, b, c, d] ∧ ∀ p, H p = none → Q (.ref p) (upd H p (.lst []))
def setV (r : Rw) : V := .int (Yd.setN r.s 0 : Nat)
def spTold (P : Program) (w : World) (K : PySem.W.Frag) (c : Cs) (ts : Ts) : Sp := fun vs H Q E => ∃ (x dx lx ldx lt p : Addr) (n : Int) (tvs rvs : List V) (ps : List (Int × Int)) (rs : List Rw),
  vs = [.ref x, .ref lx, .ref p] ∧ H x = some (.ins ts.told dx []) ∧ LandAt H c lx ldx lt n tvs ps ∧ SqL K H p rvs ∧ Rws H rvs rs ∧ rvs.length ≤ 100000 ∧ ps.length ≤ 1000 ∧ (∀ r ∈ rs, (∀ k ∈ r.s, k ≤ 1000) ∧ r.s.length ≤ 1000) ∧
  (∀ i, firstBad n ps rs rs.length = some i → ∀ H' d, Off x H H' → H' d = some (.xd [("row", .int i)]) → E (.ref ts.ne) (some d) H') ∧
  (firstBad n ps rs rs.length = none → ∀ H' de kvs, Off x H H' → H' x = some (.ins ts.told dx [("land", .ref lx), ("entries", .ref de)]) → DicAt P w H' de kvs → (∀ k, valO kvs k = (lastR rs k).map setV) → Q .non H')
def spToldW (P : Program) (w : World) (ts : Ts) : Sp := fun vs H Q _ => ∃ (x dx de : Addr) (lv : V) (kvs : List Ent) (r : Rw) (m : Nat), vs = [.ref x, .int r.p, .int r.g, cV r.c] ∧ H x = some (.ins ts.told dx [("land", lv), ("entries", .ref de)]) ∧ DicAt P w H de kvs ∧
  (valO kvs (keyOf r)).getD (.int 0) = .int m ∧ m < 2 ^ 400 ∧ ∀ H' D, Same H H' → H' D = none → Q (.ref D) (upd H' D (.lst (memV m)))
structure Tbl (K : PySem.W.Frag) (mg : Str → Option Value) (ts : Ts) (f1 f2 : Addr) (d1 d2 : FuncData) : Prop where
  ct : Cls K ts.tab
  nt : NoAttr K ts.tab "land"
  cd : Cls K ts.told
  nd1 : NoAttr K ts.told "land"
  nd2 : NoAttr K ts.told "entries"
  mt : mg "Table" = some (.ref ts.tab)
  cm : CMeth K ts.tab "__init__" f1
  bt : Binds K d1 ["self", "land"] []
  mne : mg "NoEntry" = some (.ref ts.ne)
  xne : excInI K ts.ne (some (.ref f2)) = true
  kne : PySem.W.keepIn K (.ref ts.ne) = true
  cne : XCls K ts.ne
  nne : PySem.W.findIn K (.ref ts.ne) "row" = some none
  ine : PySem.W.isFn K (.ref f2) = true
  Fne : Fun K "__init__" "NoEntry.__init__" sNE f2 d2
  bne : Binds K d2 ["self", "row"] []
abbrev NT : List Str := ["self", "land", "rows", "number", "row", "key"]
theorem Off.land {H H' : Hp} {x C dx : Addr} (o : Off x H H') (hx : H x = some (.ins C dx [])) {c : Cs} {lx ldx lt : Addr} {n : Int} {tvs : List V} {ps : List (Int × Int)} (h : LandAt H c lx ldx lt n tvs ps) : LandAt H' c lx ldx lt n tvs ps :=
  ⟨o _ _ (ne_of h.1 hx (by intro z; cases z)) h.1, o _ _ (ne_of h.2.1 hx (by intro z; cases z)) h.2.1, o.lns hx h.2.2⟩
section
variable {P : Program} {w : World} {K : PySem.W.Frag} {mg : Str → Option Value} {base : Heap}
theorem scNE : FnScope ["self", "row"] ["self", "row"] (defScope sNE) := ⟨rfl, rfl, rfl, by decide +kernel, rfl, by decide +kernel, by decide +kernel⟩
theorem ok_ne {f : Addr} {fd : FuncData} (F : Fun K "__init__" "NoEntry.__init__" sNE f fd) : FnOk P w K mg base CX0 1 f fd ["self", "row"] (spXi K "row") := by
  refine F.ok scNE (fun vs H Q E h => ?_) (fun cdv A outer s H vs Q E hr h => ?_)
  · obtain ⟨e, C, tt, v, rfl, _⟩ := h
    rfl
  · obtain ⟨e, C, tt, v, rfl, h1, h2, h3, q⟩ := h
    refine ⟨_, pss_one (ps_fldX (pv 0) (pv 1) rfl), ?_⟩
    exact ⟨_, rfl, _, rfl, e, C, tt, rfl, h1, h2, h3, q⟩
theorem scTab : FnScope ["self", "land"] ["self", "land"] (defScope sTab) := ⟨rfl, rfl, rfl, by decide +kernel, rfl, by decide +kernel, by decide +kernel⟩
theorem ok_tab {f : Addr} {fd : FuncData} (F : Fun K "__init__" "Table.__init__" sTab f fd) : FnOk P w K mg base CX0 1 f fd ["self", "land"] (spTab K) := by
  refine F.ok scTab (fun vs H Q E h => ?_) (fun cdv A outer s H vs Q E hr h => ?_)
  · obtain ⟨x, C, dx, lv, rfl, _⟩ := h
    rfl
  · obtain ⟨x, C, dx, lv, rfl, hx, hc, hn, q⟩ := h
    refine ⟨_, pss_one (ps_fld (pv 0) (pv 1) rfl), ?_⟩
    exact ⟨_, rfl, _, rfl, x, C, dx, _, rfl, hx, hc, hn, by show 0 < 1000; decide, q⟩
theorem scToldW : FnScope ["self", "place", "goal", "came"] ["self", "place", "goal", "came"] (defScope sToldW) := ⟨rfl, rfl, rfl, by decide +kernel, rfl, by decide +kernel, by decide +kernel⟩
theorem ok_toldW {ts : Ts} {f fm f1 f2 : Addr} {fd dm d1 d2 : FuncData} (F : Fun K "ways" "Told.ways" sToldW f fd) (B : Tbl K mg ts f1 f2 d1 d2) (mm : mg "members" = some (.ref fm)) (km : PySem.W.keepIn K (.ref fm) = true) (bm : Binds K dm ["some"] [])
    (Gm : FnOk P w K mg base CX0 2 fm dm ["some"] spMem) : FnOk P w K mg base CX0 3 f fd ["self", "place", "goal", "came"] (spToldW P w ts) := by
  refine F.ok scToldW (fun vs H Q E h => ?_) (fun cdv A outer s H vs Q E hr h => ?_)
  · obtain ⟨x, dx, de, lv, kvs, r, m, rfl, _⟩ := h
    rfl
  · obtain ⟨x, dx, de, lv, kvs, r, m, rfl, hx, hd, hv, hm, q⟩ := h
    have hu := hu_of hr
    refine ⟨_, pss_one (ps_ret (pe_call Gm hr rfl mm km bm .nil pass0 (pa_cons (pe_oget2 hu (pe_fld (pv 0) rfl) (pa_cons (pe_tup (pa_cons (pv 1) (pa_cons (pv 2) (pa_cons (pv 3) pa_nil)))) (pa_cons pe_int pa_nil))) pa_nil))), ?_⟩
    refine ⟨_, rfl, x, ts.told, dx, _, _, rfl, hx, B.cd, B.nd2, rfl, de, kvs, rfl, hd, ?_⟩
    refine ⟨_, rfl, _, rfl, _, rfl, by show 3 ≤ sizeLine; decide, fun t ht => ?_⟩
    have s1 : Same H (upd H t (.tup [.int r.p, .int r.g, cV r.c])) := (Same.refl H).new ht
    refine ⟨_, _, valO kvs (keyOf r), rfl, ⟨kvs, keyOf r, t, hd.same s1, rfl, by rw [key_tup]; exact upd_same, rfl⟩, ?_⟩
    rw [hv]
    exact ⟨m, rfl, hm, fun D hD => q _ D s1 hD⟩
theorem scTold : FnScope NT ["self", "land", "rows"] (defScope sTold) := ⟨rfl, rfl, rfl, by decide +kernel, rfl, by decide +kernel, by decide +kernel⟩
theorem ok_told {c : Cs} {ts : Ts} {f ff fs f1 f2 : Addr} {fd df ds d1 d2 : FuncData} (F : Fun K "__init__" "Told.__init__" sTold f fd) (T : Txt mg) (B : Tbl K mg ts f1 f2 d1 d2) (G1 : FnOk P w K mg base CX0 1 f1 d1 ["self", "land"] (spTab K))
    (mf : mg "row_fits" = some (.ref ff)) (kf : PySem.W.keepIn K (.ref ff) = true) (bf : Binds K df ["land", "row"] []) (Gf : FnOk P w K mg base CX0 4 ff df ["land", "row"] (spFits c))
    (ms : mg "set_of" = some (.ref fs)) (ks : PySem.W.keepIn K (.ref fs) = true) (bs : Binds K ds ["numbers"] []) (Gs : FnOk P w K mg base CX0 1 fs ds ["numbers"] (spSet K)) :
    FnOk P w K mg base (CXe P w) 5 f fd ["self", "land", "rows"] (spTold P w K c ts) := by
  have Gn : FnOk P w K mg base CX0 1 f2 d2 ["self", "row"] (spXi K "row") := ok_ne B.Fne
  refine F.okX scTold (fun vs H Q E h => ?_) (fun cdv A outer s H vs Q E hr h => ?_)
  · obtain ⟨x, dx, lx, ldx, lt, p, n, tvs, rvs, ps, rs, rfl, _⟩ := h
    rfl
  · obtain ⟨x, dx, lx, ldx, lt, p, n, tvs, rvs, ps, rs, rfl, hx, hL, hp, hR, hlen, hps, hsm, hE, hQ⟩ := h
    have hr1 : Room 1 _ := hr.mono (by decide)
    have hr2 : Room 2 _ := hr.mono (by decide)
    have hu := hu_of hr
    refine ⟨_, pss_cons (ps_expr (pe_cmeth (pe_glob (v := .ref ts.tab) rfl B.mt rfl) B.cm G1 hr1 B.bt .nil pass0 (pa_cons (pv 0) (pa_cons (pv 1) pa_nil))))
      (pss_cons (ps_fld (pv 0) (show PE _ _ (tONew P w) from pe_onew) rfl)
      (pss_one (ps_for own_def rfl (pi_enumL rfl T.enum (pa_cons (pv 2) pa_nil)) (pg_tup rfl (pgs_cons (pg_name (i := 3) scTold.nd rfl (Or.inl rfl)) (pgs_cons (pg_name (i := 4) scTold.nd rfl (Or.inl rfl)) pgs_nil)))
        (pss_cons (ps_set (i := 5) scTold.nd rfl (Or.inl rfl) (pe_tup (pa_cons (pe_ix ix_tup (pv 4) pe_int (fun _ _ => rfl)) (pa_cons (pe_ix ix_tup (pv 4) pe_int (fun _ _ => rfl)) (pa_cons (pe_ix ix_tup (pv 4) pe_int (fun _ _ => rfl)) pa_nil)))))
        (pss_cons (ps_if (PW.pt (pw_or (pt_not (pt_val (pe_call Gf hr rfl mf kf bf .nil pass0 (pa_cons (pv 1) (pa_cons (pv 4) pa_nil))))) (pw_or1 (pt_cmp (pc_oin hu (pv 5) (pe_fld (pv 0) rfl))))))
          (pss_one (ps_raise rfl B.xne passX_def (px_init B.xne B.ine B.kne Gn hr2 B.bne rfl B.mne (pa_cons (pv 3) pa_nil)))) pss_nil)
        (pss_one (ps_oput hu (pe_fld (pv 0) rfl) (pv 5) (pe_call Gs hr1 rfl ms ks bs .nil pass0 (pa_cons (pe_ix ix_tup (pv 4) pe_int (fun _ _ => rfl)) pa_nil)) rfl))))))), ?_⟩
    -- the land is stored
    refine ⟨rfl, _, rfl, _, rfl, x, ts.told, dx, _, rfl, hx, B.cd, B.nd1, ?_⟩
    -- an empty dict is stored
    refine fun de hde => ⟨_, rfl, x, ts.told, dx, [("land", .ref lx)], rfl, by rw [upd_ne (ne_of_none upd_same hde)]; exact upd_same, B.cd, B.nd2, by show 1 < 1000; decide, ?_⟩
    have nde : x ≠ de := ne_of_none upd_same hde
    have hde0 : H de = none := by rw [upd_ne (Ne.symm nde)] at hde; exact hde
    generalize hH2 : upd (upd (upd H x (.ins ts.told dx [("land", .ref lx)])) de (DicO P w de [])) x (.ins ts.told dx (putF "entries" (.ref de) [("land", .ref lx)])) = H2
    have o2 : Off x H H2 := fun b o hb e => by rw [← hH2, upd_ne hb, upd_ne (ne_of_none e hde0), upd_ne hb]; exact e
    have x2 : H2 x = some (.ins ts.told dx [("land", .ref lx), ("entries", .ref de)]) := by rw [← hH2, upd_same]; rfl
    have d2 : DicAt P w H2 de [] := ⟨by rw [← hH2, upd_ne (Ne.symm nde), upd_same], fun y hy => by cases hy⟩
    have hrs : rvs.length = rs.length := Paired.length hR
    refine ⟨_, rfl, p, rfl, ⟨_, o2.sq hx hp⟩, for_enum (sq := fun H => SqL K H p) (xs := rvs) (fun i σ H3 => ∃ (a b k : Option V) (kvs : List Ent), Off x H H3 ∧ H3 x = some (.ins ts.told dx [("land", .ref lx), ("entries", .ref de)]) ∧ DicAt P w H3 de kvs ∧ kvs.length ≤ i ∧
        (∀ k, valO kvs k = (lastR (rs.take i) k).map setV) ∧ (∀ j, j < i → badL n ps (rs.take j) (rs.getD j ⟨0, 0, none, []⟩) = false) ∧ σ = [some (.ref x), some (.ref lx), some (.ref p), a, b, k])
      ⟨none, none, none, [], o2, x2, d2, Nat.le_refl _, fun k => rfl, fun j hj => absurd hj (Nat.not_lt_zero _), rfl⟩ (fun i σ H3 _ ⟨_, _, _, _, o3, _⟩ => o3.sq hx hp) ?_ ?_⟩
    · rintro i v q σ H3 hv ⟨a, b, k, kvs, o3, x3, d3, l3, v3, g3, rfl⟩ hq
      obtain ⟨r, hri, t, l, rfl, hT⟩ := Rws.get hR hv
      have hi : i < rs.length := (List.getElem?_eq_some_iff.mp hri).1
      have egd : rs.getD i ⟨0, 0, none, []⟩ = r := by rw [List.getD_eq_getElem?_getD, hri]; rfl
      have hT3 : RwT H3 t l r := ⟨o3 _ _ (ne_of hT.1 hx (by intro z; cases z)) hT.1, o3 _ _ (ne_of hT.2 hx (by intro z; cases z)) hT.2⟩
      have hL3 := o3.land hx hL
      have s4 : Same H3 (upd H3 q (.tup [.int i, .ref t])) := (Same.refl H3).new hq
      refine ⟨q, _, rfl, SqT.of upd_same, rfl, _, _, rfl, _, _, rfl, rfl, ?_⟩
      generalize upd H3 q (.tup [.int i, .ref t]) = H4 at s4 ⊢
      have hT4 : SqT K H4 t [.int r.p, .int r.g, cV r.c, .ref l] := SqT.of (s4 _ _ hT3.1)
      refine ⟨_, rfl, t, _, 0, _, rfl, rfl, hT4, atI_nat (j := 0) rfl, _, rfl, t, _, 1, _, rfl, rfl, hT4, atI_nat (j := 1) rfl, _, rfl, t, _, 2, _, rfl, rfl, hT4, atI_nat (j := 2) rfl, by show 3 ≤ sizeLine; decide, fun kt hkt => ?_⟩
      have s5 : Same H3 (upd H4 kt (.tup [.int r.p, .int r.g, cV r.c])) := s4.new hkt
      have k5 : (upd H4 kt (.tup [.int r.p, .int r.g, cV r.c])) kt = some (.tup ((keyOf r).map okV)) := by rw [key_tup]; exact upd_same
      generalize upd H4 kt (.tup [.int r.p, .int r.g, cV r.c]) = H5 at s5 k5 ⊢
      refine ⟨_, rfl, _, rfl, lx, ldx, lt, t, l, n, tvs, ps, r, rfl, ⟨s5 _ _ hL3.1, s5 _ _ hL3.2.1, Lns.same s5 hL3.2.2⟩, hT3.same s5, hps, (hsm r (List.mem_of_getElem? hri)).2, fun H6 s56 => ⟨_, rfl, ?_⟩⟩
      have s6 := s5.trans s56
      have k6 := s56 _ _ k5
      have x6 := s6 _ _ x3
      have d6 := d3.same s6
      have flown : badL n ps (rs.take i) r = true → ∀ e tt, H6 e = none → ∀ d, upd H6 e (ExcAt e ts.ne tt none) d = none →
          ∃ dd, (upd (upd (upd H6 e (ExcAt e ts.ne tt none)) d (.xd [("row", .int i)])) e (ExcAt e ts.ne tt (some d))) e = some (ExcAt e ts.ne tt dd) ∧ E (.ref ts.ne) dd (del (upd (upd (upd H6 e (ExcAt e ts.ne tt none)) d (.xd [("row", .int i)])) e (ExcAt e ts.ne tt (some d))) e) := by
        intro hb e tt he d hd
        obtain ⟨m1, m2, m3⟩ := made_heap (o := ExcAt e ts.ne tt none) (o' := ExcAt e ts.ne tt (some d)) (x := .xd [("row", .int i)]) he hd
        exact ⟨some d, m3, hE i (firstBad_some hi g3 (by rw [egd]; exact hb)) _ d (o3.same (s6.trans m1)) m2⟩
      cases hf : fits n ps r with
      | false =>
        refine iteT (iteT ⟨_, rfl, by show 1 ≤ sizeLine; decide, fun e tt he => ⟨e, _, tt, _, rfl, upd_same, B.cne, B.nne, fun d hd => ⟨rfl, ?_⟩⟩⟩)
        exact flown (by rw [bad_fits, hf]; rfl) e tt he d hd
      | true =>
        refine iteF ⟨_, rfl, _, rfl, x, ts.told, dx, _, _, rfl, x6, B.cd, B.nd2, rfl, de, _, rfl, ⟨kvs, keyOf r, kt, d6, rfl, k6, rfl⟩, _, rfl, ?_⟩
        have eS : (valO kvs (keyOf r)).isSome = (rs.take i).any fun a => decide (keyOf a = keyOf r) := by rw [v3, Option.isSome_map, lastR_isSome]
        cases hS : (valO kvs (keyOf r)).isSome with
        | true =>
          refine iteT ⟨_, rfl, by show 1 ≤ sizeLine; decide, fun e tt he => ⟨e, _, tt, _, rfl, upd_same, B.cne, B.nne, fun d hd => ⟨rfl, ?_⟩⟩⟩
          exact flown (by rw [bad_fits, hf, ← eS, hS]; rfl) e tt he d hd
        | false =>
          refine iteF ?_
          have hT6 := hT3.same s6
          refine ⟨_, rfl, t, _, 3, _, rfl, rfl, SqT.of hT6.1, atI_nat (j := 3) rfl, l, r.s, rfl, SqL.of hT6.2, (hsm r (List.mem_of_getElem? hri)).1, ?_⟩
          refine ⟨_, rfl, x, ts.told, dx, _, _, rfl, x6, B.cd, B.nd2, rfl, _, rfl, de, kvs, keyOf r, kt, rfl, d6, rfl, k6, by rw [PySem.sizeLine_eq]; omega, ?_⟩
          have hx6 : x ≠ de := nde
          refine ⟨_, _, _, putO kvs (keyOf r) kt (setV r), fun b' o hb e => ?_, ?_, ⟨upd_same, putO_keys (F := fun k a => (upd H6 de (DicO P w de (putO kvs (keyOf r) kt (setV r)))) a = some (.tup (k.map okV))) (fun y hy => ?_) ?_⟩, ?_, fun k' => ?_, fun j hj => ?_, rfl⟩
          · rw [upd_ne (ne_of_none e hde0)]; exact s6 _ _ (o3 _ _ hb e)
          · rw [upd_ne nde]; exact x6
          · rw [upd_ne (ne_of (d6.2 y hy) d6.1 (by intro z; cases z))]; exact d6.2 y hy
          · rw [upd_ne (ne_of k6 d6.1 (by intro z; cases z))]; exact k6
          · exact Nat.le_trans putO_length (Nat.succ_le_succ l3)
          · rw [valO_put, List.take_succ, hri, Option.toList_some, lastR_snoc, v3]
            by_cases hk : k' = keyOf r
            · rw [if_pos hk, if_pos hk]; rfl
            · rw [if_neg hk, if_neg hk]
          · rcases Nat.lt_or_ge j i with h | h
            · exact g3 j h
            · have : j = i := by omega
              subst this
              rw [egd, bad_fits, hf, ← eS, hS]; rfl
    · rintro σ H3 ⟨a, b, k, kvs, o3, x3, d3, l3, v3, g3, rfl⟩
      rw [hrs] at g3 v3
      rw [List.take_length] at v3
      exact hQ (firstBad_none g3) H3 de kvs o3 x3 d3 v3
end
end K73
namespace K73
open PySem L2
theorem okP_next {n a e : Int} (h1 : 0 ≤ a) (h2 : a < n) (h3 : 0 ≤ e) (h4 : e < n - 1) : okP n (a, (a + 1 + e) % n) = true := by
  have hb : (a + 1 + e) % n = if a + 1 + e < n then a + 1 + e else a + 1 + e - n := by
    split
    · exact Int.emod_eq_of_lt (by omega) (by omega)
    · rw [← Int.sub_emod_right, Int.emod_eq_of_lt (by omega) (by omega)]
  unfold okP
  dsimp only
  rw [hb]
  simp only [Bool.and_eq_true, decide_eq_true_eq, Bool.not_eq_true', decide_eq_false_iff_not]
  split <;> omega
/-- a list is changed, the lanes stay -/
theorem lns_off {H : Hp} {l : Addr} {xs : List V} {o : HO} (hl : H l = some (.lst xs)) : ∀ {vs : List V} {ps : List (Int × Int)}, Lns H vs ps → Lns (upd H l o) vs ps
  | _, _, .nil => .nil
  | _, _, .cons ⟨t, e, q⟩ r => .cons ⟨t, e, by rw [upd_ne (ne_of q hl (by intro z; cases z))]; exact q⟩ (lns_off hl r)
def noScope : Scope := { kind := .function, names := [], isGenerator := false, isCoroutine := false }
def asgScope (s : Stmt) : Scope := match s with
  | .Assign _ (.ListComp _ _ sc _) _ => sc
  | _ => noScope
def catScope (s : Stmt) : Scope := match s with
  | .Assign _ (.BinOp _ _ (.ListComp _ _ sc _) _) _ => sc
  | _ => noScope
theorem ixM_le {sel : Int × Int → Int} {ps : List (Int × Int)} {pl : Int} {k : Nat} (h : k ∈ ixM sel ps pl) : k < ps.length := List.mem_range.mp (List.mem_filter.mp h).1
theorem ixM_len (sel : Int × Int → Int) (ps : List (Int × Int)) (pl : Int) : (ixM sel ps pl).length ≤ ps.length := by
  have := List.length_filter_le (fun k => decide (sel (ps.getD k (0, 0)) = pl)) (List.range ps.length)
  rw [List.length_range] at this
  exact this
/-- the numbers of the lanes with an end at a place -/
theorem comp_ix {sel : Int × Int → Int} {ps : List (Int × Int)} {pl : Int} {g : TG} {tt : TT} {te : TE} {σ0 : St} {H : Hp} {Q : VK} (hn : ps.length < sizeLine)
    (hs : ∀ (i : Nat) (acc : List V) (N : List V → Hp → Prop) (pr : Int × Int), ps[i]? = some pr → N (if decide (sel pr = pl) = true then acc ++ [V.int i] else acc) H → g (.int i) σ0 H fun σ2 H2 => tt σ2 H2 fun b H3 => if b = true then te σ2 H3 fun y H4 => N (acc ++ [y]) H4 else N acc H3)
    (hq : ∀ D, H D = none → Q (.ref D) (upd H D (.lst (natV (ixM sel ps pl))))) : CompR (Itr 0 ps.length) g tt te σ0 Q H := by
  refine comp_rng (lo := 0) (fun k => decide (sel (ps.getD k (0, 0)) = pl)) (fun k => V.int k) hn (fun i acc N hi h => ?_) hq
  obtain ⟨pr, hpr⟩ : ∃ pr, ps[i]? = some pr := ⟨ps[i], List.getElem?_eq_getElem hi⟩
  have eg : ps.getD i (0, 0) = pr := by rw [List.getD_eq_getElem?_getD, hpr]; rfl
  rw [Int.zero_add]
  rw [eg] at h
  exact hs i acc N pr hpr h
/-- a row whose list is not the one at x -/
def RwX (x : Addr) (H : Hp) (v : V) (r : Rw) : Prop := ∃ t l, v = .ref t ∧ RwT H t l r ∧ l ≠ x
abbrev Rxs (x : Addr) (H : Hp) : List V → List Rw → Prop := Paired (RwX x H)
theorem Rxs.imp {x : Addr} {H H' : Hp} {G : V → Rw → Prop} (h : ∀ v r, RwX x H v r → G v r) : ∀ {vs : List V} {rs : List Rw}, Rxs x H vs rs → Paired G vs rs
  | _, _, .nil => .nil
  | _, _, .cons z r => .cons (h _ _ z) (Rxs.imp (H' := H') h r)
theorem Rxs.rws {x : Addr} {H : Hp} {vs : List V} {rs : List Rw} (h : Rxs x H vs rs) : Rws H vs rs := Rxs.imp (H' := H) (fun _ _ ⟨t, l, e, z, _⟩ => ⟨t, l, e, z⟩) h
theorem Rxs.same {x : Addr} {H H' : Hp} (s : Same H H') {vs : List V} {rs : List Rw} (h : Rxs x H vs rs) : Rxs x H' vs rs := Rxs.imp (H' := H) (fun _ _ ⟨t, l, e, z, n⟩ => ⟨t, l, e, z.same s, n⟩) h
/-- the list at x is changed -/
theorem Rxs.off {x : Addr} {H : Hp} {xs : List V} {o : HO} (hx : H x = some (.lst xs)) {vs : List V} {rs : List Rw} (h : Rxs x H vs rs) : Rxs x (upd H x o) vs rs :=
  Rxs.imp (H' := H) (fun _ _ ⟨t, l, e, z, n⟩ => ⟨t, l, e, ⟨by rw [upd_ne (ne_of z.1 hx (by intro z; cases z))]; exact z.1, by rw [upd_ne n]; exact z.2⟩, n⟩) h
theorem Rxs.snoc {x : Addr} {H : Hp} {v : V} {r : Rw} (h : RwX x H v r) : ∀ {vs : List V} {rs : List Rw}, Rxs x H vs rs → Rxs x H (vs ++ [v]) (rs ++ [r])
  | _, _, .nil => .cons h .nil
  | _, _, .cons z t => .cons z (Rxs.snoc h t)
abbrev TIn := Hp → Addr → (Oks → Nat) → Prop
def spWays (J : TIn) : Sp := fun vs H Q _ => ∃ (x : Addr) (wy : Oks → Nat) (r : Rw), vs = [.ref x, .int r.p, .int r.g, cV r.c] ∧ J H x wy ∧ ∀ H' D, Same H H' → H' D = none → Q (.ref D) (upd H' D (.lst (memV (wy (keyOf r)))))
structure Way (K : PySem.W.Frag) (C fw : Addr) (dw : FuncData) (J : TIn) : Prop where
  cl : Cls K C
  m : Meth K C "ways" fw
  b : Binds K dw ["self", "place", "goal", "came"] []
  inst : ∀ H x wy, J H x wy → ∃ dx fs, H x = some (.ins C dx fs) ∧ fs.lookup ("ways" : Str) = none
  stay : ∀ H H' x wy, J H x wy → Same H H' → J H' x wy
def wayOf (rs : List Rw) (k : Oks) : Nat := match lastR rs k with
  | some r => Yd.setN r.s 0
  | none => 0
theorem last_mem {rs : List Rw} {k : Oks} {r : Rw} (h : lastR rs k = some r) : r ∈ rs := List.mem_reverse.mp (List.mem_of_find?_eq_some h)
def ToldAt (P : Program) (w : World) (ts : Ts) : TIn := fun H x wy => ∃ (dx de : Addr) (lv : V) (kvs : List Ent), H x = some (.ins ts.told dx [("land", lv), ("entries", .ref de)]) ∧ DicAt P w H de kvs ∧ ∀ k, (valO kvs k).getD (.int 0) = .int (wy k) ∧ wy k < 2 ^ 400
def TabAt (ts : Ts) : TIn := fun H x wy => ∃ (dx : Addr) (lv : V), H x = some (.ins ts.tab dx [("land", lv)]) ∧ ∀ k, wy k = 0
def pairD (p : Int × Int) : PyData := .tuple [.int p.1, .int p.2]
section
variable {P : Program} {w : World} {K : PySem.W.Frag} {mg : Str → Option Value} {base : Heap}
theorem told_ways {ts : Ts} {f : Addr} {fd : FuncData} (G : FnOk P w K mg base CX0 3 f fd ["self", "place", "goal", "came"] (spToldW P w ts)) : FnOk P w K mg base CX0 3 f fd ["self", "place", "goal", "came"] (spWays (ToldAt P w ts)) :=
  G.imp fun vs H Q E ⟨x, wy, r, e, ⟨dx, de, lv, kvs, h1, h2, h3⟩, q⟩ => ⟨x, dx, de, lv, kvs, r, wy (keyOf r), e, h1, h2, (h3 _).1, (h3 _).2, q⟩
end
/-! ### the rows that the law tells, and the starts -/
def cames (ps : List (Int × Int)) (p : Nat) : List (Option Nat) := none :: (ixM Prod.snd ps p).map some
abbrev Key := Int × Int × Option Nat
def keyN (r : Rw) : Key := (r.p, r.g, r.c)
def blockG (ps : List (Int × Int)) (p g : Nat) : List Key := if g = p then [] else (cames ps p).map fun c => ((p : Int), (g : Int), c)
def blockP (ps : List (Int × Int)) (n p : Nat) : List Key := (List.range n).flatMap fun g => blockG ps p g
def keysOf (ps : List (Int × Int)) (n m : Nat) : List Key := (List.range m).flatMap fun p => blockP ps n p
def okey (k : Key) : Oks := [some k.1, some k.2.1, k.2.2.map fun z : Nat => (z : Int)]
theorem okey_inj {k l : Key} (h : okey k = okey l) : k = l := by
  obtain ⟨a, b, c⟩ := k
  obtain ⟨a', b', c'⟩ := l
  simp only [okey, List.cons.injEq, Option.some.injEq, and_true] at h
  obtain ⟨rfl, rfl, h⟩ := h
  congr 2
  cases c <;> cases c' <;> simp_all <;> omega
structure RowsOk (n : Nat) (ps : List (Int × Int)) (rs : List Rw) : Prop where
  keys : rs.map keyN = keysOf ps n n
  lanes : ∀ r ∈ rs, (∀ k ∈ r.s, k ∈ ixM Prod.fst ps r.p) ∧ r.s.length ≤ ps.length
theorem cames_nodup (ps : List (Int × Int)) (p : Nat) : (cames ps p).Nodup := by
  unfold cames
  refine List.nodup_cons.mpr ⟨fun h => by simp at h, ?_⟩
  refine List.Pairwise.map _ (fun a b (h : a ≠ b) e => h (Option.some.inj e)) ?_
  exact List.Pairwise.filter _ (List.nodup_range)
theorem mem_blockG {ps : List (Int × Int)} {p g : Nat} {k : Key} (h : k ∈ blockG ps p g) : g ≠ p ∧ k.1 = p ∧ k.2.1 = g ∧ k.2.2 ∈ cames ps p := by
  unfold blockG at h
  by_cases e : g = p
  · rw [if_pos e] at h; cases h
  · rw [if_neg e] at h
    obtain ⟨c, hc, rfl⟩ := List.mem_map.mp h
    exact ⟨e, rfl, rfl, hc⟩
theorem mem_keys {ps : List (Int × Int)} {n m : Nat} {k : Key} (h : k ∈ keysOf ps n m) : ∃ p g : Nat, p < m ∧ g < n ∧ g ≠ p ∧ k.1 = p ∧ k.2.1 = g ∧ k.2.2 ∈ cames ps p := by
  unfold keysOf blockP at h
  obtain ⟨p, hp, h⟩ := List.mem_flatMap.mp h
  obtain ⟨g, hg, h⟩ := List.mem_flatMap.mp h
  obtain ⟨a, b, c, d⟩ := mem_blockG h
  exact ⟨p, g, List.mem_range.mp hp, List.mem_range.mp hg, a, b, c, d⟩
theorem keys_nodup (ps : List (Int × Int)) (n m : Nat) : (keysOf ps n m).Nodup := by
  unfold keysOf
  refine List.pairwise_flatMap.mpr ⟨fun p _ => ?_, ?_⟩
  · unfold blockP
    refine List.pairwise_flatMap.mpr ⟨fun g _ => ?_, ?_⟩
    · unfold blockG
      split
      · exact .nil
      · exact List.Pairwise.map _ (fun a b (h : a ≠ b) e => h (by simpa using e)) (cames_nodup ps p)
    · refine List.Pairwise.imp ?_ (List.pairwise_lt_range)
      intro g g' hg x hx y hy e
      subst e
      have h1 := (mem_blockG hx).2.2.1
      have h2 := (mem_blockG hy).2.2.1
      omega
  · refine List.Pairwise.imp ?_ (List.pairwise_lt_range)
    intro p p' hp x hx y hy e
    subst e
    unfold blockP at hx hy
    obtain ⟨g, _, hx⟩ := List.mem_flatMap.mp hx
    obtain ⟨g', _, hy⟩ := List.mem_flatMap.mp hy
    have h1 := (mem_blockG hx).2.1
    have h2 := (mem_blockG hy).2.1
    omega
theorem keys_succ (ps : List (Int × Int)) (n i : Nat) : keysOf ps n (i + 1) = keysOf ps n i ++ blockP ps n i := by
  unfold keysOf
  rw [List.range_succ, List.flatMap_append]
  simp
theorem block_succ (ps : List (Int × Int)) (p j : Nat) : blockP ps (j + 1) p = blockP ps j p ++ blockG ps p j := by
  unfold blockP
  rw [List.range_succ, List.flatMap_append]
  simp
theorem key_eq {a r : Rw} (h : keyOf a = keyOf r) : keyN a = keyN r := okey_inj h
/-- no row is bad -/
theorem rows_good {n : Nat} {ps : List (Int × Int)} {rs : List Rw} (h : RowsOk n ps rs) : firstBad n ps rs rs.length = none := by
  refine firstBad_none fun k hk => ?_
  have hr : rs[k]? = some rs[k] := List.getElem?_eq_getElem hk
  have egd : rs.getD k ⟨0, 0, none, []⟩ = rs[k] := by rw [List.getD_eq_getElem?_getD, hr]; rfl
  rw [egd, bad_fits]
  have hm : rs[k] ∈ rs := List.getElem_mem hk
  have hkey : keyN rs[k] ∈ keysOf ps n n := by rw [← h.keys]; exact List.mem_map.mpr ⟨_, hm, rfl⟩
  obtain ⟨p, g, hp, hg, hpg, e1, e2, e3⟩ := mem_keys hkey
  have e1 : rs[k].p = p := e1
  have e2 : rs[k].g = g := e2
  have e3 : rs[k].c ∈ cames ps p := e3
  have hfit : fits n ps rs[k] = true := by
    unfold fits
    have ho : okP n (rs[k].p, rs[k].g) = true := by
      unfold okP
      simp only [Bool.and_eq_true, decide_eq_true_eq, Bool.not_eq_true', decide_eq_false_iff_not]
      rw [e1, e2]
      refine ⟨⟨by omega, by omega⟩, ⟨by omega, by omega⟩, by omega⟩
    rw [ho, Bool.true_and]
    have hs : (rs[k].s.all fun z => decide (z ∈ ixM Prod.fst ps rs[k].p)) = true := by
      rw [List.all_eq_true]
      exact fun z hz => decide_eq_true ((h.lanes _ hm).1 z hz)
    rw [hs, Bool.and_true]
    cases hc : rs[k].c with
    | none => rfl
    | some z =>
      rw [hc] at e3
      rcases List.mem_cons.mp e3 with e | e
      · cases e
      · obtain ⟨z', hz, e⟩ := List.mem_map.mp e
        cases e
        show decide (z ∈ ixM Prod.snd ps rs[k].p) = true
        rw [e1]
        exact decide_eq_true hz
  rw [hfit]
  have hany : ((rs.take k).any fun a => decide (keyOf a = keyOf rs[k])) = false := by
    rw [List.any_eq_false]
    intro a ha hd
    have e := key_eq (of_decide_eq_true hd)
    obtain ⟨j, hj, ea⟩ := List.mem_take_iff_getElem.mp ha
    have nd : (rs.map keyN).Nodup := by rw [h.keys]; exact keys_nodup ps n n
    have hj' : j < k := by omega
    have := List.pairwise_iff_getElem.mp nd j k (by rw [List.length_map]; omega) (by rw [List.length_map]; exact hk) hj'
    rw [List.getElem_map, List.getElem_map, ea] at this
    exact this e
  rw [hany]; rfl
theorem last_of {rs : List Rw} (nd : (rs.map keyN).Nodup) {r : Rw} (hr : r ∈ rs) : lastR rs (keyOf r) = some r := by
  have hs : (lastR rs (keyOf r)).isSome = true := by
    rw [lastR_isSome, List.any_eq_true]
    exact ⟨r, hr, decide_eq_true rfl⟩
  obtain ⟨r', e⟩ := Option.isSome_iff_exists.mp hs
  have hm := last_mem e
  have hk : keyOf r' = keyOf r := by
    unfold lastR at e
    have := List.find?_some e
    exact of_decide_eq_true this
  have hN := key_eq hk
  rw [e]
  obtain ⟨i, hi, ei⟩ := List.getElem_of_mem hm
  obtain ⟨j, hj, ej⟩ := List.getElem_of_mem hr
  have hij : i = j := by
    rcases Nat.lt_trichotomy i j with h | h | h
    · exact absurd (by rw [List.getElem_map, List.getElem_map, ei, ej]; exact hN) (List.pairwise_iff_getElem.mp nd i j (by rw [List.length_map]; exact hi) (by rw [List.length_map]; exact hj) h)
    · exact h
    · exact absurd (by rw [List.getElem_map, List.getElem_map, ei, ej]; exact hN.symm) (List.pairwise_iff_getElem.mp nd j i (by rw [List.length_map]; exact hj) (by rw [List.length_map]; exact hi) h)
  subst hij
  rw [← ei, ej]
def isStart (wy : Oks → Nat) (p g : Nat) : Bool := !decide (wy [some (p : Int), some (g : Int), none] = 0)
def rowStarts (wy : Oks → Nat) (p m : Nat) : List (Int × Int) := ((List.range m).filter fun g => isStart wy p g).map fun g : Nat => ((p : Int), (g : Int))
def startsOf (wy : Oks → Nat) (n m : Nat) : List (Int × Int) := (List.range m).flatMap fun p => rowStarts wy p n
theorem starts_succ (wy : Oks → Nat) (n i : Nat) : startsOf wy n (i + 1) = startsOf wy n i ++ rowStarts wy i n := by
  unfold startsOf
  rw [List.range_succ, List.flatMap_append]
  simp
theorem row_succ (wy : Oks → Nat) (p j : Nat) : rowStarts wy p (j + 1) = if isStart wy p j then rowStarts wy p j ++ [((p : Int), (j : Int))] else rowStarts wy p j := by
  unfold rowStarts
  rw [List.range_succ, List.filter_append]
  cases h : isStart wy p j with
  | true => simp [h]
  | false => simp [h]
theorem row_len (wy : Oks → Nat) (p m : Nat) : (rowStarts wy p m).length ≤ m := by
  unfold rowStarts
  rw [List.length_map]
  exact Nat.le_trans (List.length_filter_le _ _) (by rw [List.length_range]; exact Nat.le_refl _)
theorem starts_len (wy : Oks → Nat) (n : Nat) : ∀ m, (startsOf wy n m).length ≤ m * n
  | 0 => by simp [startsOf]
  | m + 1 => by
    rw [starts_succ, List.length_append, Nat.succ_mul]
    have := starts_len wy n m
    have := row_len wy m n
    omega
end K73
namespace K73
/-! ### lanes ahead: the rounds -/
abbrev As := List (Nat × Option Nat)
def addW (l : Option Nat) (a : As) (ws : List Nat) : As := ws.foldl (fun a x => if x ∈ a.map (·.1) then a else a ++ [(x, l)]) a
def runA (on : Nat → List Nat) : Nat → As → Nat → As
  | 0, a, _ => a
  | f + 1, a, i => match a[i]? with
    | some x => runA on f (addW (some x.1) a (on x.1)) (i + 1)
    | none => a
structure Aok (L : Nat) (a : As) : Prop where
  nd : (a.map (·.1)).Nodup
  lt : ∀ x ∈ a, x.1 < L
theorem nodup_le : ∀ (n : Nat) (l : List Nat), l.Nodup → (∀ x ∈ l, x < n) → l.length ≤ n
  | 0, l, _, h => by
    cases l with
    | nil => exact Nat.le_refl _
    | cons x l => exact absurd (h x List.mem_cons_self) (Nat.not_lt_zero _)
  | n + 1, l, hn, h => by
    by_cases hm : n ∈ l
    · have e := List.length_erase_of_mem hm
      have := nodup_le n (l.erase n) (hn.erase n) fun x hx => by
        have hx' := (hn.mem_erase_iff).mp hx
        have := h x hx'.2
        have := hx'.1
        omega
      omega
    · have := nodup_le n l hn fun x hx => by
        have := h x hx
        have : x ≠ n := fun z => hm (by rw [← z]; exact hx)
        omega
      omega
theorem Aok.few {L : Nat} {a : As} (h : Aok L a) : a.length ≤ L := by
  have := nodup_le L (a.map (·.1)) h.nd fun x hx => by
    obtain ⟨y, hy, rfl⟩ := List.mem_map.mp hx
    exact h.lt y hy
  rwa [List.length_map] at this
theorem Aok.add {L : Nat} {a : As} {l : Option Nat} {x : Nat} (h : Aok L a) (hx : x < L) (hn : x ∉ a.map (·.1)) : Aok L (a ++ [(x, l)]) where
  nd := by
    rw [List.map_append, List.nodup_append]
    refine ⟨h.nd, by simp, fun y hy c hc => ?_⟩
    have hc : c = x := by simpa using hc
    intro z
    rw [z, hc] at hy
    exact hn hy
  lt := fun y hy => by
    rcases List.mem_append.mp hy with hy | hy
    · exact h.lt y hy
    · rw [List.mem_singleton.mp hy]; exact hx
theorem addW_nil (l : Option Nat) (a : As) : addW l a [] = a := rfl
theorem addW_snoc (l : Option Nat) (a : As) (ws : List Nat) (x : Nat) : addW l a (ws ++ [x]) = if x ∈ (addW l a ws).map (·.1) then addW l a ws else addW l a ws ++ [(x, l)] := by
  unfold addW
  rw [List.foldl_append]; rfl
theorem runA_end {on : Nat → List Nat} {a : As} {i : Nat} (h : a[i]? = none) : ∀ f, runA on f a i = a
  | 0 => rfl
  | f + 1 => by unfold runA; rw [h]
theorem runA_step {on : Nat → List Nat} {a : As} {i f : Nat} {x : Nat × Option Nat} (h : a[i]? = some x) : runA on (f + 1) a i = runA on f (addW (some x.1) a (on x.1)) (i + 1) := by
  rw [runA, h]
end K73
namespace K73
open PySem L2
def spStarts (c : Cs) (C : Addr) (J : TIn) : Sp := fun vs H Q _ => ∃ (x dx lx ldx lt : Addr) (fs : List (Str × V)) (n : Nat) (tvs : List V) (ps : List (Int × Int)) (wy : Oks → Nat), vs = [.ref x] ∧ J H x wy ∧ H x = some (.ins C dx fs) ∧ fs.lookup ("land" : Str) = some (.ref lx) ∧ LandAt H c lx ldx lt n tvs ps ∧ n ≤ 12 ∧
  ∀ (D : Addr) (us : List V) (H' : Hp), Same H H' → H D = none → H' D = some (.lst us) → Lns H' us (startsOf wy n n) → Q (.ref D) H'
abbrev NSt : List Str := ["table", "found", "place", "goal"]
theorem memV_empty (m : Nat) : (!(memV m).isEmpty) = !decide (m = 0) := by
  congr 1
  rw [Bool.eq_iff_iff, List.isEmpty_iff, decide_eq_true_eq]
  unfold memV
  rw [List.map_eq_nil_iff]
  constructor
  · intro h
    have := Yd.set_mem (Yd.bits_lt m)
    rw [h] at this
    exact this.symm
  · rintro rfl; rfl
section
variable {P : Program} {w : World} {K : PySem.W.Frag} {mg : Str → Option Value} {base : Heap}
theorem scSt : FnScope NSt ["table"] (defScope sStarts) := ⟨rfl, rfl, rfl, by decide +kernel, rfl, by decide +kernel, by decide +kernel⟩
theorem ok_starts {c : Cs} {J : TIn} {C f fw : Addr} {fd dw : FuncData} (F : Fun K "starts" "starts" sStarts f fd) (T : Txt mg) (L : Lnd K c) (W : Way K C fw dw J) (nl : NoAttr K C "land") (Gw : FnOk P w K mg base CX0 3 fw dw ["self", "place", "goal", "came"] (spWays J)) :
    FnOk P w K mg base CX0 4 f fd ["table"] (spStarts c C J) := by
  refine F.ok scSt (fun vs H Q E h => ?_) (fun cdv A outer s H vs Q E hr h => ?_)
  · obtain ⟨x, dx, lx, ldx, lt, fs, n, tvs, ps, wy, rfl, _⟩ := h
    rfl
  · obtain ⟨x, dx, lx, ldx, lt, fs, n, tvs, ps, wy, rfl, hJ, hx, hf, hL, hn, q⟩ := h
    refine ⟨_, pss_cons (ps_set (i := 1) scSt.nd rfl (Or.inl rfl) (pe_lst pa_nil))
      (pss_cons (ps_for PassesOwn.never rfl (pi_range1 rfl T.range (pa_cons (pe_fld (pe_fld (pv 0) rfl) rfl) pa_nil)) (pg_name (i := 2) scSt.nd rfl (Or.inl rfl))
        (pss_one (ps_for PassesOwn.never rfl (pi_range1 rfl T.range (pa_cons (pe_fld (pe_fld (pv 0) rfl) rfl) pa_nil)) (pg_name (i := 3) scSt.nd rfl (Or.inl rfl))
          (pss_one (ps_if (pt_truth (pe_meth (pv 0) W.cl W.m Gw hr W.b .nil pass0 (pa_cons (pv 2) (pa_cons (pv 3) (pa_cons pe_non pa_nil)))) (fun _ => rfl))
            (pss_one (ps_expr (pe_bm PySem.F.plainAttrs_list PySem.F.slot_list_append PySem.F.type_list_append mt_append (pv 1) (pa_cons (pe_tup (pa_cons (pv 2) (pa_cons (pv 3) pa_nil))) pa_nil)))) pss_nil)))))
      (pss_one (ps_ret (pv 1)))), ?_⟩
    obtain ⟨dx', fs', hx', hw'⟩ := W.inst _ _ _ hJ
    rw [hx] at hx'
    injection hx' with hx'
    injection hx' with _ e1 e2
    subst e1 e2
    refine ⟨Nat.zero_le _, fun D hD => ?_⟩
    have s0 := (Same.refl H).new (o := .lst []) hD
    refine ⟨_, rfl, x, C, dx, fs, _, rfl, s0 _ _ hx, W.cl, nl, hf, lx, c.land, ldx, _, _, rfl, s0 _ _ hL.1, L.cl, L.np, rfl, (n : Int), rfl, by omega, by omega, ?_⟩
    rw [Int.toNat_natCast]
    refine for_range (n := n) (fun i σ H2 => ∃ (a2 a3 : Option V) (us : List V), Same H H2 ∧ H2 D = some (.lst us) ∧ Lns H2 us (startsOf wy n i) ∧ σ = [some (.ref x), some (.ref D), a2, a3])
      ⟨none, none, [], s0, upd_same, .nil, rfl⟩ ?_ ?_
    · rintro i σ H2 hi ⟨a2, a3, us, s2, gD, hU, rfl⟩
      rw [Int.zero_add]
      refine ⟨_, rfl, x, C, dx, fs, _, rfl, s2 _ _ hx, W.cl, nl, hf, lx, c.land, ldx, _, _, rfl, s2 _ _ hL.1, L.cl, L.np, rfl, (n : Int), rfl, by omega, by omega, ?_⟩
      rw [Int.toNat_natCast]
      refine for_range (n := n) (fun j σ H3 => ∃ (a3 : Option V) (us : List V), Same H H3 ∧ H3 D = some (.lst us) ∧ Lns H3 us (startsOf wy n i ++ rowStarts wy i j) ∧ σ = [some (.ref x), some (.ref D), some (.int i), a3])
        ⟨_, us, s2, gD, by simpa [rowStarts] using hU, rfl⟩ ?_ ?_
      · rintro j σ H3 hj ⟨a3, us, s3, gD3, hU3, rfl⟩
        rw [Int.zero_add]
        refine ⟨_, rfl, x, dx, fs, rfl, s3 _ _ hx, hw', _, rfl, _, rfl, x, wy, ⟨(i : Int), (j : Int), none, []⟩, rfl, W.stay _ _ _ _ hJ s3, fun H4 D4 s34 hD4 => ?_⟩
        have s35 : Same H3 (upd H4 D4 (.lst (memV (wy (keyOf ⟨(i : Int), (j : Int), none, []⟩))))) := s34.new hD4
        refine ⟨_, .inl ⟨_, SqL.of upd_same, rfl⟩, ?_⟩
        show if (!(memV (wy (keyOf ⟨(i : Int), (j : Int), none, []⟩))).isEmpty) = true then _ else _
        rw [memV_empty]
        have hlen : us.length ≤ 200 := by
          have e := Paired.length hU3
          rw [List.length_append] at e
          have b1 := starts_len wy n i
          have b2 := row_len wy i j
          have b3 : i * n ≤ 12 * 12 := Nat.mul_le_mul (by omega) hn
          omega
        cases hs : isStart wy i j with
        | false =>
          have hs' : (!decide (wy (keyOf ⟨(i : Int), (j : Int), none, []⟩) = 0)) = false := hs
          have hR : (upd H4 D4 (.lst (memV (wy (keyOf ⟨(i : Int), (j : Int), none, []⟩))))) D = some (.lst us) := s35 _ _ gD3
          rw [hs']
          refine iteF ⟨_, us, s3.trans s35, hR, ?_, rfl⟩
          rw [row_succ, hs]
          exact Lns.same s35 hU3
        | true =>
          have hs' : (!decide (wy (keyOf ⟨(i : Int), (j : Int), none, []⟩) = 0)) = true := hs
          rw [hs']
          generalize upd H4 D4 (.lst (memV (wy (keyOf ⟨(i : Int), (j : Int), none, []⟩)))) = H5 at s35 ⊢
          refine iteT ⟨_, rfl, .inl ⟨rfl, _, SqL.of (s35 _ _ gD3)⟩, _, rfl, _, rfl, by show 2 ≤ sizeLine; decide, fun t ht => ?_⟩
          have s6 := (Same.refl H5).new (o := .tup [.int i, .int j]) ht
          have gT : (upd H5 t (.tup [.int i, .int j])) t = some (.tup [.int i, .int j]) := upd_same
          have nT : t ≠ D := Ne.symm (ne_of_none (s35 _ _ gD3) ht)
          generalize upd H5 t (.tup [.int i, .int j]) = H6 at s6 gT ⊢
          have s36 := s35.trans s6
          refine ⟨D, us, _, rfl, rfl, s36 _ _ gD3, by rw [PySem.sizeLine_eq]; omega, ?_⟩
          refine ⟨_, us ++ [.ref t], fun b o e => by rw [upd_ne (ne_of_none e hD)]; exact s36 _ _ (s3 _ _ e), upd_same, ?_, rfl⟩
          rw [row_succ, hs, if_pos rfl, ← List.append_assoc]
          exact Lns.snoc ⟨t, rfl, by rw [upd_ne nT]; exact gT⟩ (lns_off (s36 _ _ gD3) (Lns.same s36 hU3))
      · rintro σ H3 ⟨a3, us, s3, gD3, hU3, rfl⟩
        refine ⟨_, _, us, s3, gD3, ?_, rfl⟩
        rw [starts_succ]
        exact hU3
    · rintro σ H2 ⟨a2, a3, us, s2, gD, hU, rfl⟩
      exact ⟨_, rfl, q D us H2 s2 hD gD hU⟩
end
end K73
namespace K73
open PySem L2
def nV (ps : List Nat) : List V := ps.map fun q : Nat => V.int (q : Int)
theorem nV_len (ps : List Nat) : (nV ps).length = ps.length := by simp [nV]
theorem nV_get {ps : List Nat} {k q : Nat} (h : ps[k]? = some q) : (nV ps)[k]? = some (V.int (q : Int)) := by simp [nV, h]
theorem nV_app (a b : List Nat) : nV (a ++ b) = nV a ++ nV b := by unfold nV; rw [List.map_append]
theorem nV_mem {ps : List Nat} {v : V} (h : v ∈ nV ps) : ∃ q : Nat, q ∈ ps ∧ v = .int (q : Int) := by
  obtain ⟨q, hq, e⟩ := List.mem_map.mp h
  exact ⟨q, hq, e.symm⟩
/-- the ways of a table, as lists -/
def wl (wy : Oks → Nat) (k : Oks) : List Nat := Yd.memN (wy k) (Builtin.Int.intBits ((wy k : Nat) : Int))
theorem memV_wl (wy : Oks → Nat) (k : Oks) : memV (wy k) = nV (wl wy k) := rfl
def onN (wy : Oks → Nat) (ps : List (Int × Int)) (g l : Nat) : List Nat := if (ps.getD l (0, 0)).2 = (g : Int) then [] else wl wy [some (ps.getD l (0, 0)).2, some (g : Int), some (l : Int)]
def firstN (wy : Oks → Nat) (g m : Nat) : List Nat := (List.range m).flatMap fun p : Nat => wl wy [some (p : Int), some (g : Int), none]
theorem first_succ (wy : Oks → Nat) (g m : Nat) : firstN wy g (m + 1) = firstN wy g m ++ wl wy [some (m : Int), some (g : Int), none] := by
  unfold firstN
  rw [List.range_succ, List.flatMap_append]; simp
structure TabIn (c : Cs) (C : Addr) (J : TIn) (H : Hp) (x lx ldx lt : Addr) (n : Nat) (tvs : List V) (ps : List (Int × Int)) (wy : Oks → Nat) : Prop where
  j : J H x wy
  i : ∃ dx fs, H x = some (.ins C dx fs) ∧ fs.lookup ("land" : Str) = some (.ref lx)
  l : LandAt H c lx ldx lt (n : Int) tvs ps
  n12 : n ≤ 12
  few : ps.length ≤ 40
  ok : ∀ k, ∀ z ∈ wl wy k, z < ps.length
  nr : ∀ k, (wl wy k).length ≤ 40
theorem TabIn.same {K : PySem.W.Frag} {c : Cs} {C fw : Addr} {dw : FuncData} {J : TIn} {H H' : Hp} {x lx ldx lt : Addr} {n : Nat} {tvs : List V} {ps : List (Int × Int)} {wy : Oks → Nat} (W : Way K C fw dw J) (h : TabIn c C J H x lx ldx lt n tvs ps wy) (s : Same H H') : TabIn c C J H' x lx ldx lt n tvs ps wy :=
  ⟨W.stay _ _ _ _ h.j s, let ⟨dx, fs, h1, h2⟩ := h.i; ⟨dx, fs, s _ _ h1, h2⟩, ⟨s _ _ h.l.1, s _ _ h.l.2.1, Lns.same s h.l.2.2⟩, h.n12, h.few, h.ok, h.nr⟩
def spAt (c : Cs) (sel : Int × Int → Int) : Sp := fun vs H Q _ => ∃ (x dx t : Addr) (n : Int) (tvs : List V) (ps : List (Int × Int)) (k : Nat) (pr : Int × Int), vs = [.ref x, .int k] ∧ LandAt H c x dx t n tvs ps ∧ ps[k]? = some pr ∧ Q (.int (sel pr)) H
structure EndM (K : PySem.W.Frag) (c : Cs) (f : Addr) (d : FuncData) : Prop where
  m : Meth K c.land "end_of" f
  b : Binds K d ["self", "lane"] []
def spOn (c : Cs) (C : Addr) (J : TIn) : Sp := fun vs H Q _ => ∃ (x lx ldx lt : Addr) (n : Nat) (tvs : List V) (ps : List (Int × Int)) (wy : Oks → Nat) (l g : Nat), vs = [.ref x, .int l, .int g] ∧ TabIn c C J H x lx ldx lt n tvs ps wy ∧ l < ps.length ∧
  ∀ (D : Addr) (H' : Hp), Same H H' → H D = none → H' D = some (.lst (nV (onN wy ps g l))) → Q (.ref D) H'
def spFirst (c : Cs) (C : Addr) (J : TIn) : Sp := fun vs H Q _ => ∃ (x lx ldx lt : Addr) (n : Nat) (tvs : List V) (ps : List (Int × Int)) (wy : Oks → Nat) (g : Nat), vs = [.ref x, .int g] ∧ TabIn c C J H x lx ldx lt n tvs ps wy ∧
  ∀ (D : Addr) (H' : Hp), Same H H' → H D = none → H' D = some (.lst (nV (firstN wy g n))) → Q (.ref D) H'
section
variable {P : Program} {w : World} {K : PySem.W.Frag} {mg : Str → Option Value} {base : Heap}
theorem scEnd : FnScope ["self", "lane"] ["self", "lane"] (defScope sEnd) := ⟨rfl, rfl, rfl, by decide +kernel, rfl, by decide +kernel, by decide +kernel⟩
theorem ok_end {c : Cs} {f : Addr} {fd : FuncData} (F : Fun K "end_of" "Land.end_of" sEnd f fd) (L : Lnd K c) : FnOk P w K mg base CX0 1 f fd ["self", "lane"] (spAt c Prod.snd) := by
  refine F.ok scEnd (fun vs H Q E h => ?_) (fun cdv A outer s H vs Q E hr h => ?_)
  · obtain ⟨x, dx, t, n, tvs, ps, k, pr, rfl, _⟩ := h
    rfl
  · obtain ⟨x, dx, t, n, tvs, ps, k, pr, rfl, ⟨hx, ht, hl⟩, hk, q⟩ := h
    refine ⟨_, pss_one (ps_ret (pe_ix ix_tup (pe_ix ix_tup (pe_fld (pv 0) rfl) (pv 1) (fun _ _ => rfl)) pe_int (fun _ _ => rfl))), ?_⟩
    obtain ⟨v, hv, u, rfl, hu⟩ := Lns.get2 hl hk
    refine ⟨_, rfl, x, c.land, dx, _, _, rfl, hx, L.cl, L.nl, rfl, _, rfl, t, _, _, _, rfl, rfl, SqT.of ht, atI_nat hv, u, _, 1, _, rfl, rfl, SqT.of hu, atI_nat (j := 1) rfl, q⟩
theorem int_eq' (a b : Int) : decide (V.int a = V.int b) = decide (a = b) := by
  by_cases h : a = b
  · rw [h]; simp
  · rw [decide_eq_false h, decide_eq_false fun z => h (by injection z)]
theorem scOn : FnScope ["table", "lane", "goal", "end"] ["table", "lane", "goal"] (defScope sOn) := ⟨rfl, rfl, rfl, by decide +kernel, rfl, by decide +kernel, by decide +kernel⟩
theorem ok_on {c : Cs} {J : TIn} {C f fw fe : Addr} {fd dw de : FuncData} (F : Fun K "onward" "onward" sOn f fd) (L : Lnd K c) (W : Way K C fw dw J) (nl : NoAttr K C "land") (Gw : FnOk P w K mg base CX0 3 fw dw ["self", "place", "goal", "came"] (spWays J))
    (M : EndM K c fe de) (Ge : FnOk P w K mg base CX0 1 fe de ["self", "lane"] (spAt c Prod.snd)) : FnOk P w K mg base CX0 4 f fd ["table", "lane", "goal"] (spOn c C J) := by
  refine F.ok scOn (fun vs H Q E h => ?_) (fun cdv A outer s H vs Q E hr h => ?_)
  · obtain ⟨x, lx, ldx, lt, n, tvs, ps, wy, l, g, rfl, _⟩ := h
    rfl
  · obtain ⟨x, lx, ldx, lt, n, tvs, ps, wy, l, g, rfl, hT, hl, q⟩ := h
    have hr1 : Room 1 _ := hr.mono (by decide)
    refine ⟨_, pss_cons (ps_set (i := 3) scOn.nd rfl (Or.inl rfl) (pe_meth (pe_fld (pv 0) rfl) L.cl M.m Ge hr1 M.b .nil pass0 (pa_cons (pv 1) pa_nil)))
      (pss_one (ps_ret (pe_ifExp (pt_cmpR op_eq (pv 3) (pv 2) (nomark _)) (pe_lst pa_nil) (pe_meth (pv 0) W.cl W.m Gw hr W.b .nil pass0 (pa_cons (pv 3) (pa_cons (pv 2) (pa_cons (pv 1) pa_nil))))))), ?_⟩
    obtain ⟨dx, fs, hx, hf⟩ := hT.i
    obtain ⟨dx', fs', hx', hw'⟩ := W.inst _ _ _ hT.j
    rw [hx] at hx'
    injection hx' with hx'
    injection hx' with _ e1 e2
    subst e1 e2
    have he := List.getElem?_eq_getElem hl
    have heD : ps.getD l (0, 0) = ps[l] := by rw [List.getD_eq_getElem?_getD, he]; rfl
    unfold onN at q
    rw [heD] at q
    generalize ps[l] = pr at he q
    refine ⟨_, rfl, x, C, dx, fs, _, rfl, hx, W.cl, nl, hf, lx, ldx, _, rfl, hT.l.1, rfl, _, rfl, lx, ldx, lt, (n : Int), tvs, ps, l, pr, rfl, hT.l, he, ?_⟩
    refine ⟨_, rfl, _, rfl, rfl, _, rfl, ?_⟩
    rw [int_eq']
    by_cases h1 : pr.2 = (g : Int)
    · rw [decide_eq_true h1]
      rw [if_pos h1] at q
      exact iteT ⟨Nat.zero_le _, fun D hD => q D _ ((Same.refl H).new hD) hD upd_same⟩
    · rw [decide_eq_false h1]
      rw [if_neg h1] at q
      exact iteF ⟨_, rfl, x, dx, fs, rfl, hx, hw', _, rfl, _, rfl, _, rfl, x, wy, ⟨pr.2, (g : Int), some l, []⟩, rfl, hT.j, fun H' D s' hD => q D _ (s'.new hD) (s'.free hD) upd_same⟩
theorem scFi : FnScope ["table", "goal", "found", "place"] ["table", "goal"] (defScope sFirst) := ⟨rfl, rfl, rfl, by decide +kernel, rfl, by decide +kernel, by decide +kernel⟩
theorem ok_first {c : Cs} {J : TIn} {C f fw : Addr} {fd dw : FuncData} (F : Fun K "first_lanes" "first_lanes" sFirst f fd) (T : Txt mg) (L : Lnd K c) (W : Way K C fw dw J) (nl : NoAttr K C "land") (Gw : FnOk P w K mg base CX0 3 fw dw ["self", "place", "goal", "came"] (spWays J)) :
    FnOk P w K mg base CX0 4 f fd ["table", "goal"] (spFirst c C J) := by
  refine F.ok scFi (fun vs H Q E h => ?_) (fun cdv A outer s H vs Q E hr h => ?_)
  · obtain ⟨x, lx, ldx, lt, n, tvs, ps, wy, g, rfl, _⟩ := h
    rfl
  · obtain ⟨x, lx, ldx, lt, n, tvs, ps, wy, g, rfl, hT, q⟩ := h
    refine ⟨_, pss_cons (ps_set (i := 2) scFi.nd rfl (Or.inl rfl) (pe_lst pa_nil))
      (pss_cons (ps_for PassesOwn.never rfl (pi_range1 rfl T.range (pa_cons (pe_fld (pe_fld (pv 0) rfl) rfl) pa_nil)) (pg_name (i := 3) scFi.nd rfl (Or.inl rfl))
        (pss_one (ps_expr (pe_bm PySem.F.plainAttrs_list PySem.F.slot_list_extend PySem.F.type_list_extend mt_extend (pv 2) (pa_cons (pe_meth (pv 0) W.cl W.m Gw hr W.b .nil pass0 (pa_cons (pv 3) (pa_cons (pv 1) (pa_cons pe_non pa_nil)))) pa_nil)))))
      (pss_one (ps_ret (pv 2)))), ?_⟩
    obtain ⟨dx, fs, hx, hf⟩ := hT.i
    obtain ⟨dx', fs', hx', hw'⟩ := W.inst _ _ _ hT.j
    rw [hx] at hx'
    injection hx' with hx'
    injection hx' with _ e1 e2
    subst e1 e2
    have hn := hT.n12
    refine ⟨Nat.zero_le _, fun D hD => ?_⟩
    have s0 := (Same.refl H).new (o := .lst []) hD
    refine ⟨_, rfl, x, C, dx, fs, _, rfl, s0 _ _ hx, W.cl, nl, hf, lx, c.land, ldx, _, _, rfl, s0 _ _ hT.l.1, L.cl, L.np, rfl, (n : Int), rfl, by omega, by omega, ?_⟩
    rw [Int.toNat_natCast]
    refine for_range (n := n) (fun i σ H2 => ∃ a3 : Option V, Same H H2 ∧ H2 D = some (.lst (nV (firstN wy g i))) ∧ (firstN wy g i).length ≤ 40 * i ∧ σ = [some (.ref x), some (.int g), some (.ref D), a3])
      ⟨none, s0, upd_same, Nat.zero_le _, rfl⟩ ?_ ?_
    · rintro i σ H2 hi ⟨a3, s2, gD, hl, rfl⟩
      rw [Int.zero_add]
      refine ⟨_, rfl, .inl ⟨rfl, _, SqL.of gD⟩, _, rfl, x, dx, fs, rfl, s2 _ _ hx, hw', _, rfl, _, rfl, x, wy, ⟨(i : Int), (g : Int), none, []⟩, rfl, W.stay _ _ _ _ hT.j s2, fun H3 D3 s3 hD3 => ?_⟩
      have hk : keyOf ⟨(i : Int), (g : Int), none, []⟩ = [some (i : Int), some (g : Int), none] := rfl
      rw [hk, memV_wl]
      have s4 := s3.new (o := .lst (nV (wl wy [some (i : Int), some (g : Int), none]))) hD3
      have g4 : (upd H3 D3 (.lst (nV (wl wy [some (i : Int), some (g : Int), none])))) D3 = some (.lst (nV (wl wy [some (i : Int), some (g : Int), none]))) := upd_same
      generalize upd H3 D3 (.lst (nV (wl wy [some (i : Int), some (g : Int), none]))) = H4 at s4 g4 ⊢
      have hw := hT.nr [some (i : Int), some (g : Int), none]
      refine ⟨D, D3, _, _, rfl, rfl, s4 _ _ gD, g4, by rw [PySem.sizeLine_eq, nV_len, nV_len]; omega, ?_⟩
      refine ⟨_, fun b o e => by rw [upd_ne (ne_of_none e hD)]; exact s4 _ _ (s2 _ _ e), by rw [upd_same, first_succ, nV_app], by rw [first_succ, List.length_append]; omega, rfl⟩
    · rintro σ H2 ⟨a3, s2, gD, hl, rfl⟩
      exact ⟨_, rfl, q D H2 s2 hD gD⟩
end
end K73
namespace K73
open PySem L2
def oV : Option Nat → V
  | some l => .int (l : Int)
  | none => .non
def ak (x : Nat × Option Nat) : L2.Key × V := (Sum.inl (x.1 : Int), oV x.2)
theorem ak_mem (p : Nat) : ∀ a : As, (valV (a.map ak) (Sum.inl (p : Int))).isSome = decide (p ∈ a.map (·.1))
  | [] => rfl
  | x :: a => by
    have ih := ak_mem p a
    rw [List.map_cons]
    by_cases h : x.1 = p
    · rw [valV_pos (show (ak x).1 = Sum.inl (p : Int) by rw [← h]; rfl), decide_eq_true (by rw [List.map_cons, h]; exact List.mem_cons_self)]; rfl
    · rw [valV_neg (show ¬ (ak x).1 = Sum.inl (p : Int) from fun z => h (by have := Sum.inl.inj z; omega)), ih, List.map_cons]
      by_cases hm : p ∈ a.map (·.1)
      · rw [decide_eq_true hm, decide_eq_true (List.mem_cons_of_mem _ hm)]
      · rw [decide_eq_false hm, decide_eq_false fun z => (List.mem_cons.mp z).elim (fun e => h e.symm) hm]
theorem put_new {a : As} {x : Nat} {c : Option Nat} (h : x ∉ a.map (·.1)) : putK (a.map ak) (Sum.inl (x : Int)) (oV c) = (a ++ [(x, c)]).map ak := by
  have hv : valV (a.map ak) (Sum.inl (x : Int)) = none := by
    have := ak_mem x a
    rw [decide_eq_false h] at this
    exact Option.not_isSome_iff_eq_none.mp (by rw [this]; decide)
  rw [putK_new _ hv, List.map_append]; rfl
theorem put_old {a : As} {x : Nat} (hall : ∀ y ∈ a, y.2 = none) (h : x ∈ a.map (·.1)) : putK (a.map ak) (Sum.inl (x : Int)) .non = a.map ak := by
  unfold putK
  rw [valV_any, ak_mem, decide_eq_true h, if_pos rfl, List.map_map]
  refine List.map_congr_left fun y hy => ?_
  show (if (ak y).1 = Sum.inl (x : Int) then ((ak y).1, V.non) else ak y) = ak y
  split
  · unfold ak; rw [hall y hy]; rfl
  · rfl
theorem add_none : ∀ (ws : List Nat) (a : As), (∀ y ∈ a, y.2 = none) → ∀ y ∈ addW none a ws, y.2 = none
  | [], a, h => h
  | x :: ws, a, h => by
    show ∀ y ∈ addW none (if x ∈ a.map (·.1) then a else a ++ [(x, none)]) ws, y.2 = none
    refine add_none ws _ ?_
    split
    · exact h
    · intro y hy
      rcases List.mem_append.mp hy with hy | hy
      · exact h y hy
      · rw [List.mem_singleton.mp hy]
theorem Aok.addW {L : Nat} {l : Option Nat} : ∀ (ws : List Nat) {a : As}, Aok L a → (∀ x ∈ ws, x < L) → Aok L (K73.addW l a ws)
  | [], a, h, _ => h
  | x :: ws, a, h, hw => by
    show Aok L (K73.addW l (if x ∈ a.map (·.1) then a else a ++ [(x, l)]) ws)
    refine Aok.addW ws ?_ fun y hy => hw y (List.mem_cons_of_mem _ hy)
    split
    · exact h
    · exact h.add (hw x List.mem_cons_self) (by assumption)
def aheadN (wy : Oks → Nat) (ps : List (Int × Int)) (n g : Nat) : As := runA (onN wy ps g) ps.length (addW none [] (firstN wy g n)) 0
def spAhead (c : Cs) (C : Addr) (J : TIn) : Sp := fun vs H Q _ => ∃ (x lx ldx lt : Addr) (n : Nat) (tvs : List V) (ps : List (Int × Int)) (wy : Oks → Nat) (g : Nat), vs = [.ref x, .int g] ∧ TabIn c C J H x lx ldx lt n tvs ps wy ∧
  ∀ (D : Addr) (H' : Hp), Same H H' → H D = none → Aok ps.length (aheadN wy ps n g) → H' D = some (.dK ((aheadN wy ps n g).map ak)) → Q (.ref D) H'
abbrev NAh : List Str := ["table", "goal", "ahead", "lane", "line", "looked_at", "way"]
section
variable {P : Program} {w : World} {K : PySem.W.Frag} {mg : Str → Option Value} {base : Heap}
theorem scAh : FnScope NAh ["table", "goal"] (defScope sAhead) := ⟨rfl, rfl, rfl, by decide +kernel, rfl, by decide +kernel, by decide +kernel⟩
theorem ok_ahead {c : Cs} {J : TIn} {C f fw ff fo : Addr} {fd dw df do' : FuncData} (F : Fun K "lanes_ahead" "lanes_ahead" sAhead f fd) (T : Txt mg) (W : Way K C fw dw J)
    (mf : mg "first_lanes" = some (.ref ff)) (kf : PySem.W.keepIn K (.ref ff) = true) (bf : Binds K df ["table", "goal"] []) (Gf : FnOk P w K mg base CX0 4 ff df ["table", "goal"] (spFirst c C J))
    (mo : mg "onward" = some (.ref fo)) (ko : PySem.W.keepIn K (.ref fo) = true) (bo : Binds K do' ["table", "lane", "goal"] []) (Go : FnOk P w K mg base CX0 4 fo do' ["table", "lane", "goal"] (spOn c C J)) :
    FnOk P w K mg base CX0 5 f fd ["table", "goal"] (spAhead c C J) := by
  refine F.ok scAh (fun vs H Q E h => ?_) (fun cdv A outer s H vs Q E hr h => ?_)
  · obtain ⟨x, lx, ldx, lt, n, tvs, ps, wy, g, rfl, _⟩ := h
    rfl
  · obtain ⟨x, lx, ldx, lt, n, tvs, ps, wy, g, rfl, hT, q⟩ := h
    have hu := hu_of hr
    have h40 := hT.few
    refine ⟨_, pss_cons (ps_set (i := 2) scAh.nd rfl (Or.inl rfl) pe_dnewK)
      (pss_cons (ps_for PassesOwn.never rfl (pi_list (pe_call Gf hr rfl mf kf bf .nil pass0 (pa_cons (pv 0) (pa_cons (pv 1) pa_nil)))) (pg_name (i := 3) scAh.nd rfl (Or.inl rfl))
        (pss_one (ps_dput hu (pv 2) (pv 3) pe_non rfl)))
      (pss_cons (ps_set (i := 4) scAh.nd rfl (Or.inl rfl) (pe_callTy (call_list_keys rfl) rfl T.list PySem.Pv.boot_list (pa_cons (pv 2) pa_nil)))
      (pss_cons (ps_set (i := 5) scAh.nd rfl (Or.inl rfl) pe_int)
      (pss_cons (ps_while PassesOwn.never (pt_cmpR op_lt (pv 5) (pe_callB call_len_seq rfl T.len PySem.boot_len (pa_cons (pv 4) pa_nil)) (nomark _))
        (pss_cons (ps_set (i := 3) scAh.nd rfl (Or.inl rfl) (pe_ix ix_list (pv 4) (pv 5) (fun _ _ => rfl)))
        (pss_cons (ps_aug (i := 5) scAh.nd rfl (Or.inl rfl) pe_int ip_add)
        (pss_one (ps_for PassesOwn.never rfl (pi_list (pe_call Go hr rfl mo ko bo .nil pass0 (pa_cons (pv 0) (pa_cons (pv 3) (pa_cons (pv 1) pa_nil))))) (pg_name (i := 6) scAh.nd rfl (Or.inl rfl))
          (pss_one (ps_if (pt_cmp (pc_dnotin hu (pv 6) (pv 2)))
            (pss_cons (ps_dput hu (pv 2) (pv 6) (pv 3) rfl)
            (pss_one (ps_expr (pe_bm PySem.F.plainAttrs_list PySem.F.slot_list_append PySem.F.type_list_append mt_append (pv 4) (pa_cons (pv 6) pa_nil))))) pss_nil)))))))
      (pss_one (ps_ret (pv 2))))))), ?_⟩
    refine fun fa hfa => ?_
    have s0 := (Same.refl H).new (o := .dK []) hfa
    have gf0 : (upd H fa (.dK [])) fa = some (.dK ([].map ak)) := upd_same
    generalize upd H fa (.dK []) = H0 at s0 gf0 ⊢
    refine ⟨_, rfl, _, rfl, x, lx, ldx, lt, n, tvs, ps, wy, g, rfl, hT.same W s0, fun Fl H1 s1 hFl gFl => ⟨Fl, rfl, ⟨_, SqL.of gFl⟩, ?_⟩⟩
    have gf1 := s1 _ _ gf0
    have nFf : Fl ≠ fa := Ne.symm (ne_of_none gf0 hFl)
    have hfl : ∀ z ∈ firstN wy g n, z < ps.length := fun z hz => by
      obtain ⟨p, _, hz⟩ := List.mem_flatMap.mp hz
      exact hT.ok _ z hz
    refine for_list (K := K) (a := Fl) (xs := nV (firstN wy g n)) (fun i σ H2 => ∃ a3 : Option V, Same H H2 ∧ H2 Fl = some (.lst (nV (firstN wy g n))) ∧ H2 fa = some (.dK ((addW none [] ((firstN wy g n).take i)).map ak)) ∧ σ = [some (.ref x), some (.int g), some (.ref fa), a3, none, none, none])
      ⟨none, s0.trans s1, gFl, gf1, rfl⟩ (fun i σ H2 _ ⟨_, _, g2, _⟩ => SqL.of g2) ?_ ?_
    · rintro i v σ H2 hv ⟨a3, s2, g2, gf, rfl⟩
      have hi : i < (firstN wy g n).length := by have := (List.getElem?_eq_some_iff.mp hv).1; rw [nV_len] at this; exact this
      have hk0 := List.getElem?_eq_getElem hi
      have hv' := nV_get hk0
      rw [hv'] at hv
      have hv := Option.some.inj hv
      subst hv
      generalize (firstN wy g n)[i] = l at hk0
      have hA : Aok ps.length (addW none [] ((firstN wy g n).take i)) := Aok.addW _ ⟨by simp, fun y hy => by cases hy⟩ fun z hz => hfl z (List.mem_of_mem_take hz)
      have hfew := hA.few
      have hnon := add_none ((firstN wy g n).take i) [] fun y hy => by cases hy
      have hsn := addW_snoc none [] ((firstN wy g n).take i) l
      have htk : (firstN wy g n).take (i + 1) = (firstN wy g n).take i ++ [l] := by rw [List.take_succ, hk0]; rfl
      refine ⟨_, rfl, _, rfl, fa, _, rfl, DPut.k (k := Sum.inl (l : Int)) gf (by rw [PySem.sizeLine_eq, List.length_map]; omega), ?_⟩
      refine ⟨_, fun b o e => by rw [upd_ne (ne_of_none e hfa)]; exact s2 _ _ e, by rw [upd_ne nFf]; exact g2, ?_, rfl⟩
      rw [upd_same, htk, hsn]
      by_cases hm : l ∈ (addW none [] ((firstN wy g n).take i)).map (·.1)
      · rw [if_pos hm, put_old hnon hm]
      · rw [if_neg hm]
        exact congrArg (fun z => some (HO.dK z)) (put_new (c := none) hm)
    rintro σ H2 ⟨a3, s2, g2, gf, rfl⟩
    rw [nV_len, List.take_length] at gf
    have hA0 : Aok ps.length (addW none [] (firstN wy g n)) := Aok.addW _ ⟨by simp, fun y hy => by cases hy⟩ hfl
    have hfin : aheadN wy ps n g = runA (onN wy ps g) (ps.length - 0) (addW none [] (firstN wy g n)) 0 := rfl
    generalize addW none [] (firstN wy g n) = a0 at gf hA0 hfin
    -- line
    refine ⟨_, rfl, fa, _, rfl, .inl gf, fun ln hln => ?_⟩
    have el : (a0.map ak).map (fun p => kV p.1) = nV (a0.map (·.1)) := by
      unfold nV
      rw [List.map_map, List.map_map]; rfl
    rw [el]
    have s3 := s2.new (o := .lst (nV (a0.map (·.1)))) hln
    have hlnH : H ln = none := s2.free hln
    have gl : (upd H2 ln (.lst (nV (a0.map (·.1))))) ln = some (.lst (nV (a0.map (·.1)))) := upd_same
    have gf3 : (upd H2 ln (.lst (nV (a0.map (·.1))))) fa = some (.dK (a0.map ak)) := by rw [upd_ne (ne_of_none gf hln)]; exact gf
    generalize upd H2 ln (.lst (nV (a0.map (·.1)))) = H3 at s3 gl gf3 ⊢
    refine ⟨fun m σ H' => ∃ (a : As) (i : Nat) (b3 b6 : Option V), m = ps.length - i ∧ Aok ps.length a ∧ i ≤ a.length ∧ aheadN wy ps n g = runA (onN wy ps g) (ps.length - i) a i ∧ Same H H' ∧ H' fa = some (.dK (a.map ak)) ∧ H' ln = some (.lst (nV (a.map (·.1)))) ∧ σ = [some (.ref x), some (.int g), some (.ref fa), b3, some (.ref ln), some (.int (i : Nat)), b6],
      ⟨ps.length - 0, a0, 0, _, _, rfl, hA0, Nat.zero_le _, hfin, s3, gf3, gl, rfl⟩, ?_⟩
    rintro m σ H4 ⟨a, i, b3, b6, rfl, hA, hile, hrun, s4, gf4, gl4, rfl⟩
    have hfew := hA.few
    refine ⟨_, rfl, _, rfl, ln, _, rfl, .inl (SqL.of gl4), _, _, rfl, rfl, _, rfl, ?_⟩
    by_cases hi : i < a.length
    rotate_left
    · have e : i = a.length := by omega
      subst e
      rw [decide_eq_false (by rw [nV_len, List.length_map]; omega)]
      rw [runA_end (List.getElem?_eq_none (Nat.le_refl _))] at hrun
      exact iteF ⟨_, rfl, q fa H4 s4 hfa (by rw [hrun]; exact hA) (by rw [hrun]; exact gf4)⟩
    rw [decide_eq_true (by rw [nV_len, List.length_map]; omega)]
    have hy := List.getElem?_eq_getElem hi
    generalize a[i] = lc at hy
    obtain ⟨l, lc⟩ := lc
    have hl : l < ps.length := hA.lt _ (List.mem_of_getElem? hy)
    have hpl : (nV (a.map (·.1)))[i]? = some (.int (l : Int)) := nV_get (by rw [List.getElem?_map, hy]; rfl)
    have hstep : aheadN wy ps n g = runA (onN wy ps g) (ps.length - (i + 1)) (addW (some l) a (onN wy ps g l)) (i + 1) := by
      rw [hrun, show ps.length - i = (ps.length - (i + 1)) + 1 by omega, runA_step hy]
    have hol : ∀ z ∈ onN wy ps g l, z < ps.length := fun z hz => by
      unfold onN at hz
      split at hz
      · cases hz
      · exact hT.ok _ z hz
    refine iteT ⟨fun σ' H' => ∃ (a' : As) (b3 b6 : Option V), Aok ps.length a' ∧ i + 1 ≤ a'.length ∧ aheadN wy ps n g = runA (onN wy ps g) (ps.length - (i + 1)) a' (i + 1) ∧ Same H H' ∧ H' fa = some (.dK (a'.map ak)) ∧ H' ln = some (.lst (nV (a'.map (·.1)))) ∧ σ' = [some (.ref x), some (.int g), some (.ref fa), b3, some (.ref ln), some (.int ((i : Int) + 1)), b6],
      fun σ' H' ⟨a', b3, b6, h1, h2, h3, h4, h5, h6, h7⟩ => ⟨ps.length - (i + 1), by omega, a', i + 1, b3, b6, rfl, h1, h2, h3, h4, h5, h6, h7⟩, ?_⟩
    refine ⟨_, rfl, _, rfl, ln, _, _, _, rfl, rfl, SqL.of gl4, atI_nat hpl, ?_⟩
    refine ⟨_, rfl, _, _, rfl, rfl, ?_⟩
    refine ⟨_, rfl, _, rfl, _, rfl, x, lx, ldx, lt, n, tvs, ps, wy, l, g, rfl, hT.same W s4, hl, fun Ol H5 s5 hOl gOl => ⟨Ol, rfl, ⟨_, SqL.of gOl⟩, ?_⟩⟩
    have nOf : Ol ≠ fa := Ne.symm (ne_of_none gf4 hOl)
    have nOl : Ol ≠ ln := Ne.symm (ne_of_none gl4 hOl)
    have nlf : ln ≠ fa := ne_of gl4 gf4 (by intro z; cases z)
    generalize onN wy ps g l = ws at gOl hol hstep
    refine for_list (K := K) (a := Ol) (xs := nV ws) (fun m σ H6 => ∃ b6 : Option V, Aok ps.length (addW (some l) a (ws.take m)) ∧ a.length ≤ (addW (some l) a (ws.take m)).length ∧ Same H H6 ∧ H6 Ol = some (.lst (nV ws)) ∧ H6 fa = some (.dK ((addW (some l) a (ws.take m)).map ak)) ∧ H6 ln = some (.lst (nV ((addW (some l) a (ws.take m)).map (·.1)))) ∧
        σ = [some (.ref x), some (.int g), some (.ref fa), some (.int (l : Int)), some (.ref ln), some (.int ((i : Int) + 1)), b6])
      ⟨_, hA, Nat.le_refl _, s4.trans s5, gOl, s5 _ _ gf4, s5 _ _ gl4, rfl⟩ (fun m σ H6 _ ⟨_, _, _, _, g6, _⟩ => SqL.of g6) ?_ ?_
    · rintro m v σ H6 hv ⟨b6, hA6, hlen6, s6, gO6, gf6, gl6, rfl⟩
      have hm : m < ws.length := by have := (List.getElem?_eq_some_iff.mp hv).1; rw [nV_len] at this; exact this
      have hk0 := List.getElem?_eq_getElem hm
      have hv' := nV_get hk0
      rw [hv'] at hv
      have hv := Option.some.inj hv
      subst hv
      generalize ws[m] = y at hk0
      have hyl := hol y (List.mem_of_getElem? hk0)
      have htk : ws.take (m + 1) = ws.take m ++ [y] := by rw [List.take_succ, hk0]; rfl
      have hsn := addW_snoc (some l) a (ws.take m) y
      generalize hae : addW (some l) a (ws.take m) = a6 at hA6 hlen6 gf6 gl6 hsn
      have hf6 := hA6.few
      refine ⟨_, rfl, _, rfl, fa, _, rfl, DGet.k (k := Sum.inl (y : Int)) gf6, _, rfl, ?_⟩
      rw [ak_mem]
      by_cases hin : y ∈ a6.map (·.1)
      · rw [decide_eq_true hin]
        refine iteF ⟨_, ?_, ?_, s6, gO6, ?_, ?_, rfl⟩ <;> rw [htk, hsn, if_pos hin]
        · exact hA6
        · exact hlen6
        · exact gf6
        · exact gl6
      · rw [decide_eq_false hin]
        refine iteT ⟨_, rfl, _, rfl, _, rfl, fa, _, rfl, DPut.k (k := Sum.inl (y : Int)) gf6 (by rw [PySem.sizeLine_eq, List.length_map]; omega), ?_⟩
        have ep : putK (a6.map ak) (Sum.inl (y : Int)) (V.int (l : Int)) = (a6 ++ [(y, some l)]).map ak := put_new (c := some l) hin
        rw [ep]
        have gO7 : (upd H6 fa (.dK ((a6 ++ [(y, some l)]).map ak))) Ol = some (.lst (nV ws)) := by rw [upd_ne nOf]; exact gO6
        have gl7 : (upd H6 fa (.dK ((a6 ++ [(y, some l)]).map ak))) ln = some (.lst (nV (a6.map (·.1)))) := by rw [upd_ne nlf]; exact gl6
        have gf7 : (upd H6 fa (.dK ((a6 ++ [(y, some l)]).map ak))) fa = some (.dK ((a6 ++ [(y, some l)]).map ak)) := upd_same
        have s7 : Same H (upd H6 fa (.dK ((a6 ++ [(y, some l)]).map ak))) := fun b o e => by rw [upd_ne (ne_of_none e hfa)]; exact s6 _ _ e
        generalize upd H6 fa (.dK ((a6 ++ [(y, some l)]).map ak)) = H7 at gO7 gl7 gf7 s7 ⊢
        refine ⟨_, rfl, .inl ⟨rfl, _, SqL.of gl7⟩, _, rfl, ln, _, _, rfl, rfl, gl7, by rw [PySem.sizeLine_eq, nV_len, List.length_map]; omega, ?_⟩
        refine ⟨_, ?_, ?_, fun b o e => by rw [upd_ne (ne_of_none e hlnH)]; exact s7 _ _ e, by rw [upd_ne nOl]; exact gO7, ?_, ?_, rfl⟩ <;> rw [htk, hsn, if_neg hin]
        · exact hA6.add hyl hin
        · rw [List.length_append]; omega
        · rw [upd_ne (Ne.symm nlf)]; exact gf7
        · rw [upd_same, List.map_append, nV_app]; rfl
    · rintro σ H6 ⟨b6, hA6, hlen6, s6, gO6, gf6, gl6, rfl⟩
      rw [nV_len, List.take_length] at hA6 hlen6 gf6 gl6
      exact ⟨_, _, _, hA6, by omega, hstep, s6, gf6, gl6, rfl⟩
end
end K73
namespace K73
open PySem L2
def setG (g : Nat) (S : List Nat) (l : Nat) : List Nat := S.set l (S.getD l 0 ||| 2 ^ g)
def goalF (wy : Oks → Nat) (ps : List (Int × Int)) (n : Nat) (S : List Nat) (g : Nat) : List Nat := ((aheadN wy ps n g).map (·.1)).foldl (setG g) S
def metN (wy : Oks → Nat) (ps : List (Int × Int)) (n m : Nat) : List Nat := (List.range m).foldl (goalF wy ps n) (List.replicate ps.length 0)
theorem met_succ (wy : Oks → Nat) (ps : List (Int × Int)) (n m : Nat) : metN wy ps n (m + 1) = goalF wy ps n (metN wy ps n m) m := by
  unfold metN
  rw [List.range_succ, List.foldl_append]; rfl
theorem setG_len (g : Nat) (S : List Nat) (l : Nat) : (setG g S l).length = S.length := by unfold setG; rw [List.length_set]
theorem foldG_len (g : Nat) : ∀ (ls S : List Nat), (ls.foldl (setG g) S).length = S.length
  | [], S => rfl
  | l :: ls, S => by rw [List.foldl_cons, foldG_len g ls, setG_len]
theorem met_len (wy : Oks → Nat) (ps : List (Int × Int)) (n : Nat) : ∀ m, (metN wy ps n m).length = ps.length
  | 0 => by unfold metN; simp
  | m + 1 => by rw [met_succ]; unfold goalF; rw [foldG_len, met_len wy ps n m]
/-- the sets stay below 2 ^ m -/
theorem setG_lt {g m : Nat} (hg : g < m) {S : List Nat} (h : ∀ z ∈ S, z < 2 ^ m) (l : Nat) : ∀ z ∈ setG g S l, z < 2 ^ m := fun z hz => by
  unfold setG at hz
  rcases List.mem_or_eq_of_mem_set hz with hz | hz
  · exact h z hz
  · rw [hz]
    refine Nat.or_lt_two_pow ?_ (Nat.pow_lt_pow_right (by decide) hg)
    rw [List.getD_eq_getElem?_getD]
    cases e : S[l]? with
    | none => exact Nat.two_pow_pos m
    | some y => exact h y (List.mem_of_getElem? e)
theorem foldG_lt {g m : Nat} (hg : g < m) : ∀ (ls : List Nat) {S : List Nat}, (∀ z ∈ S, z < 2 ^ m) → ∀ z ∈ ls.foldl (setG g) S, z < 2 ^ m
  | [], S, h => h
  | l :: ls, S, h => foldG_lt hg ls (setG_lt hg h l)
theorem met_lt (wy : Oks → Nat) (ps : List (Int × Int)) (n : Nat) : ∀ m, m ≤ n → ∀ z ∈ metN wy ps n m, z < 2 ^ n
  | 0, _, z, hz => by
    unfold metN at hz
    rw [List.range_zero, List.foldl_nil] at hz
    rw [List.eq_of_mem_replicate hz]; exact Nat.two_pow_pos n
  | m + 1, h, z, hz => by
    rw [met_succ] at hz
    exact foldG_lt (by omega) _ (met_lt wy ps n m (by omega)) z hz
theorem nV_getD {F : List Nat} {p : Nat} (h : p < F.length) : (nV F)[p]? = some (V.int ((F.getD p 0 : Nat) : Int)) := by
  have e := List.getElem?_eq_getElem h
  rw [nV_get e, List.getD_eq_getElem?_getD, e]; rfl
theorem nV_set (F : List Nat) (i v : Nat) : (nV F).set i (.int (v : Int)) = nV (F.set i v) := by unfold nV; rw [List.map_set]
theorem ixN_nat {n i : Nat} (h : i < n) : ixN n (i : Int) = some i := by
  unfold ixN
  rw [if_pos (by omega), if_pos (by omega), Int.toNat_natCast]
def spMet (c : Cs) (C : Addr) (J : TIn) : Sp := fun vs H Q _ => ∃ (x lx ldx lt : Addr) (n : Nat) (tvs : List V) (ps : List (Int × Int)) (wy : Oks → Nat), vs = [.ref x] ∧ TabIn c C J H x lx ldx lt n tvs ps wy ∧
  ∀ (D : Addr) (H' : Hp), Same H H' → H D = none → H' D = some (.tup (nV (metN wy ps n n))) → Q (.ref D) H'
def asgC (s : Stmt) : Scope := match s with
  | .Assign _ (.ListComp _ _ sc _) _ => sc
  | _ => { kind := .function, names := [], isGenerator := false, isCoroutine := false }
abbrev NMt : List Str := ["table", "sets", "goal", "lane"]
section
variable {P : Program} {w : World} {K : PySem.W.Frag} {mg : Str → Option Value} {base : Heap}
theorem scMt : FnScope NMt ["table"] (defScope sMet) := ⟨rfl, rfl, rfl, by decide +kernel, rfl, by decide +kernel, by decide +kernel⟩
theorem bkMt : Blk NMt (defScope sMet) (asgC ((defBody sMet).getD 0 (.Pass ⟨0, 0, 0, 0⟩))) [] [] := ⟨rfl, by decide +kernel, by decide +kernel, by decide +kernel, rfl, by decide +kernel⟩
theorem ndMt : (["lane"] : List Str).Nodup := by decide +kernel
theorem ok_met {c : Cs} {J : TIn} {C f fw fh : Addr} {fd dw dh : FuncData} (F : Fun K "met" "met" sMet f fd) (T : Txt mg) (L : Lnd K c) (W : Way K C fw dw J) (nl : NoAttr K C "land")
    (mh : mg "lanes_ahead" = some (.ref fh)) (kh : PySem.W.keepIn K (.ref fh) = true) (bh : Binds K dh ["table", "goal"] []) (Gh : FnOk P w K mg base CX0 5 fh dh ["table", "goal"] (spAhead c C J)) :
    FnOk P w K mg base CX0 6 f fd ["table"] (spMet c C J) := by
  refine F.ok scMt (fun vs H Q E h => ?_) (fun cdv A outer s H vs Q E hr h => ?_)
  · obtain ⟨x, lx, ldx, lt, n, tvs, ps, wy, rfl, _⟩ := h
    rfl
  · obtain ⟨x, lx, ldx, lt, n, tvs, ps, wy, rfl, hT, q⟩ := h
    have h40 := hT.few
    have hn := hT.n12
    refine ⟨_, pss_cons (ps_setComp (i := 1) (own := ["lane"]) (capN := []) (cap := []) bkMt rfl scMt.nd rfl rfl (pi_tup (pe_fld (pe_fld (pv 0) rfl) rfl))
        (fun C s' H' fp => ⟨pg_name (i := 0) ndMt rfl (Or.inl rfl), pts_nil, pe_int⟩))
      (pss_cons (ps_for PassesOwn.never rfl (pi_range1 rfl T.range (pa_cons (pe_fld (pe_fld (pv 0) rfl) rfl) pa_nil)) (pg_name (i := 2) scMt.nd rfl (Or.inl rfl))
        (pss_one (ps_for PassesOwn.never rfl (pi_keys (pe_call Gh hr rfl mh kh bh .nil pass0 (pa_cons (pv 0) (pa_cons (pv 2) pa_nil)))) (pg_name (i := 3) scMt.nd rfl (Or.inl rfl))
          (pss_one (ps_asg (pe_op op_or (pe_ix ix_list (pv 1) (pv 3) (fun _ _ => rfl)) (pe_op op_shl pe_int (pv 2))) (pg_sub (pv 1) (pv 3) set_list))))))
      (pss_one (ps_ret (pe_callTy call_tuple_of rfl T.tuple PySem.Pv.boot_tuple (pa_cons (pv 1) pa_nil))))), ?_⟩
    obtain ⟨dx, fs, hx, hf⟩ := hT.i
    have htl : tvs.length = ps.length := Paired.length hT.l.2.2
    refine ⟨_, rfl, x, C, dx, fs, _, rfl, hx, W.cl, nl, hf, lx, c.land, ldx, _, _, rfl, hT.l.1, L.cl, L.nl, rfl, lt, rfl, ⟨_, SqT.of hT.l.2.1⟩, comp_gen tvs.length (by rw [PySem.sizeLine_eq]; omega) (fun i acc H4 => H4 = H ∧ acc = nV (List.replicate i 0)) ⟨rfl, rfl⟩ (fun i acc H4 h => by rw [h.2, nV_len, List.length_replicate]; exact Nat.le_refl _) ?_ ?_⟩
    · rintro i acc H4 hi ⟨rfl, rfl⟩
      refine ⟨⟨tvs, tvs[i], SqT.of hT.l.2.1, List.getElem?_eq_getElem hi⟩, fun y H5 hy => ?_⟩
      obtain ⟨rfl, _⟩ := hy
      refine ⟨rfl, ?_⟩
      rw [List.replicate_succ', nV_app]; rfl
    rintro acc H4 ⟨rfl, rfl⟩
    refine ⟨⟨tvs, SqT.of hT.l.2.1, Nat.le_refl _⟩, fun Se hSe => ?_⟩
    rw [htl]
    have s1 := (Same.refl H4).new (o := .lst (nV (List.replicate ps.length 0))) hSe
    have g1 : (upd H4 Se (.lst (nV (List.replicate ps.length 0)))) Se = some (.lst (nV (metN wy ps n 0))) := upd_same
    show gName 1 (V.ref Se) _ (upd H4 Se (.lst (nV (List.replicate ps.length 0)))) _
    generalize upd H4 Se (.lst (nV (List.replicate ps.length 0))) = H1 at s1 g1 ⊢
    refine ⟨_, rfl, x, C, dx, fs, _, rfl, s1 _ _ hx, W.cl, nl, hf, lx, c.land, ldx, _, _, rfl, s1 _ _ hT.l.1, L.cl, L.np, rfl, (n : Int), rfl, by omega, by omega, ?_⟩
    rw [Int.toNat_natCast]
    refine for_range (n := n) (fun g σ H2 => ∃ a2 a3 : Option V, Same H4 H2 ∧ H2 Se = some (.lst (nV (metN wy ps n g))) ∧ σ = [some (.ref x), some (.ref Se), a2, a3])
      ⟨none, none, s1, g1, rfl⟩ ?_ ?_
    · rintro g σ H2 hg ⟨a2, a3, s2, g2, rfl⟩
      rw [Int.zero_add]
      refine ⟨_, rfl, _, rfl, x, lx, ldx, lt, n, tvs, ps, wy, g, rfl, hT.same W s2, fun fa H3 s3 hfa hA gfa => ⟨fa, _, rfl, gfa, fun ob => ?_⟩⟩
      have gfz : (upd H3 fa (.frz ob (.dK ((aheadN wy ps n g).map ak)))) fa = some (.frz ob (.dK ((aheadN wy ps n g).map ak))) := upd_same
      have s5 : Same H2 (upd H3 fa (.frz ob (.dK ((aheadN wy ps n g).map ak)))) := fun b o e => by rw [upd_ne (ne_of_none e hfa)]; exact s3 _ _ e
      generalize upd H3 fa (.frz ob (.dK ((aheadN wy ps n g).map ak))) = H5 at gfz s5 ⊢
      have nfS : fa ≠ Se := Ne.symm (ne_of_none g2 hfa)
      refine for_keys (a := fa) (o := ob) (kvs := (aheadN wy ps n g).map ak) (fun j σ H6 => ∃ a3 : Option V, Same H4 H6 ∧ H6 Se = some (.lst (nV ((((aheadN wy ps n g).map (·.1)).take j).foldl (setG g) (metN wy ps n g)))) ∧ H6 fa = some (.frz ob (.dK ((aheadN wy ps n g).map ak))) ∧ σ = [some (.ref x), some (.ref Se), some (.int (g : Int)), a3])
        ⟨_, s2.trans s5, s5 _ _ g2, gfz, rfl⟩ (fun j σ H6 _ ⟨_, _, _, g6, _⟩ => g6) ?_ ?_
      · rintro j k σ H6 hk ⟨a3, s6, gS6, g6, rfl⟩
        have hj : j < (aheadN wy ps n g).length := by have := (List.getElem?_eq_some_iff.mp hk).1; simpa using this
        have hjp := List.getElem?_eq_getElem hj
        generalize (aheadN wy ps n g)[j] = pd at hjp
        obtain ⟨l, lc⟩ := pd
        have ek : k = Sum.inl (l : Int) := by
          rw [List.getElem?_map, List.getElem?_map, hjp] at hk
          exact (Option.some.inj hk).symm
        subst ek
        rw [show kV (Sum.inl (l : Int)) = V.int (l : Int) from rfl]
        have hl : l < ps.length := hA.lt _ (List.mem_of_getElem? hjp)
        have hjm : ((aheadN wy ps n g).map (·.1))[j]? = some l := by rw [List.getElem?_map, hjp]; rfl
        have htk : (((aheadN wy ps n g).map (·.1)).take (j + 1)).foldl (setG g) (metN wy ps n g) = setG g ((((aheadN wy ps n g).map (·.1)).take j).foldl (setG g) (metN wy ps n g)) l := by
          rw [List.take_succ, hjm, List.foldl_append]; rfl
        have hSl : ((((aheadN wy ps n g).map (·.1)).take j).foldl (setG g) (metN wy ps n g)).length = ps.length := by rw [foldG_len, met_len]
        rw [htk]
        generalize (((aheadN wy ps n g).map (·.1)).take j).foldl (setG g) (metN wy ps n g) = S at gS6 hSl
        refine ⟨_, rfl, _, rfl, Se, _, _, _, rfl, rfl, SqL.of gS6, atI_nat (nV_getD (p := l) (by omega)), _, rfl, _, _, rfl, rfl, ⟨(show (0 : Int) ≤ (g : Int) by omega), (show (g : Int) ≤ 1000000 by omega), (by decide)⟩, _, _, rfl, rfl, ?_⟩
        refine ⟨_, rfl, _, rfl, Se, _, (l : Int), l, rfl, rfl, gS6, ixN_nat (by rw [nV_len]; omega), ?_⟩
        have e : Builtin.bitOr ((S.getD l 0 : Nat) : Int) (1 * 2 ^ (g : Int).toNat) = ((S.getD l 0 ||| 2 ^ g : Nat) : Int) := by
          rw [Int.toNat_natCast, Int.one_mul, show (2 : Int) ^ g = ((2 ^ g : Nat) : Int) by rw [Int.natCast_pow]; rfl, Yd.bitOr_nat]
        dsimp only
        rw [e, nV_set]
        exact ⟨_, fun b o e => by rw [upd_ne (ne_of_none e hSe)]; exact s6 _ _ e, upd_same, by rw [upd_ne nfS]; exact g6, rfl⟩
      · rintro σ H6 ⟨a3, s6, gS6, g6, rfl⟩
        refine ⟨_, _, s6, ?_, rfl⟩
        rw [List.take_of_length_le (by rw [List.length_map, List.length_map]; exact Nat.le_refl _)] at gS6
        rw [met_succ]; exact gS6
    · rintro σ H2 ⟨a2, a3, s2, g2, rfl⟩
      refine ⟨_, rfl, Se, _, rfl, .inl ⟨SqL.of g2, fun t ht => q t _ (s2.new ht) (s2.free ht) upd_same⟩⟩
end
end K73
namespace L2
open PySem PySem.Spec PyProof.Rows
section
variable {X : Cx} {a : Expr} {ta : TE} {pos : Pos}
/-- not x, of a list or any value with a truth -/
def tNotT (K : PySem.W.Frag) (ta : TE) : TE := fun σ H Q => ta σ H fun x H1 => ∃ k, TruV K x H1 k ∧ Q (.bl (!k)) H1
theorem pe_notT (ha : PE X a ta) : PE X (.UnaryOp .Not a pos) (tNotT X.K ta) := by
  intro pins s σ H Q I h
  refine UnaryOp_ (thn (ha pins s σ H _ I h) fun v s1 ⟨x, H1, I1, r1, q1⟩ => ?_)
  obtain ⟨k, t, q1⟩ := q1
  refine not_of (thn (tru_ok pins s1 σ H1 x v (fun b H2 => b = k ∧ H2 = H1) I1 r1 ⟨k, t, rfl, rfl⟩) fun b s2 ⟨H2, I2, e1, e2⟩ => ?_)
  subst e1 e2
  exact ⟨.bl (!b), H2, I2, rfl, q1⟩
end
end L2
namespace K73
open PySem L2
def lostB (wy : Oks → Nat) (ps : List (Int × Int)) (l g : Nat) : Bool := !decide ((ps.getD l (0, 0)).2 = (g : Int)) && (onN wy ps g l).isEmpty
def spIsLost (c : Cs) (C : Addr) (J : TIn) : Sp := fun vs H Q _ => ∃ (x lx ldx lt : Addr) (n : Nat) (tvs : List V) (ps : List (Int × Int)) (wy : Oks → Nat) (l g : Nat), vs = [.ref x, .int l, .int g] ∧ TabIn c C J H x lx ldx lt n tvs ps wy ∧ l < ps.length ∧ ∀ H', Same H H' → Q (.bl (lostB wy ps l g)) H'
section
variable {P : Program} {w : World} {K : PySem.W.Frag} {mg : Str → Option Value} {base : Heap}
theorem scIl : FnScope ["table", "lane", "goal"] ["table", "lane", "goal"] (defScope sIsLost) := ⟨rfl, rfl, rfl, by decide +kernel, rfl, by decide +kernel, by decide +kernel⟩
theorem ok_isLost {c : Cs} {J : TIn} {C f fw fe fo : Addr} {fd dw de do' : FuncData} (F : Fun K "is_lost" "is_lost" sIsLost f fd) (L : Lnd K c) (W : Way K C fw dw J) (nl : NoAttr K C "land") (M : EndM K c fe de) (Ge : FnOk P w K mg base CX0 1 fe de ["self", "lane"] (spAt c Prod.snd))
    (mo : mg "onward" = some (.ref fo)) (ko : PySem.W.keepIn K (.ref fo) = true) (bo : Binds K do' ["table", "lane", "goal"] []) (Go : FnOk P w K mg base CX0 4 fo do' ["table", "lane", "goal"] (spOn c C J)) :
    FnOk P w K mg base CX0 5 f fd ["table", "lane", "goal"] (spIsLost c C J) := by
  refine F.ok scIl (fun vs H Q E h => ?_) (fun cdv A outer s H vs Q E hr h => ?_)
  · obtain ⟨x, lx, ldx, lt, n, tvs, ps, wy, l, g, rfl, _⟩ := h
    rfl
  · obtain ⟨x, lx, ldx, lt, n, tvs, ps, wy, l, g, rfl, hT, hl, q⟩ := h
    have hr1 : Room 1 _ := hr.mono (by decide)
    refine ⟨_, pss_one (ps_ret (pe_and (pe_cmpR op_ne (pe_meth (pe_fld (pv 0) rfl) L.cl M.m Ge hr1 M.b .nil pass0 (pa_cons (pv 1) pa_nil)) (pv 2) (nomark _)) (pe_one (pe_notT (pe_call Go hr rfl mo ko bo .nil pass0 (pa_cons (pv 0) (pa_cons (pv 1) (pa_cons (pv 2) pa_nil)))))))), ?_⟩
    obtain ⟨dx, fs, hx, hf⟩ := hT.i
    have he := List.getElem?_eq_getElem hl
    have heD : ps.getD l (0, 0) = ps[l] := by rw [List.getD_eq_getElem?_getD, he]; rfl
    unfold lostB at q
    rw [heD] at q
    generalize ps[l] = pr at he q
    refine ⟨_, rfl, x, C, dx, fs, _, rfl, hx, W.cl, nl, hf, lx, ldx, _, rfl, hT.l.1, rfl, _, rfl, lx, ldx, lt, (n : Int), tvs, ps, l, pr, rfl, hT.l, he, _, rfl, rfl, _, rfl, ?_⟩
    rw [int_eq']
    by_cases h1 : pr.2 = (g : Int)
    · rw [decide_eq_true h1]
      have := q H (Same.refl H)
      rw [decide_eq_true h1] at this
      exact iteF this
    · rw [decide_eq_false h1]
      refine iteT ⟨_, rfl, _, rfl, _, rfl, x, lx, ldx, lt, n, tvs, ps, wy, l, g, rfl, hT, hl, fun D H' s' hD gD => ?_⟩
      refine ⟨_, .inl ⟨_, SqL.of gD, rfl⟩, ?_⟩
      have := q H' s'
      rw [decide_eq_false h1] at this
      have e : (!(!(nV (onN wy ps g l)).isEmpty)) = (onN wy ps g l).isEmpty := by
        rw [Bool.not_not]
        cases onN wy ps g l <;> rfl
      show Q (V.bl (!(!(nV (onN wy ps g l)).isEmpty))) H'
      rw [e]
      exact this
end
end K73
namespace K73
open PySem L2
def mems (m : Nat) : List Nat := Yd.memN m (Builtin.Int.intBits (m : Int))
theorem memV_mems (m : Nat) : memV m = nV (mems m) := rfl
def pairsL (S : List Nat) (l : Nat) : List (Nat × Nat) := (mems (S.getD l 0)).map fun g => (l, g)
def pairsN (S : List Nat) (m : Nat) : List (Nat × Nat) := (List.range m).flatMap (pairsL S)
def lostN (wy : Oks → Nat) (ps : List (Int × Int)) (n : Nat) : Option (Nat × Nat) := (pairsN (metN wy ps n n) ps.length).find? fun q => lostB wy ps q.1 q.2
theorem pairs_succ (S : List Nat) (m : Nat) : pairsN S (m + 1) = pairsN S m ++ pairsL S m := by
  unfold pairsN
  rw [List.range_succ, List.flatMap_append]; simp
theorem pairs_pre (S : List Nat) {m k : Nat} (h : m ≤ k) : ∃ r, pairsN S k = pairsN S m ++ r := by
  induction k with
  | zero => exact ⟨[], by rw [show m = 0 by omega]; simp⟩
  | succ k ih =>
    rcases Nat.lt_or_ge k m with h1 | h1
    · exact ⟨[], by rw [show m = k + 1 by omega]; simp⟩
    · obtain ⟨r, e⟩ := ih h1
      exact ⟨r ++ pairsL S k, by rw [pairs_succ, e, List.append_assoc]⟩
def LostV (H : Hp) (v : V) : Option (Nat × Nat) → Prop
  | none => v = .non
  | some q => ∃ t, v = .ref t ∧ H t = some (.tup [.int (q.1 : Int), .int (q.2 : Int)])
def spLost (c : Cs) (C : Addr) (J : TIn) : Sp := fun vs H Q _ => ∃ (x lx ldx lt : Addr) (n : Nat) (tvs : List V) (ps : List (Int × Int)) (wy : Oks → Nat), vs = [.ref x] ∧ TabIn c C J H x lx ldx lt n tvs ps wy ∧
  ∀ (v : V) (H' : Hp), Same H H' → LostV H' v (lostN wy ps n) → Q v H'
abbrev NLo : List Str := ["table", "lane", "goals", "goal"]
section
variable {P : Program} {w : World} {K : PySem.W.Frag} {mg : Str → Option Value} {base : Heap}
theorem scLo : FnScope NLo ["table"] (defScope sLost) := ⟨rfl, rfl, rfl, by decide +kernel, rfl, by decide +kernel, by decide +kernel⟩
theorem ok_lost {c : Cs} {J : TIn} {C f fw fm fb fi : Addr} {fd dw dm db di : FuncData} (F : Fun K "lost" "lost" sLost f fd) (T : Txt mg) (W : Way K C fw dw J)
    (mm : mg "met" = some (.ref fm)) (km : PySem.W.keepIn K (.ref fm) = true) (bm : Binds K dm ["table"] []) (Gm : FnOk P w K mg base CX0 6 fm dm ["table"] (spMet c C J))
    (mb : mg "members" = some (.ref fb)) (kb : PySem.W.keepIn K (.ref fb) = true) (bb : Binds K db ["some"] []) (Gb : FnOk P w K mg base CX0 2 fb db ["some"] spMem)
    (mi : mg "is_lost" = some (.ref fi)) (ki : PySem.W.keepIn K (.ref fi) = true) (bi : Binds K di ["table", "lane", "goal"] []) (Gi : FnOk P w K mg base CX0 5 fi di ["table", "lane", "goal"] (spIsLost c C J)) :
    FnOk P w K mg base CX0 7 f fd ["table"] (spLost c C J) := by
  refine F.ok scLo (fun vs H Q E h => ?_) (fun cdv A outer s H vs Q E hr h => ?_)
  · obtain ⟨x, lx, ldx, lt, n, tvs, ps, wy, rfl, _⟩ := h
    rfl
  · obtain ⟨x, lx, ldx, lt, n, tvs, ps, wy, rfl, hT, q⟩ := h
    have hr2 : Room 2 _ := hr.mono (by decide)
    have hr5 : Room 5 _ := hr.mono (by decide)
    have hn := hT.n12
    refine ⟨_, pss_cons (ps_for PassesOwn.never rfl (pi_enumT rfl T.enum (pa_cons (pe_call Gm hr rfl mm km bm .nil pass0 (pa_cons (pv 0) pa_nil)) pa_nil)) (pg_tup rfl (pgs_cons (pg_name (i := 1) scLo.nd rfl (Or.inl rfl)) (pgs_cons (pg_name (i := 2) scLo.nd rfl (Or.inl rfl)) pgs_nil)))
        (pss_one (ps_for PassesOwn.never rfl (pi_list (pe_call Gb hr2 rfl mb kb bb .nil pass0 (pa_cons (pv 2) pa_nil))) (pg_name (i := 3) scLo.nd rfl (Or.inl rfl))
          (pss_one (ps_if (pt_val (pe_call Gi hr5 rfl mi ki bi .nil pass0 (pa_cons (pv 0) (pa_cons (pv 1) (pa_cons (pv 3) pa_nil))))) (pss_one (ps_ret (pe_tup (pa_cons (pv 1) (pa_cons (pv 3) pa_nil))))) pss_nil)))))
      (pss_one (ps_ret pe_non)), ?_⟩
    refine ⟨_, rfl, x, lx, ldx, lt, n, tvs, ps, wy, rfl, hT, fun Mt H1 s1 hMt gMt => ⟨Mt, rfl, ⟨_, SqT.of gMt⟩, ?_⟩⟩
    have hSl := met_len wy ps n n
    have hSlt := met_lt wy ps n n (Nat.le_refl _)
    unfold lostN at q
    generalize metN wy ps n n = S at gMt hSl hSlt q
    refine for_enum (sq := fun H => SqT K H Mt) (xs := nV S) (fun i σ H2 => ∃ a1 a2 a3 : Option V, Same H1 H2 ∧ (∀ z ∈ pairsN S i, lostB wy ps z.1 z.2 = false) ∧ σ = [some (.ref x), a1, a2, a3])
      ⟨none, none, none, Same.refl H1, (fun z hz => by cases hz), rfl⟩ (fun i σ H2 _ ⟨_, _, _, s2, _⟩ => SqT.of (s2 _ _ gMt)) ?_ ?_
    · rintro l v r σ H2 hv ⟨a1, a2, a3, s2, hno, rfl⟩ hr2'
      have hl : l < S.length := by have := (List.getElem?_eq_some_iff.mp hv).1; rw [nV_len] at this; exact this
      have hv' := nV_getD hl
      rw [hv'] at hv
      have hv := Option.some.inj hv
      subst hv
      have hmlt : S.getD l 0 < 2 ^ n := by
        rw [List.getD_eq_getElem?_getD, List.getElem?_eq_getElem hl]
        exact hSlt _ (List.getElem_mem hl)
      have s3 := s2.new (o := .tup [.int (l : Int), .int ((S.getD l 0 : Nat) : Int)]) hr2'
      refine ⟨r, _, rfl, SqT.of upd_same, rfl, _, _, rfl, _, _, rfl, rfl, ?_⟩
      generalize upd H2 r (.tup [.int (l : Int), .int ((S.getD l 0 : Nat) : Int)]) = H3 at s3 ⊢
      refine ⟨_, rfl, S.getD l 0, rfl, Nat.lt_of_lt_of_le hmlt (Nat.pow_le_pow_right (by decide) (by omega)), fun Mb hMb => ⟨Mb, rfl, ⟨_, SqL.of upd_same⟩, ?_⟩⟩
      rw [memV_mems]
      have s4 := s3.new (o := .lst (nV (mems (S.getD l 0)))) hMb
      have g4 : (upd H3 Mb (.lst (nV (mems (S.getD l 0))))) Mb = some (.lst (nV (mems (S.getD l 0)))) := upd_same
      generalize upd H3 Mb (.lst (nV (mems (S.getD l 0)))) = H4 at s4 g4 ⊢
      refine for_list (K := K) (a := Mb) (xs := nV (mems (S.getD l 0))) (fun m σ H5 => ∃ a3 : Option V, Same H1 H5 ∧ H5 Mb = some (.lst (nV (mems (S.getD l 0)))) ∧ (∀ g ∈ (mems (S.getD l 0)).take m, lostB wy ps l g = false) ∧ σ = [some (.ref x), some (.int (l : Int)), some (.int ((S.getD l 0 : Nat) : Int)), a3])
        ⟨_, s4, g4, fun g hg => by simp at hg, rfl⟩ (fun m σ H5 _ ⟨_, _, g5, _⟩ => SqL.of g5) ?_ ?_
      · rintro m v σ H5 hv ⟨a3, s5, g5, hno2, rfl⟩
        have hm : m < (mems (S.getD l 0)).length := by have := (List.getElem?_eq_some_iff.mp hv).1; rw [nV_len] at this; exact this
        have hk0 := List.getElem?_eq_getElem hm
        have hv' := nV_get hk0
        rw [hv'] at hv
        have hv := Option.some.inj hv
        subst hv
        generalize (mems (S.getD l 0))[m] = g at hk0
        refine ⟨_, rfl, _, rfl, _, rfl, x, lx, ldx, lt, n, tvs, ps, wy, l, g, rfl, hT.same W (s1.trans s5), by omega, fun H6 s6 => ⟨_, rfl, ?_⟩⟩
        cases hb : lostB wy ps l g with
        | false =>
          refine iteF ⟨_, s5.trans s6, s6 _ _ g5, fun g' hg' => ?_, rfl⟩
          rw [List.take_succ, hk0] at hg'
          rcases List.mem_append.mp hg' with h | h
          · exact hno2 g' h
          · have : g' = g := by simpa using h
            rw [this]; exact hb
        | true =>
          refine iteT ⟨_, rfl, _, rfl, by show 2 ≤ sizeLine; decide, fun t ht => ?_⟩
          refine q _ _ ((s1.trans (s5.trans s6)).new ht) ?_
          obtain ⟨rest, er⟩ := pairs_pre S (m := l + 1) (k := ps.length) (by omega)
          have hsplit : mems (S.getD l 0) = (mems (S.getD l 0)).take m ++ g :: (mems (S.getD l 0)).drop (m + 1) := by
            have hd : (mems (S.getD l 0)).drop m = g :: (mems (S.getD l 0)).drop (m + 1) := by
              rw [List.drop_eq_getElem_cons hm]
              congr 1
              exact Option.some.inj ((List.getElem?_eq_getElem hm).symm.trans hk0)
            exact (List.take_append_drop m (mems (S.getD l 0))).symm.trans (by rw [hd])
          have ef : (pairsN S ps.length).find? (fun q => lostB wy ps q.1 q.2) = some (l, g) := by
            rw [er, pairs_succ, List.append_assoc, List.find?_append, List.find?_eq_none.mpr (fun z hz => by rw [hno z hz]; decide), Option.none_or]
            unfold pairsL
            rw [hsplit, List.map_append, List.append_assoc, List.find?_append, List.find?_eq_none.mpr (fun z hz => by
              obtain ⟨g', hg', rfl⟩ := List.mem_map.mp hz
              show ¬ lostB wy ps l g' = true
              rw [hno2 g' hg']; decide), Option.none_or]
            show List.find? _ ((l, g) :: _) = _
            rw [List.find?_cons_of_pos (by exact hb)]
          rw [ef]
          exact ⟨t, rfl, upd_same⟩
      · rintro σ H5 ⟨a3, s5, g5, hno2, rfl⟩
        rw [nV_len, List.take_length] at hno2
        refine ⟨_, _, _, s5, fun z hz => ?_, rfl⟩
        rw [pairs_succ] at hz
        rcases List.mem_append.mp hz with hz | hz
        · exact hno z hz
        · obtain ⟨g', hg', rfl⟩ := List.mem_map.mp hz
          exact hno2 g' hg'
    · rintro σ H2 ⟨a1, a2, a3, s2, hno, rfl⟩
      rw [nV_len, hSl] at hno
      refine q _ _ (s1.trans s2) ?_
      rw [List.find?_eq_none.mpr (fun z hz => by rw [hno z hz]; decide)]
      rfl
end
end K73
namespace K73
open PySem L2
def spLand (K : PySem.W.Frag) : Sp := fun vs H Q _ => ∃ (a : Addr) (ns : List Int), vs = [.ref a] ∧ SqL K H a (ns.map V.int) ∧
  ∀ (t l : Addr) (n : Nat) (lvs : List V) (ps : List (Int × Int)) (H' : Hp), Same H H' → H' t = some (.tup [.int n, .ref l]) → H' l = some (.lst lvs) → Lns H' lvs ps → ps.length ≤ 40 → (2 ≤ n ∧ n ≤ 12) → (∀ q ∈ ps, okP n q = true) → Q (.ref t) H'
def spSome : Sp := fun vs H Q _ => ∃ (l : Addr) (ks : List Nat) (d th : Int), vs = [.ref l, .int d, .int th] ∧ 0 < th ∧ H l = some (.lst (natV ks)) ∧ ks.length ≤ 1000 ∧
  ∀ (D : Addr) (us : List Nat) (H' : Hp), Same H H' → H D = none → H' D = some (.lst (natV us)) → (∀ k ∈ us, k ∈ ks) → us.length ≤ ks.length → Q (.ref D) H'
abbrev NLd : List Str := ["_law_script", "_law_places", "_law_many", "_law_lanes", "_law_k", "_law_draw_here"]
abbrev NSo : List Str := ["_law_begin", "_law_draw_here", "_law_thin"]
def retComp (s : Stmt) : Scope := match s with
  | .Return (some (.ListComp _ _ sc _)) _ => sc
  | _ => noScope
section
variable {P : Program} {w : World} {K : PySem.W.Frag} {mg : Str → Option Value} {base : Heap}
theorem scLd : FnScope NLd ["_law_script"] (defScope sLand) := ⟨rfl, rfl, rfl, by decide +kernel, rfl, by decide +kernel, by decide +kernel⟩
theorem ok_land {f fd : Addr} {df dd : FuncData} (F : Fun K "_law_land" "_law_land" sLand f df) (T : Txt mg) (md : mg "_law_draw" = some (.ref fd)) (kd : PySem.W.keepIn K (.ref fd) = true) (bd : Binds K dd ["_law_script", "_law_k"] [])
    (Gd : FnOk P w K mg base CX0 1 fd dd ["_law_script", "_law_k"] (spDraw K)) : FnOk P w K mg base CX0 2 f df ["_law_script"] (spLand K) := by
  refine F.ok scLd (fun vs H Q E h => ?_) (fun cdv A outer s H vs Q E hr h => ?_)
  · obtain ⟨a, ns, rfl, _⟩ := h
    rfl
  · obtain ⟨a, ns, rfl, hS, q⟩ := h
    have hr1 : Room 1 _ := hr.mono (by decide)
    refine ⟨_, pss_cons (ps_set (i := 1) scLd.nd rfl (Or.inl rfl) (pe_op op_add pe_int (pe_op op_mod (pe_call Gd hr1 rfl md kd bd .nil pass0 (pa_cons (pv 0) (pa_cons pe_int pa_nil))) pe_int)))
      (pss_cons (ps_set (i := 2) scLd.nd rfl (Or.inl rfl) (pe_op op_mod (pe_call Gd hr1 rfl md kd bd .nil pass0 (pa_cons (pv 0) (pa_cons pe_int pa_nil))) pe_int))
      (pss_cons (ps_if (pt_cmpR op_eq (pe_op op_mod (pe_op op_fdiv (pe_call Gd hr1 rfl md kd bd .nil pass0 (pa_cons (pv 0) (pa_cons pe_int pa_nil))) pe_int) pe_int) pe_int (nomark _))
        (pss_cons (ps_set (i := 1) scLd.nd rfl (Or.inl rfl) (pe_op op_add pe_int (pe_op op_mod (pe_op op_fdiv (pe_call Gd hr1 rfl md kd bd .nil pass0 (pa_cons (pv 0) (pa_cons pe_int pa_nil))) pe_int) pe_int)))
        (pss_one (ps_set (i := 2) scLd.nd rfl (Or.inl rfl) (pe_op op_mod (pe_call Gd hr1 rfl md kd bd .nil pass0 (pa_cons (pv 0) (pa_cons pe_int pa_nil))) pe_int)))) pss_nil)
      (pss_cons (ps_set (i := 3) scLd.nd rfl (Or.inl rfl) (pe_lst pa_nil))
      (pss_cons (ps_for PassesOwn.never rfl (pi_range1 rfl T.range (pa_cons (pv 2) pa_nil)) (pg_name (i := 4) scLd.nd rfl (Or.inl rfl))
        (pss_cons (ps_set (i := 5) scLd.nd rfl (Or.inl rfl) (pe_call Gd hr1 rfl md kd bd .nil pass0 (pa_cons (pv 0) (pa_cons (pe_op op_add pe_int (pv 4)) pa_nil))))
        (pss_one (ps_expr (pe_bm PySem.F.plainAttrs_list PySem.F.slot_list_append PySem.F.type_list_append mt_append (pv 3) (pa_cons (pe_tup (pa_cons (pe_op op_mod (pv 5) (pv 1))
          (pa_cons (pe_op op_mod (pe_op op_add (pe_op op_add (pe_op op_mod (pv 5) (pv 1)) pe_int) (pe_op op_mod (pe_op op_fdiv (pv 5) pe_int) (pe_op op_sub (pv 1) pe_int))) (pv 1)) pa_nil))) pa_nil))))))
      (pss_one (ps_ret (pe_tup (pa_cons (pv 1) (pa_cons (pv 3) pa_nil))))))))), ?_⟩
    refine ⟨_, rfl, a, ns, 0, rfl, hS, by decide, by decide, fun d0 H0 s0 => ⟨_, _, rfl, rfl, (by show (0 : Int) < 5; decide), _, _, rfl, rfl, ?_⟩⟩
    refine ⟨_, rfl, a, ns, 1, rfl, s0.seq hS, by decide, by decide, fun d1 H1 s01 => ⟨_, _, rfl, rfl, (by show (0 : Int) < 15; decide), ?_⟩⟩
    have s1 := s0.trans s01
    refine ⟨_, rfl, a, ns, 0, rfl, s1.seq hS, by decide, by decide, fun d2 H2 s12 => ⟨_, _, rfl, rfl, ⟨by decide, by decide⟩, _, _, rfl, rfl, (by show (0 : Int) < 16; decide), rfl, _, rfl, ?_⟩⟩
    have s2 := s1.trans s12
    refine ite2 (fun _ => ⟨_, rfl, a, ns, 0, rfl, s2.seq hS, by decide, by decide, fun d3 H3 s23 => ⟨_, _, rfl, rfl, ⟨by decide, by decide⟩, _, _, rfl, rfl, (by show (0 : Int) < 2; decide), _, _, rfl, rfl, ?_⟩⟩) fun _ => ?_
    rotate_left
    rotate_left
    refine ⟨_, rfl, a, ns, 1, rfl, (s2.trans s23).seq hS, by decide, by decide, fun d4 H4 s34 => ⟨_, _, rfl, rfl, (by show (0 : Int) < 21; decide), ?_⟩⟩
    all_goals
      first
      | (obtain ⟨n, hn, hn2⟩ : ∃ n : Nat, (7 : Int) + d3 / 128 % 2 = (n : Int) ∧ 2 ≤ n ∧ n ≤ 12 := ⟨(7 + d3 / 128 % 2).toNat, by omega, by omega, by omega⟩
         obtain ⟨m, hm, hm40⟩ : ∃ m : Nat, d4 % 21 = (m : Int) ∧ m ≤ 40 := ⟨(d4 % 21).toNat, by omega, by omega⟩
         have s5 := (s2.trans s23).trans s34)
      | (obtain ⟨n, hn, hn2⟩ : ∃ n : Nat, (2 : Int) + d0 % 5 = (n : Int) ∧ 2 ≤ n ∧ n ≤ 12 := ⟨(2 + d0 % 5).toNat, by omega, by omega, by omega⟩
         obtain ⟨m, hm, hm40⟩ : ∃ m : Nat, d1 % 15 = (m : Int) ∧ m ≤ 40 := ⟨(d1 % 15).toNat, by omega, by omega⟩
         have s5 := s2)
      dsimp only
      rw [hn, hm]
      refine ⟨Nat.zero_le _, fun l hl => ?_⟩
      have s6 := s5.new (o := .lst []) hl
      have hHl : H l = none := s5.free hl
      refine ⟨_, rfl, (m : Int), rfl, by omega, by omega, ?_⟩
      rw [Int.toNat_natCast]
      refine for_range (n := m) (fun i σ H3 => ∃ (a1 a2 : Option V) (lvs : List V) (ps : List (Int × Int)), Same H H3 ∧ H3 l = some (.lst lvs) ∧ Lns H3 lvs ps ∧ ps.length = i ∧ (∀ q ∈ ps, okP n q = true) ∧ σ = [some (.ref a), some (.int n), some (.int m), some (.ref l), a1, a2])
        ⟨none, none, [], [], s6, upd_same, .nil, rfl, (fun q hq => by cases hq), rfl⟩ ?_ ?_
      · rintro i σ H3 hi ⟨a1, a2, lvs, ps, s7, g3, hl3, hlen, hok, rfl⟩
        refine ⟨_, rfl, _, rfl, _, _, rfl, rfl, a, ns, _, rfl, s7.seq hS, by omega, by omega, fun d H4 s8 => ?_⟩
        have hmod : 0 ≤ d % (n : Int) ∧ d % (n : Int) < n := ⟨Int.emod_nonneg _ (by omega), Int.emod_lt_of_pos _ (by omega)⟩
        have hmod2 : 0 ≤ d / 16 % ((n : Int) - 1) ∧ d / 16 % ((n : Int) - 1) < (n : Int) - 1 := ⟨Int.emod_nonneg _ (by omega), Int.emod_lt_of_pos _ (by omega)⟩
        have np : (0 : Int) < (n : Int) := by omega
        refine ⟨_, rfl, .inl ⟨rfl, _, SqL.of (s8 _ _ g3)⟩, _, rfl, _, rfl, _, _, rfl, rfl, np, _, rfl, _, rfl, _, _, rfl, rfl, np, _, _, rfl, rfl, _, rfl, _, _, rfl, rfl, ⟨by decide, by decide⟩, _, rfl, _, _, rfl, rfl, _, _, rfl, rfl, (by show (0 : Int) < (n : Int) - 1; omega), _, _, rfl, rfl, _, rfl, _, _, rfl, rfl, np, ?_⟩
        refine ⟨by show 2 ≤ sizeLine; decide, fun t ht => ?_⟩
        have s9 := s8.new (o := .tup [.int (d % (n : Int)), .int ((d % (n : Int) + 1 + d / 16 % ((n : Int) - 1)) % (n : Int))]) ht
        have hll : lvs.length = ps.length := Paired.length hl3
        refine ⟨l, lvs, _, rfl, rfl, s9 _ _ g3, by rw [PySem.sizeLine_eq]; omega, ?_⟩
        have nlt : l ≠ t := ne_of_none (s8 _ _ g3) ht
        refine ⟨_, _, lvs ++ [.ref t], ps ++ [(d % (n : Int), (d % (n : Int) + 1 + d / 16 % ((n : Int) - 1)) % (n : Int))], fun b o e => ?_, upd_same, ?_, by rw [List.length_append, hlen]; rfl, fun q hq => ?_, rfl⟩
        · rw [upd_ne (ne_of_none e hHl)]; exact s9 _ _ (s7 _ _ e)
        · refine Lns.snoc ⟨t, rfl, by rw [upd_ne (Ne.symm nlt)]; exact upd_same⟩ ?_
          have z : Lns _ lvs ps := Lns.same s9 hl3
          exact lns_off (s9 _ _ g3) z
        · rcases List.mem_append.mp hq with z | z
          · exact hok q z
          · rw [List.mem_singleton.mp z]; exact okP_next hmod.1 hmod.2 hmod2.1 hmod2.2
      · rintro σ H3 ⟨a1, a2, lvs, ps, s7, g3, hl3, hlen, hok, rfl⟩
        refine ⟨_, rfl, _, rfl, by show 2 ≤ sizeLine; decide, fun t ht => ?_⟩
        have s8 := (Same.refl H3).new (o := .tup [.int n, .ref l]) ht
        exact q t l n lvs ps _ (s7.trans s8) upd_same (s8 _ _ g3) (Lns.same s8 hl3) (by omega) hn2 hok
end
end K73
namespace K73
open PySem L2
/-! what is met is closed -/
theorem addW_cons (l : Option Nat) (a : As) (x : Nat) (ws : List Nat) : addW l a (x :: ws) = addW l (if x ∈ a.map (·.1) then a else a ++ [(x, l)]) ws := rfl
theorem addW_pre (l : Option Nat) : ∀ (ws : List Nat) (a : As), ∃ r, addW l a ws = a ++ r
  | [], a => ⟨[], by rw [addW_nil, List.append_nil]⟩
  | x :: ws, a => by
    rw [addW_cons]
    split
    · exact addW_pre l ws a
    · obtain ⟨r, e⟩ := addW_pre l ws (a ++ [(x, l)])
      exact ⟨[(x, l)] ++ r, by rw [e, List.append_assoc]⟩
theorem addW_sub {l : Option Nat} {ws : List Nat} {a : As} {z : Nat} (h : z ∈ a.map (·.1)) : z ∈ (addW l a ws).map (·.1) := by
  obtain ⟨r, e⟩ := addW_pre l ws a
  rw [e, List.map_append]
  exact List.mem_append_left _ h
theorem addW_mem (l : Option Nat) : ∀ (ws : List Nat) (a : As) (x : Nat), x ∈ ws → x ∈ (addW l a ws).map (·.1)
  | y :: ws, a, x, h => by
    rw [addW_cons]
    rcases List.mem_cons.mp h with h | h
    · subst h
      refine addW_sub ?_
      split
      · assumption
      · rw [List.map_append]
        exact List.mem_append_right _ (by simp)
    · exact addW_mem l ws _ x h
theorem runA_closed {on : Nat → List Nat} {L : Nat} (hon : ∀ x, ∀ z ∈ on x, z < L) : ∀ (f : Nat) (a : As) (i : Nat), Aok L a → i ≤ a.length → L ≤ f + i → (∀ j y, j < i → a[j]? = some y → ∀ z ∈ on y.1, z ∈ a.map (·.1)) →
    (∀ y ∈ runA on f a i, ∀ z ∈ on y.1, z ∈ (runA on f a i).map (·.1)) ∧ ∀ z ∈ a.map (·.1), z ∈ (runA on f a i).map (·.1)
  | 0, a, i, ok, hi, hf, inv => by
    have := ok.few
    refine ⟨fun y hy z hz => ?_, fun z hz => hz⟩
    obtain ⟨j, hj, e⟩ := List.getElem_of_mem (show y ∈ a from hy)
    exact inv j y (by omega) (by rw [List.getElem?_eq_getElem hj, e]) z hz
  | f + 1, a, i, ok, hi, hf, inv => by
    cases h : a[i]? with
    | none =>
      rw [runA_end h]
      have hl : a.length ≤ i := List.getElem?_eq_none_iff.mp h
      refine ⟨fun y hy z hz => ?_, fun z hz => hz⟩
      obtain ⟨j, hj, e⟩ := List.getElem_of_mem hy
      exact inv j y (by omega) (by rw [List.getElem?_eq_getElem hj, e]) z hz
    | some x =>
      rw [runA_step h]
      have hlt : i < a.length := (List.getElem?_eq_some_iff.mp h).1
      obtain ⟨r, er⟩ := addW_pre (some x.1) (on x.1) a
      have hlen : i + 1 ≤ (addW (some x.1) a (on x.1)).length := by rw [er, List.length_append]; omega
      obtain ⟨h1, h2⟩ := runA_closed hon f (addW (some x.1) a (on x.1)) (i + 1) (Aok.addW (on x.1) ok (hon x.1)) hlen (by omega) (fun j y hj hy z hz => by
        have hy' : a[j]? = some y := by
          rw [er, List.getElem?_append_left (by omega)] at hy
          exact hy
        rcases Nat.lt_or_ge j i with h3 | h3
        · exact addW_sub (inv j y h3 hy' z hz)
        · have : j = i := by omega
          subst this
          rw [h] at hy'
          injection hy' with hy'
          subst hy'
          exact addW_mem _ _ _ z hz)
      exact ⟨h1, fun z hz => h2 z (addW_sub hz)⟩
def MetA (wy : Oks → Nat) (ps : List (Int × Int)) (n g z : Nat) : Prop := z ∈ (aheadN wy ps n g).map (·.1)
theorem on_lt {wy : Oks → Nat} {ps : List (Int × Int)} (h : ∀ k, ∀ z ∈ wl wy k, z < ps.length) (g x : Nat) : ∀ z ∈ onN wy ps g x, z < ps.length := by
  intro z hz
  unfold onN at hz
  split at hz
  · cases hz
  · exact h _ z hz
theorem ahead_closed {wy : Oks → Nat} {ps : List (Int × Int)} (h : ∀ k, ∀ z ∈ wl wy k, z < ps.length) (n g : Nat) :
    (∀ y ∈ aheadN wy ps n g, ∀ z ∈ onN wy ps g y.1, z ∈ (aheadN wy ps n g).map (·.1)) ∧ ∀ z ∈ firstN wy g n, z ∈ (aheadN wy ps n g).map (·.1) := by
  have hf : ∀ z ∈ firstN wy g n, z < ps.length := fun z hz => by
    obtain ⟨p, _, hp⟩ := List.mem_flatMap.mp hz
    exact h _ z hp
  have ok : Aok ps.length (addW none [] (firstN wy g n)) := Aok.addW _ ⟨List.nodup_nil, fun x hx => by cases hx⟩ hf
  obtain ⟨h1, h2⟩ := runA_closed (on_lt h g) ps.length (addW none [] (firstN wy g n)) 0 ok (Nat.zero_le _) (Nat.le_refl _) (fun j y hj => absurd hj (Nat.not_lt_zero _))
  exact ⟨h1, fun z hz => h2 z (addW_mem _ _ _ z hz)⟩
theorem first_met {wy : Oks → Nat} {ps : List (Int × Int)} (h : ∀ k, ∀ z ∈ wl wy k, z < ps.length) {n g p z : Nat} (hp : p < n) (hz : z ∈ wl wy [some (p : Int), some (g : Int), none]) : MetA wy ps n g z :=
  (ahead_closed h n g).2 z (List.mem_flatMap.mpr ⟨p, List.mem_range.mpr hp, hz⟩)
theorem step_met {wy : Oks → Nat} {ps : List (Int × Int)} (h : ∀ k, ∀ z ∈ wl wy k, z < ps.length) {n g l z : Nat} (hl : MetA wy ps n g l) (hz : z ∈ onN wy ps g l) : MetA wy ps n g z := by
  obtain ⟨y, hy, rfl⟩ := List.mem_map.mp hl
  exact (ahead_closed h n g).1 y hy z hz
/-! the sets that are told -/
theorem setG_mono {g b : Nat} {S : List Nat} {l l' : Nat} (h : (S.getD l 0).testBit b = true) : ((setG g S l').getD l 0).testBit b = true := by
  unfold setG
  rw [List.getD_eq_getElem?_getD, List.getElem?_set]
  by_cases e : l' = l
  · subst e
    rw [if_pos rfl]
    split
    · rw [Option.getD_some, Nat.testBit_or, h]; rfl
    · rename_i hl
      rw [List.getD_eq_getElem?_getD, List.getElem?_eq_none (by omega)] at h
      rw [Option.getD_none] at h ⊢
      exact h
  · rw [if_neg e, ← List.getD_eq_getElem?_getD]
    exact h
theorem foldG_mono {g b l : Nat} : ∀ (ls : List Nat) {S : List Nat}, (S.getD l 0).testBit b = true → ((ls.foldl (setG g) S).getD l 0).testBit b = true
  | [], _, h => h
  | _ :: ls, _, h => foldG_mono ls (setG_mono h)
theorem foldG_mem {g l : Nat} : ∀ (ls : List Nat) {S : List Nat}, l ∈ ls → l < S.length → ((ls.foldl (setG g) S).getD l 0).testBit g = true
  | x :: ls, S, h, hl => by
    rw [List.foldl_cons]
    rcases List.mem_cons.mp h with h | h
    · subst h
      refine foldG_mono ls ?_
      unfold setG
      rw [List.getD_eq_getElem?_getD, List.getElem?_set, if_pos rfl, if_pos hl, Option.getD_some, Nat.testBit_or, Nat.testBit_two_pow]
      simp
    · exact foldG_mem ls h (by rw [setG_len]; exact hl)
theorem met_bit_le {wy : Oks → Nat} {ps : List (Int × Int)} {n l g : Nat} : ∀ {m : Nat}, g < m → l < ps.length → MetA wy ps n g l → ((metN wy ps n m).getD l 0).testBit g = true
  | m + 1, hg, hl, h => by
    rw [met_succ]
    rcases Nat.lt_or_ge g m with h1 | h1
    · exact foldG_mono _ (met_bit_le h1 hl h)
    · have : g = m := by omega
      subst this
      exact foldG_mem _ h (by rw [met_len]; exact hl)
end K73
namespace L2
/-! dicts of whole numbers from 0 on, told by lists of pairs -/
def nk (ks : List (Nat × V)) : List (Key × V) := ks.map fun x => ((Sum.inl (x.1 : Int) : Key), x.2)
theorem nk_none {ks : List (Nat × V)} {l : Nat} (h : l ∉ ks.map (·.1)) : valV (nk ks) (Sum.inl (l : Int)) = none := by
  induction ks with
  | nil => rfl
  | cons y ks ih =>
    rw [List.map_cons, List.mem_cons, not_or] at h
    show (List.find? _ (((Sum.inl (y.1 : Int) : Key), y.2) :: nk ks)).map _ = _
    rw [List.find?_cons, show (decide ((Sum.inl (y.1 : Int) : Key) = Sum.inl (l : Int))) = false from decide_eq_false (fun z => h.1 (by injection z with z; omega))]
    exact ih h.2
theorem nk_val {ks : List (Nat × V)} (nd : (ks.map (·.1)).Nodup) {l : Nat} {v : V} (h : (l, v) ∈ ks) : valV (nk ks) (Sum.inl (l : Int)) = some v := by
  induction ks with
  | nil => cases h
  | cons y ks ih =>
    rw [List.map_cons, List.nodup_cons] at nd
    show (List.find? _ (((Sum.inl (y.1 : Int) : Key), y.2) :: nk ks)).map _ = _
    rcases List.mem_cons.mp h with e | h
    · subst e
      rw [List.find?_cons, show (decide ((Sum.inl (l : Int) : Key) = Sum.inl (l : Int))) = true from decide_eq_true rfl]
      rfl
    · have hne : y.1 ≠ l := fun z => nd.1 (by rw [z]; exact List.mem_map.mpr ⟨(l, v), h, rfl⟩)
      rw [List.find?_cons, show (decide ((Sum.inl (y.1 : Int) : Key) = Sum.inl (l : Int))) = false from decide_eq_false (fun z => hne (by injection z with z; omega))]
      exact ih nd.2 h
theorem nk_put {ks : List (Nat × V)} {l : Nat} {v : V} (h : l ∉ ks.map (·.1)) : putK (nk ks) (Sum.inl (l : Int)) v = nk (ks ++ [(l, v)]) := by
  have e : ((nk ks).any fun kv => decide (kv.1 = (Sum.inl (l : Int) : Key))) = false := by
    rw [List.any_eq_false]
    intro x hx hd
    obtain ⟨y, hy, rfl⟩ := List.mem_map.mp hx
    have z := of_decide_eq_true hd
    injection z with z
    exact h (List.mem_map.mpr ⟨y, hy, by omega⟩)
  unfold putK
  rw [e, if_neg (by decide)]
  unfold nk
  rw [List.map_append]
  rfl
theorem nk_len (ks : List (Nat × V)) : (nk ks).length = ks.length := by unfold nk; rw [List.length_map]
end L2
namespace K73
open PySem L2
/-! what is alive: by rounds -/
section
variable {on : Nat → List Nat} {lf fin : Nat → Bool} {L : Nat}
def alB (on : Nat → List Nat) (lf fin : Nat → Bool) : Nat → Nat → Bool
  | 0, _ => false
  | k + 1, l => lf l && (fin l || (on l).any (alB on lf fin k))
theorem alB_succ {k l : Nat} : alB on lf fin (k + 1) l = true ↔ lf l = true ∧ (fin l = true ∨ ∃ z ∈ on l, alB on lf fin k z = true) := by
  show (lf l && (fin l || (on l).any (alB on lf fin k))) = true ↔ _
  rw [Bool.and_eq_true, Bool.or_eq_true, List.any_eq_true]
theorem alB_mono : ∀ {k l : Nat}, alB on lf fin k l = true → alB on lf fin (k + 1) l = true
  | 0, _, h => by cases h
  | k + 1, l, h => by
    obtain ⟨h1, h2⟩ := alB_succ.mp h
    refine alB_succ.mpr ⟨h1, h2.imp id fun ⟨z, hz, h3⟩ => ⟨z, hz, alB_mono h3⟩⟩
theorem alB_le {k l : Nat} (h : alB on lf fin k l = true) : ∀ m, alB on lf fin (k + m) l = true
  | 0 => h
  | m + 1 => alB_mono (alB_le h m)
theorem alB_stab {k : Nat} (hon : ∀ l, ∀ z ∈ on l, z < L) (h : ∀ l, l < L → alB on lf fin (k + 1) l = true → alB on lf fin k l = true) : ∀ m l, alB on lf fin (k + 1 + m) l = true → alB on lf fin (k + 1) l = true
  | 0, _, hl => hl
  | m + 1, l, hl => by
    obtain ⟨h1, h2⟩ := alB_succ.mp hl
    refine alB_succ.mpr ⟨h1, h2.imp id fun ⟨z, hz, h3⟩ => ⟨z, hz, ?_⟩⟩
    exact h z (hon l z hz) (alB_stab hon h m z h3)
theorem filt_lt {p q : Nat → Bool} : ∀ {l : List Nat} {x : Nat}, (∀ y, p y = true → q y = true) → x ∈ l → q x = true → p x = false → (l.filter p).length < (l.filter q).length := by
  have le : ∀ (l : List Nat), (∀ y, p y = true → q y = true) → (l.filter p).length ≤ (l.filter q).length := fun l h => by
    induction l with
    | nil => exact Nat.le_refl _
    | cons a l ih =>
      rw [List.filter_cons, List.filter_cons]
      cases hp : p a with
      | true => rw [h a hp, if_pos rfl, if_pos rfl]; exact Nat.succ_le_succ ih
      | false =>
        rw [if_neg (by decide)]
        split
        · exact Nat.le_succ_of_le ih
        · exact ih
  intro l x h hx hq hp
  induction l with
  | nil => cases hx
  | cons a l ih =>
    rw [List.filter_cons, List.filter_cons]
    rcases List.mem_cons.mp hx with e | hx
    · subst e
      rw [hp, hq, if_neg (by decide), if_pos rfl]
      exact Nat.lt_succ_of_le (le l h)
    · have := ih hx
      cases hpa : p a with
      | true => rw [h a hpa, if_pos rfl, if_pos rfl]; exact Nat.succ_lt_succ this
      | false =>
        rw [if_neg (by decide)]
        split
        · exact Nat.lt_succ_of_lt this
        · exact this
theorem alB_grow (hn : ∀ j, j ≤ L → ∃ l, l < L ∧ alB on lf fin (j + 1) l = true ∧ alB on lf fin j l = false) : ∀ k, k ≤ L + 1 → k ≤ ((List.range L).filter (alB on lf fin k)).length
  | 0, _ => Nat.zero_le _
  | k + 1, h => by
    have ih := alB_grow hn k (by omega)
    obtain ⟨l, hl, h1, h2⟩ := hn k (by omega)
    have := filt_lt (p := alB on lf fin k) (q := alB on lf fin (k + 1)) (fun y hy => alB_mono hy) (List.mem_range.mpr hl) h1 h2
    omega
theorem alB_top (hon : ∀ l, ∀ z ∈ on l, z < L) {k l : Nat} (h : alB on lf fin k l = true) : alB on lf fin (L + 1) l = true := by
  by_cases hs : ∃ j, j ≤ L ∧ ∀ l, l < L → alB on lf fin (j + 1) l = true → alB on lf fin j l = true
  · obtain ⟨j, hj, hs⟩ := hs
    have h1 : alB on lf fin (j + 1) l = true := by
      rcases Nat.lt_or_ge k (j + 1) with hk | hk
      · obtain ⟨m, hm⟩ := Nat.exists_eq_add_of_lt hk
        rw [hm, Nat.add_assoc]
        exact alB_le h (m + 1)
      · obtain ⟨m, rfl⟩ := Nat.exists_eq_add_of_le hk
        exact alB_stab hon hs m l h
    obtain ⟨m, hm⟩ := Nat.exists_eq_add_of_le (show j + 1 ≤ L + 1 by omega)
    rw [hm]
    exact alB_le h1 m
  · exfalso
    have hn : ∀ j, j ≤ L → ∃ l, l < L ∧ alB on lf fin (j + 1) l = true ∧ alB on lf fin j l = false := fun j hj => by
      refine Classical.byContradiction fun z => hs ⟨j, hj, fun l hl h1 => ?_⟩
      cases h2 : alB on lf fin j l with
      | true => rfl
      | false => exact absurd ⟨l, hl, h1, h2⟩ z
    have h1 := alB_grow hn (L + 1) (Nat.le_refl _)
    have h2 := List.length_filter_le (alB on lf fin (L + 1)) (List.range L)
    rw [List.length_range] at h2
    omega
theorem alB_in {S : Nat → Prop} (hS : ∀ l, l < L → lf l = true → (fin l = true ∨ ∃ z ∈ on l, S z) → S l) (hon : ∀ l, ∀ z ∈ on l, z < L) : ∀ {k l : Nat}, l < L → alB on lf fin k l = true → S l
  | 0, _, _, h => by cases h
  | k + 1, l, hl, h => by
    obtain ⟨h1, h2⟩ := alB_succ.mp h
    exact hS l hl h1 (h2.imp id fun ⟨z, hz, h3⟩ => ⟨z, hz, alB_in hS hon (hon l z hz) h3⟩)
end
def lfB (out : Nat) (l : Nat) : Bool := !out.testBit l
def finB (ps : List (Int × Int)) (g l : Nat) : Bool := decide ((ps.getD l (0, 0)).2 = (g : Int))
def alv (wy : Oks → Nat) (ps : List (Int × Int)) (out g l : Nat) : Bool := alB (onN wy ps g) (lfB out) (finB ps g) (ps.length + 1) l
def tru (a : List Nat) : List (Nat × V) := a.map fun l => (l, V.bl true)
theorem tru_keys (a : List Nat) : (tru a).map (·.1) = a := by unfold tru; rw [List.map_map]; exact List.map_id _
theorem tru_app (a b : List Nat) : tru (a ++ b) = tru a ++ tru b := by unfold tru; rw [List.map_append]
theorem tru_in (a : List Nat) (nd : a.Nodup) (l : Nat) : (valV (nk (tru a)) (Sum.inl (l : Int))).isSome = decide (l ∈ a) := by
  by_cases h : l ∈ a
  · rw [nk_val (ks := tru a) (l := l) (v := .bl true) (by rw [tru_keys]; exact nd) (List.mem_map.mpr ⟨l, h, rfl⟩), decide_eq_true h]; rfl
  · rw [nk_none (ks := tru a) (by rw [tru_keys]; exact h), decide_eq_false h]; rfl
end K73
namespace K73
open PySem L2
structure HasM (P : Program) (w : World) (K : PySem.W.Frag) (mg : Str → Option Value) (base : Heap) (fx : Addr) (dx : FuncData) : Prop where
  m : mg "has" = some (.ref fx)
  k : PySem.W.keepIn K (.ref fx) = true
  b : Binds K dx ["some", "number"] []
  G : FnOk P w K mg base CX0 1 fx dx ["some", "number"] spHas
def spAlive (c : Cs) (C : Addr) (J : TIn) : Sp := fun vs H Q _ => ∃ (x lx ldx lt : Addr) (n : Nat) (tvs : List V) (ps : List (Int × Int)) (wy : Oks → Nat) (out g : Nat), vs = [.ref x, .int out, .int g] ∧ TabIn c C J H x lx ldx lt n tvs ps wy ∧
  ∀ (D : Addr) (a : List Nat) (H' : Hp), Same H H' → H D = none → H' D = some (.dK (nk (tru a))) → a.Nodup → (∀ l, l ∈ a ↔ l < ps.length ∧ alv wy ps out g l = true) → Q (.ref D) H'
abbrev NAl : List Str := ["table", "out", "goal", "land", "left", "after", "lane", "line", "alive", "looked_at", "found"]
def asgL (s : Stmt) : Scope := match s with
  | .Assign _ (.ListComp _ _ sc _) _ => sc
  | _ => { kind := .function, names := [], isGenerator := false, isCoroutine := false }
def whBody (s : Stmt) : List Stmt := match s with
  | .While _ b _ _ => b
  | _ => []
abbrev al (i : Nat) : Stmt := (defBody sAlive).getD i (.Pass ⟨0, 0, 0, 0⟩)
def leftN (L out : Nat) : List Nat := (List.range L).filter (lfB out)
theorem left_nd (L out : Nat) : (leftN L out).Nodup := List.Pairwise.filter _ List.nodup_range
theorem left_mem {L out l : Nat} : l ∈ leftN L out ↔ l < L ∧ lfB out l = true := by unfold leftN; rw [List.mem_filter, List.mem_range]
/-- a comprehension over a list of numbers whose test leaves the heap as it is -/
theorem comp_nat {K : PySem.W.Frag} {a : Addr} {us : List Nat} {g : TG} {tt : TT} {te : TE} {σ0 : St} {H : Hp} {Q : VK} (p : Nat → Bool) (hn : us.length ≤ 100000) (ha : H a = some (.lst (nV us)))
    (hs : ∀ (x : Nat) (acc : List V) (N : List V → Hp → Prop), x ∈ us → N (if p x then acc ++ [.int (x : Int)] else acc) H → g (.int (x : Int)) σ0 H fun σ2 H2 => tt σ2 H2 fun b H3 => if b = true then te σ2 H3 fun y H4 => N (acc ++ [y]) H4 else N acc H3)
    (hq : ∀ D, H D = none → Q (.ref D) (upd H D (.lst (nV (us.filter p))))) : CompR (Itl K a) g tt te σ0 Q H := by
  refine comp_lst (K := K) (a := a) (xs := nV us) (fun v => match v with | .int z => p z.toNat | _ => false) (fun v => v) (by rw [PySem.sizeLine_eq, nV_len]; omega) (SqL.of ha) (fun v acc N hv h => ?_) fun D hD => ?_
  · obtain ⟨x, hx, rfl⟩ := nV_mem hv
    exact hs x acc N hx h
  · have e : ((nV us).filter (fun v => match v with | .int z => p z.toNat | _ => false)).map (fun v => v) = nV (us.filter p) := by
      rw [List.map_id']
      clear hn ha hs hq
      induction us with
      | nil => rfl
      | cons x us ih =>
        show List.filter _ (V.int (x : Int) :: nV us) = _
        rw [List.filter_cons, List.filter_cons, ih]
        show (if p ((x : Int)).toNat = true then _ else _) = _
        rw [Int.toNat_natCast]
        cases p x <;> rfl
    rw [e]
    exact hq D hD
theorem in_nV (x : Nat) (us : List Nat) : inV (.int (x : Int)) (nV us) = decide (x ∈ us) := by
  rw [show nV us = (iz us).map V.int from natV_iz us, inV_int]
  by_cases h : x ∈ us
  · rw [decide_eq_true h, decide_eq_true (iz_mem.mpr ⟨x, h, rfl⟩)]
  · rw [decide_eq_false h, decide_eq_false (fun z => by
      obtain ⟨y, hy, e⟩ := iz_mem.mp z
      have : y = x := by omega
      exact h (this ▸ hy))]
theorem flat_nV (us : List Nat) : (nV us).all flatV = true := by rw [show nV us = (iz us).map V.int from natV_iz us]; exact flat_ints _
section
variable {P : Program} {w : World} {K : PySem.W.Frag} {mg : Str → Option Value} {base : Heap}
theorem scAl : FnScope NAl ["table", "out", "goal"] (defScope sAlive) := ⟨rfl, rfl, rfl, by decide +kernel, rfl, by decide +kernel, by decide +kernel⟩
theorem bkA1 : Blk NAl (defScope sAlive) (asgL (al 1)) ["out"] [1] := ⟨rfl, by decide +kernel, by decide +kernel, by decide +kernel, rfl, by decide +kernel⟩
theorem bkA2 : Blk NAl (defScope sAlive) (asgL (al 4)) ["land", "goal"] [3, 2] := ⟨rfl, by decide +kernel, by decide +kernel, by decide +kernel, rfl, by decide +kernel⟩
theorem bkA3 : Blk NAl (defScope sAlive) (asgL ((whBody (al 8)).getD 0 (.Pass ⟨0, 0, 0, 0⟩))) ["alive", "line", "looked_at", "after"] [8, 7, 9, 5] := ⟨rfl, by decide +kernel, by decide +kernel, by decide +kernel, rfl, by decide +kernel⟩
theorem ndA1 : (["lane", "out"] : List Str).Nodup := by decide +kernel
theorem ndA2 : (["lane", "land", "goal"] : List Str).Nodup := by decide +kernel
theorem ndA3 : (["lane", "alive", "line", "looked_at", "after"] : List Str).Nodup := by decide +kernel
theorem ok_alive {c : Cs} {J : TIn} {C f fw fe fx fo : Addr} {fd dw de dx0 d_o : FuncData} (F : Fun K "lanes_alive" "lanes_alive" sAlive f fd) (T : Txt mg) (L : Lnd K c) (W : Way K C fw dw J) (nl : NoAttr K C "land") (M : EndM K c fe de) (Ge : FnOk P w K mg base CX0 1 fe de ["self", "lane"] (spAt c Prod.snd)) (X : HasM P w K mg base fx dx0)
    (mo : mg "onward" = some (.ref fo)) (ko : PySem.W.keepIn K (.ref fo) = true) (bo : Binds K d_o ["table", "lane", "goal"] []) (Go : FnOk P w K mg base CX0 4 fo d_o ["table", "lane", "goal"] (spOn c C J)) : FnOk P w K mg base CX0 5 f fd ["table", "out", "goal"] (spAlive c C J) := by
  refine F.ok scAl (fun vs H Q E h => ?_) (fun cdv A outer s H vs Q E hr h => ?_)
  · obtain ⟨x, lx, ldx, lt, n, tvs, ps, wy, out, g, rfl, _⟩ := h
    rfl
  · obtain ⟨x, lx, ldx, lt, n, tvs, ps, wy, out, g, rfl, hT, q⟩ := h
    have hr1 : Room 1 _ := hr.mono (by decide)
    have hu1 := Nat.lt_of_le_of_lt (Nat.add_le_add_left (show 1 ≤ 64 by decide) _) hr.units
    refine ⟨_, pss_cons (ps_set (i := 3) scAl.nd rfl (Or.inr rfl) (pe_fld (pv 0) rfl))
      (pss_cons (ps_setComp (i := 4) (own := ["lane"]) (capN := ["out"]) (cap := [1]) bkA1 rfl scAl.nd rfl rfl (pi_range1 rfl T.range (pa_cons (pe_callB call_len_seq rfl T.len PySem.boot_len (pa_cons (pe_fld (pv 3) rfl) pa_nil)) pa_nil))
        (fun C s' H' fp => ⟨pg_name (i := 0) ndA1 rfl (Or.inl rfl), pts_one (pt_not (pt_val (pe_call X.G hr1 rfl X.m X.k X.b .nil pass0 (pa_cons (pv 1) (pa_cons (pv 0) pa_nil))))), pv 0⟩))
      (pss_cons (ps_set (i := 5) scAl.nd rfl (Or.inr rfl) pe_dnewK)
      (pss_cons (ps_for PassesOwn.never rfl (pi_list (pv 4)) (pg_name (i := 6) scAl.nd rfl (Or.inl rfl))
        (pss_one (ps_dput hu1 (pv 5) (pv 6) (pe_call Go hr rfl mo ko bo .nil pass0 (pa_cons (pv 0) (pa_cons (pv 6) (pa_cons (pv 2) pa_nil)))) rfl)))
      (pss_cons (ps_set (i := 7) scAl.nd rfl (Or.inr rfl) (pe_comp (own := ["lane"]) (capN := ["land", "goal"]) (cap := [3, 2]) bkA2 rfl (pi_list (pv 4))
        (fun C s' H' fp => ⟨pg_name (i := 0) ndA2 rfl (Or.inl rfl), pts_one (pt_cmpR op_eq (pe_meth (pv 1) L.cl M.m Ge hr1 M.b .nil pass0 (pa_cons (pv 0) pa_nil)) (pv 2) (nomark _)), pv 0⟩)))
      (pss_cons (ps_set (i := 8) scAl.nd rfl (Or.inr rfl) pe_dnewK)
      (pss_cons (ps_for PassesOwn.never rfl (pi_list (pv 7)) (pg_name (i := 6) scAl.nd rfl (Or.inl rfl))
        (pss_one (ps_dput hu1 (pv 8) (pv 6) pe_bl rfl)))
      (pss_cons (ps_set (i := 9) scAl.nd rfl (Or.inr rfl) pe_int)
      (pss_cons (ps_while PassesOwn.never (pt_cmpR op_lt (pv 9) (pe_callB call_len_seq rfl T.len PySem.boot_len (pa_cons (pv 7) pa_nil)) (nomark _))
        (pss_cons (ps_setComp (i := 10) (own := ["lane"]) (capN := ["alive", "line", "looked_at", "after"]) (cap := [8, 7, 9, 5]) bkA3 rfl scAl.nd rfl rfl (pi_list (pv 4))
          (fun C s' H' fp => ⟨pg_name (i := 0) ndA3 rfl (Or.inl rfl), pts_one (PW.pt (pw_and (pt_cmp (pc_dnotin hu1 (pv 0) (pv 1)) (by with_unfolding_all rfl)) (pw_and1 (pt_cmpR (show OpR _ (compareOp .In) (rIn K false) from op_in_seq) (pe_ix (show IxR _ (rIxL K) from ix_list) (pv 2) (pv 3) (fun _ _ => rfl)) (pe_dget hu1 (pv 4) (pv 0) (fun _ _ => rfl)) (by with_unfolding_all rfl))))), pv 0⟩))
        (pss_cons (ps_aug (i := 9) scAl.nd rfl (Or.inr rfl) pe_int ip_add)
        (pss_cons (ps_for PassesOwn.never rfl (pi_list (pv 10)) (pg_name (i := 6) scAl.nd rfl (Or.inl rfl))
          (pss_one (ps_dput hu1 (pv 8) (pv 6) pe_bl rfl)))
        (pss_one (ps_expr (pe_bm PySem.F.plainAttrs_list PySem.F.slot_list_extend PySem.F.type_list_extend mt_extend (pv 7) (pa_cons (pv 10) pa_nil))))))))
      (pss_one (ps_ret (pv 8))))))))))), ?_⟩
    obtain ⟨dx, fs, hx, hf⟩ := hT.i
    have h40 := hT.few
    have htl : tvs.length = ps.length := Paired.length hT.l.2.2
    have hon := on_lt hT.ok g
    -- 1. the lanes that are left
    refine ⟨_, rfl, x, C, dx, fs, _, rfl, hx, W.cl, nl, hf, ?_⟩
    refine ⟨_, rfl, lx, c.land, ldx, _, _, rfl, hT.l.1, L.cl, L.nl, rfl, lt, _, rfl, .inr (SqT.of hT.l.2.1), (tvs.length : Int), rfl, by omega, by omega, ?_⟩
    rw [Int.toNat_natCast, htl]
    refine comp_rng (lfB out) (fun k : Nat => V.int (k : Int)) (by rw [PySem.sizeLine_eq]; omega) (fun i acc N hi h => ?_) fun Lf hLf => ?_
    · rw [Int.zero_add]
      refine ⟨_, rfl, _, rfl, out, i, rfl, _, rfl, ?_⟩
      unfold lfB at h
      cases hb : out.testBit i with
      | true => rw [hb] at h; exact iteF h
      | false => rw [hb] at h; exact iteT ⟨_, rfl, h⟩
    have s1 := (Same.refl H).new (o := .lst (((List.range ps.length).filter (lfB out)).map fun k : Nat => V.int (k : Int))) hLf
    have gL : (upd H Lf (.lst (((List.range ps.length).filter (lfB out)).map fun k : Nat => V.int (k : Int)))) Lf = some (.lst (nV (leftN ps.length out))) := upd_same
    have hLl : ∀ l ∈ leftN ps.length out, l < ps.length := fun l hl => (left_mem.mp hl).1
    have hLlen : (leftN ps.length out).length ≤ 40 := Nat.le_trans (nodup_le _ _ (left_nd _ _) hLl) h40
    show gName 4 (V.ref Lf) _ (upd H Lf _) _
    generalize upd H Lf (.lst (((List.range ps.length).filter (lfB out)).map fun k : Nat => V.int (k : Int))) = H1 at s1 gL ⊢
    -- 2. what comes after each
    refine fun af haf => ?_
    have s2 := s1.new (o := .dK []) haf
    have gA : (upd H1 af (.dK [])) af = some (.dK (nk [])) := upd_same
    have gL2 : (upd H1 af (.dK [])) Lf = some (.lst (nV (leftN ps.length out))) := by rw [upd_ne (ne_of_none gL haf)]; exact gL
    have haf0 : H af = none := s1.free haf
    generalize upd H1 af (.dK []) = H2 at s2 gA gL2 ⊢
    have hLnd := left_nd ps.length out
    have hLm : ∀ {l}, l ∈ leftN ps.length out ↔ l < ps.length ∧ lfB out l = true := fun {l} => left_mem
    generalize leftN ps.length out = lf at gL gL2 hLl hLlen hLnd hLm
    refine ⟨_, rfl, Lf, rfl, ⟨_, SqL.of gL2⟩, ?_⟩
    refine for_list (K := K) (a := Lf) (xs := nV lf) (fun i σ H3 => ∃ (a6 : Option V) (ks : List (Nat × V)), Same H H3 ∧ H3 Lf = some (.lst (nV lf)) ∧ H3 af = some (.dK (nk ks)) ∧ ks.map (·.1) = lf.take i ∧ (∀ l v, (l, v) ∈ ks → ∃ U, v = .ref U ∧ H3 U = some (.lst (nV (onN wy ps g l)))) ∧ σ = [some (.ref x), some (.int out), some (.int g), some (.ref lx), some (.ref Lf), some (.ref af), a6, none, none, none, none])
      ⟨none, [], s2, gL2, gA, rfl, (fun l v h => by cases h), rfl⟩ (fun i σ H3 _ ⟨_, _, _, g3, _⟩ => SqL.of g3) ?_ ?_
    · rintro i v σ H3 hv ⟨a6, ks, s3, gL3, gA3, hk3, hU3, rfl⟩
      have hi : i < lf.length := by have := (List.getElem?_eq_some_iff.mp hv).1; rw [nV_len] at this; exact this
      have hk0 := List.getElem?_eq_getElem hi
      have hv' := nV_get hk0
      rw [hv'] at hv
      have hv := Option.some.inj hv
      subst hv
      have hnew : lf[i] ∉ ks.map (·.1) := fun z => by
        rw [hk3] at z
        obtain ⟨k, hk, ek⟩ := List.mem_take_iff_getElem.mp z
        exact List.pairwise_iff_getElem.mp hLnd k i (by omega) hi (by omega) ek
      have hll := hLl _ (List.getElem_mem hi)
      generalize lf[i] = l at hk0 hnew hll
      refine ⟨_, rfl, _, rfl, _, rfl, x, lx, ldx, lt, n, tvs, ps, wy, l, g, rfl, hT.same W s3, hll, fun D4 H4 s4 hD4 gD4 => ?_⟩
      have gA4 := s4 _ _ gA3
      have hkl : ks.length = (lf.take i).length := by rw [← hk3, List.length_map]
      refine ⟨_, rfl, _, rfl, af, _, rfl, DPut.k (k := Sum.inl (l : Int)) gA4 (by rw [PySem.sizeLine_eq, nk_len, hkl]; have := List.length_take_le i lf; omega), ?_⟩
      rw [nk_put hnew]
      refine ⟨_, ks ++ [(l, .ref D4)], fun b o e => by rw [upd_ne (ne_of_none e haf0)]; exact s4 _ _ (s3 _ _ e), ?_, upd_same, ?_, fun l' v' h => ?_, rfl⟩
      · rw [upd_ne (ne_of (s4 _ _ gL3) gA4 (by intro z; cases z))]; exact s4 _ _ gL3
      · rw [List.map_append, hk3, List.take_succ, hk0]; rfl
      · rcases List.mem_append.mp h with h | h
        · obtain ⟨U, e1, e2⟩ := hU3 l' v' h
          exact ⟨U, e1, by rw [upd_ne (ne_of (s4 _ _ e2) gA4 (by intro z; cases z))]; exact s4 _ _ e2⟩
        · have e := List.mem_singleton.mp h
          injection e with e1 e2
          subst e1 e2
          exact ⟨D4, rfl, by rw [upd_ne (ne_of gD4 gA4 (by intro z; cases z))]; exact gD4⟩
    rintro σ H3 ⟨a6, ks, s3, gL3, gA3, hk3, hU3, rfl⟩
    rw [nV_len, List.take_length] at hk3
    have ksnd : (ks.map (·.1)).Nodup := by rw [hk3]; exact hLnd
    have hks : ∀ l ∈ lf, ∃ U, (l, V.ref U) ∈ ks ∧ H3 U = some (.lst (nV (onN wy ps g l))) := fun l hl => by
      rw [← hk3] at hl
      obtain ⟨y, hy, e⟩ := List.mem_map.mp hl
      obtain ⟨l', v'⟩ := y
      have e : l' = l := e
      subst e
      obtain ⟨U, e1, e2⟩ := hU3 l' v' hy
      subst e1
      exact ⟨U, hy, e2⟩
    -- 3. those that end at the goal
    have hT3 := hT.same W s3
    refine ⟨_, rfl, Lf, rfl, ⟨_, SqL.of gL3⟩, ?_⟩
    refine comp_nat (finB ps g) (by omega) gL3 (fun l acc N hl h => ?_) fun ln hln => ?_
    · have hll := hLl l hl
      have he := List.getElem?_eq_getElem hll
      have egd : ps.getD l (0, 0) = ps[l] := by rw [List.getD_eq_getElem?_getD, he]; rfl
      unfold finB at h
      rw [egd] at h
      refine ⟨_, rfl, lx, ldx, _, rfl, hT3.l.1, rfl, _, rfl, lx, ldx, lt, (n : Int), tvs, ps, l, _, rfl, hT3.l, he, ?_⟩
      refine ⟨_, rfl, rfl, _, rfl, ?_⟩
      rw [int_eq]
      cases hd : decide ((ps[l]).2 = (g : Int)) with
      | true => rw [hd] at h; exact iteT ⟨_, rfl, h⟩
      | false => rw [hd] at h; exact iteF h
    have hl0 : H ln = none := s3.free hln
    have s4 := s3.new (o := .lst (nV (lf.filter (finB ps g)))) hln
    have g4 : (upd H3 ln (.lst (nV (lf.filter (finB ps g))))) ln = some (.lst (nV (lf.filter (finB ps g)))) := upd_same
    have k34 := (Same.refl H3).new (o := .lst (nV (lf.filter (finB ps g)))) hln
    generalize upd H3 ln (.lst (nV (lf.filter (finB ps g)))) = H4 at s4 g4 k34 ⊢
    refine fun av hav => ?_
    have hav0 : H av = none := s4.free hav
    have k45 := (Same.refl H4).new (o := .dK []) hav
    have g5 : (upd H4 av (.dK [])) av = some (.dK (nk (tru []))) := upd_same
    generalize upd H4 av (.dK []) = H5 at k45 g5 ⊢
    have k35 := k34.trans k45
    have s5 := s4.trans k45
    have nlL : ln ≠ Lf := Ne.symm (ne_of_none gL3 hln)
    have nav : ∀ b o, H3 b = some o → b ≠ av := fun b o e => ne_of_none (k34 _ _ e) hav
    have nln : ∀ b o, H3 b = some o → b ≠ ln := fun b o e => ne_of_none e hln
    have a0nd : (lf.filter (finB ps g)).Nodup := List.Pairwise.filter _ hLnd
    have a0m : ∀ l ∈ lf.filter (finB ps g), l ∈ lf ∧ finB ps g l = true := fun l hl => List.mem_filter.mp hl
    have a0f : ∀ l ∈ lf, finB ps g l = true → l ∈ lf.filter (finB ps g) := fun l h1 h2 => List.mem_filter.mpr ⟨h1, h2⟩
    generalize lf.filter (finB ps g) = a0 at g4 a0nd a0m a0f
    have a0l : a0.length ≤ ps.length := nodup_le _ _ a0nd fun l hl => hLl l (a0m l hl).1
    have g5l := k45 _ _ g4
    have nlav : ln ≠ av := ne_of_none g4 hav
    -- what stays: all of the heap at 3 (H3), but for the two
    refine ⟨_, rfl, ln, rfl, ⟨_, SqL.of g5l⟩, ?_⟩
    refine for_list (K := K) (a := ln) (xs := nV a0) (fun i σ H6 => ∃ (a6 : Option V), (∀ b o, b ≠ av → H5 b = some o → H6 b = some o) ∧ H6 av = some (.dK (nk (tru (a0.take i)))) ∧ σ = [some (.ref x), some (.int out), some (.int g), some (.ref lx), some (.ref Lf), some (.ref af), a6, some (.ref ln), some (.ref av), none, none])
      ⟨_, (fun b o _ e => e), g5, rfl⟩ (fun i σ H6 _ ⟨_, k6, _⟩ => SqL.of (k6 _ _ nlav g5l)) ?_ ?_
    · rintro i v σ H6 hv ⟨a6, k6, g6, rfl⟩
      have hi : i < a0.length := by have := (List.getElem?_eq_some_iff.mp hv).1; rw [nV_len] at this; exact this
      have hk0 := List.getElem?_eq_getElem hi
      have hv' := nV_get hk0
      rw [hv'] at hv
      have hv := Option.some.inj hv
      subst hv
      have hnew : a0[i] ∉ a0.take i := fun z => by
        obtain ⟨k, hk, ek⟩ := List.mem_take_iff_getElem.mp z
        exact List.pairwise_iff_getElem.mp a0nd k i (by omega) hi (by omega) ek
      generalize a0[i] = l at hk0 hnew
      refine ⟨_, rfl, _, rfl, av, _, rfl, DPut.k (k := Sum.inl (l : Int)) g6 (by rw [PySem.sizeLine_eq, nk_len]; unfold tru; rw [List.length_map]; have := List.length_take_le i a0; omega), ?_⟩
      rw [nk_put (by rw [tru_keys]; exact hnew)]
      refine ⟨_, fun b o nb e => by rw [upd_ne nb]; exact k6 b o nb e, ?_, rfl⟩
      rw [upd_same, List.take_succ, hk0, tru_app]; rfl
    rintro σ H6 ⟨a6, k6, g6, rfl⟩
    rw [nV_len, List.take_length] at g6
    have k36 : ∀ b o, H3 b = some o → H6 b = some o := fun b o e => k6 b o (nav b o e) (k35 b o e)
    have g6l := k6 _ _ nlav g5l
    -- 4. the rounds
    refine ⟨fun m σ H' => ∃ (a : List Nat) (i : Nat) (b6 b10 : Option V), m = ps.length - i ∧ i ≤ a.length ∧ (∀ b o, H3 b = some o → H' b = some o) ∧ H' ln = some (.lst (nV a)) ∧ H' av = some (.dK (nk (tru a))) ∧ a.Nodup ∧ (∀ l ∈ a, l ∈ lf ∧ alv wy ps out g l = true) ∧ (∀ l ∈ lf, finB ps g l = true → l ∈ a) ∧ (∀ (k z l : Nat), k < i → a[k]? = some z → l ∈ lf → z ∈ onN wy ps g l → l ∈ a) ∧
        σ = [some (.ref x), some (.int out), some (.int g), some (.ref lx), some (.ref Lf), some (.ref af), b6, some (.ref ln), some (.ref av), some (.int (i : Int)), b10],
      ⟨ps.length - 0, a0, 0, a6, none, rfl, Nat.zero_le _, k36, g6l, g6, a0nd, (fun l hl => ⟨(a0m l hl).1, alB_top (L := ps.length) hon (k := 1) (alB_succ.mpr ⟨(hLm.mp (a0m l hl).1).2, .inl (a0m l hl).2⟩)⟩), a0f, (fun k z l hk => absurd hk (Nat.not_lt_zero _)), rfl⟩, ?_⟩
    rintro m σ H7 ⟨a, i, b6, b10, rfl, hile, k7, g7l, g7a, and', ham, haf', hproc, rfl⟩
    have hal : a.length ≤ ps.length := nodup_le _ _ and' fun l hl => hLl l (ham l hl).1
    refine ⟨_, rfl, _, rfl, ln, _, rfl, .inl (SqL.of g7l), _, _, rfl, rfl, _, rfl, ?_⟩
    rw [nV_len]
    by_cases hlt : i < a.length
    rotate_left
    · rw [decide_eq_false (show ¬ (i : Int) < (a.length : Nat) by omega)]
      refine iteF ⟨_, rfl, q av a H7 (s3.trans k7) hav0 g7a and' fun l => ⟨fun hl => ⟨hLl l (ham l hl).1, (ham l hl).2⟩, fun ⟨hl, hal'⟩ => ?_⟩⟩
      refine alB_in (L := ps.length) (S := fun z => z ∈ a) (fun l' hl' hlf hc => ?_) hon hl hal'
      have hin : l' ∈ lf := hLm.mpr ⟨hl', hlf⟩
      rcases hc with hc | ⟨z, hz, hza⟩
      · exact haf' l' hin hc
      · obtain ⟨k, hk, ek⟩ := List.getElem_of_mem hza
        exact hproc k z l' (by omega) (by rw [List.getElem?_eq_getElem hk, ek]) hin hz
    rw [decide_eq_true (show (i : Int) < (a.length : Nat) by omega)]
    have hai := List.getElem?_eq_getElem hlt
    have haim := ham _ (List.getElem_mem hlt)
    generalize a[i] = ai at hai haim
    refine iteT ⟨fun σ' H8 => ∃ (a' : List Nat) (b6 b10 : Option V), i + 1 ≤ a'.length ∧ (∀ b o, H3 b = some o → H8 b = some o) ∧ H8 ln = some (.lst (nV a')) ∧ H8 av = some (.dK (nk (tru a'))) ∧ a'.Nodup ∧ (∀ l ∈ a', l ∈ lf ∧ alv wy ps out g l = true) ∧ (∀ l ∈ lf, finB ps g l = true → l ∈ a') ∧ (∀ (k z l : Nat), k < i + 1 → a'[k]? = some z → l ∈ lf → z ∈ onN wy ps g l → l ∈ a') ∧
        σ' = [some (.ref x), some (.int out), some (.int g), some (.ref lx), some (.ref Lf), some (.ref af), b6, some (.ref ln), some (.ref av), some (.int ((i + 1 : Nat) : Int)), b10], ?_, ?_⟩
    · rintro σ' H8 ⟨a', b6, b10, h1, h2, h3, h4, h5, h6, h7, h8, rfl⟩
      exact ⟨ps.length - (i + 1), by omega, a', i + 1, b6, b10, rfl, h1, h2, h3, h4, h5, h6, h7, h8, rfl⟩
    have gL7 := k7 _ _ gL3
    have gA7 := k7 _ _ gA3
    refine ⟨_, rfl, Lf, rfl, ⟨_, SqL.of gL7⟩, ?_⟩
    refine comp_nat (fun l => !decide (l ∈ a) && decide (ai ∈ onN wy ps g l)) (by omega) gL7 (fun l acc N hl h => ?_) fun Fd hFd => ?_
    · obtain ⟨U, hU, gU⟩ := hks l hl
      refine ⟨_, rfl, _, rfl, av, _, rfl, DGet.k (k := Sum.inl (l : Int)) g7a, _, rfl, ?_⟩
      rw [tru_in a and' l]
      by_cases hla : l ∈ a
      · rw [decide_eq_true hla]
        rw [decide_eq_true hla] at h
        exact iteF (iteF h)
      · rw [decide_eq_false hla]
        rw [decide_eq_false hla, Bool.not_false, Bool.true_and] at h
        refine iteT ⟨_, rfl, _, rfl, ln, _, _, _, rfl, rfl, SqL.of g7l, atI_nat (nV_get hai), _, rfl, _, rfl, af, .ref U, rfl, ?_, ?_⟩
        · rw [← nk_val ksnd hU]
          exact DGet.k (k := Sum.inl (l : Int)) gA7
        refine ⟨U, _, rfl, .inl (SqL.of (k7 _ _ gU)), rfl, flat_nV _, _, rfl, ?_⟩
        show if (inV (.int (ai : Int)) (nV (onN wy ps g l))) = true then _ else _
        rw [in_nV]
        cases hd : decide (ai ∈ onN wy ps g l) with
        | true => rw [hd] at h; exact iteT ⟨_, rfl, h⟩
        | false => rw [hd] at h; exact iteF h
    have fnd : (lf.filter fun l => !decide (l ∈ a) && decide (ai ∈ onN wy ps g l)).Nodup := List.Pairwise.filter _ hLnd
    have fm : ∀ {l}, l ∈ (lf.filter fun l => !decide (l ∈ a) && decide (ai ∈ onN wy ps g l)) ↔ l ∈ lf ∧ l ∉ a ∧ ai ∈ onN wy ps g l := fun {l} => by
      rw [List.mem_filter, Bool.and_eq_true, Bool.not_eq_true', decide_eq_false_iff_not, decide_eq_true_eq]
    have g8 : (upd H7 Fd (.lst (nV (lf.filter fun l => !decide (l ∈ a) && decide (ai ∈ onN wy ps g l))))) Fd = some (.lst (nV (lf.filter fun l => !decide (l ∈ a) && decide (ai ∈ onN wy ps g l)))) := upd_same
    have k8 := (Same.refl H7).new (o := .lst (nV (lf.filter fun l => !decide (l ∈ a) && decide (ai ∈ onN wy ps g l)))) hFd
    show gName 10 (V.ref Fd) _ (upd H7 Fd _) _
    generalize (lf.filter fun l => !decide (l ∈ a) && decide (ai ∈ onN wy ps g l)) = fd' at fnd fm g8 k8 ⊢
    generalize upd H7 Fd (.lst (nV fd')) = H8 at g8 k8 ⊢
    have g8l := k8 _ _ g7l
    have g8a := k8 _ _ g7a
    have nFl : Fd ≠ ln := Ne.symm (ne_of_none g7l hFd)
    have nFa : Fd ≠ av := Ne.symm (ne_of_none g7a hFd)
    have fl : fd'.length ≤ ps.length := nodup_le _ _ fnd fun l hl => hLl l (fm.mp hl).1
    have nd2 : (a ++ fd').Nodup := List.nodup_append.mpr ⟨and', fnd, fun u hu v hv e => (fm.mp hv).2.1 (by rw [← e]; exact hu)⟩
    refine ⟨_, rfl, _, _, rfl, rfl, ?_⟩
    refine ⟨_, rfl, Fd, rfl, ⟨_, SqL.of g8⟩, ?_⟩
    refine for_list (K := K) (a := Fd) (xs := nV fd') (fun t σ H9 => ∃ (b6 : Option V), (∀ b o, b ≠ av → H8 b = some o → H9 b = some o) ∧ H9 av = some (.dK (nk (tru (a ++ fd'.take t)))) ∧ σ = [some (.ref x), some (.int out), some (.int g), some (.ref lx), some (.ref Lf), some (.ref af), b6, some (.ref ln), some (.ref av), some (.int ((i : Int) + 1)), some (.ref Fd)])
      ⟨_, (fun b o _ e => e), by rw [List.take_zero, List.append_nil]; exact g8a, rfl⟩ (fun t σ H9 _ ⟨_, k9, _⟩ => SqL.of (k9 _ _ nFa g8)) ?_ ?_
    · rintro t v σ H9 hv ⟨b6, k9, g9, rfl⟩
      have ht : t < fd'.length := by have := (List.getElem?_eq_some_iff.mp hv).1; rw [nV_len] at this; exact this
      have hk0 := List.getElem?_eq_getElem ht
      have hv' := nV_get hk0
      rw [hv'] at hv
      have hv := Option.some.inj hv
      subst hv
      have hnew : fd'[t] ∉ a ++ fd'.take t := fun z => by
        rcases List.mem_append.mp z with z | z
        · exact (fm.mp (List.getElem_mem ht)).2.1 z
        · obtain ⟨k, hk, ek⟩ := List.mem_take_iff_getElem.mp z
          exact List.pairwise_iff_getElem.mp fnd k t (by omega) ht (by omega) ek
      generalize fd'[t] = l at hk0 hnew
      refine ⟨_, rfl, _, rfl, av, _, rfl, DPut.k (k := Sum.inl (l : Int)) g9 (by rw [PySem.sizeLine_eq, nk_len]; unfold tru; rw [List.length_map, List.length_append]; have := List.length_take_le t fd'; omega), ?_⟩
      rw [nk_put (by rw [tru_keys]; exact hnew)]
      refine ⟨_, fun b o nb e => by rw [upd_ne nb]; exact k9 b o nb e, ?_, rfl⟩
      rw [upd_same, List.take_succ, hk0, Option.toList_some, ← List.append_assoc, tru_app (a ++ fd'.take t)]; rfl
    rintro σ H9 ⟨b6, k9, g9, rfl⟩
    rw [nV_len, List.take_length] at g9
    have g9l := k9 _ _ nlav g8l
    have g9f := k9 _ _ nFa g8
    refine ⟨_, rfl, .inl ⟨rfl, _, SqL.of g9l⟩, _, rfl, ln, Fd, _, _, rfl, rfl, g9l, g9f, by rw [PySem.sizeLine_eq, nV_len, nV_len]; omega, ?_⟩
    rw [← nV_app]
    refine ⟨a ++ fd', b6, some (.ref Fd), by rw [List.length_append]; omega, fun b o e => ?_, upd_same, by rw [upd_ne (Ne.symm nlav)]; exact g9, nd2, fun l hl => ?_, fun l hl hf' => List.mem_append_left _ (haf' l hl hf'), fun k z l hk hz hl hzo => ?_, ?_⟩
    · rw [upd_ne (nln b o e)]
      exact k9 b o (nav b o e) (k8 _ _ (k7 b o e))
    · rcases List.mem_append.mp hl with hl | hl
      · exact ham l hl
      · obtain ⟨h1, _, h3⟩ := fm.mp hl
        exact ⟨h1, alB_top (L := ps.length) hon (k := ps.length + 1 + 1) (alB_succ.mpr ⟨(hLm.mp h1).2, .inr ⟨ai, h3, haim.2⟩⟩)⟩
    · by_cases hki : k < i
      · have hz' : a[k]? = some z := by rw [List.getElem?_append_left (by omega)] at hz; exact hz
        exact List.mem_append_left _ (hproc k z l hki hz' hl hzo)
      · have hk' : k = i := by omega
        subst hk'
        rw [List.getElem?_append_left hlt, hai] at hz
        have hz := Option.some.inj hz
        subst hz
        by_cases hla : l ∈ a
        · exact List.mem_append_left _ hla
        · exact List.mem_append_right _ (fm.mpr ⟨hl, hla, hzo⟩)
    · rw [show ((i + 1 : Nat) : Int) = (i : Int) + 1 by omega]
end
end K73
namespace L2
open PySem
def tTruth (K : PySem.W.Frag) (ta : TE) : TT := fun σ H Q => ta σ H fun x H' => ∃ k, TruV K x H' k ∧ Q k H'
end L2
namespace K73
open PySem L2
def forBody (s : Stmt) : List Stmt := match s with
  | .For _ _ b _ _ => b
  | _ => []
theorem cames_len (ps : List (Int × Int)) (p : Nat) : (cames ps p).length ≤ ps.length + 1 := by
  unfold cames
  rw [List.length_cons, List.length_map]
  have := ixM_len Prod.snd ps p
  omega
theorem blockG_len (ps : List (Int × Int)) (p g : Nat) : (blockG ps p g).length ≤ ps.length + 1 := by
  unfold blockG
  split
  · exact Nat.zero_le _
  · rw [List.length_map]; exact cames_len ps p
theorem blockP_len (ps : List (Int × Int)) (p : Nat) : ∀ n, (blockP ps n p).length ≤ n * (ps.length + 1)
  | 0 => by simp [blockP]
  | n + 1 => by
    rw [block_succ, List.length_append, Nat.succ_mul]
    have := blockP_len ps p n
    have := blockG_len ps p n
    omega
theorem keys_len (ps : List (Int × Int)) (n : Nat) : ∀ m, (keysOf ps n m).length ≤ m * (n * (ps.length + 1))
  | 0 => by simp [keysOf]
  | m + 1 => by
    rw [keys_succ, List.length_append, Nat.succ_mul]
    have := keys_len ps n m
    have := blockP_len ps m n
    omega
theorem small_keys {ps : List (Int × Int)} {n i j : Nat} (hp : ps.length ≤ 40) (hn : n ≤ 12) (hi : i ≤ n) (hj : j ≤ n) : (keysOf ps n i).length ≤ 5904 ∧ (blockP ps j i).length ≤ 492 := by
  have h1 := keys_len ps n i
  have h2 := blockP_len ps i j
  have e1 : n * (ps.length + 1) ≤ 12 * 41 := Nat.mul_le_mul hn (by omega)
  have e2 : i * (n * (ps.length + 1)) ≤ 12 * (12 * 41) := Nat.mul_le_mul (by omega) e1
  have e3 : j * (ps.length + 1) ≤ 12 * 41 := Nat.mul_le_mul (by omega) (by omega)
  exact ⟨by omega, by omega⟩
theorem camesV (ps : List (Int × Int)) (p : Nat) : [V.non] ++ natV (ixM Prod.snd ps p) = (cames ps p).map cV := by
  unfold cames natV
  rw [List.map_cons, List.map_map]
  rfl
theorem iz_inj : ∀ {a b : List Nat}, iz a = iz b → a = b
  | [], [], _ => rfl
  | [], _ :: _, h => by cases h
  | _ :: _, [], h => by cases h
  | x :: a, y :: b, h => by
    have h1 : (x : Int) = (y : Int) := (List.cons.inj h).1
    have h2 : iz a = iz b := (List.cons.inj h).2
    rw [iz_inj h2]
    congr 1
    omega
theorem mem_setN {F : List Nat} (h : F.Pairwise (· < ·)) : Yd.memN (Yd.setN F 0) (Builtin.Int.intBits ((Yd.setN F 0 : Nat) : Int)) = F := iz_inj (mem_sorted (iz_rise h) fun k => Iff.rfl)
theorem wl_rise (wy : Oks → Nat) (k : Oks) : (wl wy k).Pairwise (· < ·) := Yd.memN_rise _ _
/-- the ways that are left at a key -/
def lwN (wy : Oks → Nat) (ps : List (Int × Int)) (out : Nat) (k : Key) : List Nat := (wl wy (okey k)).filter (alv wy ps out k.2.1.toNat)
def LessAt (P : Program) (w : World) (C : Addr) : TIn := fun H x wy => ∃ (dx de : Addr) (fs : List (Str × V)) (kvs : List Ent), H x = some (.ins C dx fs) ∧ fs.lookup ("entries" : Str) = some (.ref de) ∧ fs.lookup ("ways" : Str) = none ∧ DicAt P w H de kvs ∧ ∀ k, (valO kvs k).getD (.int 0) = .int (wy k) ∧ wy k < 2 ^ 400
/-- a table stays where an instance without fields changes -/
def Stays (J : TIn) : Prop := ∀ (H H' : Hp) (y : Addr) (wy : Oks → Nat) (a Ca da : Addr), J H y wy → H a = some (.ins Ca da []) → Off a H H' → J H' y wy
theorem told_stays {P : Program} {w : World} {ts : Ts} : Stays (ToldAt P w ts) := fun H H' y wy a Ca da ⟨dx, de, lv, kvs, h1, h2, h3⟩ ha o =>
  ⟨dx, de, lv, kvs, o _ _ (ne_of h1 ha (by intro z; cases z)) h1, ⟨o _ _ (ne_of h2.1 ha (by intro z; cases z)) h2.1, fun x hx => o _ _ (ne_of (h2.2 x hx) ha (by intro z; cases z)) (h2.2 x hx)⟩, h3⟩
theorem less_stays {P : Program} {w : World} {C : Addr} : Stays (LessAt P w C) := fun H H' y wy a Ca da ⟨dx, de, fs, kvs, h1, e1, e2, h2, h3⟩ ha o =>
  ⟨dx, de, fs, kvs, o _ _ (ne_of h1 ha (by intro z; cases z; cases e1)) h1, e1, e2, ⟨o _ _ (ne_of h2.1 ha (by intro z; cases z)) h2.1, fun x hx => o _ _ (ne_of (h2.2 x hx) ha (by intro z; cases z)) (h2.2 x hx)⟩, h3⟩
theorem TabIn.off {c : Cs} {C : Addr} {J : TIn} {H H' : Hp} {x lx ldx lt : Addr} {n : Nat} {tvs : List V} {ps : List (Int × Int)} {wy : Oks → Nat} (hJ : Stays J) {a Ca da : Addr} (h : TabIn c C J H x lx ldx lt n tvs ps wy) (ha : H a = some (.ins Ca da [])) (o : Off a H H') : TabIn c C J H' x lx ldx lt n tvs ps wy := by
  obtain ⟨dx, fs, hx, hf⟩ := h.i
  refine ⟨hJ _ _ _ _ _ _ _ h.j ha o, ⟨dx, fs, o _ _ (ne_of hx ha (by intro z; cases z; cases hf)) hx, hf⟩, ⟨o _ _ (ne_of h.l.1 ha (by intro z; cases z)) h.l.1, o _ _ (ne_of h.l.2.1 ha (by intro z; cases z)) h.l.2.1, o.lns ha h.l.2.2⟩, h.n12, h.few, h.ok, h.nr⟩
structure LsC (K : PySem.W.Frag) (C fw : Addr) (dw : FuncData) : Prop where
  cl : Cls K C
  nl : NoAttr K C "land"
  ne : NoAttr K C "entries"
  nc : NoAttr K C "cut"
  m : Meth K C "ways" fw
  b : Binds K dw ["self", "place", "goal", "came"] []
def cutB (wy : Oks → Nat) (ps : List (Int × Int)) (out : Nat) (z : Int × Int) : Bool := decide (lwN wy ps out (z.1, z.2, none) = [])
def cutN (wy : Oks → Nat) (ps : List (Int × Int)) (n out : Nat) : List (Int × Int) := (startsOf wy n n).filter (cutB wy ps out)
/-- what the told ways of what is left are -/
structure LessW (wy wy' : Oks → Nat) (ps : List (Int × Int)) (n out : Nat) : Prop where
  eq : ∀ (p g : Nat) (c : Option Nat), p < n → g < n → c ∈ cames ps p → wl wy' (okey ((p : Int), (g : Int), c)) = lwN wy ps out ((p : Int), (g : Int), c)
  sub : ∀ k, ∀ z ∈ wl wy' k, z ∈ wl wy k
  none : ∀ k, (∀ (p g : Nat) (c : Option Nat), p < n → g < n → c ∈ cames ps p → okey ((p : Int), (g : Int), c) ≠ k) → wl wy' k = []
def spLess (P : Program) (w : World) (c : Cs) (C LC : Addr) (J : TIn) : Sp := fun vs H Q _ => ∃ (x dx tx lx ldx lt : Addr) (n : Nat) (tvs : List V) (ps : List (Int × Int)) (wy : Oks → Nat) (out : Nat), vs = [.ref x, .ref tx, .int out] ∧ H x = some (.ins LC dx []) ∧ TabIn c C J H tx lx ldx lt n tvs ps wy ∧
  ∀ (H' : Hp) (de cu : Addr) (kvs : List Ent) (cvs : List V) (wy' : Oks → Nat), Off x H H' → H' x = some (.ins LC dx [("land", .ref lx), ("entries", .ref de), ("cut", .ref cu)]) → DicAt P w H' de kvs → (∀ k, (valO kvs k).getD (.int 0) = .int (wy' k) ∧ wy' k < 2 ^ 400) → LessW wy wy' ps n out → H' cu = some (.tup cvs) → Lns H' cvs (cutN wy ps n out) → Q .non H'
abbrev NLs : List Str := ["self", "table", "out", "goal", "alive", "place", "came", "ways"]
def putComp (s : Stmt) : Scope := match s with
  | .Assign _ (.Call _ [.ListComp _ _ sc _] _ _) _ => sc
  | _ => { kind := .function, names := [], isGenerator := false, isCoroutine := false }
abbrev ls (i : Nat) : Stmt := (defBody sLess).getD i (.Pass ⟨0, 0, 0, 0⟩)
theorem camesX (ps : List (Int × Int)) (p : Nat) : [V.non] ++ ixV Prod.snd ps p ps.length = (cames ps p).map cV := by
  unfold cames
  rw [List.map_cons, List.map_map]
  rfl
theorem lns_keepX {H : Hp} {x C dx : Addr} {fs : List (Str × V)} {o : HO} (hx : H x = some (.ins C dx fs)) : ∀ {vs : List V} {qs : List (Int × Int)}, Lns H vs qs → Lns (upd H x o) vs qs
  | _, _, .nil => .nil
  | _, _, .cons ⟨t, e, g⟩ tl => .cons ⟨t, e, by rw [upd_ne (ne_of g hx (by intro z; cases z))]; exact g⟩ (lns_keepX hx tl)
/-- what the entries hold so far -/
structure EntO (wy : Oks → Nat) (ps : List (Int × Int)) (n out : Nat) (kvs : List Ent) (ks : List Key) : Prop where
  a : ∀ k ∈ ks, valO kvs (okey k) = some (.int (Yd.setN (lwN wy ps out k) 0 : Nat))
  b : ∀ key, valO kvs key = none ∨ ∃ k ∈ ks, okey k = key
  r : ∀ k ∈ ks, ∃ (p g : Nat) (c : Option Nat), k = ((p : Int), (g : Int), c) ∧ p < n ∧ g < n ∧ c ∈ cames ps p
theorem EntO.put {wy : Oks → Nat} {ps : List (Int × Int)} {n out : Nat} {kvs : List Ent} {ks : List Key} (h : EntO wy ps n out kvs ks) {k : Key} (hk : ∃ (p g : Nat) (c : Option Nat), k = ((p : Int), (g : Int), c) ∧ p < n ∧ g < n ∧ c ∈ cames ps p) (kt : Addr) : EntO wy ps n out (putO kvs (okey k) kt (.int (Yd.setN (lwN wy ps out k) 0 : Nat))) (ks ++ [k]) := by
  refine ⟨fun k' hk' => ?_, fun key => ?_, fun k' hk' => ?_⟩
  · rw [valO_put]
    by_cases e : okey k' = okey k
    · rw [if_pos e, okey_inj e]
    · rw [if_neg e]
      rcases List.mem_append.mp hk' with z | z
      · exact h.a k' z
      · exact absurd (by rw [List.mem_singleton.mp z]) e
  · rw [valO_put]
    by_cases e : key = okey k
    · exact .inr ⟨k, List.mem_append_right _ List.mem_cons_self, e.symm⟩
    · rw [if_neg e]
      rcases h.b key with z | ⟨k', z, e'⟩
      · exact .inl z
      · exact .inr ⟨k', List.mem_append_left _ z, e'⟩
  · rcases List.mem_append.mp hk' with z | z
    · exact h.r k' z
    · rw [List.mem_singleton.mp z]; exact hk
theorem EntO.less {wy : Oks → Nat} {ps : List (Int × Int)} {n out : Nat} {kvs : List Ent} {ks : List Key} (h : EntO wy ps n out kvs ks) (hwl : ∀ k, ∀ z ∈ wl wy k, z < ps.length) (hp : ps.length ≤ 40) (hall : ∀ (p g : Nat) (c : Option Nat), p < n → g < n → c ∈ cames ps p → ((p : Int), (g : Int), c) ∈ ks) :
    ∃ wy' : Oks → Nat, (∀ k, (valO kvs k).getD (.int 0) = .int (wy' k) ∧ wy' k < 2 ^ 400) ∧ LessW wy wy' ps n out := by
  have hval : ∀ key, ∃ m : Nat, (valO kvs key).getD (.int 0) = .int (m : Nat) ∧ m < 2 ^ 400 ∧ ((∀ k ∈ ks, okey k ≠ key) → m = 0) ∧ ∀ k ∈ ks, okey k = key → m = Yd.setN (lwN wy ps out k) 0 := fun key => by
    by_cases hk : ∃ k ∈ ks, okey k = key
    · obtain ⟨k, hk, e⟩ := hk
      refine ⟨Yd.setN (lwN wy ps out k) 0, by rw [← e, h.a k hk]; rfl, set_lt fun z hz => ?_, fun z => absurd e (z k hk), fun k' _ e' => by rw [okey_inj (e'.trans e.symm)]⟩
      have := hwl _ z (List.mem_filter.mp hz).1
      omega
    · refine ⟨0, ?_, by decide, fun _ => rfl, fun k hk' e => absurd ⟨k, hk', e⟩ hk⟩
      rcases h.b key with z | z
      · rw [z]; rfl
      · exact absurd z hk
  refine ⟨fun key => Classical.choose (hval key), fun key => ⟨(Classical.choose_spec (hval key)).1, (Classical.choose_spec (hval key)).2.1⟩, ?_⟩
  have hw : ∀ k ∈ ks, wl (fun key => Classical.choose (hval key)) (okey k) = lwN wy ps out k := fun k hk => by
    have e := (Classical.choose_spec (hval (okey k))).2.2.2 k hk rfl
    unfold wl
    dsimp only
    rw [e]
    exact mem_setN (List.Pairwise.filter _ (wl_rise _ _))
  have h0 : ∀ key, (∀ k ∈ ks, okey k ≠ key) → wl (fun key => Classical.choose (hval key)) key = [] := fun key hk => by
    have e := (Classical.choose_spec (hval key)).2.2.1 hk
    unfold wl
    dsimp only
    rw [e]
    rfl
  refine ⟨fun p g c hp' hg hc => hw _ (hall p g c hp' hg hc), fun key z hz => ?_, fun key hk => h0 key fun k hk' e => ?_⟩
  · by_cases hk : ∃ k ∈ ks, okey k = key
    · obtain ⟨k, hk, e⟩ := hk
      rw [← e, hw k hk] at hz
      rw [← e]
      exact (List.mem_filter.mp hz).1
    · rw [h0 key fun k hk' e => hk ⟨k, hk', e⟩] at hz
      cases hz
  · obtain ⟨p, g, c, e1, h1, h2, h3⟩ := h.r k hk'
    exact hk p g c h1 h2 h3 (by rw [← e1]; exact e)
section
variable {P : Program} {w : World} {K : PySem.W.Frag} {mg : Str → Option Value} {base : Heap}
theorem scLsW : FnScope ["self", "place", "goal", "came"] ["self", "place", "goal", "came"] (defScope sLessW) := ⟨rfl, rfl, rfl, by decide +kernel, rfl, by decide +kernel, by decide +kernel⟩
theorem ok_lessW {C f fm fw : Addr} {fd dm dw : FuncData} (F : Fun K "ways" "Less.ways" sLessW f fd) (Lc : LsC K C fw dw) (mm : mg "members" = some (.ref fm)) (km : PySem.W.keepIn K (.ref fm) = true) (bm : Binds K dm ["some"] [])
    (Gm : FnOk P w K mg base CX0 2 fm dm ["some"] spMem) : FnOk P w K mg base CX0 3 f fd ["self", "place", "goal", "came"] (spWays (LessAt P w C)) := by
  refine F.ok scLsW (fun vs H Q E h => ?_) (fun cdv A outer s H vs Q E hr h => ?_)
  · obtain ⟨x, wy, r, rfl, _⟩ := h
    rfl
  · obtain ⟨x, wy, r, rfl, ⟨dx, de, fs, kvs, hx, e1, e2, hd, hv⟩, q⟩ := h
    have hu1 := Nat.lt_of_le_of_lt (Nat.add_le_add_left (show 1 ≤ 64 by decide) _) hr.units
    refine ⟨_, pss_one (ps_ret (pe_call Gm hr rfl mm km bm .nil pass0 (pa_cons (pe_oget2 hu1 (pe_fld (pv 0) rfl) (pa_cons (pe_tup (pa_cons (pv 1) (pa_cons (pv 2) (pa_cons (pv 3) pa_nil)))) (pa_cons pe_int pa_nil))) pa_nil))), ?_⟩
    refine ⟨_, rfl, x, C, dx, fs, _, rfl, hx, Lc.cl, Lc.ne, e1, de, kvs, rfl, hd, ?_⟩
    refine ⟨_, rfl, _, rfl, _, rfl, by show 3 ≤ sizeLine; decide, fun t ht => ?_⟩
    have s1 : Same H (upd H t (.tup [.int r.p, .int r.g, cV r.c])) := (Same.refl H).new ht
    refine ⟨_, _, valO kvs (keyOf r), rfl, ⟨kvs, keyOf r, t, hd.same s1, rfl, by rw [key_tup]; exact upd_same, rfl⟩, ?_⟩
    rw [(hv (keyOf r)).1]
    exact ⟨wy (keyOf r), rfl, (hv (keyOf r)).2, fun D hD => q _ D s1 hD⟩
theorem scLs : FnScope NLs ["self", "table", "out"] (defScope sLess) := ⟨rfl, rfl, rfl, by decide +kernel, rfl, by decide +kernel, by decide +kernel⟩
theorem bkL1 : Blk NLs (defScope sLess) (putComp ((forBody ((forBody ((forBody (ls 2)).getD 1 (.Pass ⟨0, 0, 0, 0⟩))).getD 0 (.Pass ⟨0, 0, 0, 0⟩))).getD 1 (.Pass ⟨0, 0, 0, 0⟩))) ["alive"] [4] := ⟨rfl, by decide +kernel, by decide +kernel, by decide +kernel, rfl, by decide +kernel⟩
theorem bkL2 : Blk NLs (defScope sLess) (putComp (ls 3)) ["self"] [0] := ⟨rfl, by decide +kernel, by decide +kernel, by decide +kernel, rfl, by decide +kernel⟩
theorem ndL1 : (["way", "alive"] : List Str).Nodup := by decide +kernel
theorem ndL2 : (["pair", "self"] : List Str).Nodup := by decide +kernel
theorem ok_less {c : Cs} {J : TIn} {ts : Ts} {C LC f fw fw' fi3 fi4 fa fs' fst f1 f2 : Addr} {fd dw dw' di3 di4 da ds dst d1 d2 : FuncData} (F : Fun K "__init__" "Less.__init__" sLess f fd) (T : Txt mg) (L : Lnd K c) (B : Tbl K mg ts f1 f2 d1 d2) (G1 : FnOk P w K mg base CX0 1 f1 d1 ["self", "land"] (spTab K))
    (W : Way K C fw dw J) (hJs : Stays J) (nl : NoAttr K C "land") (Gw : FnOk P w K mg base CX0 3 fw dw ["self", "place", "goal", "came"] (spWays J)) (M : Mths K c fi3 fi4 di3 di4) (Gi : FnOk P w K mg base CX0 1 fi4 di4 ["self", "place"] (spIx c Prod.snd))
    (Lc : LsC K LC fw' dw') (Gw' : FnOk P w K mg base CX0 3 fw' dw' ["self", "place", "goal", "came"] (spWays (LessAt P w LC)))
    (ma : mg "lanes_alive" = some (.ref fa)) (ka : PySem.W.keepIn K (.ref fa) = true) (ba : Binds K da ["table", "out", "goal"] []) (Ga : FnOk P w K mg base CX0 5 fa da ["table", "out", "goal"] (spAlive c C J))
    (ms : mg "set_of" = some (.ref fs')) (ks : PySem.W.keepIn K (.ref fs') = true) (bs : Binds K ds ["numbers"] []) (Gs : FnOk P w K mg base CX0 1 fs' ds ["numbers"] (spSet K))
    (mst : mg "starts" = some (.ref fst)) (kst : PySem.W.keepIn K (.ref fst) = true) (bst : Binds K dst ["table"] []) (Gst : FnOk P w K mg base CX0 4 fst dst ["table"] (spStarts c C J)) :
    FnOk P w K mg base CX0 6 f fd ["self", "table", "out"] (spLess P w c C LC J) := by
  refine F.ok scLs (fun vs H Q E h => ?_) (fun cdv A outer s H vs Q E hr h => ?_)
  · obtain ⟨x, dx, tx, lx, ldx, lt, n, tvs, ps, wy, out, rfl, _⟩ := h
    rfl
  · obtain ⟨x, dx, tx, lx, ldx, lt, n, tvs, ps, wy, out, rfl, hx, hT, q⟩ := h
    have hr1 : Room 1 _ := hr.mono (by decide)
    have hr3 : Room 3 _ := hr.mono (by decide)
    have hr4 : Room 4 _ := hr.mono (by decide)
    have hu1 := Nat.lt_of_le_of_lt (Nat.add_le_add_left (show 1 ≤ 64 by decide) _) hr.units
    refine ⟨_, pss_cons (ps_expr (pe_cmeth (pe_glob (v := .ref ts.tab) rfl B.mt rfl) B.cm G1 hr1 B.bt .nil pass0 (pa_cons (pv 0) (pa_cons (pe_fld (pv 1) rfl) pa_nil))))
      (pss_cons (ps_fld (pv 0) (show PE _ _ (tONew P w) from pe_onew) rfl)
      (pss_cons (ps_for PassesOwn.never rfl (pi_range1 rfl T.range (pa_cons (pe_fld (pe_fld (pv 1) rfl) rfl) pa_nil)) (pg_name (i := 3) scLs.nd rfl (Or.inl rfl))
        (pss_cons (ps_set (i := 4) scLs.nd rfl (Or.inr rfl) (pe_call Ga hr rfl ma ka ba .nil pass0 (pa_cons (pv 1) (pa_cons (pv 2) (pa_cons (pv 3) pa_nil)))))
        (pss_one (ps_for PassesOwn.never rfl (pi_range1 rfl T.range (pa_cons (pe_fld (pe_fld (pv 1) rfl) rfl) pa_nil)) (pg_name (i := 5) scLs.nd rfl (Or.inl rfl))
          (pss_one (ps_for PassesOwn.never rfl (pi_list (pe_op op_cat (pe_lst (pa_cons pe_non pa_nil)) (pe_meth (pe_fld (pv 1) rfl) L.cl M.m4 Gi hr1 M.b4 .nil pass0 (pa_cons (pv 5) pa_nil)))) (pg_name (i := 6) scLs.nd rfl (Or.inl rfl))
            (pss_cons (ps_set (i := 7) scLs.nd rfl (Or.inl rfl) (pe_meth (pv 1) W.cl W.m Gw hr3 W.b .nil pass0 (pa_cons (pv 5) (pa_cons (pv 3) (pa_cons (pv 6) pa_nil)))))
            (pss_one (ps_oput hu1 (pe_fld (pv 0) rfl) (pe_tup (pa_cons (pv 5) (pa_cons (pv 3) (pa_cons (pv 6) pa_nil)))) (pe_call Gs hr1 rfl ms ks bs .nil pass0 (pa_cons (pe_comp (own := ["way"]) (capN := ["alive"]) (cap := [4]) bkL1 rfl (pi_list (pv 7))
              (fun C s' H' fp => ⟨pg_name (i := 0) ndL1 rfl (Or.inl rfl), pts_one (pt_cmp (pc_din hu1 (pv 0) (pv 1)) (by with_unfolding_all rfl)), pv 0⟩)) pa_nil)) rfl)))))))))
      (pss_one (ps_fld (pv 0) (pe_callTy call_tuple_of rfl T.tuple PySem.Pv.boot_tuple (pa_cons (pe_comp (own := ["pair"]) (capN := ["self"]) (cap := [0]) bkL2 rfl (pi_list (pe_call Gst hr4 rfl mst kst bst .nil pass0 (pa_cons (pv 1) pa_nil)))
        (fun C s' H' fp => ⟨pg_name (i := 0) ndL2 rfl (Or.inl rfl), pts_one (pt_not (show PT _ _ (tTruth K _) from pt_truth (pe_meth (pv 1) Lc.cl Lc.m Gw' hr3 Lc.b .nil pass0 (pa_cons (pe_ix (show IxR _ (rIxT K) from ix_tup) (pv 0) pe_int (fun _ _ => rfl)) (pa_cons (pe_ix (show IxR _ (rIxT K) from ix_tup) (pv 0) pe_int (fun _ _ => rfl)) (pa_cons pe_non pa_nil)))) (fun _ => rfl))), pv 0⟩)) pa_nil)) rfl)))), ?_⟩
    have h40 := hT.few
    have hn12 := hT.n12
    obtain ⟨tdx, tfs, htx, htf⟩ := hT.i
    -- 1. the land and an empty dict are stored
    refine ⟨rfl, _, rfl, _, rfl, tx, C, tdx, tfs, _, rfl, htx, W.cl, nl, htf, x, LC, dx, _, rfl, hx, Lc.cl, Lc.nl, ?_⟩
    refine fun de hde => ⟨_, rfl, x, LC, dx, [("land", .ref lx)], rfl, by rw [upd_ne (ne_of_none upd_same hde)]; exact upd_same, Lc.cl, Lc.ne, by show 1 < 1000; decide, ?_⟩
    have nde : x ≠ de := ne_of_none upd_same hde
    have hde0 : H de = none := by rw [upd_ne (Ne.symm nde)] at hde; exact hde
    generalize hH2 : upd (upd (upd H x (.ins LC dx [("land", .ref lx)])) de (DicO P w de [])) x (.ins LC dx (putF "entries" (.ref de) [("land", .ref lx)])) = H2
    have o2 : Off x H H2 := fun b o hb e => by rw [← hH2, upd_ne hb, upd_ne (ne_of_none e hde0), upd_ne hb]; exact e
    have x2 : H2 x = some (.ins LC dx [("land", .ref lx), ("entries", .ref de)]) := by rw [← hH2, upd_same]; rfl
    have d2 : DicAt P w H2 de [] := ⟨by rw [← hH2, upd_ne (Ne.symm nde), upd_same], fun y hy => by cases hy⟩
    clear hH2
    have tab : ∀ {H' : Hp}, Off x H H' → TabIn c C J H' tx lx ldx lt n tvs ps wy := fun {H'} o => TabIn.off hJs hT hx o
    have E0 : EntO wy ps n out [] [] := ⟨(fun k hk => by cases hk), (fun key => .inl rfl), (fun k hk => by cases hk)⟩
    -- 2. each goal
    obtain ⟨tdx2, tfs2, htx2, htf2⟩ := (tab o2).i
    refine ⟨_, rfl, tx, C, tdx2, tfs2, _, rfl, htx2, W.cl, nl, htf2, lx, c.land, ldx, _, _, rfl, (tab o2).l.1, L.cl, L.np, rfl, (n : Int), rfl, by omega, by omega, ?_⟩
    rw [Int.toNat_natCast]
    refine for_range (n := n) (fun i σ H3 => ∃ (a3 a4 a5 a6 a7 : Option V) (kvs : List Ent) (ks : List Key), Off x H H3 ∧ H3 x = some (.ins LC dx [("land", .ref lx), ("entries", .ref de)]) ∧ DicAt P w H3 de kvs ∧ kvs.length ≤ i * 492 ∧ EntO wy ps n out kvs ks ∧ (∀ (p g : Nat) (c : Option Nat), p < n → g < i → c ∈ cames ps p → ((p : Int), (g : Int), c) ∈ ks) ∧ σ = [some (.ref x), some (.ref tx), some (.int out), a3, a4, a5, a6, a7])
      ⟨none, none, none, none, none, [], [], o2, x2, d2, Nat.zero_le _, E0, (fun p g c _ hg => absurd hg (Nat.not_lt_zero _)), rfl⟩ ?_ ?_
    · rintro i σ H3 hi ⟨a3, a4, a5, a6, a7, kvs, ks, o3, x3, d3, l3, e3, m3, rfl⟩
      rw [Int.zero_add]
      refine ⟨_, rfl, _, rfl, _, rfl, tx, lx, ldx, lt, n, tvs, ps, wy, out, i, rfl, tab o3, fun Av av H4 s4 hAv gAv avnd avm => ?_⟩
      have o4 : Off x H H4 := o3.same s4
      obtain ⟨tdx4, tfs4, htx4, htf4⟩ := (tab o4).i
      refine ⟨_, rfl, tx, C, tdx4, tfs4, _, rfl, htx4, W.cl, nl, htf4, lx, c.land, ldx, _, _, rfl, (tab o4).l.1, L.cl, L.np, rfl, (n : Int), rfl, by omega, by omega, ?_⟩
      rw [Int.toNat_natCast]
      have nAv : Av ≠ de := Ne.symm (ne_of_none d3.1 hAv)
      have nAx : Av ≠ x := Ne.symm (ne_of_none x3 hAv)
      -- 3. each place
      refine for_range (n := n) (fun j σ H5 => ∃ (a5 a6 a7 : Option V) (kvs : List Ent) (ks : List Key), Off x H H5 ∧ H5 x = some (.ins LC dx [("land", .ref lx), ("entries", .ref de)]) ∧ DicAt P w H5 de kvs ∧ H5 Av = some (.dK (nk (tru av))) ∧ kvs.length ≤ i * 492 + j * 41 ∧ EntO wy ps n out kvs ks ∧ (∀ (p g : Nat) (c : Option Nat), p < n → g < i → c ∈ cames ps p → ((p : Int), (g : Int), c) ∈ ks) ∧ (∀ (p : Nat) (c : Option Nat), p < j → c ∈ cames ps p → ((p : Int), (i : Int), c) ∈ ks) ∧ σ = [some (.ref x), some (.ref tx), some (.int out), some (.int (i : Int)), some (.ref Av), a5, a6, a7])
        ⟨_, _, _, kvs, ks, o4, s4 _ _ x3, d3.same s4, gAv, by omega, e3, m3, (fun p c hp => absurd hp (Nat.not_lt_zero _)), rfl⟩ ?_ ?_
      · rintro j σ H5 hj ⟨a5, a6, a7, kvs, ks, o5, x5, d5, gA5, l5, e5, m5, p5, rfl⟩
        rw [Int.zero_add]
        obtain ⟨tdx5, tfs5, htx5, htf5⟩ := (tab o5).i
        refine ⟨by show 1 ≤ sizeLine; decide, fun q1 hq1 => ?_⟩
        have s6 := (Same.refl H5).new (o := .lst [.non]) hq1
        have g6 : (upd H5 q1 (.lst [.non])) q1 = some (.lst [.non]) := upd_same
        generalize upd H5 q1 (.lst [.non]) = H6 at s6 g6 ⊢
        have tab6 := tab (o5.same s6)
        refine ⟨_, rfl, tx, C, tdx5, tfs5, _, rfl, s6 _ _ htx5, W.cl, nl, htf5, lx, ldx, _, rfl, tab6.l.1, rfl, _, rfl, lx, ldx, lt, (n : Int), tvs, ps, (j : Int), rfl, tab6.l, by omega, fun H7 q2 s7 hq2 => ?_⟩
        have s8 := s7.new (o := .lst (ixV Prod.snd ps j ps.length)) hq2
        have g8 : (upd H7 q2 (.lst (ixV Prod.snd ps j ps.length))) q2 = some (.lst (ixV Prod.snd ps j ps.length)) := upd_same
        generalize upd H7 q2 (.lst (ixV Prod.snd ps j ps.length)) = H8 at s8 g8 ⊢
        have hxl := ixV_len (sel := Prod.snd) (ps := ps) (pl := (j : Int)) (i := ps.length)
        refine ⟨q1, q2, _, _, rfl, rfl, s8 _ _ g6, g8, by rw [PySem.sizeLine_eq]; simp only [List.length_singleton]; omega, fun Cm hCm => ?_⟩
        rw [camesX]
        have s9 := (s6.trans s8).new (o := .lst ((cames ps j).map cV)) hCm
        have gC : (upd H8 Cm (.lst ((cames ps j).map cV))) Cm = some (.lst ((cames ps j).map cV)) := upd_same
        have nCx : Cm ≠ x := Ne.symm (ne_of_none ((s6.trans s8) _ _ x5) hCm)
        generalize upd H8 Cm (.lst ((cames ps j).map cV)) = H9 at s9 gC ⊢
        have hcl : ((cames ps j).map cV).length ≤ 41 := by rw [List.length_map]; have := cames_len ps j; omega
        refine ⟨Cm, rfl, ⟨_, SqL.of gC⟩, ?_⟩
        -- 4. each came
        refine for_list (K := K) (a := Cm) (xs := (cames ps j).map cV) (fun t σ Ha => ∃ (a6 a7 : Option V) (kvs : List Ent) (ks : List Key), Off x H Ha ∧ Ha x = some (.ins LC dx [("land", .ref lx), ("entries", .ref de)]) ∧ DicAt P w Ha de kvs ∧ Ha Av = some (.dK (nk (tru av))) ∧ Ha Cm = some (.lst ((cames ps j).map cV)) ∧ kvs.length ≤ i * 492 + j * 41 + t ∧ EntO wy ps n out kvs ks ∧ (∀ (p g : Nat) (c : Option Nat), p < n → g < i → c ∈ cames ps p → ((p : Int), (g : Int), c) ∈ ks) ∧ (∀ (p : Nat) (c : Option Nat), p < j → c ∈ cames ps p → ((p : Int), (i : Int), c) ∈ ks) ∧ (∀ c ∈ (cames ps j).take t, ((j : Int), (i : Int), c) ∈ ks) ∧ σ = [some (.ref x), some (.ref tx), some (.int out), some (.int (i : Int)), some (.ref Av), some (.int (j : Int)), a6, a7])
          ⟨_, _, kvs, ks, o5.same s9, s9 _ _ x5, d5.same s9, s9 _ _ gA5, gC, by omega, e5, m5, p5, (fun c hc => by rw [List.take_zero] at hc; cases hc), rfl⟩ (fun t σ Ha _ ⟨_, _, _, _, _, _, _, _, g, _⟩ => SqL.of g) ?_ ?_
        · rintro t v σ Ha hv ⟨a6, a7, kvs, ks, oa, xa, da', gAa, gCa, la, ea, ma', pa', ta, rfl⟩
          rw [List.getElem?_map] at hv
          obtain ⟨cc, hcc, rfl⟩ : ∃ cc, (cames ps j)[t]? = some cc ∧ v = cV cc := by
            cases e : (cames ps j)[t]? with
            | none => rw [e] at hv; cases hv
            | some c => rw [e] at hv; exact ⟨c, rfl, (Option.some.inj hv).symm⟩
          have htl : t < (cames ps j).length := (List.getElem?_eq_some_iff.mp hcc).1
          have hci := List.mem_of_getElem? hcc
          obtain ⟨tdxa, tfsa, htxa, htfa⟩ := (tab oa).i
          obtain ⟨dx', fs2, hx', hw'⟩ := W.inst _ _ _ (tab oa).j
          rw [htxa] at hx'
          injection hx' with hx'
          injection hx' with _ e1 e2
          subst e1 e2
          refine ⟨_, rfl, tx, tdxa, tfsa, rfl, htxa, hw', _, rfl, _, rfl, _, rfl, tx, wy, ⟨(j : Int), (i : Int), cc, []⟩, rfl, (tab oa).j, fun Hb Wd sb hWd => ?_⟩
          have ekey : keyOf ⟨(j : Int), (i : Int), cc, []⟩ = okey ((j : Int), (i : Int), cc) := rfl
          rw [ekey, memV_wl]
          have sc := sb.new (o := .lst (nV (wl wy (okey ((j : Int), (i : Int), cc))))) hWd
          have gW : (upd Hb Wd (.lst (nV (wl wy (okey ((j : Int), (i : Int), cc)))))) Wd = some (.lst (nV (wl wy (okey ((j : Int), (i : Int), cc))))) := upd_same
          generalize upd Hb Wd (.lst (nV (wl wy (okey ((j : Int), (i : Int), cc))))) = Hc at sc gW ⊢
          have gAc := sc _ _ gAa
          have hwlt := hT.ok (okey ((j : Int), (i : Int), cc))
          have hwll := hT.nr (okey ((j : Int), (i : Int), cc))
          refine ⟨_, rfl, Wd, rfl, ⟨_, SqL.of gW⟩, ?_⟩
          refine comp_nat (fun z => decide (z ∈ av)) (by omega) gW (fun z acc N hz h => ?_) fun Fl hFl => ?_
          · refine ⟨_, rfl, _, rfl, Av, _, rfl, DGet.k (k := Sum.inl (z : Int)) gAc, _, rfl, ?_⟩
            rw [tru_in av avnd z]
            cases hd : decide (z ∈ av) with
            | true => rw [hd] at h; exact iteT ⟨_, rfl, h⟩
            | false => rw [hd] at h; exact iteF h
          have elw : (wl wy (okey ((j : Int), (i : Int), cc))).filter (fun z => decide (z ∈ av)) = lwN wy ps out ((j : Int), (i : Int), cc) := by
            unfold lwN
            refine List.filter_congr fun z hz => ?_
            show _ = alv wy ps out ((i : Int)).toNat z
            rw [Int.toNat_natCast]
            cases hal : alv wy ps out i z with
            | true => exact decide_eq_true ((avm z).mpr ⟨hwlt z hz, hal⟩)
            | false => exact decide_eq_false fun h => by rw [((avm z).mp h).2] at hal; cases hal
          rw [elw]
          have sd := sc.new (o := .lst (nV (lwN wy ps out ((j : Int), (i : Int), cc)))) hFl
          have gF : (upd Hc Fl (.lst (nV (lwN wy ps out ((j : Int), (i : Int), cc))))) Fl = some (.lst (nV (lwN wy ps out ((j : Int), (i : Int), cc)))) := upd_same
          generalize upd Hc Fl (.lst (nV (lwN wy ps out ((j : Int), (i : Int), cc)))) = Hd at sd gF ⊢
          refine ⟨Fl, lwN wy ps out ((j : Int), (i : Int), cc), rfl, SqL.of gF, (fun z hz => by have := hwlt z (List.mem_filter.mp hz).1; omega), ?_⟩
          have xd := sd _ _ xa
          refine ⟨_, rfl, x, LC, dx, _, _, rfl, xd, Lc.cl, Lc.ne, rfl, _, rfl, _, rfl, _, rfl, by show 3 ≤ sizeLine; decide, fun kt hkt => ?_⟩
          have se := sd.new (o := .tup [.int (j : Int), .int (i : Int), cV cc]) hkt
          have gk : (upd Hd kt (.tup [.int (j : Int), .int (i : Int), cV cc])) kt = some (.tup ((okey ((j : Int), (i : Int), cc)).map okV)) := by
            rw [upd_same, ← ekey, key_tup]
          generalize upd Hd kt (.tup [.int (j : Int), .int (i : Int), cV cc]) = He at se gk ⊢
          have de' := da'.same se
          have hc41 : (cames ps j).length ≤ 41 := by have := cames_len ps j; omega
          refine ⟨de, kvs, okey ((j : Int), (i : Int), cc), kt, rfl, de', rfl, gk, by rw [PySem.sizeLine_eq]; have : i * 492 ≤ 12 * 492 := Nat.mul_le_mul_right _ (by omega); have : j * 41 ≤ 12 * 41 := Nat.mul_le_mul_right _ (by omega); omega, ?_⟩
          have hlst : ∀ b o, (∀ φ, o ≠ .ext φ) → Ha b = some o → (upd He de (DicO P w de (putO kvs (okey ((j : Int), (i : Int), cc)) kt (.int (Yd.setN (lwN wy ps out ((j : Int), (i : Int), cc)) 0 : Nat))))) b = some o := fun b o no e => by
            rw [upd_ne (ne_of e da'.1 (no _))]
            exact se _ _ e
          refine ⟨_, _, _, ks ++ [((j : Int), (i : Int), cc)], fun b o nb e => ?_, ?_, ⟨upd_same, putO_keys (F := fun k a => (upd He de (DicO P w de (putO kvs (okey ((j : Int), (i : Int), cc)) kt (.int (Yd.setN (lwN wy ps out ((j : Int), (i : Int), cc)) 0 : Nat))))) a = some (.tup (k.map okV))) (fun y hy => ?_) ?_⟩, ?_, ?_, ?_, ea.put ⟨j, i, cc, rfl, hj, hi, hci⟩ kt, fun p g c hp hg hc => List.mem_append_left _ (ma' p g c hp hg hc), fun p c hp hc => List.mem_append_left _ (pa' p c hp hc), fun c hc => ?_, rfl⟩
          · rw [upd_ne (ne_of_none e hde0)]
            exact se _ _ (oa b o nb e)
          · exact hlst _ _ (fun φ z => by cases z) xa
          · rw [upd_ne (ne_of (de'.2 y hy) de'.1 (by intro z; cases z))]; exact de'.2 y hy
          · rw [upd_ne (ne_of gk de'.1 (by intro z; cases z))]; exact gk
          · exact hlst _ _ (fun φ z => by cases z) gAa
          · exact hlst _ _ (fun φ z => by cases z) gCa
          · have := @putO_length kvs (okey ((j : Int), (i : Int), cc)) kt (.int (Yd.setN (lwN wy ps out ((j : Int), (i : Int), cc)) 0 : Nat))
            omega
          · rw [List.take_succ, hcc, Option.toList_some] at hc
            rcases List.mem_append.mp hc with z | z
            · exact List.mem_append_left _ (ta c z)
            · rw [List.mem_singleton.mp z]; exact List.mem_append_right _ List.mem_cons_self
        · rintro σ Ha ⟨a6, a7, kvs, ks, oa, xa, da', gAa, gCa, la, ea, ma', pa', ta, rfl⟩
          rw [List.length_map, List.take_length] at ta
          refine ⟨_, _, _, kvs, ks, oa, xa, da', gAa, by rw [Nat.succ_mul]; omega, ea, ma', fun p c hp hc => ?_, rfl⟩
          rcases Nat.lt_or_ge p j with h | h
          · exact pa' p c h hc
          · have : p = j := by omega
            subst this
            exact ta c hc
      · rintro σ H5 ⟨a5, a6, a7, kvs, ks, o5, x5, d5, gA5, l5, e5, m5, p5, rfl⟩
        have : n * 41 ≤ 12 * 41 := Nat.mul_le_mul_right _ hn12
        refine ⟨_, _, _, _, _, kvs, ks, o5, x5, d5, by rw [Nat.succ_mul]; omega, e5, fun p g c hp hg hc => ?_, rfl⟩
        rcases Nat.lt_or_ge g i with h | h
        · exact m5 p g c hp h hc
        · have : g = i := by omega
          subst this
          exact p5 p c hp hc
    -- 5. what is cut off
    rintro σ H3 ⟨a3, a4, a5, a6, a7, kvs, ks, o3, x3, d3, l3, e3, m3, rfl⟩
    obtain ⟨wy', hval, hLW⟩ := e3.less hT.ok h40 m3
    have tab3 := tab o3
    obtain ⟨tdx3, tfs3, htx3, htf3⟩ := tab3.i
    have hLA : ∀ {H' : Hp}, Same H3 H' → LessAt P w LC H' x wy' := fun {H'} s' => ⟨dx, de, _, kvs, s' _ _ x3, rfl, rfl, d3.same s', hval⟩
    refine ⟨_, rfl, tx, tdx3, lx, ldx, lt, tfs3, n, tvs, ps, wy, rfl, tab3.j, htx3, htf3, tab3.l, hn12, fun St us H4 s4 hSt gSt hUs => ⟨St, rfl, ⟨_, SqL.of gSt⟩, ?_⟩⟩
    have hul : us.length = (startsOf wy n n).length := Paired.length hUs
    have hul2 : us.length ≤ 144 := by
      rw [hul]
      have := starts_len wy n n
      have : n * n ≤ 12 * 12 := Nat.mul_le_mul hn12 hn12
      omega
    have hmem : ∀ z ∈ startsOf wy n n, ∃ p g : Nat, z = ((p : Int), (g : Int)) ∧ p < n ∧ g < n := fun z hz => by
      obtain ⟨p, hp, h⟩ := List.mem_flatMap.mp hz
      obtain ⟨g, hg, e⟩ := List.mem_map.mp h
      exact ⟨p, g, e.symm, List.mem_range.mp hp, List.mem_range.mp (List.mem_filter.mp hg).1⟩
    unfold cutN at q
    generalize startsOf wy n n = zs at q hUs hul hmem
    refine comp_gen us.length (by rw [PySem.sizeLine_eq]; omega) (fun i acc H' => Same H4 H' ∧ Lns H' acc ((zs.take i).filter (cutB wy ps out))) ⟨Same.refl _, .nil⟩ (fun i acc H' h => by have := Paired.length h.2; rw [this]; exact Nat.le_trans (List.length_filter_le _ _) (List.length_take_le _ _)) (fun i acc H' hi h => ⟨⟨us, us[i], SqL.of (h.1 _ _ gSt), List.getElem?_eq_getElem hi⟩, fun v H5 hy => ?_⟩) (fun acc H' h => ⟨⟨us, SqL.of (h.1 _ _ gSt), Nat.le_refl _⟩, fun Ct hCt => ?_⟩)
    · obtain ⟨e, hy⟩ := hy
      subst e
      obtain ⟨s5, hacc⟩ := h
      have hv := hy us (SqL.of (s5 _ _ gSt))
      obtain ⟨z, hz, t, rfl, gt⟩ := Lns.get hUs hv
      obtain ⟨p, g, rfl, hp, hg⟩ := hmem z (List.mem_of_getElem? hz)
      have s35 := s4.trans s5
      have gt5 : SqT K H5 t [.int (p : Int), .int (g : Int)] := SqT.of (s5 _ _ gt)
      refine ⟨_, rfl, x, dx, _, rfl, s35 _ _ x3, rfl, _, rfl, t, _, 0, _, rfl, rfl, gt5, atI_nat (j := 0) rfl, _, rfl, t, _, 1, _, rfl, rfl, gt5, atI_nat (j := 1) rfl, x, wy', ⟨(p : Int), (g : Int), none, []⟩, rfl, hLA s35, fun H6 D6 s6 hD6 => ?_⟩
      have s7 := s6.new (o := .lst (memV (wy' (keyOf ⟨(p : Int), (g : Int), none, []⟩)))) hD6
      refine ⟨_, .inl ⟨_, SqL.of upd_same, rfl⟩, ?_⟩
      generalize upd H6 D6 (.lst (memV (wy' (keyOf ⟨(p : Int), (g : Int), none, []⟩)))) = H7 at s7 ⊢
      have ekey : keyOf ⟨(p : Int), (g : Int), none, []⟩ = okey ((p : Int), (g : Int), none) := rfl
      have eB : (!(!(memV (wy' (keyOf ⟨(p : Int), (g : Int), none, []⟩))).isEmpty)) = cutB wy ps out ((p : Int), (g : Int)) := by
        rw [memV_wl, ekey, hLW.eq p g none hp hg List.mem_cons_self]
        unfold cutB
        cases lwN wy ps out ((p : Int), (g : Int), none) <;> rfl
      show if (!(!(memV (wy' (keyOf ⟨(p : Int), (g : Int), none, []⟩))).isEmpty)) = true then _ else _
      rw [eB]
      have hacc7 := Lns.same s7 hacc
      cases hd : cutB wy ps out ((p : Int), (g : Int)) with
      | true =>
        refine iteT ⟨_, rfl, s5.trans s7, ?_⟩
        rw [List.take_succ, hz, Option.toList_some, List.filter_append, List.filter_cons, hd]
        exact Lns.snoc ⟨t, rfl, s7 _ _ (s5 _ _ gt)⟩ hacc7
      | false =>
        refine iteF ⟨s5.trans s7, ?_⟩
        rw [List.take_succ, hz, Option.toList_some, List.filter_append, List.filter_cons, hd]
        simpa using hacc7
    obtain ⟨s5, hacc⟩ := h
    rw [hul, List.take_length] at hacc
    have s6 := s5.new (o := .lst acc) hCt
    have g6 : (upd H' Ct (.lst acc)) Ct = some (.lst acc) := upd_same
    have sH6 := (Same.refl H').new (o := .lst acc) hCt
    generalize upd H' Ct (.lst acc) = H6 at s6 g6 sH6 ⊢
    refine ⟨Ct, _, rfl, .inl ⟨SqL.of g6, fun cu hcu => ?_⟩⟩
    have s36 := s4.trans s6
    have s7 := s36.new (o := .tup acc) hcu
    have g7 : (upd H6 cu (.tup acc)) cu = some (.tup acc) := upd_same
    have s67 := (Same.refl H6).new (o := .tup acc) hcu
    generalize upd H6 cu (.tup acc) = H7 at s7 g7 s67 ⊢
    have sH : Same H' H7 := sH6.trans s67
    have x7 := s7 _ _ x3
    refine ⟨_, rfl, x, LC, dx, [("land", .ref lx), ("entries", .ref de)], rfl, x7, Lc.cl, Lc.nc, by show 2 < 1000; decide, ?_⟩
    have d7 := d3.same s7
    have hacc7 : Lns H7 acc (zs.filter (cutB wy ps out)) := Lns.same (show Same H' H7 from fun b o e => sH b o e) hacc
    have ncx : cu ≠ x := ne_of g7 x7 (by intro z; cases z)
    refine q _ de cu kvs acc wy' (fun b o nb e => ?_) upd_same ⟨?_, fun y hy => ?_⟩ hval hLW ?_ ?_
    · rw [upd_ne nb]
      exact s7 _ _ (o3 b o nb e)
    · rw [upd_ne (ne_of d7.1 x7 (by intro z; cases z))]; exact d7.1
    · rw [upd_ne (ne_of (d7.2 y hy) x7 (by intro z; cases z))]; exact d7.2 y hy
    · rw [upd_ne ncx]; exact g7
    · exact lns_keepX x7 hacc7
end
end K73
namespace K73
open PySem L2
def spDrawB (K : PySem.W.Frag) : Sp := fun vs H Q _ => ∃ (a : Addr) (ns : List Int) (k : Int), vs = [.ref a, .int k] ∧ SqL K H a (ns.map V.int) ∧ 0 ≤ k ∧ k ≤ 100000 ∧ ∀ d H', Same H H' → (0 ≤ d ∧ d < 4294967296) → Q (.int d) H'
theorem mod_lt {i j : Int} (h : 0 < j ∧ j ≤ 4294967296) : 0 ≤ i % j ∧ i % j < 4294967296 := by
  have h0 := Int.emod_nonneg i (show j ≠ 0 by omega)
  have h1 := Int.emod_lt_of_pos i h.1
  omega
theorem bitXor_nat (a b : Nat) : ∃ m : Nat, Builtin.bitXor (a : Int) (b : Int) = (m : Int) := by
  unfold Builtin.bitXor
  rw [Yd.bitOr_nat, Yd.bitAnd_nat]
  have h1 : a &&& b ≤ a := Nat.and_le_left
  have h2 : a ≤ a ||| b := Nat.left_le_or
  exact ⟨(a ||| b) - (a &&& b), by omega⟩
def spLSet (K : PySem.W.Frag) : Sp := fun vs H Q _ => ∃ (a : Addr) (ns : List Int) (k : Int), vs = [.ref a, .int k] ∧ SqL K H a (ns.map V.int) ∧ 0 ≤ k ∧ k ≤ 90000 ∧ ∀ (m : Nat) H', Same H H' → Q (.int (m : Int)) H'
theorem nat_of {z : Int} (h : 0 ≤ z) : ∃ m : Nat, z = (m : Int) := Int.eq_ofNat_of_zero_le h
section
variable {P : Program} {w : World} {K : PySem.W.Frag} {mg : Str → Option Value} {base : Heap}
theorem ok_drawB {f : Addr} {fd : FuncData} (F : Fun K "_law_draw" "_law_draw" sDraw f fd) (T : Txt mg) : FnOk P w K mg base CX0 1 f fd ["_law_script", "_law_k"] (spDrawB K) := by
  refine F.ok scDraw (fun vs H Q E h => ?_) (fun cdv A outer s H vs Q E hr h => ?_)
  · obtain ⟨a, ns, k, rfl, _⟩ := h
    rfl
  · obtain ⟨a, ns, k, rfl, hS, k0, k1, q⟩ := h
    have hu := hr.units
    refine ⟨_, pss_cons (ps_set (i := 2) scDraw.nd rfl (Or.inl rfl) pe_int)
      (pss_cons (ps_if (PW.pt (pw_and (pt_cmpR (op_neI hu) (pv 0) (pe_lst pa_nil) (nomark _)) (pw_and1 (pt_cmpR op_eq (pe_op op_mod (pe_ix ix_list (pv 0) pe_int (fun _ _ => rfl)) pe_int) pe_int (nomark _)))))
        (pss_cons (ps_if (pt_cmpR op_lt (pe_op op_add pe_int (pe_op op_fdiv (pv 1) pe_int)) (pe_callB call_len_seq rfl T.len PySem.boot_len (pa_cons (pv 0) pa_nil)) (nomark _))
            (pss_one (ps_set (i := 2) scDraw.nd rfl (Or.inl rfl) (pe_ix ix_list (pv 0) (pe_op op_add pe_int (pe_op op_fdiv (pv 1) pe_int)) (fun _ _ => rfl)))) pss_nil)
          (pss_one (ps_ret (pe_op op_mod (pe_op op_shr (pv 2) (pe_op op_mul pe_int (pe_op op_mod (pv 1) pe_int))) (pe_op op_pow pe_int pe_int))))) pss_nil)
      (pss_cons (ps_if (pt_cmpR (op_neI hu) (pv 0) (pe_lst pa_nil) (nomark _)) (pss_one (ps_set (i := 2) scDraw.nd rfl (Or.inl rfl) (pe_ix ix_list (pv 0) (pe_op op_mod (pv 1) (pe_callB call_len_seq rfl T.len PySem.boot_len (pa_cons (pv 0) pa_nil))) (fun _ _ => rfl)))) pss_nil)
      (pss_cons (ps_set (i := 3) scDraw.nd rfl (Or.inl rfl) (pe_op op_mod (pe_op op_mul (pe_op op_add (pe_op op_add (pv 2) (pe_op op_mul pe_int (pv 1))) pe_int) pe_int) pe_int))
      (pss_cons (ps_set (i := 3) scDraw.nd rfl (Or.inl rfl) (pe_op op_mod (pe_op op_mul (pv 3) (pe_op op_add (pe_op op_fdiv (pv 3) pe_int) pe_int)) pe_int))
      (pss_one (ps_ret (pe_op op_mod (pe_op op_mul (pv 3) (pe_op op_add (pe_op op_fdiv (pv 3) pe_int) pe_int)) pe_int))))))), ?_⟩
    have m30a : 0 ≤ k % 30 := Int.emod_nonneg _ (by decide)
    have d30 : 0 ≤ k / 30 := Int.ediv_nonneg k0 (by decide)
    have L0 : ∀ {H' : Hp}, Same H H' → ∀ l, SqL K (upd H' l (.lst [])) l (([] : List Int).map V.int) := fun _ l => SqL.of upd_same
    refine ⟨_, rfl, by show 0 ≤ sizeLine; exact Nat.zero_le _, fun l hl => ⟨a, l, ns, [], rfl, rfl, (Same.new (Same.refl H) hl).seq hS, SqL.of upd_same, _, rfl, ?_⟩⟩
    have s1 : Same H (upd H l (.lst [])) := Same.new (Same.refl H) hl
    generalize upd H l (.lst []) = H1 at s1 ⊢
    by_cases hne : ns = []
    · refine iteNS hne (iteF ?_)
      refine ⟨_, rfl, by show 0 ≤ sizeLine; exact Nat.zero_le _, fun l2 hl2 => ⟨a, l2, ns, [], rfl, rfl, (Same.new s1 hl2).seq hS, SqL.of upd_same, _, rfl, iteNS hne ?_⟩⟩
      have s2 : Same H (upd H1 l2 (.lst [])) := Same.new s1 hl2
      generalize upd H1 l2 (.lst []) = H2 at s2 ⊢
      refine ⟨_, rfl, _, rfl, _, _, rfl, rfl, .inl ⟨by decide, by decide⟩, _, _, rfl, rfl, _, _, rfl, rfl, _, _, rfl, rfl, .inr ⟨by decide, by decide⟩, _, _, rfl, rfl, (by show (0 : Int) < 2147483647; decide), ?_⟩
      refine ⟨_, rfl, _, rfl, _, _, rfl, rfl, ⟨by decide, by decide⟩, _, _, rfl, rfl, _, _, rfl, rfl, .inl (small_mod (by decide)), _, _, rfl, rfl, (by show (0 : Int) < 2147483647; decide), ?_⟩
      exact ⟨_, rfl, _, rfl, _, _, rfl, rfl, ⟨by decide, by decide⟩, _, _, rfl, rfl, _, _, rfl, rfl, .inl (small_mod (by decide)), _, _, rfl, rfl, (by show (0 : Int) < 2147483399; decide), q _ _ s2 (mod_lt (by decide))⟩
    · have hlen : 0 < ns.length := List.length_pos_iff.mpr hne
      rw [decide_eq_false hne]
      refine iteT ?_
      obtain ⟨m0, hm0⟩ := ints_at (ns := ns) (i := 0) (by decide) (by omega)
      refine ⟨_, rfl, a, _, 0, _, rfl, rfl, s1.seq hS, hm0, _, _, rfl, rfl, (by show (0 : Int) < 2; decide), rfl, _, rfl, ?_⟩
      rw [int_eq]
      cases hodd : decide (m0 % 2 = 1) with
      | true =>
        refine iteT ?_
        have hin : ∀ cell : Int, Q (.int (cell / 2 ^ (32 * (k % 30)).toNat % 2 ^ (32 : Int).toNat)) H1 := fun cell => q _ _ s1 (mod_lt (by decide))
        have fin : ∀ cell : Int, 0 ≤ 32 * (k % 30) := fun _ => by omega
        refine ⟨_, rfl, _, _, rfl, rfl, ⟨by decide, by decide⟩, _, _, rfl, rfl, _, rfl, a, _, rfl, .inl (s1.seq hS), _, _, rfl, rfl, _, rfl, ?_⟩
        refine ite2 (fun hlt => ?_) fun _ => ?_
        · have hlt' : 1 + k / 30 < ((ns.map V.int).length : Nat) := of_decide_eq_true hlt
          rw [List.length_map] at hlt'
          obtain ⟨m1, hm1⟩ := ints_at (ns := ns) (i := 1 + k / 30) (by omega) hlt'
          refine ⟨_, rfl, _, rfl, _, _, rfl, rfl, ⟨by decide, by decide⟩, _, _, rfl, rfl, a, _, _, _, rfl, rfl, s1.seq hS, hm1, ?_⟩
          exact ⟨_, rfl, _, rfl, _, _, rfl, rfl, (by show (0 : Int) < 30; decide), _, _, rfl, rfl, .inl ⟨by decide, by decide⟩, _, _, rfl, rfl, fin 0, _, _, rfl, rfl, ⟨by decide, by decide, by decide⟩, _, _, rfl, rfl, (by show (0 : Int) < 2 ^ (32 : Int).toNat; decide), hin _⟩
        · exact ⟨_, rfl, _, rfl, _, _, rfl, rfl, (by show (0 : Int) < 30; decide), _, _, rfl, rfl, .inl ⟨by decide, by decide⟩, _, _, rfl, rfl, fin 0, _, _, rfl, rfl, ⟨by decide, by decide, by decide⟩, _, _, rfl, rfl, (by show (0 : Int) < 2 ^ (32 : Int).toNat; decide), hin _⟩
      | false =>
        refine iteF ?_
        refine ⟨_, rfl, by show 0 ≤ sizeLine; exact Nat.zero_le _, fun l2 hl2 => ⟨a, l2, ns, [], rfl, rfl, (Same.new s1 hl2).seq hS, SqL.of upd_same, _, rfl, ?_⟩⟩
        have s2 : Same H (upd H1 l2 (.lst [])) := Same.new s1 hl2
        generalize upd H1 l2 (.lst []) = H2 at s2 ⊢
        rw [decide_eq_false hne]
        refine iteT ?_
        have hl' : 0 < ((ns.map V.int).length : Int) := by rw [List.length_map]; omega
        obtain ⟨m2, hm2⟩ := ints_at (ns := ns) (i := k % ((ns.map V.int).length : Nat)) (Int.emod_nonneg _ (by omega)) (by have := Int.emod_lt_of_pos k hl'; rw [List.length_map] at this ⊢; exact this)
        refine ⟨_, rfl, _, rfl, _, rfl, a, _, rfl, .inl (s2.seq hS), _, _, rfl, rfl, hl', a, _, _, _, rfl, rfl, s2.seq hS, hm2, ?_⟩
        refine ⟨_, rfl, _, rfl, _, _, rfl, rfl, .inl ⟨by decide, by decide⟩, _, _, rfl, rfl, _, _, rfl, rfl, _, _, rfl, rfl, .inr ⟨by decide, by decide⟩, _, _, rfl, rfl, (by show (0 : Int) < 2147483647; decide), ?_⟩
        refine ⟨_, rfl, _, rfl, _, _, rfl, rfl, ⟨by decide, by decide⟩, _, _, rfl, rfl, _, _, rfl, rfl, .inl (small_mod (by decide)), _, _, rfl, rfl, (by show (0 : Int) < 2147483647; decide), ?_⟩
        exact ⟨_, rfl, _, rfl, _, _, rfl, rfl, ⟨by decide, by decide⟩, _, _, rfl, rfl, _, _, rfl, rfl, .inl (small_mod (by decide)), _, _, rfl, rfl, (by show (0 : Int) < 2147483399; decide), q _ _ s2 (mod_lt (by decide))⟩
theorem scLSet : FnScope ["_law_script", "_law_k", "_law_one"] ["_law_script", "_law_k"] (defScope sLSet) := ⟨rfl, rfl, rfl, by decide +kernel, rfl, by decide +kernel, by decide +kernel⟩
theorem ok_lset {f fd : Addr} {df dd : FuncData} (F : Fun K "_law_set" "_law_set" sLSet f df) (md : mg "_law_draw" = some (.ref fd)) (kd : PySem.W.keepIn K (.ref fd) = true) (bd : Binds K dd ["_law_script", "_law_k"] [])
    (Gd : FnOk P w K mg base CX0 1 fd dd ["_law_script", "_law_k"] (spDrawB K)) : FnOk P w K mg base CX0 2 f df ["_law_script", "_law_k"] (spLSet K) := by
  refine F.ok scLSet (fun vs H Q E h => ?_) (fun cdv A outer s H vs Q E hr h => ?_)
  · obtain ⟨a, ns, k, rfl, _⟩ := h
    rfl
  · obtain ⟨a, ns, k, rfl, hS, k0, k1, q⟩ := h
    refine ⟨_, pss_cons (ps_set (i := 2) scLSet.nd rfl (Or.inl rfl) (pe_op op_xor (pe_op op_shl (pe_call Gd hr rfl md kd bd .nil pass0 (pa_cons (pv 0) (pa_cons (pv 1) pa_nil))) pe_int) (pe_call Gd hr rfl md kd bd .nil pass0 (pa_cons (pv 0) (pa_cons (pe_op op_add (pv 1) pe_int) pa_nil)))))
      (pss_one (ps_ret (pe_op op_and (pv 2) (pe_op op_xor (pe_op op_shl (pe_call Gd hr rfl md kd bd .nil pass0 (pa_cons (pv 0) (pa_cons (pe_op op_add (pv 1) pe_int) pa_nil))) pe_int) (pe_call Gd hr rfl md kd bd .nil pass0 (pa_cons (pv 0) (pa_cons (pe_op op_add (pv 1) pe_int) pa_nil))))))), ?_⟩
    refine ⟨_, rfl, _, rfl, a, ns, k, rfl, hS, k0, by omega, fun d1 H1 s1 b1 => ⟨_, _, rfl, rfl, ⟨by decide, by decide, by omega⟩, ?_⟩⟩
    refine ⟨_, rfl, _, rfl, _, _, rfl, rfl, a, ns, _, rfl, s1.seq hS, by omega, by omega, fun d2 H2 s12 b2 => ⟨_, _, rfl, rfl, ?_⟩⟩
    have s2 := s1.trans s12
    refine ⟨_, rfl, _, rfl, _, rfl, _, _, rfl, rfl, a, ns, _, rfl, s2.seq hS, by omega, by omega, fun d3 H3 s23 b3 => ⟨_, _, rfl, rfl, ⟨by decide, by decide, by omega⟩, ?_⟩⟩
    have s3 := s2.trans s23
    refine ⟨_, rfl, _, rfl, _, _, rfl, rfl, a, ns, _, rfl, s3.seq hS, by omega, by omega, fun d4 H4 s34 b4 => ⟨_, _, rfl, rfl, _, _, rfl, rfl, ?_⟩⟩
    dsimp only
    obtain ⟨m1, e1⟩ := nat_of (show 0 ≤ d1 * 2 ^ (20 : Int).toNat from Int.mul_nonneg b1.1 (by decide))
    obtain ⟨m2, e2⟩ := nat_of b2.1
    obtain ⟨m3, e3⟩ := nat_of (show 0 ≤ d3 * 2 ^ (20 : Int).toNat from Int.mul_nonneg b3.1 (by decide))
    obtain ⟨m4, e4⟩ := nat_of b4.1
    obtain ⟨x1, y1⟩ := bitXor_nat m1 m2
    obtain ⟨x2, y2⟩ := bitXor_nat m3 m4
    rw [e1, e2, e3, e4, y1, y2, Yd.bitAnd_nat]
    exact q _ _ (s3.trans s34)
end
end K73
namespace K73
open PySem L2
/-! a bit of what is met comes of lanes_ahead -/
theorem setG_bit {g b l l' : Nat} {S : List Nat} (h : ((setG g S l').getD l 0).testBit b = true) : (S.getD l 0).testBit b = true ∨ (b = g ∧ l' = l) := by
  unfold setG at h
  rw [List.getD_eq_getElem?_getD, List.getElem?_set] at h
  by_cases e : l' = l
  · rw [if_pos e] at h
    split at h
    · rw [Option.getD_some, Nat.testBit_or, Bool.or_eq_true] at h
      rcases h with h | h
      · rw [e] at h; exact .inl h
      · rw [Nat.testBit_two_pow] at h
        exact .inr ⟨(of_decide_eq_true h).symm, e⟩
    · rw [Option.getD_none, Nat.zero_testBit] at h
      cases h
  · rw [if_neg e, ← List.getD_eq_getElem?_getD] at h
    exact .inl h
theorem foldG_bit {g b l : Nat} : ∀ (ls : List Nat) {S : List Nat}, ((ls.foldl (setG g) S).getD l 0).testBit b = true → (S.getD l 0).testBit b = true ∨ (b = g ∧ l ∈ ls)
  | [], _, h => .inl h
  | x :: ls, S, h => by
    rcases foldG_bit ls h with h | ⟨h1, h2⟩
    · rcases setG_bit h with h | ⟨h1, h2⟩
      · exact .inl h
      · exact .inr ⟨h1, by rw [h2]; exact List.mem_cons_self⟩
    · exact .inr ⟨h1, List.mem_cons_of_mem _ h2⟩
theorem met_bit_of {wy : Oks → Nat} {ps : List (Int × Int)} {n l g : Nat} : ∀ {m : Nat}, ((metN wy ps n m).getD l 0).testBit g = true → MetA wy ps n g l
  | 0, h => by
    have e : (metN wy ps n 0).getD l 0 = 0 := by
      unfold metN
      rw [List.range_zero, List.foldl_nil, List.getD_eq_getElem?_getD, List.getElem?_replicate]
      split <;> rfl
    rw [e, Nat.zero_testBit] at h
    cases h
  | m + 1, h => by
    rw [met_succ] at h
    rcases foldG_bit _ h with h | ⟨rfl, h⟩
    · exact met_bit_of h
    · exact h
theorem nodup_le2 : ∀ (n : Nat) (l : List Nat), l.Nodup → (∀ x ∈ l, x < n) → l.length ≤ n
  | 0, l, _, h => by
    cases l with
    | nil => exact Nat.le_refl _
    | cons a _ => exact absurd (h a List.mem_cons_self) (Nat.not_lt_zero _)
  | n + 1, l, nd, h => by
    have h1 := nodup_le2 n (l.erase n) (nd.erase n) fun x hx => by
      have h2 := h x (List.mem_of_mem_erase hx)
      have h3 : x ≠ n := fun e => by subst e; exact (List.Nodup.mem_erase_iff nd).mp hx |>.1 rfl
      omega
    rw [List.length_erase] at h1
    split at h1 <;> omega
theorem wl_zero (wy : Oks → Nat) (key : Oks) : wl wy key = [] ↔ wy key = 0 := by
  have h := memV_empty (wy key)
  have h2 : (memV (wy key)).isEmpty = decide (wy key = 0) := by
    have := congrArg (!·) h
    simpa using this
  unfold memV at h2
  unfold wl
  rw [← decide_eq_true_iff (p := wy key = 0), ← h2, List.isEmpty_iff, List.map_eq_nil_iff]

/-! what is alive, by any count of rounds -/
def AL (wy : Oks → Nat) (ps : List (Int × Int)) (out g l : Nat) : Prop := ∃ k, alB (onN wy ps g) (lfB out) (finB ps g) k l = true
theorem al_iff {wy : Oks → Nat} {ps : List (Int × Int)} (h : ∀ k, ∀ z ∈ wl wy k, z < ps.length) {out g l : Nat} : alv wy ps out g l = true ↔ AL wy ps out g l :=
  ⟨fun z => ⟨_, z⟩, fun ⟨_, z⟩ => alB_top (L := ps.length) (on_lt h g) z⟩
theorem AL.inv {wy : Oks → Nat} {ps : List (Int × Int)} {out g l : Nat} (h : AL wy ps out g l) : lfB out l = true ∧ (finB ps g l = true ∨ ∃ z ∈ onN wy ps g l, AL wy ps out g z) := by
  obtain ⟨k, hk⟩ := h
  cases k with
  | zero => cases hk
  | succ k =>
    obtain ⟨h1, h2⟩ := alB_succ.mp hk
    exact ⟨h1, h2.imp id fun ⟨z, hz, h3⟩ => ⟨z, hz, k, h3⟩⟩
/-- where lanes end -/
def Ends (ps : List (Int × Int)) (n : Nat) : Prop := ∀ l, l < ps.length → ∃ p : Nat, p < n ∧ (ps.getD l (0, 0)).2 = (p : Int)
theorem came_in {ps : List (Int × Int)} {l p : Nat} (hl : l < ps.length) (he : (ps.getD l (0, 0)).2 = (p : Int)) : some l ∈ cames ps p := by
  unfold cames
  refine List.mem_cons_of_mem _ (List.mem_map.mpr ⟨l, ?_, rfl⟩)
  unfold ixM
  exact List.mem_filter.mpr ⟨List.mem_range.mpr hl, decide_eq_true he⟩
theorem on_less {wy wy' : Oks → Nat} {ps : List (Int × Int)} {n out g l : Nat} (hW : LessW wy wy' ps n out) (hE : Ends ps n) (hl : l < ps.length) (hg : g < n) : onN wy' ps g l = (onN wy ps g l).filter (alv wy ps out g) := by
  obtain ⟨p, hp, he⟩ := hE l hl
  unfold onN
  split
  · rfl
  · have h := hW.eq p g (some l) hp hg (came_in hl he)
    rw [he]
    unfold lwN at h
    have h2 : alv wy ps out ((p : Int), (g : Int), some l).2.1.toNat = alv wy ps out g := by show alv wy ps out ((g : Int)).toNat = _; rw [Int.toNat_natCast]
    rw [h2] at h
    exact h
theorem less_ok {wy wy' : Oks → Nat} {ps : List (Int × Int)} {n out : Nat} (hW : LessW wy wy' ps n out) (h : ∀ k, ∀ z ∈ wl wy k, z < ps.length) : ∀ k, ∀ z ∈ wl wy' k, z < ps.length := fun k z hz => h k z (hW.sub k z hz)
theorem wl_few {wy : Oks → Nat} {ps : List (Int × Int)} (h : ∀ k, ∀ z ∈ wl wy k, z < ps.length) (k : Oks) : (wl wy k).length ≤ ps.length := nodup_le2 _ _ ((wl_rise _ _).imp fun h => Nat.ne_of_lt h) (h k)
/-! no pair is lost -/
theorem addW_all {S : Nat → Prop} {l : Option Nat} : ∀ {ws : List Nat} {a : As}, (∀ z ∈ a.map (·.1), S z) → (∀ z ∈ ws, S z) → ∀ z ∈ (addW l a ws).map (·.1), S z
  | [], a, h, _ => h
  | x :: ws, a, h, hw => by
    rw [addW_cons]
    refine addW_all ?_ fun z hz => hw z (List.mem_cons_of_mem _ hz)
    split
    · exact h
    · intro z hz
      rw [List.map_append] at hz
      rcases List.mem_append.mp hz with hz | hz
      · exact h z hz
      · rw [List.mem_singleton.mp hz]
        exact hw x List.mem_cons_self
theorem runA_all {S : Nat → Prop} {on : Nat → List Nat} (hon : ∀ l, S l → ∀ z ∈ on l, S z) : ∀ (f : Nat) (a : As) (i : Nat), (∀ z ∈ a.map (·.1), S z) → ∀ z ∈ (runA on f a i).map (·.1), S z
  | 0, a, i, h => h
  | f + 1, a, i, h => by
    cases e : a[i]? with
    | none => rw [runA_end e]; exact h
    | some x =>
      rw [runA_step e]
      exact runA_all hon f _ _ (addW_all h (hon x.1 (h x.1 (List.mem_map.mpr ⟨x, List.mem_of_getElem? e, rfl⟩))))
theorem met_all {S : Nat → Prop} {wy : Oks → Nat} {ps : List (Int × Int)} {n g : Nat} (h0 : ∀ p, p < n → ∀ z ∈ wl wy [some (p : Int), some (g : Int), none], S z) (h1 : ∀ l, S l → ∀ z ∈ onN wy ps g l, S z) {z : Nat} (h : MetA wy ps n g z) : S z := by
  refine runA_all h1 _ _ _ (addW_all (fun z hz => by cases hz) fun z hz => ?_) z h
  obtain ⟨p, hp, hz⟩ := List.mem_flatMap.mp hz
  exact h0 p (List.mem_range.mp hp) z hz
theorem less_mem {wy wy' : Oks → Nat} {ps : List (Int × Int)} {n out p g z : Nat} {c : Option Nat} (hW : LessW wy wy' ps n out) (hp : p < n) (hg : g < n) (hc : c ∈ cames ps p) : z ∈ wl wy' (okey ((p : Int), (g : Int), c)) ↔ z ∈ wl wy (okey ((p : Int), (g : Int), c)) ∧ alv wy ps out g z = true := by
  rw [hW.eq p g c hp hg hc]
  unfold lwN
  rw [List.mem_filter]
  show _ ∧ alv wy ps out ((g : Int)).toNat z = true ↔ _
  rw [Int.toNat_natCast]
theorem al_on {wy wy' : Oks → Nat} {ps : List (Int × Int)} {n out g l : Nat} (h : ∀ k, ∀ z ∈ wl wy k, z < ps.length) (hE : Ends ps n) (hW : LessW wy wy' ps n out) (hg : g < n) (hl : l < ps.length) (ha : alv wy ps out g l = true) (hf : finB ps g l = false) : onN wy' ps g l ≠ [] := by
  obtain ⟨_, h2⟩ := ((al_iff h).mp ha).inv
  rcases h2 with h2 | ⟨z, hz, h3⟩
  · rw [hf] at h2; cases h2
  · intro e
    have : z ∈ onN wy' ps g l := by
      rw [on_less hW hE hl hg]
      exact List.mem_filter.mpr ⟨hz, (al_iff h).mpr h3⟩
    rw [e] at this
    cases this
theorem met_g {wy : Oks → Nat} {ps : List (Int × Int)} {n l g : Nat} (h : ((metN wy ps n n).getD l 0).testBit g = true) : g < n := by
  rcases Nat.lt_or_ge g n with z | z
  · exact z
  · have hlt : (metN wy ps n n).getD l 0 < 2 ^ n := by
      rw [List.getD_eq_getElem?_getD]
      cases e : (metN wy ps n n)[l]? with
      | none => exact Nat.two_pow_pos n
      | some y => exact met_lt wy ps n n (Nat.le_refl _) y (List.mem_of_getElem? e)
    rw [Nat.testBit_lt_two_pow (Nat.lt_of_lt_of_le hlt (Nat.pow_le_pow_right (by decide) z))] at h
    cases h
theorem lost_less {wy wy' : Oks → Nat} {ps : List (Int × Int)} {n out : Nat} (h : ∀ k, ∀ z ∈ wl wy k, z < ps.length) (hE : Ends ps n) (hW : LessW wy wy' ps n out) : lostN wy' ps n = none := by
  unfold lostN
  refine List.find?_eq_none.mpr fun z hz => ?_
  obtain ⟨l, hl, hz⟩ := List.mem_flatMap.mp hz
  obtain ⟨g, hg, rfl⟩ := List.mem_map.mp hz
  have hl := List.mem_range.mp hl
  have hb : ((metN wy' ps n n).getD l 0).testBit g = true := (Yd.memN_mem (Yd.bits_lt _)).mp hg
  have hgn := met_g hb
  have hal : l < ps.length ∧ alv wy ps out g l = true := met_all (S := fun z => z < ps.length ∧ alv wy ps out g z = true) (fun p hp z hz => by
      have h1 := (less_mem (c := none) hW hp hgn List.mem_cons_self).mp hz
      exact ⟨h _ z h1.1, h1.2⟩) (fun l hl z hz => by
      rw [on_less hW hE hl.1 hgn] at hz
      obtain ⟨h1, h2⟩ := List.mem_filter.mp hz
      exact ⟨on_lt h g l z h1, h2⟩) (met_bit_of hb)
  unfold lostB
  dsimp only
  by_cases he : (ps.getD l (0, 0)).2 = (g : Int)
  · rw [decide_eq_true he]; simp
  · have := al_on h hE hW hgn hl hal.2 (decide_eq_false he)
    cases ho : onN wy' ps g l with
    | nil => exact absurd ho this
    | cons _ _ => simp
/-! the starts -/
theorem start_wl {wy : Oks → Nat} {p g : Nat} : isStart wy p g = !decide (wl wy (okey ((p : Int), (g : Int), none)) = []) := by
  unfold isStart
  have h := wl_zero wy (okey ((p : Int), (g : Int), none))
  have e : okey ((p : Int), (g : Int), none) = [some (p : Int), some (g : Int), none] := rfl
  rw [e] at h ⊢
  by_cases z : wy [some (p : Int), some (g : Int), none] = 0
  · rw [decide_eq_true z, decide_eq_true (h.mpr z)]
  · rw [decide_eq_false z, decide_eq_false fun q => z (h.mp q)]
theorem mem_starts {wy : Oks → Nat} {n m : Nat} {z : Int × Int} (h : z ∈ startsOf wy n m) : ∃ p g : Nat, z = ((p : Int), (g : Int)) ∧ p < m ∧ g < n ∧ wl wy (okey ((p : Int), (g : Int), none)) ≠ [] := by
  obtain ⟨p, hp, h⟩ := List.mem_flatMap.mp h
  obtain ⟨g, hg, e⟩ := List.mem_map.mp h
  obtain ⟨hg, hs⟩ := List.mem_filter.mp hg
  refine ⟨p, g, e.symm, List.mem_range.mp hp, List.mem_range.mp hg, fun e => ?_⟩
  rw [start_wl, decide_eq_true e] at hs
  cases hs
theorem LsC.way {P : Program} {w : World} {K : PySem.W.Frag} {C fw : Addr} {dw : FuncData} (L : LsC K C fw dw) : Way K C fw dw (LessAt P w C) :=
  ⟨L.cl, L.m, L.b, (fun H x wy ⟨dx, de, fs, kvs, h1, e1, e2, h2, h3⟩ => ⟨dx, fs, h1, e2⟩), (fun H H' x wy ⟨dx, de, fs, kvs, h1, e1, e2, h2, h3⟩ s => ⟨dx, de, fs, kvs, s _ _ h1, e1, e2, h2.same s, h3⟩)⟩
end K73
namespace L2
open PySem
theorem pi_or {X : Cx} {tg it : Expr} {a b : TI} (h1 : PI X tg it a) (h2 : PI X tg it b) : PI X tg it (fun σ H R => a σ H R ∨ b σ H R) := fun pins s σ H R I h => h.elim (h1 pins s σ H R I) (h2 pins s σ H R I)
theorem Same.seqT {K : PySem.W.Frag} {H H' : Hp} {a : Addr} {xs : List V} (e : Same H H') (h : SqT K H a xs) : SqT K H' a xs := by
  rcases h with h | h
  · refine .inl ?_
    rcases h with h | ⟨o, h⟩
    · exact .inl (e _ _ h)
    · exact .inr ⟨o, e _ _ h⟩
  · exact .inr h
/-- a list or a tuple -/
def Sq (K : PySem.W.Frag) (H : Hp) (a : Addr) (xs : List V) : Prop := SqL K H a xs ∨ SqT K H a xs
theorem Sq.same {K : PySem.W.Frag} {H H' : Hp} {a : Addr} {xs : List V} (h : Sq K H a xs) (s : Same H H') : Sq K H' a xs := h.elim (fun z => .inl (s.seq z)) (fun z => .inr (Same.seqT s z))
theorem Sq.ix {K : PySem.W.Frag} {H : Hp} {a : Addr} {xs : List V} {i : Int} {v : V} {Q : VK} (h : Sq K H a xs) (e : atI xs i = some v) (q : Q v H) : rIx K (.ref a) (.int i) H Q :=
  h.elim (fun z => .inl ⟨a, xs, i, v, rfl, rfl, z, e, q⟩) (fun z => .inr (.inl ⟨a, xs, i, v, rfl, rfl, z, e, q⟩))
theorem fs_next {α β : Type} {f : α → Option β} {xs : List α} {i : Nat} {x : α} (hx : xs[i]? = some x) (h0 : (xs.take i).findSome? f = none) (hb : f x = none) : (xs.take (i + 1)).findSome? f = none := by
  rw [List.take_succ, hx, Option.toList_some, List.findSome?_append, h0, Option.none_or]
  simp [hb]
theorem fs_at {α β : Type} {f : α → Option β} {xs : List α} {i : Nat} {x : α} (hx : xs[i]? = some x) (h0 : (xs.take i).findSome? f = none) {b : β} (hb : f x = some b) : xs.findSome? f = some b := by
  obtain ⟨hi, e⟩ := List.getElem?_eq_some_iff.mp hx
  have hd : xs.drop i = x :: xs.drop (i + 1) := by rw [List.drop_eq_getElem_cons hi, e]
  rw [← List.take_append_drop i xs, List.findSome?_append, h0, Option.none_or, hd, List.findSome?_cons, hb]
end L2
namespace K73
open PySem L2
/-- what a fault is told as -/
def FV (K : PySem.W.Frag) (H : Hp) (v : V) : Option (List PyData) → Prop
  | none => v = .non
  | some ds => ∃ t xs, v = .ref t ∧ H t = some (.tup xs) ∧ Dens K H xs ds
abbrev Fo := Option (List PyData)
def sizeB (L n : Nat) (nums ss : List Int) : Bool := decide (nums.length = L) && (decide (ss.length = L) && ss.all fun s => decide (0 ≤ s ∧ s ≤ 1 * 2 ^ (n : Int).toNat - 1))
def bitN (S : List Nat) (l g : Nat) : Bool := (S.getD l 0).testBit g
def stF (wy : Oks → Nat) (S : List Nat) (z : Int × Int) : Fo := (wl wy [some z.1, some z.2, none]).findSome? fun l => if bitN S l z.2.toNat then none else some [.str "start", .int z.1, .int z.2, .int l]
def startF (wy : Oks → Nat) (n : Nat) (S : List Nat) : Fo := (startsOf wy n n).findSome? (stF wy S)
def wayF (nums : List Int) (S : List Nat) (l g w : Nat) : Fo := if bitN S w g then (if nums.getD w 0 ≤ nums.getD l 0 then some [.str "number", .int l, .int g, .int w] else none) else some [.str "open", .int l, .int g, .int w]
def pairF (wy : Oks → Nat) (ps : List (Int × Int)) (nums : List Int) (S : List Nat) (l g : Nat) : Fo := if onN wy ps g l = [] then some [.str "lost", .int l, .int g] else (onN wy ps g l).findSome? (wayF nums S l g)
def laneF (wy : Oks → Nat) (ps : List (Int × Int)) (nums : List Int) (S : List Nat) (l : Nat) : Fo := (Yd.memN (S.getD l 0) (Builtin.Int.intBits ((S.getD l 0 : Nat) : Int))).findSome? fun g : Nat => if (g : Int) = (ps.getD l (0, 0)).2 then none else pairF wy ps nums S l g
def lanesF (wy : Oks → Nat) (ps : List (Int × Int)) (nums : List Int) (S : List Nat) (m : Nat) : Fo := (List.range m).findSome? (laneF wy ps nums S)
def faultF (wy : Oks → Nat) (ps : List (Int × Int)) (n : Nat) (nums ss : List Int) : Fo :=
  if sizeB ps.length n nums ss then (startF wy n (ss.map Int.toNat)).or (lanesF wy ps nums (ss.map Int.toNat) ps.length) else some [.str "size"]
theorem atM {ms : List Int} {z : Nat} (h : z < ms.length) : atI (ms.map V.int) (z : Int) = some (.int (ms.getD z 0)) := atI_nat (by simp [h])
theorem atS {S : List Nat} {z : Nat} (h : z < S.length) : atI (nV S) (z : Int) = some (.int ((S.getD z 0 : Nat) : Int)) := atI_nat (nV_getD h)
def bodyC (s : Stmt) : Scope := match s with
  | .Return (some (.Call _ [.ListComp _ _ sc _] _ _)) _ => sc
  | _ => { kind := .function, names := [], isGenerator := false, isCoroutine := false }
def spSize (K : PySem.W.Frag) (c : Cs) : Sp := fun vs H Q _ => ∃ (x dx lt na sa : Addr) (n : Nat) (tvs : List V) (ps : List (Int × Int)) (nums ss : List Int), vs = [.ref x, .ref na, .ref sa] ∧ LandAt H c x dx lt (n : Int) tvs ps ∧ n ≤ 12 ∧ Sq K H na (nums.map V.int) ∧ Sq K H sa (ss.map V.int) ∧ ss.length ≤ 1000 ∧ ∀ H', Same H H' → Q (.bl (sizeB ps.length n nums ss)) H'
abbrev NSz : List Str := ["land", "numbers", "sets", "lanes"]
section
variable {P : Program} {w : World} {K : PySem.W.Frag} {mg : Str → Option Value} {base : Heap}
theorem scSz : FnScope NSz ["land", "numbers", "sets"] (defScope sSize) := ⟨rfl, rfl, rfl, by decide +kernel, rfl, by decide +kernel, by decide +kernel⟩
theorem bkSz : Blk NSz (defScope sSize) (bodyC ((defBody sSize).getD 2 (.Pass ⟨0, 0, 0, 0⟩))) ["land"] [0] := ⟨rfl, by decide +kernel, by decide +kernel, by decide +kernel, rfl, by decide +kernel⟩
theorem ndSz : (["goals", "land"] : List Str).Nodup := by decide +kernel
theorem ok_size {c : Cs} {f fw : Addr} {fd dw : FuncData} (F : Fun K "has_size" "has_size" sSize f fd) (T : Txt mg) (L : Lnd K c) (mw : mg "is_within" = some (.ref fw)) (kw : PySem.W.keepIn K (.ref fw) = true) (bw : Binds K dw ["value", "least", "most"] []) (Gw : FnOk P w K mg base CX0 2 fw dw ["value", "least", "most"] spWithin) :
    FnOk P w K mg base CX0 3 f fd ["land", "numbers", "sets"] (spSize K c) := by
  refine F.ok scSz (fun vs H Q E h => ?_) (fun cdv A outer s H vs Q E hr h => ?_)
  · obtain ⟨x, dx, lt, na, sa, n, tvs, ps, nums, ss, rfl, _⟩ := h
    rfl
  · obtain ⟨x, dx, lt, na, sa, n, tvs, ps, nums, ss, rfl, hL, hn, hN, hS, hsl, q⟩ := h
    refine ⟨_, pss_cons (ps_set (i := 3) scSz.nd rfl (Or.inl rfl) (pe_callB call_len_seq rfl T.len PySem.boot_len (pa_cons (pe_fld (pv 0) rfl) pa_nil)))
      (pss_cons (ps_if (PW.pt (pw_or (pt_cmpR op_ne (pe_callB call_len_seq rfl T.len PySem.boot_len (pa_cons (pv 1) pa_nil)) (pv 3) (nomark _)) (pw_or1 (pt_cmpR op_ne (pe_callB call_len_seq rfl T.len PySem.boot_len (pa_cons (pv 2) pa_nil)) (pv 3) (nomark _))))) (pss_one (ps_ret pe_bl)) pss_nil)
      (pss_one (ps_ret (pe_callB (call_all rfl) rfl T.all PyProof.Rows.boot_all (pa_cons (pe_comp (own := ["goals"]) (capN := ["land"]) (cap := [0]) bkSz rfl (pi_or (pi_list (pv 2)) (pi_tup (pv 2)))
        (fun C s' H' fp => ⟨pg_name (i := 0) ndSz rfl (Or.inl rfl), pts_nil, pe_call Gw hr rfl mw kw bw .nil pass0 (pa_cons (pv 0) (pa_cons pe_int (pa_cons (pe_op op_sub (pe_op op_shl pe_int (show PE _ _ (tFld K (tVar 1) "places") from pe_fld (pv 1) rfl)) pe_int) pa_nil)))⟩)) pa_nil))))), ?_⟩
    have hll : tvs.length = ps.length := Paired.length hL.2.2
    refine ⟨_, rfl, x, c.land, dx, _, _, rfl, hL.1, L.cl, L.nl, rfl, lt, _, rfl, .inr (SqT.of hL.2.1), ?_⟩
    refine ⟨_, rfl, na, _, rfl, hN, _, rfl, rfl, _, rfl, ?_⟩
    unfold sizeB at q
    rw [int_eq', List.length_map]
    by_cases h1 : nums.length = ps.length
    rotate_left
    · rw [decide_eq_false (show ¬ ((nums.length : Nat) : Int) = (tvs.length : Nat) by omega)]
      have := q H (Same.refl H)
      rw [decide_eq_false h1] at this
      exact iteT (iteT this)
    rw [decide_eq_true (show ((nums.length : Nat) : Int) = (tvs.length : Nat) by omega)]
    refine iteF ⟨_, rfl, sa, _, rfl, hS, _, rfl, rfl, _, rfl, ?_⟩
    rw [int_eq', List.length_map]
    by_cases h2 : ss.length = ps.length
    rotate_left
    · rw [decide_eq_false (show ¬ ((ss.length : Nat) : Int) = (tvs.length : Nat) by omega)]
      have := q H (Same.refl H)
      rw [decide_eq_true h1, decide_eq_false h2] at this
      exact iteT this
    rw [decide_eq_true (show ((ss.length : Nat) : Int) = (tvs.length : Nat) by omega)]
    refine iteF ?_
    have step : ∀ (i : Nat) (acc : List V) (z : Int), ss[i]? = some z → ((ss.take i).map fun s => V.bl (decide (0 ≤ s ∧ s ≤ 1 * 2 ^ (n : Int).toNat - 1))) = acc → ((ss.take (i + 1)).map fun s => V.bl (decide (0 ≤ s ∧ s ≤ 1 * 2 ^ (n : Int).toNat - 1))) = acc ++ [V.bl (decide (0 ≤ z ∧ z ≤ 1 * 2 ^ (n : Int).toNat - 1))] := fun i acc z hz e => by
      rw [List.take_succ, hz, List.map_append, e]; rfl
    have get : ∀ {i : Nat} {v : V}, (ss.map V.int)[i]? = some v → ∃ z, ss[i]? = some z ∧ v = .int z := fun {i v} h => by
      rw [List.getElem?_map] at h
      cases e : ss[i]? with
      | none => rw [e] at h; cases h
      | some k => rw [e] at h; exact ⟨k, rfl, (Option.some.inj h).symm⟩
    have fin : ∀ D, H D = none → ∃ (p : Addr) (bs : List Bool), [V.ref D] = [.ref p] ∧ SqL K (upd H D (.lst (ss.map fun s => V.bl (decide (0 ≤ s ∧ s ≤ 1 * 2 ^ (n : Int).toNat - 1))))) p (bs.map V.bl) ∧ Q (.bl (bs.all id)) (upd H D (.lst (ss.map fun s => V.bl (decide (0 ≤ s ∧ s ≤ 1 * 2 ^ (n : Int).toNat - 1))))) := fun D hD => by
      refine ⟨D, ss.map fun s => decide (0 ≤ s ∧ s ≤ 1 * 2 ^ (n : Int).toNat - 1), rfl, SqL.of (by rw [upd_same, List.map_map]; rfl), ?_⟩
      have := q _ ((Same.refl H).new (o := .lst (ss.map fun s => V.bl (decide (0 ≤ s ∧ s ≤ 1 * 2 ^ (n : Int).toNat - 1)))) hD)
      rw [decide_eq_true h1, decide_eq_true h2, Bool.true_and, Bool.true_and] at this
      rw [List.all_map]
      exact this
    rcases hS with hS | hS
    · refine .inl ⟨_, rfl, sa, rfl, ⟨_, hS⟩, ?_⟩
      refine comp_gen ss.length (by rw [PySem.sizeLine_eq]; omega) (fun i acc H' => H' = H ∧ ((ss.take i).map fun s => V.bl (decide (0 ≤ s ∧ s ≤ 1 * 2 ^ (n : Int).toNat - 1))) = acc) ⟨rfl, rfl⟩ (fun i acc H' h => by rw [← h.2, List.length_map]; exact List.length_take_le _ _) (fun i acc H' hi h => ?_) (fun acc H' h => ?_)
      · obtain ⟨rfl, hacc⟩ := h
        refine ⟨⟨_, _, hS, List.getElem?_eq_getElem (by rw [List.length_map]; exact hi)⟩, fun v H2 y => ?_⟩
        obtain ⟨e, y⟩ := y
        subst e
        obtain ⟨z, hz, rfl⟩ := get (y _ hS)
        exact ⟨_, rfl, _, rfl, x, c.land, dx, _, _, rfl, hL.1, L.cl, L.np, rfl, _, _, rfl, rfl, ⟨by omega, by omega, by decide⟩, _, _, rfl, rfl, z, 0, _, rfl, rfl, step i acc z hz hacc⟩
      · obtain ⟨rfl, hacc⟩ := h
        rw [List.take_length] at hacc
        subst hacc
        exact ⟨⟨_, hS, by rw [List.length_map]; exact Nat.le_refl _⟩, fun D hD => fin D hD⟩
    · refine .inr ⟨_, rfl, sa, rfl, ⟨_, hS⟩, ?_⟩
      refine comp_gen ss.length (by rw [PySem.sizeLine_eq]; omega) (fun i acc H' => H' = H ∧ ((ss.take i).map fun s => V.bl (decide (0 ≤ s ∧ s ≤ 1 * 2 ^ (n : Int).toNat - 1))) = acc) ⟨rfl, rfl⟩ (fun i acc H' h => by rw [← h.2, List.length_map]; exact List.length_take_le _ _) (fun i acc H' hi h => ?_) (fun acc H' h => ?_)
      · obtain ⟨rfl, hacc⟩ := h
        refine ⟨⟨_, _, hS, List.getElem?_eq_getElem (by rw [List.length_map]; exact hi)⟩, fun v H2 y => ?_⟩
        obtain ⟨e, y⟩ := y
        subst e
        obtain ⟨z, hz, rfl⟩ := get (y _ hS)
        exact ⟨_, rfl, _, rfl, x, c.land, dx, _, _, rfl, hL.1, L.cl, L.np, rfl, _, _, rfl, rfl, ⟨by omega, by omega, by decide⟩, _, _, rfl, rfl, z, 0, _, rfl, rfl, step i acc z hz hacc⟩
      · obtain ⟨rfl, hacc⟩ := h
        rw [List.take_length] at hacc
        subst hacc
        exact ⟨⟨_, hS, by rw [List.length_map]; exact Nat.le_refl _⟩, fun D hD => fin D hD⟩
end
end K73
namespace K73
open PySem L2
structure PapIn (K : PySem.W.Frag) (H : Hp) (na sa : Addr) (ps : List (Int × Int)) (nums : List Int) (S : List Nat) : Prop where
  n : Sq K H na (nums.map V.int)
  s : Sq K H sa (nV S)
  nl : nums.length = ps.length
  sl : S.length = ps.length
  lt : ∀ z ∈ S, z < 2 ^ 400
theorem PapIn.same {K : PySem.W.Frag} {H H' : Hp} {na sa : Addr} {ps : List (Int × Int)} {nums : List Int} {S : List Nat} (h : PapIn K H na sa ps nums S) (s : Same H H') : PapIn K H' na sa ps nums S := ⟨h.n.same s, h.s.same s, h.nl, h.sl, h.lt⟩
def spStF (K : PySem.W.Frag) (c : Cs) (C : Addr) (J : TIn) : Sp := fun vs H Q _ => ∃ (x lx ldx lt sa : Addr) (n : Nat) (tvs : List V) (ps : List (Int × Int)) (wy : Oks → Nat) (S : List Nat), vs = [.ref x, .ref sa] ∧ TabIn c C J H x lx ldx lt n tvs ps wy ∧ Sq K H sa (nV S) ∧ S.length = ps.length ∧ ∀ v H', Same H H' → FV K H' v (startF wy n S) → Q v H'
def spWayF (K : PySem.W.Frag) : Sp := fun vs H Q _ => ∃ (na sa : Addr) (ps : List (Int × Int)) (nums : List Int) (S : List Nat) (l g w : Nat), vs = [.ref na, .ref sa, .int l, .int g, .int w] ∧ PapIn K H na sa ps nums S ∧ l < ps.length ∧ w < ps.length ∧ ∀ v H', Same H H' → FV K H' v (wayF nums S l g w) → Q v H'
def spPairF (K : PySem.W.Frag) (c : Cs) (C : Addr) (J : TIn) : Sp := fun vs H Q _ => ∃ (x lx ldx lt na sa : Addr) (n : Nat) (tvs : List V) (ps : List (Int × Int)) (wy : Oks → Nat) (nums : List Int) (S : List Nat) (l g : Nat), vs = [.ref x, .ref na, .ref sa, .int l, .int g] ∧ TabIn c C J H x lx ldx lt n tvs ps wy ∧ PapIn K H na sa ps nums S ∧ l < ps.length ∧ ∀ v H', Same H H' → FV K H' v (pairF wy ps nums S l g) → Q v H'
def spLaneF (K : PySem.W.Frag) (c : Cs) (C : Addr) (J : TIn) : Sp := fun vs H Q _ => ∃ (x lx ldx lt na sa : Addr) (n : Nat) (tvs : List V) (ps : List (Int × Int)) (wy : Oks → Nat) (nums : List Int) (S : List Nat) (l : Nat), vs = [.ref x, .ref na, .ref sa, .int l] ∧ TabIn c C J H x lx ldx lt n tvs ps wy ∧ PapIn K H na sa ps nums S ∧ l < ps.length ∧ ∀ v H', Same H H' → FV K H' v (laneF wy ps nums S l) → Q v H'
def spFault (K : PySem.W.Frag) (c : Cs) (C : Addr) (J : TIn) : Sp := fun vs H Q _ => ∃ (x lx ldx lt pa na sa : Addr) (n : Nat) (tvs : List V) (ps : List (Int × Int)) (wy : Oks → Nat) (nums ss : List Int), vs = [.ref x, .ref pa] ∧ TabIn c C J H x lx ldx lt n tvs ps wy ∧ H pa = some (.tup [.ref na, .ref sa]) ∧ Sq K H na (nums.map V.int) ∧ Sq K H sa (ss.map V.int) ∧ ss.length ≤ 1000 ∧ ∀ v H', Same H H' → FV K H' v (faultF wy ps n nums ss) → Q v H'
theorem mem_starts2 {wy : Oks → Nat} {n m : Nat} {z : Int × Int} (h : z ∈ startsOf wy n m) : ∃ p g : Nat, z = ((p : Int), (g : Int)) ∧ p < m ∧ g < n := by
  obtain ⟨p, g, e, h1, h2, _⟩ := mem_starts h
  exact ⟨p, g, e, h1, h2⟩
theorem FV.non {K : PySem.W.Frag} {H : Hp} {v : V} {o : Fo} (h : FV K H v o) : decide (v = V.non) = decide (o = none) := by
  cases o with
  | none => have h : v = .non := h; rw [h]; rfl
  | some ds => obtain ⟨t, xs, rfl, _⟩ := h; rfl
section
variable {P : Program} {w : World} {K : PySem.W.Frag} {mg : Str → Option Value} {base : Heap}
theorem scWf : FnScope ["numbers", "sets", "lane", "goal", "way"] ["numbers", "sets", "lane", "goal", "way"] (defScope sWayF) := ⟨rfl, rfl, rfl, by decide +kernel, rfl, by decide +kernel, by decide +kernel⟩
theorem ok_wayF {f fx : Addr} {fd dx : FuncData} (F : Fun K "way_fault" "way_fault" sWayF f fd) (X : HasM P w K mg base fx dx) : FnOk P w K mg base CX0 2 f fd ["numbers", "sets", "lane", "goal", "way"] (spWayF K) := by
  refine F.ok scWf (fun vs H Q E h => ?_) (fun cdv A outer s H vs Q E hr h => ?_)
  · obtain ⟨na, sa, ps, nums, S, l, g, w', rfl, _⟩ := h
    rfl
  · obtain ⟨na, sa, ps, nums, S, l, g, w', rfl, hP, hl, hw, q⟩ := h
    refine ⟨_, pss_cons (ps_if (pt_not (pt_val (pe_call X.G hr rfl X.m X.k X.b .nil pass0 (pa_cons (pe_ix ix_seq (pv 1) (pv 4) (fun _ _ => rfl)) (pa_cons (pv 3) pa_nil))))) (pss_one (ps_ret (pe_tup (pa_cons pe_str (pa_cons (pv 2) (pa_cons (pv 3) (pa_cons (pv 4) pa_nil))))))) pss_nil)
      (pss_cons (ps_if (pt_cmpR op_le (pe_ix ix_seq (pv 0) (pv 4) (fun _ _ => rfl)) (pe_ix ix_seq (pv 0) (pv 2) (fun _ _ => rfl)) (nomark _)) (pss_one (ps_ret (pe_tup (pa_cons pe_str (pa_cons (pv 2) (pa_cons (pv 3) (pa_cons (pv 4) pa_nil))))))) pss_nil)
      (pss_one (ps_ret pe_non))), ?_⟩
    have tup : ∀ nm : Str, wayF nums S l g w' = some [.str nm, .int l, .int g, .int w'] → ∀ t, H t = none → Q (.ref t) (upd H t (.tup [.str nm, .int l, .int g, .int w'])) := fun nm e t ht => q _ _ ((Same.refl H).new ht) (by rw [e]; exact ⟨t, _, rfl, upd_same, .cons (.str _) (.cons (.int _) (.cons (.int _) (.cons (.int _) .nil)))⟩)
    refine ⟨_, rfl, _, rfl, hP.s.ix (atS (by rw [hP.sl]; exact hw)) ⟨_, rfl, S.getD w' 0, g, rfl, _, rfl, ?_⟩⟩
    cases hb : (S.getD w' 0).testBit g with
    | false => exact iteT ⟨_, rfl, _, rfl, _, rfl, by show 4 ≤ sizeLine; decide, fun t ht => tup "open" (by unfold wayF bitN; rw [hb]; rfl) t ht⟩
    | true =>
      refine iteF ⟨_, rfl, _, rfl, hP.n.ix (atM (by rw [hP.nl]; exact hw)) ⟨_, rfl, _, rfl, hP.n.ix (atM (by rw [hP.nl]; exact hl)) ⟨_, _, rfl, rfl, _, rfl, ?_⟩⟩⟩
      by_cases hle : nums.getD w' 0 ≤ nums.getD l 0
      · rw [decide_eq_true hle]
        exact iteT ⟨_, rfl, _, rfl, _, rfl, by show 4 ≤ sizeLine; decide, fun t ht => tup "number" (by unfold wayF bitN; rw [hb, if_pos rfl, if_pos hle]) t ht⟩
      · rw [decide_eq_false hle]
        exact iteF (q _ _ (Same.refl H) (by unfold wayF bitN; rw [hb, if_pos rfl, if_neg hle]; rfl))
theorem scPf : FnScope ["table", "numbers", "sets", "lane", "goal", "ways", "way", "found"] ["table", "numbers", "sets", "lane", "goal"] (defScope sPairF) := ⟨rfl, rfl, rfl, by decide +kernel, rfl, by decide +kernel, by decide +kernel⟩
theorem ok_pairF {c : Cs} {J : TIn} {C f fw fo fy : Addr} {fd dw d_o dy : FuncData} (F : Fun K "pair_fault" "pair_fault" sPairF f fd) (W : Way K C fw dw J) (mo : mg "onward" = some (.ref fo)) (ko : PySem.W.keepIn K (.ref fo) = true) (bo : Binds K d_o ["table", "lane", "goal"] []) (Go : FnOk P w K mg base CX0 4 fo d_o ["table", "lane", "goal"] (spOn c C J))
    (my : mg "way_fault" = some (.ref fy)) (ky : PySem.W.keepIn K (.ref fy) = true) (by' : Binds K dy ["numbers", "sets", "lane", "goal", "way"] []) (Gy : FnOk P w K mg base CX0 2 fy dy ["numbers", "sets", "lane", "goal", "way"] (spWayF K)) : FnOk P w K mg base CX0 5 f fd ["table", "numbers", "sets", "lane", "goal"] (spPairF K c C J) := by
  refine F.ok scPf (fun vs H Q E h => ?_) (fun cdv A outer s H vs Q E hr h => ?_)
  · obtain ⟨x, lx, ldx, lt, na, sa, n, tvs, ps, wy, nums, S, l, g, rfl, _⟩ := h
    rfl
  · obtain ⟨x, lx, ldx, lt, na, sa, n, tvs, ps, wy, nums, S, l, g, rfl, hT, hP, hl, q⟩ := h
    have hr2 : Room 2 _ := hr.mono (by decide)
    refine ⟨_, pss_cons (ps_set (i := 5) scPf.nd rfl (Or.inl rfl) (pe_call Go hr rfl mo ko bo .nil pass0 (pa_cons (pv 0) (pa_cons (pv 3) (pa_cons (pv 4) pa_nil)))))
      (pss_cons (ps_if (pt_not (pt_truth (pv 5) (fun _ => rfl))) (pss_one (ps_ret (pe_tup (pa_cons pe_str (pa_cons (pv 3) (pa_cons (pv 4) pa_nil)))))) pss_nil)
      (pss_cons (ps_for PassesOwn.never rfl (pi_list (pv 5)) (pg_name (i := 6) scPf.nd rfl (Or.inl rfl))
        (pss_cons (ps_set (i := 7) scPf.nd rfl (Or.inl rfl) (pe_call Gy hr2 rfl my ky by' .nil pass0 (pa_cons (pv 1) (pa_cons (pv 2) (pa_cons (pv 3) (pa_cons (pv 4) (pa_cons (pv 6) pa_nil)))))))
        (pss_one (ps_if (pt_cmpR op_notN (pv 7) pe_non (nomark _)) (pss_one (ps_ret (pv 7))) pss_nil))))
      (pss_one (ps_ret pe_non)))), ?_⟩
    refine ⟨_, rfl, _, rfl, _, rfl, x, lx, ldx, lt, n, tvs, ps, wy, l, g, rfl, hT, hl, fun D H1 s1 hD gD => ?_⟩
    have hlt : ∀ z ∈ onN wy ps g l, z < ps.length := by
      intro z hz
      unfold onN at hz
      split at hz
      · cases hz
      · exact hT.ok _ z hz
    unfold pairF at q
    generalize onN wy ps g l = us at hlt gD q
    refine ⟨_, rfl, _, .inl ⟨_, SqL.of gD, rfl⟩, ?_⟩
    cases us with
    | nil =>
      refine iteT ⟨_, rfl, _, rfl, by show 3 ≤ sizeLine; decide, fun t ht => ?_⟩
      exact q _ _ (s1.new ht) (by rw [if_pos rfl]; exact ⟨t, _, rfl, upd_same, .cons (.str _) (.cons (.int _) (.cons (.int _) .nil))⟩)
    | cons u0 us0 =>
      rw [if_neg (by intro z; cases z)] at q
      refine iteF ?_
      generalize u0 :: us0 = us at hlt gD q
      refine ⟨_, rfl, D, rfl, ⟨_, SqL.of gD⟩, ?_⟩
      refine for_list (K := K) (a := D) (xs := nV us) (fun i σ H2 => ∃ a6 a7 : Option V, Same H1 H2 ∧ (us.take i).findSome? (wayF nums S l g) = none ∧ σ = [some (.ref x), some (.ref na), some (.ref sa), some (.int l), some (.int g), some (.ref D), a6, a7])
        ⟨none, none, Same.refl _, rfl, rfl⟩ (fun i σ H2 _ ⟨_, _, s2, _⟩ => SqL.of (s2 _ _ gD)) ?_ ?_
      · rintro i v σ H2 hv ⟨a6, a7, s2, h0, rfl⟩
        have hi : i < us.length := by have := (List.getElem?_eq_some_iff.mp hv).1; rw [nV_len] at this; exact this
        have hk0 := List.getElem?_eq_getElem hi
        have hv' := nV_get hk0
        rw [hv'] at hv
        have hv := Option.some.inj hv
        subst hv
        have hz := hlt _ (List.getElem_mem hi)
        generalize us[i] = z at hk0 hz
        refine ⟨_, rfl, _, rfl, _, rfl, _, rfl, _, rfl, na, sa, ps, nums, S, l, g, z, rfl, hP.same (s1.trans s2), hl, hz, fun fv H3 s3 hfv => ?_⟩
        refine ⟨_, rfl, rfl, _, rfl, ?_⟩
        rw [hfv.non]
        cases hw : wayF nums S l g z with
        | none => exact iteF ⟨_, _, s2.trans s3, fs_next hk0 h0 hw, rfl⟩
        | some ds =>
          rw [hw] at hfv
          exact iteT ⟨_, rfl, q _ _ ((s1.trans s2).trans s3) (by rw [fs_at hk0 h0 hw]; exact hfv)⟩
      · rintro σ H2 ⟨a6, a7, s2, h0, rfl⟩
        rw [nV_len, List.take_length] at h0
        exact q _ _ (s1.trans s2) (by rw [h0]; rfl)
theorem scLf : FnScope ["table", "numbers", "sets", "lane", "end", "goal", "found"] ["table", "numbers", "sets", "lane"] (defScope sLaneF) := ⟨rfl, rfl, rfl, by decide +kernel, rfl, by decide +kernel, by decide +kernel⟩
theorem ok_laneF {c : Cs} {J : TIn} {C f fw fe fm fy : Addr} {fd dw de dm dy : FuncData} (F : Fun K "lane_fault" "lane_fault" sLaneF f fd) (L : Lnd K c) (W : Way K C fw dw J) (nl : NoAttr K C "land") (M : EndM K c fe de) (Ge : FnOk P w K mg base CX0 1 fe de ["self", "lane"] (spAt c Prod.snd))
    (mm : mg "members" = some (.ref fm)) (km : PySem.W.keepIn K (.ref fm) = true) (bm : Binds K dm ["some"] []) (Gm : FnOk P w K mg base CX0 2 fm dm ["some"] spMem)
    (my : mg "pair_fault" = some (.ref fy)) (ky : PySem.W.keepIn K (.ref fy) = true) (by' : Binds K dy ["table", "numbers", "sets", "lane", "goal"] []) (Gy : FnOk P w K mg base CX0 5 fy dy ["table", "numbers", "sets", "lane", "goal"] (spPairF K c C J)) : FnOk P w K mg base CX0 6 f fd ["table", "numbers", "sets", "lane"] (spLaneF K c C J) := by
  refine F.ok scLf (fun vs H Q E h => ?_) (fun cdv A outer s H vs Q E hr h => ?_)
  · obtain ⟨x, lx, ldx, lt, na, sa, n, tvs, ps, wy, nums, S, l, rfl, _⟩ := h
    rfl
  · obtain ⟨x, lx, ldx, lt, na, sa, n, tvs, ps, wy, nums, S, l, rfl, hT, hP, hl, q⟩ := h
    have hr1 : Room 1 _ := hr.mono (by decide)
    have hr2 : Room 2 _ := hr.mono (by decide)
    refine ⟨_, pss_cons (ps_set (i := 4) scLf.nd rfl (Or.inl rfl) (pe_meth (pe_fld (pv 0) rfl) L.cl M.m Ge hr1 M.b .nil pass0 (pa_cons (pv 3) pa_nil)))
      (pss_cons (ps_for PassesOwn.never rfl (pi_list (pe_call Gm hr2 rfl mm km bm .nil pass0 (pa_cons (pe_ix ix_seq (pv 2) (pv 3) (fun _ _ => rfl)) pa_nil))) (pg_name (i := 5) scLf.nd rfl (Or.inl rfl))
        (pss_one (ps_if (pt_cmpR op_ne (pv 5) (pv 4) (nomark _))
          (pss_cons (ps_set (i := 6) scLf.nd rfl (Or.inl rfl) (pe_call Gy hr rfl my ky by' .nil pass0 (pa_cons (pv 0) (pa_cons (pv 1) (pa_cons (pv 2) (pa_cons (pv 3) (pa_cons (pv 5) pa_nil)))))))
          (pss_one (ps_if (pt_cmpR op_notN (pv 6) pe_non (nomark _)) (pss_one (ps_ret (pv 6))) pss_nil))) pss_nil)))
      (pss_one (ps_ret pe_non))), ?_⟩
    obtain ⟨dx, fs, hx, hf⟩ := hT.i
    have he := List.getElem?_eq_getElem hl
    have heD : ps.getD l (0, 0) = ps[l] := by rw [List.getD_eq_getElem?_getD, he]; rfl
    refine ⟨_, rfl, x, C, dx, fs, _, rfl, hx, W.cl, nl, hf, lx, ldx, _, rfl, hT.l.1, rfl, _, rfl, lx, ldx, lt, (n : Int), tvs, ps, l, ps[l], rfl, hT.l, he, ?_⟩
    have hlS : l < S.length := by rw [hP.sl]; exact hl
    refine ⟨_, rfl, _, rfl, hP.s.ix (atS hlS) ⟨S.getD l 0, rfl, hP.lt _ (by rw [List.getD_eq_getElem?_getD, List.getElem?_eq_getElem hlS]; exact List.getElem_mem hlS), fun D hD => ⟨D, rfl, ⟨_, SqL.of upd_same⟩, ?_⟩⟩⟩
    unfold laneF at q
    show _
    have e1 : memV (S.getD l 0) = nV (Yd.memN (S.getD l 0) (Builtin.Int.intBits ((S.getD l 0 : Nat) : Int))) := rfl
    rw [e1]
    generalize Yd.memN (S.getD l 0) (Builtin.Int.intBits ((S.getD l 0 : Nat) : Int)) = us at q ⊢
    have s1 := (Same.refl H).new (o := .lst (nV us)) hD
    have gD : (upd H D (.lst (nV us))) D = some (.lst (nV us)) := upd_same
    generalize upd H D (.lst (nV us)) = H1 at s1 gD ⊢
    rw [heD] at q
    refine for_list (K := K) (a := D) (xs := nV us) (fun i σ H2 => ∃ a5 a6 : Option V, Same H1 H2 ∧ (us.take i).findSome? (fun g : Nat => if (g : Int) = (ps[l]).2 then none else pairF wy ps nums S l g) = none ∧ σ = [some (.ref x), some (.ref na), some (.ref sa), some (.int l), some (.int (ps[l]).2), a5, a6])
      ⟨none, none, Same.refl _, rfl, rfl⟩ (fun i σ H2 _ ⟨_, _, s2, _⟩ => SqL.of (s2 _ _ gD)) ?_ ?_
    · rintro i v σ H2 hv ⟨a5, a6, s2, h0, rfl⟩
      have hi : i < us.length := by have := (List.getElem?_eq_some_iff.mp hv).1; rw [nV_len] at this; exact this
      have hk0 := List.getElem?_eq_getElem hi
      have hv' := nV_get hk0
      rw [hv'] at hv
      have hv := Option.some.inj hv
      subst hv
      generalize us[i] = z at hk0
      refine ⟨_, rfl, _, rfl, rfl, _, rfl, ?_⟩
      rw [int_eq']
      by_cases hz : (z : Int) = (ps[l]).2
      · rw [decide_eq_true hz]
        exact iteF ⟨_, _, s2, fs_next hk0 h0 (by rw [if_pos hz]), rfl⟩
      rw [decide_eq_false hz]
      refine iteT ⟨_, rfl, _, rfl, _, rfl, _, rfl, _, rfl, x, lx, ldx, lt, na, sa, n, tvs, ps, wy, nums, S, l, z, rfl, hT.same W (s1.trans s2), hP.same (s1.trans s2), hl, fun fv H3 s3 hfv => ?_⟩
      refine ⟨_, rfl, rfl, _, rfl, ?_⟩
      rw [hfv.non]
      cases hw : pairF wy ps nums S l z with
      | none => exact iteF ⟨_, _, s2.trans s3, fs_next hk0 h0 (by rw [if_neg hz]; exact hw), rfl⟩
      | some ds =>
        rw [hw] at hfv
        exact iteT ⟨_, rfl, q _ _ ((s1.trans s2).trans s3) (by rw [fs_at hk0 h0 (by rw [if_neg hz]; exact hw)]; exact hfv)⟩
    · rintro σ H2 ⟨a5, a6, s2, h0, rfl⟩
      rw [nV_len, List.take_length] at h0
      exact q _ _ (s1.trans s2) (by rw [h0]; rfl)
theorem scSf : FnScope ["table", "sets", "place", "goal", "lane"] ["table", "sets"] (defScope sStF) := ⟨rfl, rfl, rfl, by decide +kernel, rfl, by decide +kernel, by decide +kernel⟩
theorem ok_stF {c : Cs} {J : TIn} {C f fw fs' fx : Addr} {fd dw ds dx0 : FuncData} (F : Fun K "start_fault" "start_fault" sStF f fd) (W : Way K C fw dw J) (Gw : FnOk P w K mg base CX0 3 fw dw ["self", "place", "goal", "came"] (spWays J)) (X : HasM P w K mg base fx dx0)
    (ms : mg "starts" = some (.ref fs')) (ks : PySem.W.keepIn K (.ref fs') = true) (bs : Binds K ds ["table"] []) (Gs : FnOk P w K mg base CX0 4 fs' ds ["table"] (spStarts c C J)) : FnOk P w K mg base CX0 5 f fd ["table", "sets"] (spStF K c C J) := by
  refine F.ok scSf (fun vs H Q E h => ?_) (fun cdv A outer s H vs Q E hr h => ?_)
  · obtain ⟨x, lx, ldx, lt, sa, n, tvs, ps, wy, S, rfl, _⟩ := h
    rfl
  · obtain ⟨x, lx, ldx, lt, sa, n, tvs, ps, wy, S, rfl, hT, hS, hsl, q⟩ := h
    have hr1 : Room 1 _ := hr.mono (by decide)
    have hr3 : Room 3 _ := hr.mono (by decide)
    refine ⟨_, pss_cons (ps_for PassesOwn.never rfl (pi_list (pe_call Gs hr rfl ms ks bs .nil pass0 (pa_cons (pv 0) pa_nil))) (pg_tup rfl (pgs_cons (pg_name (i := 2) scSf.nd rfl (Or.inl rfl)) (pgs_cons (pg_name (i := 3) scSf.nd rfl (Or.inl rfl)) pgs_nil)))
        (pss_one (ps_for PassesOwn.never rfl (pi_list (pe_meth (pv 0) W.cl W.m Gw hr3 W.b .nil pass0 (pa_cons (pv 2) (pa_cons (pv 3) (pa_cons pe_non pa_nil))))) (pg_name (i := 4) scSf.nd rfl (Or.inl rfl))
          (pss_one (ps_if (pt_not (pt_val (pe_call X.G hr1 rfl X.m X.k X.b .nil pass0 (pa_cons (pe_ix ix_seq (pv 1) (pv 4) (fun _ _ => rfl)) (pa_cons (pv 3) pa_nil))))) (pss_one (ps_ret (pe_tup (pa_cons pe_str (pa_cons (pv 2) (pa_cons (pv 3) (pa_cons (pv 4) pa_nil))))))) pss_nil)))))
      (pss_one (ps_ret pe_non)), ?_⟩
    obtain ⟨dx, fs, hx, hf⟩ := hT.i
    obtain ⟨dx', fs2, hx', hw'⟩ := W.inst _ _ _ hT.j
    rw [hx] at hx'
    injection hx' with hx'
    injection hx' with _ e1 e2
    subst e1 e2
    refine ⟨_, rfl, x, dx, lx, ldx, lt, fs, n, tvs, ps, wy, rfl, hT.j, hx, hf, hT.l, hT.n12, fun D us H1 s1 hD gD hU => ⟨D, rfl, ⟨_, SqL.of gD⟩, ?_⟩⟩
    have hul : us.length = (startsOf wy n n).length := Paired.length hU
    unfold startF at q
    have hmem : ∀ z ∈ startsOf wy n n, ∃ p g : Nat, z = ((p : Int), (g : Int)) ∧ p < n ∧ g < n := fun z hz => mem_starts2 hz
    generalize startsOf wy n n = zs at q hU hul hmem
    refine for_list (K := K) (a := D) (xs := us) (fun i σ H2 => ∃ a2 a3 a4 : Option V, Same H1 H2 ∧ (zs.take i).findSome? (stF wy S) = none ∧ σ = [some (.ref x), some (.ref sa), a2, a3, a4])
      ⟨none, none, none, Same.refl _, rfl, rfl⟩ (fun i σ H2 _ ⟨_, _, _, s2, _⟩ => SqL.of (s2 _ _ gD)) ?_ ?_
    · rintro i v σ H2 hv ⟨a2, a3, a4, s2, h0, rfl⟩
      obtain ⟨z, hz, t, rfl, gt⟩ := Lns.get hU hv
      obtain ⟨p, g, rfl, hp, hg⟩ := hmem z (List.mem_of_getElem? hz)
      refine ⟨t, _, rfl, SqT.of (s2 _ _ gt), rfl, _, _, rfl, _, _, rfl, rfl, ?_⟩
      have s12 := s1.trans s2
      refine ⟨_, rfl, x, dx, fs, rfl, s12 _ _ hx, hw', _, rfl, _, rfl, x, wy, ⟨(p : Int), (g : Int), none, []⟩, rfl, W.stay _ _ _ _ hT.j s12, fun H3 D3 s3 hD3 => ⟨D3, rfl, ⟨_, SqL.of upd_same⟩, ?_⟩⟩
      have hk : keyOf ⟨(p : Int), (g : Int), none, []⟩ = [some (p : Int), some (g : Int), none] := rfl
      rw [hk, memV_wl]
      have hlt := hT.ok [some (p : Int), some (g : Int), none]
      have est : stF wy S ((p : Int), (g : Int)) = (wl wy [some (p : Int), some (g : Int), none]).findSome? fun l => if bitN S l g then none else some [.str "start", .int (p : Int), .int (g : Int), .int l] := rfl
      generalize wl wy [some (p : Int), some (g : Int), none] = ws at hlt est ⊢
      have s4 := s3.new (o := .lst (nV ws)) hD3
      have g4 : (upd H3 D3 (.lst (nV ws))) D3 = some (.lst (nV ws)) := upd_same
      generalize upd H3 D3 (.lst (nV ws)) = H4 at s4 g4 ⊢
      refine for_list (K := K) (a := D3) (xs := nV ws) (fun j σ H5 => ∃ a4 : Option V, Same H4 H5 ∧ (ws.take j).findSome? (fun l => if bitN S l g then none else some [PyData.str "start", .int (p : Int), .int (g : Int), .int l]) = none ∧ σ = [some (.ref x), some (.ref sa), some (.int p), some (.int g), a4])
        ⟨_, Same.refl _, rfl, rfl⟩ (fun j σ H5 _ ⟨_, s5, _⟩ => SqL.of (s5 _ _ g4)) ?_ ?_
      · rintro j v σ H5 hv5 ⟨a4, s5, h5, rfl⟩
        have hj : j < ws.length := by have := (List.getElem?_eq_some_iff.mp hv5).1; rw [nV_len] at this; exact this
        have hk0 := List.getElem?_eq_getElem hj
        have hv' := nV_get hk0
        rw [hv'] at hv5
        have hv5 := Option.some.inj hv5
        subst hv5
        have hzl := hlt _ (List.getElem_mem hj)
        generalize ws[j] = l at hk0 hzl
        have s05 := s12.trans (s4.trans s5)
        refine ⟨_, rfl, _, rfl, (hS.same s05).ix (atS (by rw [hsl]; exact hzl)) ⟨_, rfl, S.getD l 0, g, rfl, _, rfl, ?_⟩⟩
        cases hb : (S.getD l 0).testBit g with
        | true => exact iteF ⟨_, s5, fs_next hk0 h5 (by unfold bitN; rw [hb]; rfl), rfl⟩
        | false =>
          refine iteT ⟨_, rfl, _, rfl, _, rfl, by show 4 ≤ sizeLine; decide, fun t' ht' => ?_⟩
          refine q _ _ (s05.new ht') ?_
          rw [fs_at hz h0 (est.trans (fs_at hk0 h5 (by unfold bitN; rw [hb]; rfl)))]
          exact ⟨t', _, rfl, upd_same, .cons (.str _) (.cons (.int _) (.cons (.int _) (.cons (.int _) .nil)))⟩
      · rintro σ H5 ⟨a4, s5, h5, rfl⟩
        rw [nV_len, List.take_length] at h5
        exact ⟨_, _, _, s2.trans (s4.trans s5), fs_next hz h0 (est.trans h5), rfl⟩
    · rintro σ H2 ⟨a2, a3, a4, s2, h0, rfl⟩
      rw [hul, List.take_length] at h0
      exact q _ _ (s1.trans s2) (by rw [h0]; rfl)
end
end K73
namespace K73
open PySem L2
theorem size_nat {L n : Nat} {nums ss : List Int} (h : sizeB L n nums ss = true) : nums.length = L ∧ ss.length = L ∧ ∀ s ∈ ss, 0 ≤ s ∧ s ≤ 1 * 2 ^ (n : Int).toNat - 1 := by
  unfold sizeB at h
  simp only [Bool.and_eq_true, decide_eq_true_eq, List.all_eq_true] at h
  exact h
theorem sets_nV {ss : List Int} (h : ∀ s ∈ ss, 0 ≤ s) : ss.map V.int = nV (ss.map Int.toNat) := by
  unfold nV
  rw [List.map_map]
  refine List.map_congr_left fun s hs => ?_
  show V.int s = V.int ((s.toNat : Nat) : Int)
  rw [Int.toNat_of_nonneg (h s hs)]
theorem sets_lt {n : Nat} (hn : n ≤ 12) {ss : List Int} (h : ∀ s ∈ ss, 0 ≤ s ∧ s ≤ 1 * 2 ^ (n : Int).toNat - 1) : ∀ z ∈ ss.map Int.toNat, z < 2 ^ n := by
  intro z hz
  obtain ⟨s, hs, rfl⟩ := List.mem_map.mp hz
  obtain ⟨h1, h2⟩ := h s hs
  rw [Int.toNat_natCast, Int.one_mul, show (2 : Int) ^ n = ((2 ^ n : Nat) : Int) by rw [Int.natCast_pow]; rfl] at h2
  have := Nat.two_pow_pos n
  omega
abbrev NFa : List Str := ["table", "paper", "numbers", "sets", "found", "lane"]
section
variable {P : Program} {w : World} {K : PySem.W.Frag} {mg : Str → Option Value} {base : Heap}
theorem scFa : FnScope NFa ["table", "paper"] (defScope sFault) := ⟨rfl, rfl, rfl, by decide +kernel, rfl, by decide +kernel, by decide +kernel⟩
theorem ok_fault {c : Cs} {J : TIn} {C f fw fz fs' fy : Addr} {fd dw dz ds dy : FuncData} (F : Fun K "fault" "fault" sFault f fd) (T : Txt mg) (W : Way K C fw dw J) (nl : NoAttr K C "land")
    (mz : mg "has_size" = some (.ref fz)) (kz : PySem.W.keepIn K (.ref fz) = true) (bz : Binds K dz ["land", "numbers", "sets"] []) (Gz : FnOk P w K mg base CX0 3 fz dz ["land", "numbers", "sets"] (spSize K c))
    (ms : mg "start_fault" = some (.ref fs')) (ks : PySem.W.keepIn K (.ref fs') = true) (bs : Binds K ds ["table", "sets"] []) (Gs : FnOk P w K mg base CX0 5 fs' ds ["table", "sets"] (spStF K c C J))
    (my : mg "lane_fault" = some (.ref fy)) (ky : PySem.W.keepIn K (.ref fy) = true) (by' : Binds K dy ["table", "numbers", "sets", "lane"] []) (Gy : FnOk P w K mg base CX0 6 fy dy ["table", "numbers", "sets", "lane"] (spLaneF K c C J)) : FnOk P w K mg base CX0 7 f fd ["table", "paper"] (spFault K c C J) := by
  refine F.ok scFa (fun vs H Q E h => ?_) (fun cdv A outer s H vs Q E hr h => ?_)
  · obtain ⟨x, lx, ldx, lt, pa, na, sa, n, tvs, ps, wy, nums, ss, rfl, _⟩ := h
    rfl
  · obtain ⟨x, lx, ldx, lt, pa, na, sa, n, tvs, ps, wy, nums, ss, rfl, hT, gp, hN, hS, hsl, q⟩ := h
    have hr3 : Room 3 _ := hr.mono (by decide)
    have hr5 : Room 5 _ := hr.mono (by decide)
    refine ⟨_, pss_cons (ps_set (i := 2) scFa.nd rfl (Or.inl rfl) (pe_ix ix_tup (pv 1) pe_int (fun _ _ => rfl)))
      (pss_cons (ps_set (i := 3) scFa.nd rfl (Or.inl rfl) (pe_ix ix_tup (pv 1) pe_int (fun _ _ => rfl)))
      (pss_cons (ps_if (pt_not (pt_val (pe_call Gz hr3 rfl mz kz bz .nil pass0 (pa_cons (pe_fld (pv 0) rfl) (pa_cons (pv 2) (pa_cons (pv 3) pa_nil)))))) (pss_one (ps_ret (pe_tup (pa_cons pe_str pa_nil)))) pss_nil)
      (pss_cons (ps_set (i := 4) scFa.nd rfl (Or.inl rfl) (pe_call Gs hr5 rfl ms ks bs .nil pass0 (pa_cons (pv 0) (pa_cons (pv 3) pa_nil))))
      (pss_cons (ps_set (i := 5) scFa.nd rfl (Or.inl rfl) pe_int)
      (pss_cons (ps_while PassesOwn.never (PW.pt (pw_and (pt_cmpR op_isN (pv 4) pe_non (nomark _)) (pw_and1 (pt_cmpR op_lt (pv 5) (pe_callB call_len_seq rfl T.len PySem.boot_len (pa_cons (pv 3) pa_nil)) (nomark _)))))
        (pss_cons (ps_set (i := 4) scFa.nd rfl (Or.inl rfl) (pe_call Gy hr rfl my ky by' .nil pass0 (pa_cons (pv 0) (pa_cons (pv 2) (pa_cons (pv 3) (pa_cons (pv 5) pa_nil))))))
        (pss_one (ps_aug (i := 5) scFa.nd rfl (Or.inl rfl) pe_int ip_add))))
      (pss_one (ps_ret (pv 4)))))))), ?_⟩
    obtain ⟨dx, fs, hx, hf⟩ := hT.i
    have hP : SqT K H pa [.ref na, .ref sa] := SqT.of gp
    refine ⟨_, rfl, pa, _, 0, _, rfl, rfl, hP, atI_nat (j := 0) rfl, ?_⟩
    refine ⟨_, rfl, pa, _, 1, _, rfl, rfl, hP, atI_nat (j := 1) rfl, ?_⟩
    refine ⟨_, rfl, x, C, dx, fs, _, rfl, hx, W.cl, nl, hf, _, rfl, _, rfl, lx, ldx, lt, na, sa, n, tvs, ps, nums, ss, rfl, hT.l, hT.n12, hN, hS, hsl, fun H1 s1 => ⟨_, rfl, ?_⟩⟩
    unfold faultF at q
    cases hz : sizeB ps.length n nums ss with
    | false =>
      refine iteT ⟨by show 1 ≤ sizeLine; decide, fun t ht => ?_⟩
      refine q _ _ (s1.new ht) ?_
      rw [hz]
      exact ⟨t, _, rfl, upd_same, .cons (.str _) .nil⟩
    | true =>
      rw [hz, if_pos rfl] at q
      refine iteF ?_
      obtain ⟨z1, z2, z3⟩ := size_nat hz
      have eS := sets_nV fun s hs => (z3 s hs).1
      have hlt := sets_lt hT.n12 z3
      have hSl : (ss.map Int.toNat).length = ps.length := by rw [List.length_map]; exact z2
      rw [eS] at hS
      generalize ss.map Int.toNat = S at q hS hlt hSl eS
      have h400 : ∀ z ∈ S, z < 2 ^ 400 := fun z hz' => Nat.lt_of_lt_of_le (hlt z hz') (Nat.pow_le_pow_right (by decide) (by have := hT.n12; omega))
      refine ⟨_, rfl, _, rfl, x, lx, ldx, lt, sa, n, tvs, ps, wy, S, rfl, hT.same W s1, hS.same s1, hSl, fun fv H2 s2 hfv => ?_⟩
      have s12 := s1.trans s2
      have h40 := hT.few
      refine ⟨fun m σ H' => ∃ (v : V) (i : Nat), m = ps.length - i ∧ i ≤ ps.length ∧ Same H H' ∧ FV K H' v ((startF wy n S).or (lanesF wy ps nums S i)) ∧ σ = [some (.ref x), some (.ref pa), some (.ref na), some (.ref sa), some v, some (.int (i : Int))], ?_, ?_⟩
      · refine ⟨ps.length, fv, 0, rfl, Nat.zero_le _, s12, ?_, rfl⟩
        rw [show lanesF wy ps nums S 0 = none from rfl, Option.or_none]
        exact hfv
      rintro m σ H' ⟨v, i, rfl, hi, s', hv, rfl⟩
      refine ⟨_, rfl, rfl, _, rfl, ?_⟩
      rw [hv.non]
      cases ho : (startF wy n S).or (lanesF wy ps nums S i) with
      | some ds =>
        rw [ho] at hv
        refine iteF (iteF ?_)
        refine ⟨_, rfl, q _ _ s' ?_⟩
        have hmono : (startF wy n S).or (lanesF wy ps nums S ps.length) = some ds := by
          cases hs : startF wy n S with
          | some d' => rw [hs] at ho; exact ho
          | none =>
            rw [hs, Option.none_or] at ho
            rw [Option.none_or]
            unfold lanesF at ho ⊢
            have e : List.range ps.length = List.range i ++ (List.range ps.length).drop i := by
              have := (List.take_append_drop i (List.range ps.length)).symm
              rw [List.take_range, Nat.min_eq_left hi] at this
              exact this
            rw [e, List.findSome?_append, ho]; rfl
        rw [hmono]
        exact hv
      | none =>
        refine iteT ⟨_, rfl, _, rfl, sa, _, rfl, hS.same s', _, _, rfl, rfl, _, rfl, ?_⟩
        rw [nV_len, hSl]
        by_cases hlt2 : i < ps.length
        rotate_left
        · rw [decide_eq_false (show ¬ (i : Int) < (ps.length : Nat) by omega)]
          have : i = ps.length := by omega
          subst this
          refine iteF ⟨_, rfl, q _ _ s' ?_⟩
          rw [ho]
          rw [ho] at hv
          exact hv
        rw [decide_eq_true (show (i : Int) < (ps.length : Nat) by omega)]
        refine iteT ⟨fun σ' H3 => ∃ (v : V), Same H H3 ∧ FV K H3 v ((startF wy n S).or (lanesF wy ps nums S (i + 1))) ∧ σ' = [some (.ref x), some (.ref pa), some (.ref na), some (.ref sa), some v, some (.int ((i : Int) + 1))], ?_, ?_⟩
        · rintro σ' H3 ⟨v', s3, hv3, rfl⟩
          exact ⟨ps.length - (i + 1), by omega, v', i + 1, rfl, hlt2, s3, hv3, rfl⟩
        refine ⟨_, rfl, _, rfl, _, rfl, _, rfl, x, lx, ldx, lt, na, sa, n, tvs, ps, wy, nums, S, i, rfl, hT.same W s', ⟨hN.same s', hS.same s', z1, hSl, h400⟩, hlt2, fun lv H3 s3 hlv => ?_⟩
        refine ⟨_, rfl, _, _, rfl, rfl, lv, s'.trans s3, ?_, rfl⟩
        have hs : startF wy n S = none := by
          cases e : startF wy n S with
          | none => rfl
          | some d' => rw [e] at ho; cases ho
        rw [hs, Option.none_or] at ho ⊢
        unfold lanesF at ho ⊢
        rw [List.range_succ, List.findSome?_append, ho, Option.none_or]
        simpa using hlv
end
end K73
namespace K73
open PySem L2
/-! the lanes picked by the bits of a draw -/
def pkB (d : Int) (j : Nat) : Bool := decide (V.int (Builtin.bitAnd (d / 4 / 2 ^ ((0 : Int) + (j : Int)).toNat) 1) = V.int 1)
def pkN (d : Int) (ks : List Nat) : List Nat := ((List.range ks.length).filter (pkB d)).map fun j => ks.getD j 0
theorem pk_mem {d : Int} {ks : List Nat} {k : Nat} (h : k ∈ pkN d ks) : k ∈ ks := by
  obtain ⟨j, hj, rfl⟩ := List.mem_map.mp h
  have hj := List.mem_range.mp (List.mem_filter.mp hj).1
  rw [List.getD_eq_getElem?_getD, List.getElem?_eq_getElem hj]
  exact List.getElem_mem hj
theorem pk_len (d : Int) (ks : List Nat) : (pkN d ks).length ≤ ks.length := by
  unfold pkN
  rw [List.length_map]
  exact Nat.le_trans (List.length_filter_le _ _) (by rw [List.length_range]; exact Nat.le_refl _)
theorem natV_len (us : List Nat) : (natV us).length = us.length := by unfold natV; rw [List.length_map]
theorem pk_V (d : Int) (ks : List Nat) : (((List.range (natV ks).length).filter (pkB d)).map fun j : Nat => V.int ((ks.getD j 0 : Nat) : Int)) = natV (pkN d ks) := by
  rw [natV_len]; unfold natV pkN; rw [List.map_map]; rfl
theorem at_pk {ks : List Nat} {j : Nat} (hj : j < ks.length) : atI (natV ks) (0 + (j : Int)) = some (.int ((ks.getD j 0 : Nat) : Int)) := by
  rw [Int.zero_add]
  exact atI_nat (by unfold natV; simp [hj])
def spNums (K : PySem.W.Frag) : Sp := fun vs H Q _ => ∃ (a l : Addr) (ns : List Int) (lvs : List V), vs = [.ref a, .ref l] ∧ SqL K H a (ns.map V.int) ∧ H l = some (.lst lvs) ∧ lvs.length ≤ 40 ∧
  ∀ (D : Addr) (nums : List Int) (H' : Hp), Same H H' → H D = none → H' D = some (.lst (nums.map V.int)) → nums.length = lvs.length → Q (.ref D) H'
abbrev NNm : List Str := ["_law_script", "_law_lanes", "_law_found", "_law_k", "_law_number"]
def spFewer : Sp := fun vs H Q _ => ∃ (l : Addr) (ks : List Nat) (d : Int), vs = [.ref l, .int d] ∧ H l = some (.lst (natV ks)) ∧ ks.length ≤ 1000 ∧
  ∀ (U : Addr) (us : List Nat) (H' : Hp), Same H H' → H' U = some (.lst (natV us)) → (∀ z ∈ us, z ∈ ks) → (ks ≠ [] → us ≠ []) → us.length ≤ ks.length → (U = l ∨ H U = none) → Q (.ref U) H'
abbrev NFw : List Str := ["_law_ways", "_law_draw_here", "_law_some"]
section
variable {P : Program} {w : World} {K : PySem.W.Frag} {mg : Str → Option Value} {base : Heap}
theorem scNm : FnScope NNm ["_law_script", "_law_lanes"] (defScope sNums) := ⟨rfl, rfl, rfl, by decide +kernel, rfl, by decide +kernel, by decide +kernel⟩
theorem ok_nums {f fd : Addr} {df dd : FuncData} (F : Fun K "_law_numbers" "_law_numbers" sNums f df) (T : Txt mg) (md : mg "_law_draw" = some (.ref fd)) (kd : PySem.W.keepIn K (.ref fd) = true) (bd : Binds K dd ["_law_script", "_law_k"] [])
    (Gd : FnOk P w K mg base CX0 1 fd dd ["_law_script", "_law_k"] (spDraw K)) : FnOk P w K mg base CX0 2 f df ["_law_script", "_law_lanes"] (spNums K) := by
  refine F.ok scNm (fun vs H Q E h => ?_) (fun cdv A outer s H vs Q E hr h => ?_)
  · obtain ⟨a, l, ns, lvs, rfl, _⟩ := h
    rfl
  · obtain ⟨a, l, ns, lvs, rfl, hS, gl, hll, q⟩ := h
    have hu := hr.units
    refine ⟨_, pss_cons (ps_set (i := 2) scNm.nd rfl (Or.inl rfl) (pe_lst pa_nil))
      (pss_cons (ps_for PassesOwn.never rfl (pi_range1 rfl T.range (pa_cons (pe_callB call_len_seq rfl T.len PySem.boot_len (pa_cons (pv 1) pa_nil)) pa_nil)) (pg_name (i := 3) scNm.nd rfl (Or.inl rfl))
        (pss_cons (ps_set (i := 4) scNm.nd rfl (Or.inl rfl) (pe_op op_sub (pe_op op_mod (pe_call Gd hr rfl md kd bd .nil pass0 (pa_cons (pv 0) (pa_cons (pe_op op_add pe_int (pv 3)) pa_nil))) pe_int) pe_int))
        (pss_cons (ps_if (PW.pt (pw_and (pt_cmpR op_eq (pe_op op_mod (pe_call Gd hr rfl md kd bd .nil pass0 (pa_cons (pv 0) (pa_cons pe_int pa_nil))) pe_int) pe_int (nomark _)) (pw_and1 (pt_cmpR (op_neI hu) (pv 0) (pe_lst pa_nil) (nomark _)))))
          (pss_one (ps_set (i := 4) scNm.nd rfl (Or.inl rfl) (pe_op op_sub (pe_op op_mod (pe_op op_mul (pe_ix ix_list (pv 0) (pe_op op_mod (pv 3) (pe_callB call_len_seq rfl T.len PySem.boot_len (pa_cons (pv 0) pa_nil))) (fun _ _ => rfl)) (pe_op op_add (pv 3) pe_int)) (pe_op op_mul pe_int (pe_op op_pow pe_int pe_int))) (pe_op op_pow pe_int pe_int)))) pss_nil)
        (pss_one (ps_expr (pe_bm PySem.F.plainAttrs_list PySem.F.slot_list_append PySem.F.type_list_append mt_append (pv 2) (pa_cons (pv 4) pa_nil)))))))
      (pss_one (ps_ret (pv 2)))), ?_⟩
    refine ⟨Nat.zero_le _, fun D hD => ?_⟩
    have s0 := (Same.refl H).new (o := .lst []) hD
    refine ⟨_, rfl, l, _, rfl, .inl (SqL.of (s0 _ _ gl)), (lvs.length : Int), rfl, by omega, by omega, ?_⟩
    rw [Int.toNat_natCast]
    refine for_range (n := lvs.length) (fun i σ H2 => ∃ (a3 a4 : Option V) (nums : List Int), Same H H2 ∧ H2 D = some (.lst (nums.map V.int)) ∧ nums.length = i ∧ σ = [some (.ref a), some (.ref l), some (.ref D), a3, a4])
      ⟨none, none, [], s0, upd_same, rfl, rfl⟩ ?_ ?_
    rotate_left
    · rintro σ H2 ⟨a3, a4, nums, s2, gD, hl, rfl⟩
      exact ⟨_, rfl, q D nums H2 s2 hD gD hl⟩
    rintro i σ H2 hi ⟨a3, a4, nums, s2, gD, hl, rfl⟩
    rw [Int.zero_add]
    refine ⟨_, rfl, _, rfl, _, _, rfl, rfl, a, ns, _, rfl, s2.seq hS, by omega, by omega, fun d H3 s3 => ⟨_, _, rfl, rfl, (by show (0 : Int) < 12; decide), _, _, rfl, rfl, ?_⟩⟩
    have s23 := s2.trans s3
    refine ⟨_, rfl, a, ns, 2, rfl, s23.seq hS, by decide, by decide, fun d2 H4 s4 => ⟨_, _, rfl, rfl, (by show (0 : Int) < 2; decide), rfl, _, rfl, ?_⟩⟩
    have s24 := s23.trans s4
    have fin : ∀ (z : Int) (H5 : Hp), Same H4 H5 → (tSeq : True) → ∃ (a3 a4 : Option V) (nums' : List Int), Same H (upd H5 D (.lst ((nums.map V.int) ++ [.int z]))) ∧ (upd H5 D (.lst ((nums.map V.int) ++ [.int z]))) D = some (.lst (nums'.map V.int)) ∧ nums'.length = i + 1 ∧ ([some (.ref a), some (.ref l), some (.ref D), some (.int (i : Int)), some (.int z)] : St) = [some (.ref a), some (.ref l), some (.ref D), a3, a4] := fun z H5 s5 _ =>
      ⟨_, _, nums ++ [z], fun b o e => by rw [upd_ne (ne_of_none e hD)]; exact s5 _ _ (s24 _ _ e), by rw [upd_same, List.map_append]; rfl, by rw [List.length_append, hl]; rfl, rfl⟩
    have gD4 := s4 _ _ (s3 _ _ gD)
    have hsz : (nums.map V.int).length < sizeLine := by rw [List.length_map, PySem.sizeLine_eq]; omega
    refine ite2 (fun _ => ?_) fun _ => ?_
    rotate_left
    · refine iteF ⟨_, rfl, .inl ⟨rfl, _, SqL.of gD4⟩, _, rfl, D, _, _, rfl, rfl, gD4, hsz, fin _ H4 (Same.refl _) trivial⟩
    refine ⟨_, rfl, Nat.zero_le _, fun e he => ?_⟩
    have s5 := (Same.refl H4).new (o := .lst []) he
    refine ⟨a, e, ns, [], rfl, rfl, (s24.trans s5).seq hS, SqL.of upd_same, _, rfl, ?_⟩
    generalize upd H4 e (.lst []) = H5 at s5 ⊢
    have gD5 := s5 _ _ gD4
    by_cases hne : ns = []
    · rw [hne]
      exact iteF ⟨_, rfl, .inl ⟨rfl, _, SqL.of gD5⟩, _, rfl, D, _, _, rfl, rfl, gD5, hsz, fin _ H5 s5 trivial⟩
    rw [decide_eq_false hne]
    have hlen : 0 < ns.length := List.length_pos_iff.mpr hne
    have hl' : 0 < ((ns.map V.int).length : Int) := by rw [List.length_map]; omega
    obtain ⟨m2, hm2⟩ := ints_at (ns := ns) (i := (i : Int) % ((ns.map V.int).length : Nat)) (Int.emod_nonneg _ (by omega)) (by have := Int.emod_lt_of_pos (i : Int) hl'; rw [List.length_map] at this ⊢; exact this)
    have hS5 := (s24.trans s5).seq hS
    refine iteT ⟨_, rfl, _, rfl, _, rfl, a, _, rfl, .inl hS5, _, _, rfl, rfl, hl', a, _, _, _, rfl, rfl, hS5, hm2, _, rfl, _, _, rfl, rfl, _, _, rfl, rfl, .inr ⟨by omega, by omega⟩, _, _, rfl, rfl, ⟨by decide, by decide, by decide⟩, _, _, rfl, rfl, .inl ⟨by decide, by decide⟩, _, _, rfl, rfl, (by show (0 : Int) < 2 * 10 ^ (40 : Int).toNat; decide), _, _, rfl, rfl, ⟨by decide, by decide, by decide⟩, _, _, rfl, rfl, ?_⟩
    exact ⟨_, rfl, .inl ⟨rfl, _, SqL.of gD5⟩, _, rfl, D, _, _, rfl, rfl, gD5, hsz, fin _ H5 s5 trivial⟩
theorem scFw : FnScope NFw ["_law_ways", "_law_draw_here"] (defScope sFewer) := ⟨rfl, rfl, rfl, by decide +kernel, rfl, by decide +kernel, by decide +kernel⟩
theorem bkFw : Blk NFw (defScope sFewer) (asgL ((defBody sFewer).getD 0 (.Pass ⟨0, 0, 0, 0⟩))) ["_law_ways", "_law_draw_here"] [0, 1] := ⟨rfl, by decide +kernel, by decide +kernel, by decide +kernel, rfl, by decide +kernel⟩
theorem ndFw : (["_law_j", "_law_ways", "_law_draw_here"] : List Str).Nodup := by decide +kernel
theorem ok_fewer {f : Addr} {fd : FuncData} (F : Fun K "_law_fewer" "_law_fewer" sFewer f fd) (T : Txt mg) : FnOk P w K mg base CX0 1 f fd ["_law_ways", "_law_draw_here"] spFewer := by
  refine F.ok scFw (fun vs H Q E h => ?_) (fun cdv A outer s H vs Q E hr h => ?_)
  · obtain ⟨l, ks, d, rfl, _⟩ := h
    rfl
  · obtain ⟨l, ks, d, rfl, gl, hlen, q⟩ := h
    have hu := hr.units
    refine ⟨_, pss_cons (ps_setComp (i := 2) (own := ["_law_j"]) (capN := ["_law_ways", "_law_draw_here"]) (cap := [0, 1]) bkFw rfl scFw.nd rfl rfl (pi_range1 rfl T.range (pa_cons (pe_callB call_len_seq rfl T.len PySem.boot_len (pa_cons (pv 0) pa_nil)) pa_nil))
        (fun C s' H' fp => ⟨pg_name (i := 0) ndFw rfl (Or.inl rfl), pts_one (pt_cmpR op_eq (pe_op op_and (pe_op op_shr (pe_op op_fdiv (pv 2) pe_int) (pv 0)) pe_int) pe_int (nomark _)), pe_ix (show IxR _ (rIxL K) from ix_list) (pv 1) (pv 0) (fun _ _ => rfl)⟩))
      (pss_cons (ps_if (PW.pt (pw_or (pt_cmpR op_gt (pe_op op_mod (pv 1) pe_int) pe_int (nomark _)) (pw_or1 (pt_cmpR (op_eqI hu) (pv 2) (pe_lst pa_nil) (nomark _))))) (pss_one (ps_ret (pv 0))) pss_nil)
      (pss_one (ps_ret (pv 2)))), ?_⟩
    have hlen' := natV_len ks
    refine ⟨_, rfl, l, _, rfl, .inl (SqL.of gl), ((natV ks).length : Int), rfl, by omega, by omega, ?_⟩
    rw [Int.toNat_natCast]
    refine comp_rng (pkB d) (fun j : Nat => V.int ((ks.getD j 0 : Nat) : Int)) (by rw [PySem.sizeLine_eq]; omega) (fun j acc N hj h => ?_) fun D hD => ?_
    · refine ⟨_, rfl, _, _, rfl, rfl, ⟨by decide, by decide⟩, _, rfl, _, _, rfl, rfl, (by show (0 : Int) ≤ 0 + (j : Int); omega), _, _, rfl, rfl, rfl, _, rfl, ?_⟩
      show if pkB d j = true then _ else _
      cases hd : pkB d j with
      | true => rw [hd] at h; exact iteT ⟨_, rfl, _, rfl, l, _, _, _, rfl, rfl, SqL.of gl, at_pk (by omega), h⟩
      | false => rw [hd] at h; exact iteF h
    rw [pk_V]
    have s1 := (Same.refl H).new (o := .lst (natV (pkN d ks))) hD
    have g1 : (upd H D (.lst (natV (pkN d ks)))) D = some (.lst (natV (pkN d ks))) := upd_same
    show gName 2 (V.ref D) _ (upd H D _) _
    generalize upd H D (.lst (natV (pkN d ks))) = H1 at s1 g1 ⊢
    have all : ∀ H', Same H1 H' → Q (.ref l) H' := fun H' s' => q l ks H' (s1.trans s') (s' _ _ (s1 _ _ gl)) (fun z hz => hz) (fun h => h) (Nat.le_refl _) (.inl rfl)
    refine ⟨_, rfl, _, _, rfl, rfl, (by show (0 : Int) < 4; decide), _, _, rfl, rfl, _, rfl, ?_⟩
    refine ite2 (fun _ => iteT ⟨_, rfl, all H1 (Same.refl _)⟩) fun _ => ?_
    refine ⟨_, rfl, Nat.zero_le _, fun e he => ?_⟩
    have s2 := (Same.refl H1).new (o := .lst []) he
    refine ⟨D, e, iz (pkN d ks), [], rfl, rfl, by rw [← natV_iz]; exact SqL.of (s2 _ _ g1), SqL.of upd_same, _, rfl, ?_⟩
    have g2 : (upd H1 e (.lst [])) D = some (.lst (natV (pkN d ks))) := s2 _ _ g1
    generalize upd H1 e (.lst []) = H2 at s2 g2 ⊢
    by_cases hnil : pkN d ks = []
    · rw [hnil]
      exact iteT ⟨_, rfl, all H2 s2⟩
    rw [decide_eq_false (fun z => hnil (by cases hp : pkN d ks with | nil => rfl | cons a b => rw [hp] at z; cases z))]
    exact iteF ⟨_, rfl, q D (pkN d ks) H2 (s1.trans s2) g2 (fun z hz => pk_mem hz) (fun _ => hnil) (pk_len d ks) (.inr hD)⟩
end
end K73
namespace K73
open PySem L2
/-! what greater and greater numbers lead to -/
structure ReaIn (ps : List (Int × Int)) (nums : List Int) (n : Nat) (S : List Nat) : Prop where
  len : S.length = ps.length
  lt : ∀ z ∈ S, z < 2 ^ n
  snd : ∀ g l, bitN S l g = true → finB ps g l = true ∨ ∃ z, z < ps.length ∧ (ps.getD z (0, 0)).1 = (ps.getD l (0, 0)).2 ∧ nums.getD l 0 < nums.getD z 0 ∧ bitN S z g = true
theorem bit_set {S : List Nat} {o x l g : Nat} : bitN (S.set o (S.getD o 0 ||| x)) l g = (bitN S l g || (decide (l = o ∧ l < S.length) && x.testBit g)) := by
  have hg : ∀ k, S.getD k 0 = S[k]?.getD 0 := fun k => List.getD_eq_getElem?_getD
  unfold bitN
  rw [List.getD_eq_getElem?_getD, List.getElem?_set]
  by_cases e : o = l
  · subst e
    rw [if_pos rfl]
    by_cases h : o < S.length
    · rw [if_pos h, decide_eq_true ⟨rfl, h⟩, Option.getD_some, Bool.true_and, Nat.testBit_or]
    · rw [if_neg h, hg, List.getElem?_eq_none (by omega), Option.getD_none, Nat.zero_testBit, decide_eq_false (fun z => h z.2)]
      rfl
  · rw [if_neg e, decide_eq_false (fun z => e z.1.symm), Bool.false_and, Bool.or_false, hg]
theorem ReaIn.put {ps : List (Int × Int)} {nums : List Int} {n : Nat} {S : List Nat} (h : ReaIn ps nums n S) {o z : Nat} (hz : z < ps.length) (h1 : (ps.getD z (0, 0)).1 = (ps.getD o (0, 0)).2) (h2 : nums.getD o 0 < nums.getD z 0) : ReaIn ps nums n (S.set o (S.getD o 0 ||| S.getD z 0)) := by
  have hlt : ∀ k, S.getD k 0 < 2 ^ n := fun k => by
    rw [List.getD_eq_getElem?_getD]
    cases e : S[k]? with
    | none => exact Nat.two_pow_pos n
    | some y => exact h.lt y (List.mem_of_getElem? e)
  refine ⟨by rw [List.length_set]; exact h.len, fun y hy => ?_, fun g l hb => ?_⟩
  · rcases List.mem_or_eq_of_mem_set hy with hy | hy
    · exact h.lt y hy
    · rw [hy]
      exact Nat.or_lt_two_pow (hlt o) (hlt z)
  · have up : ∀ k, bitN S k g = true → bitN (S.set o (S.getD o 0 ||| S.getD z 0)) k g = true := fun k hk => by rw [bit_set, hk]; rfl
    have old : bitN S l g = true → finB ps g l = true ∨ ∃ z', z' < ps.length ∧ (ps.getD z' (0, 0)).1 = (ps.getD l (0, 0)).2 ∧ nums.getD l 0 < nums.getD z' 0 ∧ bitN (S.set o (S.getD o 0 ||| S.getD z 0)) z' g = true := fun hk =>
      (h.snd g l hk).imp id fun ⟨z', a, b, c, d⟩ => ⟨z', a, b, c, up z' d⟩
    rw [bit_set, Bool.or_eq_true, Bool.and_eq_true, decide_eq_true_eq] at hb
    rcases hb with hb | ⟨⟨e, _⟩, hb⟩
    · exact old hb
    · subst e
      exact .inr ⟨z, hz, h1, h2, up z hb⟩
def rea0 (ps : List (Int × Int)) : List Nat := ps.map fun p => 2 ^ p.2.toNat
theorem rea_init {ps : List (Int × Int)} {nums : List Int} {n : Nat} (hE : Ends ps n) : ReaIn ps nums n (rea0 ps) := by
  have hE' : ∀ p ∈ ps, 0 ≤ p.2 ∧ p.2 < n := fun p hp => by
    obtain ⟨l, hl, rfl⟩ := List.getElem_of_mem hp
    obtain ⟨q, h1, h2⟩ := hE l hl
    rw [List.getD_eq_getElem?_getD, List.getElem?_eq_getElem hl, Option.getD_some] at h2
    omega
  refine ⟨by unfold rea0; rw [List.length_map], fun z hz => ?_, fun g l hb => .inl ?_⟩
  · obtain ⟨p, hp, rfl⟩ := List.mem_map.mp hz
    have := hE' p hp
    exact Nat.pow_lt_pow_right (by decide) (by omega)
  · unfold bitN rea0 at hb
    rw [List.getD_eq_getElem?_getD, List.getElem?_map] at hb
    unfold finB
    rw [List.getD_eq_getElem?_getD]
    cases e : ps[l]? with
    | none => rw [e] at hb; rw [show (Option.map (fun p : Int × Int => 2 ^ p.2.toNat) (none : Option (Int × Int))).getD 0 = 0 from rfl, Nat.zero_testBit] at hb; cases hb
    | some p =>
      rw [e, Option.map_some, Option.getD_some, Nat.testBit_two_pow, decide_eq_true_eq] at hb
      have := hE' p (List.mem_of_getElem? e)
      rw [Option.getD_some]
      exact decide_eq_true (by omega)
def spReach (K : PySem.W.Frag) : Sp := fun vs H Q _ => ∃ (l nu : Addr) (lvs : List V) (ps : List (Int × Int)) (nums : List Int) (n : Nat), vs = [.ref l, .ref nu] ∧ H l = some (.lst lvs) ∧ Lns H lvs ps ∧ H nu = some (.lst (nums.map V.int)) ∧ nums.length = ps.length ∧ ps.length ≤ 40 ∧ n ≤ 12 ∧ Ends ps n ∧
  ∀ (D : Addr) (S : List Nat) (H' : Hp), Same H H' → H D = none → H' D = some (.lst (nV S)) → ReaIn ps nums n S → Q (.ref D) H'
abbrev NRe : List Str := ["_law_lanes", "_law_numbers_here", "_law_reach_here", "_law_k", "_law_one", "_law_way"]
section
variable {P : Program} {w : World} {K : PySem.W.Frag} {mg : Str → Option Value} {base : Heap}
theorem scRe : FnScope NRe ["_law_lanes", "_law_numbers_here"] (defScope sReach) := ⟨rfl, rfl, rfl, by decide +kernel, rfl, by decide +kernel, by decide +kernel⟩
theorem bkRe : Blk NRe (defScope sReach) (asgL ((defBody sReach).getD 0 (.Pass ⟨0, 0, 0, 0⟩))) [] [] := ⟨rfl, by decide +kernel, by decide +kernel, by decide +kernel, rfl, by decide +kernel⟩
theorem ndRe : (["_law_lane"] : List Str).Nodup := by decide +kernel
theorem ok_reach {f : Addr} {fd : FuncData} (F : Fun K "_law_reach" "_law_reach" sReach f fd) (T : Txt mg) : FnOk P w K mg base CX0 1 f fd ["_law_lanes", "_law_numbers_here"] (spReach K) := by
  refine F.ok scRe (fun vs H Q E h => ?_) (fun cdv A outer s H vs Q E hr h => ?_)
  · obtain ⟨l, nu, lvs, ps, nums, n, rfl, _⟩ := h
    rfl
  · obtain ⟨l, nu, lvs, ps, nums, n, rfl, gl, hLn, gnu, hnl, hpl, hn, hE, q⟩ := h
    refine ⟨_, pss_cons (ps_setComp (i := 2) (own := ["_law_lane"]) (capN := []) (cap := []) bkRe rfl scRe.nd rfl rfl (pi_list (pv 0))
        (fun C s' H' fp => ⟨pg_name (i := 0) ndRe rfl (Or.inl rfl), pts_nil, pe_op op_shl pe_int (pe_ix (show IxR _ (rIxT K) from ix_tup) (pv 0) pe_int (fun _ _ => rfl))⟩))
      (pss_cons (ps_for PassesOwn.never rfl (pi_range1 rfl T.range (pa_cons (pe_callB call_len_seq rfl T.len PySem.boot_len (pa_cons (pv 0) pa_nil)) pa_nil)) (pg_name (i := 3) scRe.nd rfl (Or.inl rfl))
        (pss_one (ps_for PassesOwn.never rfl (pi_range1 rfl T.range (pa_cons (pe_callB call_len_seq rfl T.len PySem.boot_len (pa_cons (pv 0) pa_nil)) pa_nil)) (pg_name (i := 4) scRe.nd rfl (Or.inl rfl))
          (pss_one (ps_for PassesOwn.never rfl (pi_range1 rfl T.range (pa_cons (pe_callB call_len_seq rfl T.len PySem.boot_len (pa_cons (pv 0) pa_nil)) pa_nil)) (pg_name (i := 5) scRe.nd rfl (Or.inl rfl))
            (pss_one (ps_if (PW.pt (pw_and (pt_cmpR op_eq (pe_ix ix_tup (pe_ix ix_list (pv 0) (pv 5) (fun _ _ => rfl)) pe_int (fun _ _ => rfl)) (pe_ix ix_tup (pe_ix ix_list (pv 0) (pv 4) (fun _ _ => rfl)) pe_int (fun _ _ => rfl)) (nomark _)) (pw_and1 (pt_cmpR op_gt (pe_ix ix_list (pv 1) (pv 5) (fun _ _ => rfl)) (pe_ix ix_list (pv 1) (pv 4) (fun _ _ => rfl)) (nomark _)))))
              (pss_one (ps_asg (pe_op op_or (pe_ix ix_list (pv 2) (pv 4) (fun _ _ => rfl)) (pe_ix ix_list (pv 2) (pv 5) (fun _ _ => rfl))) (pg_sub (pv 2) (pv 4) set_list))) pss_nil)))))))
      (pss_one (ps_ret (pv 2)))), ?_⟩
    have hll : lvs.length = ps.length := Paired.length hLn
    refine ⟨_, rfl, l, rfl, ⟨_, SqL.of gl⟩, ?_⟩
    refine comp_gen lvs.length (by rw [PySem.sizeLine_eq]; omega) (fun i acc H4 => H4 = H ∧ acc = nV (rea0 (ps.take i))) ⟨rfl, rfl⟩ (fun i acc H4 h => by rw [h.2, nV_len]; unfold rea0; rw [List.length_map]; exact List.length_take_le _ _) ?_ ?_
    · rintro i acc H4 hi ⟨rfl, rfl⟩
      refine ⟨⟨lvs, lvs[i], SqL.of gl, List.getElem?_eq_getElem hi⟩, fun v H5 hy => ?_⟩
      obtain ⟨e, hy⟩ := hy
      subst e
      have hv := hy lvs (SqL.of gl)
      obtain ⟨p, hp, t, rfl, gt⟩ := Lns.get hLn hv
      have hpm := List.mem_of_getElem? hp
      have hil : i < ps.length := by omega
      obtain ⟨q', h1, h2⟩ := hE i hil
      rw [List.getD_eq_getElem?_getD, hp, Option.getD_some] at h2
      refine ⟨_, rfl, t, _, 1, _, rfl, rfl, SqT.of gt, atI_nat (j := 1) rfl, _, _, rfl, rfl, ⟨by omega, by omega, by decide⟩, rfl, ?_⟩
      rw [List.take_succ, hp, Option.toList_some]
      unfold rea0
      rw [List.map_append, nV_app, List.map_singleton]
      congr 1
      show [V.int (1 * 2 ^ p.2.toNat)] = nV [2 ^ p.2.toNat]
      unfold nV
      rw [Int.one_mul, List.map_singleton, Int.natCast_pow]
      rfl
    rintro acc H4 ⟨rfl, rfl⟩
    refine ⟨⟨lvs, SqL.of gl, Nat.le_refl _⟩, fun D hD => ?_⟩
    rw [hll, List.take_length]
    have s1 := (Same.refl H4).new (o := .lst (nV (rea0 ps))) hD
    have g1 : (upd H4 D (.lst (nV (rea0 ps)))) D = some (.lst (nV (rea0 ps))) := upd_same
    show gName 2 (V.ref D) _ (upd H4 D (.lst (nV (rea0 ps)))) _
    generalize upd H4 D (.lst (nV (rea0 ps))) = H1 at s1 g1 ⊢
    have lane : ∀ {j : Nat} {H' : Hp}, Same H4 H' → (hj : j < ps.length) → ∃ u, lvs[j]? = some (.ref u) ∧ SqT K H' u [.int (ps[j]).1, .int (ps[j]).2] := fun {j H'} s' hj => by
      obtain ⟨v, hv, u, rfl, hu⟩ := Lns.get2 hLn (List.getElem?_eq_getElem hj)
      exact ⟨u, hv, SqT.of (s' _ _ hu)⟩
    have egd : ∀ {j : Nat} (hj : j < ps.length), ps.getD j (0, 0) = ps[j] := fun {j} hj => by rw [List.getD_eq_getElem?_getD, List.getElem?_eq_getElem hj]; rfl
    have inner : ∀ {H2 : Hp}, Same H4 H2 → SqL K H2 l lvs := fun s => SqL.of (s _ _ gl)
    refine ⟨_, rfl, l, _, rfl, .inl (inner s1), (lvs.length : Int), rfl, by omega, by omega, ?_⟩
    rw [Int.toNat_natCast, hll]
    refine for_range (n := ps.length) (fun i σ H2 => ∃ (a3 a4 a5 : Option V) (S : List Nat), Same H4 H2 ∧ H2 D = some (.lst (nV S)) ∧ ReaIn ps nums n S ∧ σ = [some (.ref l), some (.ref nu), some (.ref D), a3, a4, a5])
      ⟨none, none, none, _, s1, g1, rea_init hE, rfl⟩ ?_ ?_
    rotate_left
    · rintro σ H2 ⟨a3, a4, a5, S, s2, g2, hR, rfl⟩
      exact ⟨_, rfl, q D S H2 s2 hD g2 hR⟩
    rintro i σ H2 hi ⟨a3, a4, a5, S, s2, g2, hR, rfl⟩
    refine ⟨_, rfl, l, _, rfl, .inl (inner s2), (lvs.length : Int), rfl, by omega, by omega, ?_⟩
    rw [Int.toNat_natCast, hll]
    refine for_range (n := ps.length) (fun j σ H3 => ∃ (a4 a5 : Option V) (S : List Nat), Same H4 H3 ∧ H3 D = some (.lst (nV S)) ∧ ReaIn ps nums n S ∧ σ = [some (.ref l), some (.ref nu), some (.ref D), some (.int (0 + (i : Int))), a4, a5])
      ⟨_, _, S, s2, g2, hR, rfl⟩ ?_ ?_
    rotate_left
    · rintro σ H3 ⟨a4, a5, S, s3, g3, hR3, rfl⟩
      exact ⟨_, _, _, S, s3, g3, hR3, rfl⟩
    rintro j σ H3 hj ⟨a4, a5, S, s3, g3, hR3, rfl⟩
    refine ⟨_, rfl, l, _, rfl, .inl (inner s3), (lvs.length : Int), rfl, by omega, by omega, ?_⟩
    rw [Int.toNat_natCast, hll, Int.zero_add, Int.zero_add]
    refine for_range (n := ps.length) (fun k σ H5 => ∃ (a5 : Option V) (S : List Nat), Same H4 H5 ∧ H5 D = some (.lst (nV S)) ∧ ReaIn ps nums n S ∧ σ = [some (.ref l), some (.ref nu), some (.ref D), some (.int (i : Int)), some (.int (j : Int)), a5])
      ⟨_, S, s3, g3, hR3, rfl⟩ ?_ ?_
    rotate_left
    · rintro σ H5 ⟨a5, S, s5, g5, hR5, rfl⟩
      exact ⟨some (.int (j : Int)), a5, S, s5, g5, hR5, rfl⟩
    rintro k σ H5 hk ⟨a5, S, s5, g5, hR5, rfl⟩
    rw [Int.zero_add]
    obtain ⟨u, hv, hu⟩ := lane s5 hk
    obtain ⟨u2, hv2, hu2⟩ := lane s5 hj
    refine ⟨_, rfl, _, rfl, l, lvs, _, _, rfl, rfl, inner s5, atI_nat hv, u, _, 0, _, rfl, rfl, hu, atI_nat (j := 0) rfl, _, rfl, _, rfl, l, lvs, _, _, rfl, rfl, inner s5, atI_nat hv2, u2, _, 1, _, rfl, rfl, hu2, atI_nat (j := 1) rfl, rfl, _, rfl, ?_⟩
    rw [int_eq]
    have skip : ∃ (a5 : Option V) (S : List Nat), Same H4 H5 ∧ H5 D = some (.lst (nV S)) ∧ ReaIn ps nums n S ∧ ([some (.ref l), some (.ref nu), some (.ref D), some (.int (i : Int)), some (.int (j : Int)), some (.int (k : Int))] : St) = [some (.ref l), some (.ref nu), some (.ref D), some (.int (i : Int)), some (.int (j : Int)), a5] := ⟨_, S, s5, g5, hR5, rfl⟩
    by_cases h1 : (ps[k]).1 = (ps[j]).2
    rotate_left
    · rw [decide_eq_false h1]
      exact iteF (iteF skip)
    rw [decide_eq_true h1]
    have gn : SqL K H5 nu (nums.map V.int) := SqL.of (s5 _ _ gnu)
    refine iteT ⟨_, rfl, _, rfl, nu, _, _, _, rfl, rfl, gn, atM (by omega), _, rfl, _, rfl, nu, _, _, _, rfl, rfl, gn, atM (by omega), _, _, rfl, rfl, _, rfl, ?_⟩
    by_cases h2 : nums.getD j 0 < nums.getD k 0
    rotate_left
    · rw [decide_eq_false h2]
      exact iteF skip
    rw [decide_eq_true h2]
    have hSl := hR5.len
    refine iteT ⟨_, rfl, _, rfl, D, _, _, _, rfl, rfl, SqL.of g5, atS (by omega), _, rfl, _, rfl, D, _, _, _, rfl, rfl, SqL.of g5, atS (by omega), _, _, rfl, rfl, ?_⟩
    refine ⟨_, rfl, _, rfl, D, _, (j : Int), j, rfl, rfl, g5, ixN_nat (by rw [nV_len]; omega), ?_⟩
    dsimp only
    rw [Yd.bitOr_nat, nV_set]
    exact ⟨_, _, fun b o e => by rw [upd_ne (ne_of_none e hD)]; exact s5 _ _ e, upd_same, hR5.put hk (by rw [egd hk, egd hj]; exact h1) h2, rfl⟩
end
end K73
namespace K73
open PySem L2
structure RowG (ps : List (Int × Int)) (nums : List Int) (S : List Nat) (r : Rw) : Prop where
  non : r.c = none → ∀ z ∈ r.s, bitN S z r.g.toNat = true
  som : ∀ l, r.c = some l → bitN S l r.g.toNat = true → (∀ z ∈ r.s, bitN S z r.g.toNat = true ∧ nums.getD l 0 < nums.getD z 0) ∧ ((∃ z ∈ ixM Prod.fst ps r.p, bitN S z r.g.toNat = true ∧ nums.getD l 0 < nums.getD z 0) → r.s ≠ [])
def LanesG (ps : List (Int × Int)) (nums : List Int) (S : List Nat) (rs : List Rw) : Prop := ∀ r ∈ rs, ((∀ k ∈ r.s, k ∈ ixM Prod.fst ps r.p) ∧ r.s.length ≤ ps.length) ∧ RowG ps nums S r
def spRows (K : PySem.W.Frag) : Sp := fun vs H Q _ => ∃ (a l nu re : Addr) (ns : List Int) (n : Nat) (lvs : List V) (ps : List (Int × Int)) (nums : List Int) (S : List Nat), vs = [.ref a, .int n, .ref l, .ref nu, .ref re] ∧ SqL K H a (ns.map V.int) ∧ H l = some (.lst lvs) ∧ Lns H lvs ps ∧ ps.length ≤ 40 ∧ (2 ≤ n ∧ n ≤ 12) ∧ H nu = some (.lst (nums.map V.int)) ∧ nums.length = ps.length ∧ H re = some (.lst (nV S)) ∧ S.length = ps.length ∧
  ∀ (D : Addr) (rvs : List V) (rs : List Rw) (H' : Hp), Same H H' → H' D = some (.lst rvs) → Rws H' rvs rs → RowsOk n ps rs → (∀ r ∈ rs, RowG ps nums S r) → rs.length ≤ 10000 → Q (.ref D) H'
abbrev NRs : List Str := ["_law_script", "_law_places", "_law_lanes", "_law_numbers_here", "_law_reach_here", "_law_rows_here", "_law_place", "_law_begin", "_law_cames", "_law_goal", "_law_came", "_law_ways", "_law_draw_here"]
def inIf (s : Stmt) : List Stmt := match s with
  | .If _ b _ _ => b
  | _ => []
def rsAt (i : Nat) : Stmt := (forBody ((defBody sRows).getD 1 (.Pass ⟨0, 0, 0, 0⟩))).getD i (.Pass ⟨0, 0, 0, 0⟩)
def rsIn (i : Nat) : Stmt := (forBody ((forBody (rsAt 2)).getD 0 (.Pass ⟨0, 0, 0, 0⟩))).getD i (.Pass ⟨0, 0, 0, 0⟩)
def rsIf (i : Nat) : Stmt := (inIf (rsIn i)).getD 0 (.Pass ⟨0, 0, 0, 0⟩)
theorem bitZ (S : List Nat) (k j : Nat) : decide (V.int (Builtin.bitAnd (((S.getD k 0 : Nat) : Int) / 2 ^ (j : Int).toNat) 1) = V.int 0) = !bitN S k j := by
  rw [int_eq, Int.toNat_natCast]
  have e : (((S.getD k 0 : Nat) : Int) / 2 ^ j) = ((S.getD k 0 / 2 ^ j : Nat) : Int) := by
    rw [Int.natCast_ediv, Int.natCast_pow]
    rfl
  unfold bitN
  rw [e, show (1 : Int) = ((1 : Nat) : Int) from rfl, Yd.bitAnd_nat, Nat.testBit_eq_decide_div_mod_eq, Nat.and_one_is_mod]
  rcases (show S.getD k 0 / 2 ^ j % 2 = 0 ∨ S.getD k 0 / 2 ^ j % 2 = 1 by omega) with z | z <;> rw [z] <;> rfl
theorem bitO (S : List Nat) (k j : Nat) : decide (V.int (Builtin.bitAnd (((S.getD k 0 : Nat) : Int) / 2 ^ (j : Int).toNat) 1) = V.int 1) = bitN S k j := by
  unfold bitN
  rw [int_eq, Int.toNat_natCast, ← Yd.has_bit]
theorem came_lt {ps : List (Int × Int)} {p k : Nat} (h : some k ∈ cames ps p) : k < ps.length := by
  unfold cames at h
  rcases List.mem_cons.mp h with h | h
  · cases h
  · obtain ⟨z, hz, e⟩ := List.mem_map.mp h
    injection e with e
    subst e
    exact ixM_le hz
section
variable {P : Program} {w : World} {K : PySem.W.Frag} {mg : Str → Option Value} {base : Heap}
theorem scRs : FnScope NRs ["_law_script", "_law_places", "_law_lanes", "_law_numbers_here", "_law_reach_here"] (defScope sRows) := ⟨rfl, rfl, rfl, by decide +kernel, rfl, by decide +kernel, by decide +kernel⟩
theorem bkR1 : Blk NRs (defScope sRows) (asgScope (rsAt 0)) ["_law_lanes", "_law_place"] [2, 6] := ⟨rfl, by decide +kernel, by decide +kernel, by decide +kernel, rfl, by decide +kernel⟩
theorem bkR2 : Blk NRs (defScope sRows) (catScope (rsAt 1)) ["_law_lanes", "_law_place"] [2, 6] := ⟨rfl, by decide +kernel, by decide +kernel, by decide +kernel, rfl, by decide +kernel⟩
theorem bkR3 : Blk NRs (defScope sRows) (asgL (rsIn 0)) ["_law_reach_here", "_law_goal"] [4, 9] := ⟨rfl, by decide +kernel, by decide +kernel, by decide +kernel, rfl, by decide +kernel⟩
theorem bkR4 : Blk NRs (defScope sRows) (asgL (rsIf 2)) ["_law_numbers_here", "_law_came"] [3, 10] := ⟨rfl, by decide +kernel, by decide +kernel, by decide +kernel, rfl, by decide +kernel⟩
theorem bkR5 : Blk NRs (defScope sRows) (asgL (rsIf 4)) ["_law_begin", "_law_draw_here"] [7, 12] := ⟨rfl, by decide +kernel, by decide +kernel, by decide +kernel, rfl, by decide +kernel⟩
theorem ndR : (["_law_k", "_law_lanes", "_law_place"] : List Str).Nodup := by decide +kernel
theorem ndR3 : (["_law_k", "_law_reach_here", "_law_goal"] : List Str).Nodup := by decide +kernel
theorem ndR4 : (["_law_k", "_law_numbers_here", "_law_came"] : List Str).Nodup := by decide +kernel
theorem ndR5 : (["_law_j", "_law_begin", "_law_draw_here"] : List Str).Nodup := by decide +kernel
theorem ok_rows {f fd fs : Addr} {df dd ds : FuncData} (F : Fun K "_law_rows" "_law_rows" sRows f df) (T : Txt mg) (md : mg "_law_draw" = some (.ref fd)) (kd : PySem.W.keepIn K (.ref fd) = true) (bd : Binds K dd ["_law_script", "_law_k"] [])
    (Gd : FnOk P w K mg base CX0 1 fd dd ["_law_script", "_law_k"] (spDraw K)) (ms : mg "_law_fewer" = some (.ref fs)) (ks : PySem.W.keepIn K (.ref fs) = true) (bs : Binds K ds ["_law_ways", "_law_draw_here"] [])
    (Gs : FnOk P w K mg base CX0 1 fs ds ["_law_ways", "_law_draw_here"] spFewer) : FnOk P w K mg base CX0 2 f df ["_law_script", "_law_places", "_law_lanes", "_law_numbers_here", "_law_reach_here"] (spRows K) := by
  refine F.ok scRs (fun vs H Q E h => ?_) (fun cdv A outer s H vs Q E hr h => ?_)
  · obtain ⟨a, l, nu, re, ns, n, lvs, ps, nums, S, rfl, _⟩ := h
    rfl
  · obtain ⟨a, l, nu, re, ns, n, lvs, ps, nums, S, rfl, hS, hl, hLn, hpl, hn, gnu, hnl, gre, hSl, q⟩ := h
    have hr1 : Room 1 _ := hr.mono (by decide)
    refine ⟨_, pss_cons (ps_set (i := 5) scRs.nd rfl (Or.inl rfl) (pe_lst pa_nil))
      (pss_cons (ps_for PassesOwn.never rfl (pi_range1 rfl T.range (pa_cons (pv 1) pa_nil)) (pg_name (i := 6) scRs.nd rfl (Or.inr rfl))
        (pss_cons (ps_set (i := 7) scRs.nd rfl (Or.inr rfl) (pe_comp (own := ["_law_k"]) (capN := ["_law_lanes", "_law_place"]) (cap := [2, 6]) bkR1 rfl (pi_range1 rfl T.range (pa_cons (pe_callB call_len_seq rfl T.len PySem.boot_len (pa_cons (pv 2) pa_nil)) pa_nil))
          (fun C s' H' fp => ⟨pg_name (i := 0) ndR rfl (Or.inl rfl), pts_one (pt_cmpR op_eq (pe_ix (show IxR _ (rIxT K) from ix_tup) (pe_ix (show IxR _ (rIxL K) from ix_list) (pv 1) (pv 0) (fun _ _ => rfl)) pe_int (fun _ _ => rfl)) (pv 2) (nomark _)), pv 0⟩)))
        (pss_cons (ps_set (i := 8) scRs.nd rfl (Or.inl rfl) (pe_op op_cat (pe_lst (pa_cons pe_non pa_nil)) (pe_comp (own := ["_law_k"]) (capN := ["_law_lanes", "_law_place"]) (cap := [2, 6]) bkR2 rfl (pi_range1 rfl T.range (pa_cons (pe_callB call_len_seq rfl T.len PySem.boot_len (pa_cons (pv 2) pa_nil)) pa_nil))
          (fun C s' H' fp => ⟨pg_name (i := 0) ndR rfl (Or.inl rfl), pts_one (pt_cmpR op_eq (pe_ix (show IxR _ (rIxT K) from ix_tup) (pe_ix (show IxR _ (rIxL K) from ix_list) (pv 1) (pv 0) (fun _ _ => rfl)) pe_int (fun _ _ => rfl)) (pv 2) (nomark _)), pv 0⟩))))
        (pss_one (ps_for PassesOwn.never rfl (pi_range1 rfl T.range (pa_cons (pv 1) pa_nil)) (pg_name (i := 9) scRs.nd rfl (Or.inr rfl))
          (pss_one (ps_for PassesOwn.never rfl (pi_list (pv 8)) (pg_name (i := 10) scRs.nd rfl (Or.inr rfl))
            (pss_cons (ps_setComp (i := 11) (own := ["_law_k"]) (capN := ["_law_reach_here", "_law_goal"]) (cap := [4, 9]) bkR3 rfl scRs.nd rfl rfl (pi_list (pv 7))
              (fun C s' H' fp => ⟨pg_name (i := 0) ndR3 rfl (Or.inl rfl), pts_one (pt_cmpR op_eq (pe_op op_and (pe_op op_shr (pe_ix (show IxR _ (rIxL K) from ix_list) (pv 1) (pv 0) (fun _ _ => rfl)) (pv 2)) pe_int) pe_int (nomark _)), pv 0⟩))
            (pss_cons (ps_set (i := 12) scRs.nd rfl (Or.inr rfl) (pe_call Gd hr1 rfl md kd bd .nil pass0 (pa_cons (pv 0) (pa_cons (pe_op op_add pe_int (pe_callB call_len_seq rfl T.len PySem.boot_len (pa_cons (pv 5) pa_nil))) pa_nil))))
            (pss_cons (ps_if (pt_cmpR op_notN (pv 10) pe_non (nomark _))
              (pss_one (ps_setComp (i := 11) (own := ["_law_k"]) (capN := ["_law_numbers_here", "_law_came"]) (cap := [3, 10]) bkR4 rfl scRs.nd rfl rfl (pi_list (pv 11))
                (fun C s' H' fp => ⟨pg_name (i := 0) ndR4 rfl (Or.inl rfl), pts_one (pt_cmpR op_gt (pe_ix (show IxR _ (rIxL K) from ix_list) (pv 1) (pv 0) (fun _ _ => rfl)) (pe_ix (show IxR _ (rIxL K) from ix_list) (pv 1) (pv 2) (fun _ _ => rfl)) (nomark _)), pv 0⟩))) pss_nil)
            (pss_cons (ps_set (i := 11) scRs.nd rfl (Or.inl rfl) (pe_call Gs hr1 rfl ms ks bs .nil pass0 (pa_cons (pv 11) (pa_cons (pv 12) pa_nil))))
            (pss_cons (ps_if (PW.pt (pw_and (pt_cmpR op_notN (pv 10) pe_non (nomark _)) (pw_and1 (pt_cmpR op_eq (pe_op op_and (pe_op op_shr (pe_ix ix_list (pv 4) (pv 10) (fun _ _ => rfl)) (pv 9)) pe_int) pe_int (nomark _)))))
              (pss_one (ps_setComp (i := 11) (own := ["_law_j"]) (capN := ["_law_begin", "_law_draw_here"]) (cap := [7, 12]) bkR5 rfl scRs.nd rfl rfl (pi_range1 rfl T.range (pa_cons (pe_callB call_len_seq rfl T.len PySem.boot_len (pa_cons (pv 7) pa_nil)) pa_nil))
                (fun C s' H' fp => ⟨pg_name (i := 0) ndR5 rfl (Or.inl rfl), pts_one (pt_cmpR op_eq (pe_op op_and (pe_op op_shr (pe_op op_fdiv (pv 2) pe_int) (pv 0)) pe_int) pe_int (nomark _)), pe_ix (show IxR _ (rIxL K) from ix_list) (pv 1) (pv 0) (fun _ _ => rfl)⟩))) pss_nil)
            (pss_one (ps_if (pt_cmpR op_ne (pv 9) (pv 6) (nomark _))
              (pss_one (ps_expr (pe_bm PySem.F.plainAttrs_list PySem.F.slot_list_append PySem.F.type_list_append mt_append (pv 5) (pa_cons (pe_tup (pa_cons (pv 6) (pa_cons (pv 9) (pa_cons (pv 10) (pa_cons (pv 11) pa_nil))))) pa_nil)))) pss_nil))))))))))))))
      (pss_one (ps_ret (pv 5)))), ?_⟩
    have hll : lvs.length = ps.length := Paired.length hLn
    refine ⟨Nat.zero_le _, fun D hD => ?_⟩
    have s0 := (Same.refl H).new (o := .lst []) hD
    refine ⟨_, rfl, (n : Int), rfl, by omega, by omega, ?_⟩
    rw [Int.toNat_natCast]
    refine for_range (n := n) (fun i σ H2 => ∃ (a4 a5 a6 a7 a8 a9 a10 : Option V) (rvs : List V) (rs : List Rw), Same H H2 ∧ H2 D = some (.lst rvs) ∧ Rxs D H2 rvs rs ∧ rs.map keyN = keysOf ps n i ∧ LanesG ps nums S rs ∧ σ = [some (.ref a), some (.int n), some (.ref l), some (.ref nu), some (.ref re), some (.ref D), a4, a5, a6, a7, a8, a9, a10])
      ⟨none, none, none, none, none, none, none, [], [], s0, upd_same, .nil, rfl, (fun r hr => by cases hr), rfl⟩ ?_ ?_
    · rintro i σ H2 hi ⟨a4, a5, a6, a7, a8, a9, a10, rvs, rs, s2, gD, hR, hk, hlo, rfl⟩
      rw [Int.zero_add]
      have lane : ∀ {j : Nat} {pr : Int × Int} {H' : Hp}, Same H H' → ps[j]? = some pr → ∃ u, lvs[j]? = some (.ref u) ∧ SqT K H' u [.int pr.1, .int pr.2] := fun {j pr H'} s' hj => by
        obtain ⟨v, hv, u, rfl, hu⟩ := Lns.get2 hLn hj
        exact ⟨u, hv, SqT.of (s' _ _ hu)⟩
      -- the lanes that begin there
      refine ⟨_, rfl, l, _, rfl, .inl (SqL.of (s2 _ _ hl)), (lvs.length : Int), rfl, by omega, by omega, ?_⟩
      rw [Int.toNat_natCast, hll]
      refine comp_ix (sel := Prod.fst) (pl := (i : Int)) (by rw [PySem.sizeLine_eq]; omega) (fun j acc N pr hj h => ?_) fun B hB => ?_
      · obtain ⟨u, hv, hu⟩ := lane s2 hj
        refine ⟨_, rfl, _, rfl, l, lvs, _, _, rfl, rfl, SqL.of (s2 _ _ hl), atI_nat hv, u, _, 0, _, rfl, rfl, hu, atI_nat (j := 0) rfl, _, rfl, rfl, _, rfl, ?_⟩
        rw [int_eq]
        cases hd : decide (pr.1 = (i : Int)) with
        | true => rw [hd] at h; exact iteT ⟨_, rfl, h⟩
        | false => rw [hd] at h; exact iteF h
      have s23 : Same H2 (upd H2 B (.lst (natV (ixM Prod.fst ps i)))) := (Same.refl H2).new hB
      have gB : (upd H2 B (.lst (natV (ixM Prod.fst ps i)))) B = some (.lst (natV (ixM Prod.fst ps i))) := upd_same
      have nB : B ≠ D := Ne.symm (ne_of_none gD hB)
      generalize upd H2 B (.lst (natV (ixM Prod.fst ps i))) = H3 at s23 gB ⊢
      have s3 := s2.trans s23
      -- the cames
      refine ⟨by show 1 ≤ sizeLine; decide, fun o1 ho1 => ?_⟩
      have s34 : Same H3 (upd H3 o1 (.lst [.non])) := (Same.refl H3).new ho1
      have g1 : (upd H3 o1 (.lst [.non])) o1 = some (.lst [.non]) := upd_same
      generalize upd H3 o1 (.lst [.non]) = H4 at s34 g1 ⊢
      have s4 := s3.trans s34
      refine ⟨_, rfl, l, _, rfl, .inl (SqL.of (s4 _ _ hl)), (lvs.length : Int), rfl, by omega, by omega, ?_⟩
      rw [Int.toNat_natCast, hll]
      refine comp_ix (sel := Prod.snd) (pl := (i : Int)) (by rw [PySem.sizeLine_eq]; omega) (fun j acc N pr hj h => ?_) fun o2 ho2 => ?_
      · obtain ⟨u, hv, hu⟩ := lane s4 hj
        refine ⟨_, rfl, _, rfl, l, lvs, _, _, rfl, rfl, SqL.of (s4 _ _ hl), atI_nat hv, u, _, 1, _, rfl, rfl, hu, atI_nat (j := 1) rfl, _, rfl, rfl, _, rfl, ?_⟩
        rw [int_eq]
        cases hd : decide (pr.2 = (i : Int)) with
        | true => rw [hd] at h; exact iteT ⟨_, rfl, h⟩
        | false => rw [hd] at h; exact iteF h
      have s45 : Same H4 (upd H4 o2 (.lst (natV (ixM Prod.snd ps i)))) := (Same.refl H4).new ho2
      have g2 : (upd H4 o2 (.lst (natV (ixM Prod.snd ps i)))) o2 = some (.lst (natV (ixM Prod.snd ps i))) := upd_same
      generalize upd H4 o2 (.lst (natV (ixM Prod.snd ps i))) = H5 at s45 g2 ⊢
      have hcl : (natV (ixM Prod.snd ps i)).length ≤ 40 := by unfold natV; rw [List.length_map]; have := ixM_len Prod.snd ps (i : Int); omega
      refine ⟨o1, o2, _, _, rfl, rfl, s45 _ _ g1, g2, by rw [PySem.sizeLine_eq]; simp only [List.length_singleton]; omega, fun C hC => ?_⟩
      rw [camesV]
      have s56 : Same H5 (upd H5 C (.lst ((cames ps i).map cV))) := (Same.refl H5).new hC
      have gC : (upd H5 C (.lst ((cames ps i).map cV))) C = some (.lst ((cames ps i).map cV)) := upd_same
      have s25 := (s23.trans s34).trans s45
      have nC : C ≠ D := Ne.symm (ne_of_none (s25 _ _ gD) hC)
      generalize upd H5 C (.lst ((cames ps i).map cV)) = H6 at s56 gC ⊢
      have s26 := s25.trans s56
      have gB6 := s56 _ _ (s45 _ _ (s34 _ _ gB))
      have s6 := s2.trans s26
      -- each goal
      refine ⟨_, rfl, (n : Int), rfl, by omega, by omega, ?_⟩
      rw [Int.toNat_natCast]
      refine for_range (n := n) (fun j σ H7 => ∃ (a7 a8 a9 a10 : Option V) (rvs : List V) (rs : List Rw), Off D H6 H7 ∧ H7 D = some (.lst rvs) ∧ Rxs D H7 rvs rs ∧ rs.map keyN = keysOf ps n i ++ blockP ps j i ∧ LanesG ps nums S rs ∧ σ = [some (.ref a), some (.int n), some (.ref l), some (.ref nu), some (.ref re), some (.ref D), some (.int i), some (.ref B), some (.ref C), a7, a8, a9, a10])
        ⟨_, _, _, _, rvs, rs, fun _ _ _ e => e, s26 _ _ gD, Rxs.same s26 hR, by rw [hk]; simp [blockP], hlo, rfl⟩ ?_ ?_
      · rintro j σ H7 hj ⟨a7, a8, a9, a10, rvs, rs, off7, gD7, hR7, hk7, hlo7, rfl⟩
        rw [Int.zero_add]
        refine ⟨_, rfl, C, rfl, ⟨_, SqL.of (off7 _ _ nC gC)⟩, ?_⟩
        refine for_list (K := K) (a := C) (xs := (cames ps i).map cV) (fun t σ H8 => ∃ (a8 a9 a10 : Option V) (rvs : List V) (rs : List Rw), Off D H6 H8 ∧ H8 D = some (.lst rvs) ∧ Rxs D H8 rvs rs ∧
            rs.map keyN = (keysOf ps n i ++ blockP ps j i) ++ (if j = i then [] else ((cames ps i).take t).map fun c => ((i : Int), (j : Int), c)) ∧ LanesG ps nums S rs ∧ σ = [some (.ref a), some (.int n), some (.ref l), some (.ref nu), some (.ref re), some (.ref D), some (.int i), some (.ref B), some (.ref C), some (.int j), a8, a9, a10])
          ⟨_, _, _, rvs, rs, off7, gD7, hR7, by rw [hk7]; split <;> simp, hlo7, rfl⟩ (fun t σ H8 _ ⟨_, _, _, _, _, off8, _⟩ => SqL.of (off8 _ _ nC gC)) ?_ ?_
        · rintro t v σ H8 hv ⟨a8, a9, a10, rvs, rs, off8, gD8, hR8, hk8, hlo8, rfl⟩
          rw [List.getElem?_map] at hv
          obtain ⟨c, hc, rfl⟩ : ∃ c, (cames ps i)[t]? = some c ∧ v = cV c := by
            cases e : (cames ps i)[t]? with
            | none => rw [e] at hv; cases hv
            | some c => rw [e] at hv; exact ⟨c, rfl, (Option.some.inj hv).symm⟩
          have htl : t < (cames ps i).length := (List.getElem?_eq_some_iff.mp hc).1
          have hrr : rvs.length = rs.length := Paired.length hR8
          have hrl : rs.length ≤ 6500 := by
            have e1 : rs.length = (rs.map keyN).length := by rw [List.length_map]
            rw [e1, hk8, List.length_append, List.length_append]
            obtain ⟨b1, b2⟩ := small_keys (ps := ps) (n := n) (i := i) (j := j) hpl hn.2 (by omega) (by omega)
            have b3 : (if j = i then [] else ((cames ps i).take t).map fun c => ((i : Int), (j : Int), c)).length ≤ 41 := by
              split
              · exact Nat.zero_le _
              · rw [List.length_map]
                have := List.length_take_le t (cames ps i)
                have := cames_len ps i
                rw [List.length_take]
                omega
            omega
          have s8 : Same H H8 := fun b o e => off8 b o (ne_of_none e hD) (s6 _ _ e)
          have gB8 := off8 _ _ nB gB6
          have gre8 := s8 _ _ gre
          have gnu8 := s8 _ _ gnu
          have gB8' : H8 B = some (.lst (nV (ixM Prod.fst ps i))) := gB8
          have hBl := ixM_len Prod.fst ps (i : Int)
          refine ⟨_, rfl, B, rfl, ⟨_, SqL.of gB8'⟩, ?_⟩
          refine comp_nat (K := K) (fun z => bitN S z j) (by omega) gB8' (fun z acc N hz h => ?_) fun W1 hW1 => ?_
          · have hzl := ixM_le hz
            refine ⟨_, rfl, _, rfl, re, _, _, _, rfl, rfl, SqL.of gre8, atS (by omega), _, rfl, _, _, rfl, rfl, (by show (0 : Int) ≤ (j : Int); omega), _, _, rfl, rfl, rfl, _, rfl, ?_⟩
            rw [bitO]
            cases hd : bitN S z j with
            | true => rw [hd] at h; exact iteT ⟨_, rfl, h⟩
            | false => rw [hd] at h; exact iteF h
          generalize hw1 : (ixM Prod.fst ps (i : Int)).filter (fun z => bitN S z j) = w1
          have hw1m : ∀ z, z ∈ w1 ↔ z ∈ ixM Prod.fst ps (i : Int) ∧ bitN S z j = true := fun z => by rw [← hw1, List.mem_filter]
          have hw1l : w1.length ≤ (ixM Prod.fst ps (i : Int)).length := by rw [← hw1]; exact List.length_filter_le _ _
          have nW1 : W1 ≠ D := Ne.symm (ne_of_none gD8 hW1)
          have s89 := (Same.refl H8).new (o := .lst (nV w1)) hW1
          have g9 : (upd H8 W1 (.lst (nV w1))) W1 = some (.lst (nV w1)) := upd_same
          show gName 11 (V.ref W1) _ (upd H8 W1 _) _
          generalize upd H8 W1 (.lst (nV w1)) = H9 at s89 g9 ⊢
          refine ⟨_, rfl, _, rfl, D, _, rfl, .inl (SqL.of (s89 _ _ gD8)), _, _, rfl, rfl, a, ns, _, rfl, (s8.trans s89).seq hS, by omega, by omega, fun d Ha s9a => ?_⟩
          have s8a := s89.trans s9a
          have gWa := s9a _ _ g9
          cases c with
          | none =>
            refine ⟨_, rfl, rfl, _, rfl, iteF ?_⟩
            refine ⟨_, rfl, _, rfl, W1, w1, d, rfl, gWa, by omega, fun U us Hb sab gU hmem hne hul hnew => ?_⟩
            have s8b := s8a.trans sab
            have offb : Off D H6 Hb := fun b o nb e => s8b _ _ (off8 b o nb e)
            have gDb := s8b _ _ gD8
            have nU : U ≠ D := hnew.elim (fun e => by rw [e]; exact nW1) fun e => Ne.symm (ne_of_none (s8a _ _ gD8) e)
            refine ⟨_, rfl, rfl, _, rfl, iteF (iteF ?_)⟩
            refine ⟨_, rfl, _, rfl, rfl, _, rfl, ?_⟩
            rw [int_eq]
            by_cases hji : j = i
            · refine iteNS (show (j : Int) = (i : Int) by omega) ?_
              refine ⟨_, _, _, rvs, rs, offb, gDb, Rxs.same s8b hR8, ?_, hlo8, rfl⟩
              rw [hk8, if_pos hji, if_pos hji]
            · rw [decide_eq_false (show ¬ (j : Int) = (i : Int) by omega)]
              refine iteT ?_
              refine ⟨_, rfl, .inl ⟨rfl, _, SqL.of gDb⟩, _, rfl, _, rfl, _, rfl, _, rfl, by show 4 ≤ sizeLine; decide, fun tt htt => ?_⟩
              have sb := (Same.refl Hb).new (o := .tup [.int i, .int j, cV none, .ref U]) htt
              have gT : (upd Hb tt (.tup [.int i, .int j, cV none, .ref U])) tt = some (.tup [.int i, .int j, cV none, .ref U]) := upd_same
              have nT : tt ≠ D := Ne.symm (ne_of_none gDb htt)
              generalize upd Hb tt (.tup [.int i, .int j, cV none, .ref U]) = Hz at sb gT ⊢
              refine ⟨D, rvs, _, rfl, rfl, sb _ _ gDb, by rw [PySem.sizeLine_eq]; omega, ?_⟩
              refine ⟨_, _, _, rvs ++ [.ref tt], rs ++ [⟨(i : Int), (j : Int), none, us⟩], fun b o nb e => by rw [upd_ne nb]; exact sb _ _ (offb b o nb e), upd_same, ?_, ?_, ?_, rfl⟩
              · refine Rxs.snoc ⟨tt, U, rfl, ⟨by rw [upd_ne nT]; exact gT, by rw [upd_ne nU]; exact sb _ _ gU⟩, nU⟩ ?_
                exact Rxs.off (sb _ _ gDb) (Rxs.same (Same.trans s8b sb) hR8)
              · rw [List.map_append, hk8, if_neg hji, if_neg hji, List.take_succ, hc, List.map_append, List.append_assoc]
                rfl
              · intro r hr'
                rcases List.mem_append.mp hr' with h | h
                · exact hlo8 r h
                · rw [List.mem_singleton.mp h]
                  exact ⟨⟨(fun k hk => ((hw1m k).mp (hmem k hk)).1), Nat.le_trans (Nat.le_trans hul hw1l) (ixM_len _ _ _)⟩, ⟨fun _ z hz => by show bitN S z ((j : Int)).toNat = true; rw [Int.toNat_natCast]; exact ((hw1m z).mp (hmem z hz)).2, fun l e => by cases e⟩⟩
          | some k =>
            have hk : k < ps.length := came_lt (List.mem_of_getElem? hc)
            refine ⟨_, rfl, rfl, _, rfl, iteT ?_⟩
            have gna := s8a _ _ gnu8
            refine ⟨_, rfl, W1, rfl, ⟨_, SqL.of gWa⟩, ?_⟩
            refine comp_nat (K := K) (fun z => decide (nums.getD k 0 < nums.getD z 0)) (by omega) gWa (fun z acc N hz h => ?_) fun W2 hW2 => ?_
            · have hzl := ixM_le ((hw1m z).mp hz).1
              refine ⟨_, rfl, _, rfl, nu, _, _, _, rfl, rfl, SqL.of gna, atM (by omega), _, rfl, _, rfl, nu, _, _, _, rfl, rfl, SqL.of gna, atM (by omega), _, _, rfl, rfl, _, rfl, ?_⟩
              cases hd : decide (nums.getD k 0 < nums.getD z 0) with
              | true => rw [hd] at h; exact iteT ⟨_, rfl, h⟩
              | false => rw [hd] at h; exact iteF h
            generalize hw2 : w1.filter (fun z => decide (nums.getD k 0 < nums.getD z 0)) = w2
            have hw2m : ∀ z, z ∈ w2 ↔ (z ∈ ixM Prod.fst ps (i : Int) ∧ bitN S z j = true) ∧ nums.getD k 0 < nums.getD z 0 := fun z => by rw [← hw2, List.mem_filter, hw1m, decide_eq_true_eq]
            have hw2l : w2.length ≤ (ixM Prod.fst ps (i : Int)).length := by rw [← hw2]; exact Nat.le_trans (List.length_filter_le _ _) hw1l
            have nW2 : W2 ≠ D := Ne.symm (ne_of_none (s8a _ _ gD8) hW2)
            have sab' := (Same.refl Ha).new (o := .lst (nV w2)) hW2
            have gb : (upd Ha W2 (.lst (nV w2))) W2 = some (.lst (nV w2)) := upd_same
            show gName 11 (V.ref W2) _ (upd Ha W2 _) _
            generalize upd Ha W2 (.lst (nV w2)) = Hb at sab' gb ⊢
            have s8b' := s8a.trans sab'
            refine ⟨_, rfl, _, rfl, W2, w2, d, rfl, gb, by omega, fun U us Hc sbc gU hmem hne hul hnew => ?_⟩
            have s8c := s8b'.trans sbc
            have offc : Off D H6 Hc := fun b o nb e => s8c _ _ (off8 b o nb e)
            have gDc := s8c _ _ gD8
            have nU : U ≠ D := hnew.elim (fun e => by rw [e]; exact nW2) fun e => Ne.symm (ne_of_none (s8b' _ _ gD8) e)
            have grc := s8c _ _ gre8
            refine ⟨_, rfl, rfl, _, rfl, iteT ⟨_, rfl, _, rfl, re, _, (k : Int), _, rfl, rfl, SqL.of grc, atS (by omega), _, rfl, _, _, rfl, rfl, (by show (0 : Int) ≤ (j : Int); omega), _, _, rfl, rfl, rfl, _, rfl, ?_⟩⟩
            rw [bitZ]
            cases hbk : bitN S k j with
            | true =>
              refine iteF ?_
              refine ⟨_, rfl, _, rfl, rfl, _, rfl, ?_⟩
              rw [int_eq]
              by_cases hji : j = i
              · refine iteNS (show (j : Int) = (i : Int) by omega) ?_
                refine ⟨_, _, _, rvs, rs, offc, gDc, Rxs.same s8c hR8, ?_, hlo8, rfl⟩
                rw [hk8, if_pos hji, if_pos hji]
              · rw [decide_eq_false (show ¬ (j : Int) = (i : Int) by omega)]
                refine iteT ?_
                refine ⟨_, rfl, .inl ⟨rfl, _, SqL.of gDc⟩, _, rfl, _, rfl, _, rfl, _, rfl, by show 4 ≤ sizeLine; decide, fun tt htt => ?_⟩
                have sb := (Same.refl Hc).new (o := .tup [.int i, .int j, cV (some k), .ref U]) htt
                have gT : (upd Hc tt (.tup [.int i, .int j, cV (some k), .ref U])) tt = some (.tup [.int i, .int j, cV (some k), .ref U]) := upd_same
                have nT : tt ≠ D := Ne.symm (ne_of_none gDc htt)
                generalize upd Hc tt (.tup [.int i, .int j, cV (some k), .ref U]) = Hz at sb gT ⊢
                refine ⟨D, rvs, _, rfl, rfl, sb _ _ gDc, by rw [PySem.sizeLine_eq]; omega, ?_⟩
                refine ⟨_, _, _, rvs ++ [.ref tt], rs ++ [⟨(i : Int), (j : Int), (some k), us⟩], fun b o nb e => by rw [upd_ne nb]; exact sb _ _ (offc b o nb e), upd_same, ?_, ?_, ?_, rfl⟩
                · refine Rxs.snoc ⟨tt, U, rfl, ⟨by rw [upd_ne nT]; exact gT, by rw [upd_ne nU]; exact sb _ _ gU⟩, nU⟩ ?_
                  exact Rxs.off (sb _ _ gDc) (Rxs.same (Same.trans s8c sb) hR8)
                · rw [List.map_append, hk8, if_neg hji, if_neg hji, List.take_succ, hc, List.map_append, List.append_assoc]
                  rfl
                · intro r hr'
                  rcases List.mem_append.mp hr' with h | h
                  · exact hlo8 r h
                  · rw [List.mem_singleton.mp h]
                    exact ⟨⟨(fun k hk => ((hw2m k).mp (hmem k hk)).1.1), Nat.le_trans (Nat.le_trans hul hw2l) (ixM_len _ _ _)⟩, ⟨(fun e => by cases e), fun l e _ => by
                        cases e
                        have ej : ((j : Int)).toNat = j := Int.toNat_natCast j
                        refine ⟨fun z hz => ?_, fun ⟨z, hz1, hz2, hz3⟩ => hne fun e2 => ?_⟩
                        · show bitN S z ((j : Int)).toNat = true ∧ _
                          rw [ej]
                          exact ⟨((hw2m z).mp (hmem z hz)).1.2, ((hw2m z).mp (hmem z hz)).2⟩
                        · have hz2 : bitN S z ((j : Int)).toNat = true := hz2
                          rw [ej] at hz2
                          have : z ∈ w2 := (hw2m z).mpr ⟨⟨hz1, hz2⟩, hz3⟩
                          rw [e2] at this
                          cases this⟩⟩
            | false =>
              refine iteT ?_
              have gBc : Hc B = some (.lst (natV (ixM Prod.fst ps i))) := s8c _ _ gB8
              have hBl' := natV_len (ixM Prod.fst ps (i : Int))
              refine ⟨_, rfl, B, _, rfl, .inl (SqL.of gBc), ((natV (ixM Prod.fst ps i)).length : Int), rfl, by omega, by omega, ?_⟩
              rw [Int.toNat_natCast]
              refine comp_rng (pkB d) (fun q : Nat => V.int (((ixM Prod.fst ps (i : Int)).getD q 0 : Nat) : Int)) (by rw [PySem.sizeLine_eq]; omega) (fun q acc N hq h => ?_) fun U2 hU2 => ?_
              · refine ⟨_, rfl, _, _, rfl, rfl, ⟨by decide, by decide⟩, _, rfl, _, _, rfl, rfl, (by show (0 : Int) ≤ 0 + (q : Int); omega), _, _, rfl, rfl, rfl, _, rfl, ?_⟩
                show if pkB d q = true then _ else _
                cases hd : pkB d q with
                | true => rw [hd] at h; exact iteT ⟨_, rfl, _, rfl, B, _, _, _, rfl, rfl, SqL.of gBc, at_pk (by omega), h⟩
                | false => rw [hd] at h; exact iteF h
              rw [pk_V]
              have nU2 : U2 ≠ D := Ne.symm (ne_of_none gDc hU2)
              have scd := (Same.refl Hc).new (o := .lst (natV (pkN d (ixM Prod.fst ps (i : Int))))) hU2
              have gU2 : (upd Hc U2 (.lst (natV (pkN d (ixM Prod.fst ps (i : Int)))))) U2 = some (.lst (natV (pkN d (ixM Prod.fst ps (i : Int))))) := upd_same
              show gName 11 (V.ref U2) _ (upd Hc U2 _) _
              generalize upd Hc U2 (.lst (natV (pkN d (ixM Prod.fst ps (i : Int))))) = Hd at scd gU2 ⊢
              have s8d := s8c.trans scd
              have offd : Off D H6 Hd := fun b o nb e => s8d _ _ (off8 b o nb e)
              have gDd := s8d _ _ gD8
              refine ⟨_, rfl, _, rfl, rfl, _, rfl, ?_⟩
              rw [int_eq]
              by_cases hji : j = i
              · refine iteNS (show (j : Int) = (i : Int) by omega) ?_
                refine ⟨_, _, _, rvs, rs, offd, gDd, Rxs.same s8d hR8, ?_, hlo8, rfl⟩
                rw [hk8, if_pos hji, if_pos hji]
              · rw [decide_eq_false (show ¬ (j : Int) = (i : Int) by omega)]
                refine iteT ?_
                refine ⟨_, rfl, .inl ⟨rfl, _, SqL.of gDd⟩, _, rfl, _, rfl, _, rfl, _, rfl, by show 4 ≤ sizeLine; decide, fun tt htt => ?_⟩
                have sb := (Same.refl Hd).new (o := .tup [.int i, .int j, cV (some k), .ref U2]) htt
                have gT : (upd Hd tt (.tup [.int i, .int j, cV (some k), .ref U2])) tt = some (.tup [.int i, .int j, cV (some k), .ref U2]) := upd_same
                have nT : tt ≠ D := Ne.symm (ne_of_none gDd htt)
                generalize upd Hd tt (.tup [.int i, .int j, cV (some k), .ref U2]) = Hz at sb gT ⊢
                refine ⟨D, rvs, _, rfl, rfl, sb _ _ gDd, by rw [PySem.sizeLine_eq]; omega, ?_⟩
                refine ⟨_, _, _, rvs ++ [.ref tt], rs ++ [⟨(i : Int), (j : Int), (some k), (pkN d (ixM Prod.fst ps (i : Int)))⟩], fun b o nb e => by rw [upd_ne nb]; exact sb _ _ (offd b o nb e), upd_same, ?_, ?_, ?_, rfl⟩
                · refine Rxs.snoc ⟨tt, U2, rfl, ⟨by rw [upd_ne nT]; exact gT, by rw [upd_ne nU2]; exact sb _ _ gU2⟩, nU2⟩ ?_
                  exact Rxs.off (sb _ _ gDd) (Rxs.same (Same.trans s8d sb) hR8)
                · rw [List.map_append, hk8, if_neg hji, if_neg hji, List.take_succ, hc, List.map_append, List.append_assoc]
                  rfl
                · intro r hr'
                  rcases List.mem_append.mp hr' with h | h
                  · exact hlo8 r h
                  · rw [List.mem_singleton.mp h]
                    exact ⟨⟨(fun k hk => pk_mem hk), Nat.le_trans (pk_len _ _) (ixM_len _ _ _)⟩, ⟨(fun e => by cases e), fun l e hb => by
                        cases e
                        have hb : bitN S k ((j : Int)).toNat = true := hb
                        rw [Int.toNat_natCast, hbk] at hb
                        cases hb⟩⟩
        · rintro σ H8 ⟨a8, a9, a10, rvs, rs, off8, gD8, hR8, hk8, hlo8, rfl⟩
          refine ⟨_, _, _, _, rvs, rs, off8, gD8, hR8, ?_, hlo8, rfl⟩
          rw [hk8, block_succ, List.append_assoc]
          congr 2
          unfold blockG
          rw [List.length_map, List.take_length]
      · rintro σ H7 ⟨a7, a8, a9, a10, rvs, rs, off7, gD7, hR7, hk7, hlo7, rfl⟩
        refine ⟨_, _, _, _, _, _, _, rvs, rs, fun b o e => off7 b o (ne_of_none e hD) (s6 _ _ e), gD7, hR7, ?_, hlo7, rfl⟩
        rw [hk7, keys_succ]
    · rintro σ H2 ⟨a4, a5, a6, a7, a8, a9, a10, rvs, rs, s2, gD, hR, hk, hlo, rfl⟩
      refine ⟨_, rfl, q D rvs rs H2 s2 gD (Rxs.rws hR) ⟨hk, fun r hr => (hlo r hr).1⟩ (fun r hr => (hlo r hr).2) ?_⟩
      have e1 : rs.length = (rs.map keyN).length := by rw [List.length_map]
      rw [e1, hk]
      have := (small_keys (ps := ps) (n := n) (i := n) (j := n) hpl hn.2 (Nat.le_refl _) (Nat.le_refl _)).1
      omega
end
end K73
namespace L2
open PySem
theorem FnOk.or {P : Program} {w : World} {K : PySem.W.Frag} {mg : Str → Option Value} {base : Heap} {CX : CXT} {k : Nat} {f : Addr} {fd : FuncData} {ps : List Str} {a b : Sp} (h1 : FnOk P w K mg base CX k f fd ps a) (h2 : FnOk P w K mg base CX k f fd ps b) : FnOk P w K mg base CX k f fd ps (fun vs H Q E => a vs H Q E ∨ b vs H Q E) :=
  ⟨fun vs H Q E h => h.elim (h1.len vs H Q E) (h2.len vs H Q E), fun A outer s H args us vs Q E hr he hb hv hs => hs.elim (h1.run A outer s H args us vs Q E hr he hb hv) (h2.run A outer s H args us vs Q E hr he hb hv)⟩
end L2
namespace K73
open PySem L2
/-! what the rows keep, and every table that is left of them -/
structure InvW (ps : List (Int × Int)) (nums : List Int) (S : List Nat) (n : Nat) (wy : Oks → Nat) : Prop where
  a : ∀ p g : Nat, p < n → g < n → ∀ z ∈ wl wy [some (p : Int), some (g : Int), none], bitN S z g = true
  b : ∀ g l : Nat, g < n → bitN S l g = true → ∀ z ∈ onN wy ps g l, bitN S z g = true ∧ nums.getD l 0 < nums.getD z 0
theorem wl_row {rs : List Rw} {key : Oks} {z : Nat} : z ∈ wl (wayOf rs) key ↔ ∃ r, lastR rs key = some r ∧ z ∈ r.s := by
  unfold wl
  rw [Yd.memN_mem (Yd.bits_lt _)]
  unfold wayOf
  cases lastR rs key with
  | none => simp
  | some r =>
    dsimp only
    rw [Yd.setN_bit, Nat.zero_testBit, Bool.false_or, decide_eq_true_eq]
    constructor
    · intro h; exact ⟨r, rfl, h⟩
    · rintro ⟨r', e, h⟩; cases e; exact h
theorem last_key {rs : List Rw} {key : Oks} {r : Rw} (h : lastR rs key = some r) : keyOf r = key := by
  unfold lastR at h
  have := List.find?_some h
  exact of_decide_eq_true this
theorem key_parts {r : Rw} {p g : Int} {c : Option Nat} (h : keyOf r = [some p, some g, c.map fun k : Nat => (k : Int)]) : r.p = p ∧ r.g = g ∧ r.c = c := by
  unfold keyOf at h
  injection h with h1 h
  injection h with h2 h
  injection h with h3 _
  refine ⟨Option.some.inj h1, Option.some.inj h2, ?_⟩
  cases hc : r.c with
  | none => cases c with
            | none => rfl
            | some k => rw [hc] at h3; cases h3
  | some k => cases c with
              | none => rw [hc] at h3; cases h3
              | some k' =>
                rw [hc] at h3
                have : (k : Int) = (k' : Int) := Option.some.inj h3
                congr 1
                omega
theorem inv_rows {n : Nat} {ps : List (Int × Int)} {nums : List Int} {S : List Nat} {rs : List Rw} (hg : ∀ r ∈ rs, RowG ps nums S r) : InvW ps nums S n (wayOf rs) := by
  refine ⟨fun p g hp hg' z hz => ?_, fun g l hg' hb z hz => ?_⟩
  · obtain ⟨r, e, hz⟩ := wl_row.mp hz
    obtain ⟨_, e2, e3⟩ := key_parts (c := none) (last_key e)
    have h := (hg r (last_mem e)).non e3 z hz
    rw [e2, Int.toNat_natCast] at h
    exact h
  · unfold onN at hz
    split at hz
    · cases hz
    · obtain ⟨r, e, hz⟩ := wl_row.mp hz
      obtain ⟨_, e2, e3⟩ := key_parts (c := some l) (last_key e)
      have h := (hg r (last_mem e)).som l e3
      rw [e2, Int.toNat_natCast] at h
      exact (h hb).1 z hz
theorem InvW.less {n out : Nat} {ps : List (Int × Int)} {nums : List Int} {S : List Nat} {wy wy' : Oks → Nat} (h : InvW ps nums S n wy) (hW : LessW wy wy' ps n out) : InvW ps nums S n wy' := by
  refine ⟨fun p g hp hg z hz => h.a p g hp hg z (hW.sub _ z hz), fun g l hg hb z hz => h.b g l hg hb z ?_⟩
  unfold onN at hz ⊢
  split at hz
  · cases hz
  · rename_i hne
    rw [if_neg hne]
    exact hW.sub _ z hz
theorem bit_len {S : List Nat} {l g : Nat} (h : bitN S l g = true) : l < S.length := by
  rcases Nat.lt_or_ge l S.length with z | z
  · exact z
  · unfold bitN at h
    rw [List.getD_eq_getElem?_getD, List.getElem?_eq_none (by omega), Option.getD_none, Nat.zero_testBit] at h
    cases h
theorem bit_g {S : List Nat} {n l g : Nat} (hlt : ∀ z ∈ S, z < 2 ^ n) (h : bitN S l g = true) : g < n := by
  rcases Nat.lt_or_ge g n with z | z
  · exact z
  · unfold bitN at h
    have hl : S.getD l 0 < 2 ^ n := by
      rw [List.getD_eq_getElem?_getD]
      cases e : S[l]? with
      | none => exact Nat.two_pow_pos n
      | some y => exact hlt y (List.mem_of_getElem? e)
    rw [Nat.testBit_lt_two_pow (Nat.lt_of_lt_of_le hl (Nat.pow_le_pow_right (by decide) z))] at h
    cases h
/-- a pair of what is reached has a way -/
theorem rows_way {n : Nat} {ps : List (Int × Int)} {nums : List Int} {S : List Nat} {rs : List Rw} (hok : RowsOk n ps rs) (hR : ReaIn ps nums n S) (hE : Ends ps n) (hg : ∀ r ∈ rs, RowG ps nums S r) {g l : Nat} (hb : bitN S l g = true) (hf : finB ps g l = false) : onN (wayOf rs) ps g l ≠ [] := by
  have hl : l < ps.length := by rw [← hR.len]; exact bit_len hb
  have hgn := bit_g hR.lt hb
  have hne := of_decide_eq_false hf
  obtain ⟨p, hp, he⟩ := hE l hl
  rcases hR.snd g l hb with h | ⟨z, hz, h1, h2, h3⟩
  · rw [h] at hf; cases hf
  have hk : ((p : Int), (g : Int), some l) ∈ keysOf ps n n := by
    unfold keysOf blockP blockG
    refine List.mem_flatMap.mpr ⟨p, List.mem_range.mpr hp, List.mem_flatMap.mpr ⟨g, List.mem_range.mpr hgn, ?_⟩⟩
    rw [if_neg (by omega)]
    exact List.mem_map.mpr ⟨some l, came_in hl he, rfl⟩
  rw [← hok.keys] at hk
  obtain ⟨r, hr, er⟩ := List.mem_map.mp hk
  have e1 : r.p = (p : Int) := by injection er
  have e2 : r.g = (g : Int) := by injection er with _ er; injection er
  have e3 : r.c = some l := by injection er with _ er; injection er
  have h4 := (hg r hr).som l e3
  rw [e2, Int.toNat_natCast] at h4
  have h5 : r.s ≠ [] := (h4 hb).2 ⟨z, by
    rw [e1]
    unfold ixM
    exact List.mem_filter.mpr ⟨List.mem_range.mpr hz, decide_eq_true (by rw [h1, he])⟩, h3, h2⟩
  obtain ⟨y, hy⟩ := List.exists_mem_of_ne_nil _ h5
  intro e
  have : y ∈ onN (wayOf rs) ps g l := by
    unfold onN
    rw [if_neg hne]
    refine wl_row.mpr ⟨r, ?_, hy⟩
    have nd : (rs.map keyN).Nodup := by rw [hok.keys]; exact keys_nodup ps n n
    have h6 := last_of nd hr
    unfold keyOf at h6
    rw [e1, e2, e3] at h6
    rw [he]
    exact h6
  rw [e] at this
  cases this
/-! no fault -/
theorem iz_nat (S : List Nat) : (iz S).map Int.toNat = S := by
  unfold iz
  rw [List.map_map]
  conv => rhs; rw [← List.map_id S]
  refine List.map_congr_left fun z _ => ?_
  exact Int.toNat_natCast z
theorem fault_none {n : Nat} {ps : List (Int × Int)} {nums : List Int} {S : List Nat} {wy : Oks → Nat} (hnl : nums.length = ps.length) (hSl : S.length = ps.length) (hlt : ∀ z ∈ S, z < 2 ^ n) (h1 : ∀ p g : Nat, p < n → g < n → ∀ z ∈ wl wy [some (p : Int), some (g : Int), none], bitN S z g = true)
    (h2 : ∀ l g : Nat, bitN S l g = true → finB ps g l = false → onN wy ps g l ≠ [] ∧ ∀ z ∈ onN wy ps g l, bitN S z g = true ∧ nums.getD l 0 < nums.getD z 0) : faultF wy ps n nums (iz S) = none := by
  have hsz : sizeB ps.length n nums (iz S) = true := by
    unfold sizeB
    rw [decide_eq_true hnl, Bool.true_and, decide_eq_true (by unfold iz; rw [List.length_map]; exact hSl), Bool.true_and, List.all_eq_true]
    intro s hs
    obtain ⟨z, hz, rfl⟩ := List.mem_map.mp hs
    have := hlt z hz
    refine decide_eq_true ⟨by omega, ?_⟩
    rw [Int.toNat_natCast, Int.one_mul, show (2 : Int) ^ n = ((2 ^ n : Nat) : Int) by rw [Int.natCast_pow]; rfl]
    omega
  unfold faultF
  rw [hsz, if_pos rfl, iz_nat]
  have hst : startF wy n S = none := by
    unfold startF
    rw [List.findSome?_eq_none_iff]
    intro z hz
    obtain ⟨p, g, rfl, hp, hg⟩ := mem_starts2 hz
    unfold stF
    rw [List.findSome?_eq_none_iff]
    intro l hl
    rw [if_pos (by show bitN S l ((g : Int)).toNat = true; rw [Int.toNat_natCast]; exact h1 p g hp hg l hl)]
  have hln : lanesF wy ps nums S ps.length = none := by
    unfold lanesF
    rw [List.findSome?_eq_none_iff]
    intro l hl
    unfold laneF
    rw [List.findSome?_eq_none_iff]
    intro g hg
    have hb : bitN S l g = true := (Yd.memN_mem (Yd.bits_lt _)).mp hg
    by_cases he : (g : Int) = (ps.getD l (0, 0)).2
    · rw [if_pos he]
    · rw [if_neg he]
      obtain ⟨h3, h4⟩ := h2 l g hb (decide_eq_false fun z => he z.symm)
      unfold pairF
      rw [if_neg h3, List.findSome?_eq_none_iff]
      intro z hz
      obtain ⟨h5, h6⟩ := h4 z hz
      unfold wayF
      rw [h5, if_pos rfl, if_neg (by omega)]
  rw [hst, hln]
  rfl
theorem fault_rows {n : Nat} {ps : List (Int × Int)} {nums : List Int} {S : List Nat} {rs : List Rw} (hnl : nums.length = ps.length) (hok : RowsOk n ps rs) (hR : ReaIn ps nums n S) (hE : Ends ps n) (hg : ∀ r ∈ rs, RowG ps nums S r) : faultF (wayOf rs) ps n nums (iz S) = none :=
  fault_none hnl hR.len hR.lt (inv_rows hg).a fun l g hb hf => ⟨rows_way hok hR hE hg hb hf, (inv_rows hg).b g l (bit_g hR.lt hb) hb⟩
theorem InvW.met {n g l : Nat} {ps : List (Int × Int)} {nums : List Int} {S : List Nat} {wy : Oks → Nat} (h : InvW ps nums S n wy) (hg : g < n) (hm : MetA wy ps n g l) : bitN S l g = true :=
  met_all (S := fun z => bitN S z g = true) (fun p hp z hz => h.a p g hp hg z hz) (fun l hl z hz => (h.b g l hg hl z hz).1) hm
theorem fault_met {n : Nat} {ps : List (Int × Int)} {nums : List Int} {S : List Nat} {wy : Oks → Nat} (hnl : nums.length = ps.length) (hwl : ∀ k, ∀ z ∈ wl wy k, z < ps.length) (h : InvW ps nums S n wy) (hlost : lostN wy ps n = none) : faultF wy ps n nums (iz (metN wy ps n n)) = none := by
  have hlt := met_lt wy ps n n (Nat.le_refl _)
  refine fault_none hnl (met_len _ _ _ _) hlt (fun p g hp hg z hz => met_bit_le hg (hwl _ z hz) (first_met hwl hp hz)) fun l g hb hf => ?_
  have hgn := bit_g hlt hb
  have hm : MetA wy ps n g l := met_bit_of hb
  have hl : l < ps.length := by have := bit_len hb; rw [met_len] at this; exact this
  refine ⟨fun e => ?_, fun z hz => ⟨met_bit_le hgn (on_lt hwl g l z hz) (step_met hwl hm hz), (h.b g l hgn (h.met hgn hm) z hz).2⟩⟩
  unfold lostN at hlost
  rw [List.find?_eq_none] at hlost
  have := hlost (l, g) (List.mem_flatMap.mpr ⟨l, List.mem_range.mpr hl, List.mem_map.mpr ⟨g, (Yd.memN_mem (Yd.bits_lt _)).mpr hb, rfl⟩⟩)
  refine this ?_
  show lostB wy ps l g = true
  unfold lostB
  rw [decide_eq_false (of_decide_eq_false hf), e]
  rfl
theorem lost_rows {n : Nat} {ps : List (Int × Int)} {nums : List Int} {S : List Nat} {rs : List Rw} (hok : RowsOk n ps rs) (hR : ReaIn ps nums n S) (hE : Ends ps n) (hg : ∀ r ∈ rs, RowG ps nums S r) : lostN (wayOf rs) ps n = none := by
  unfold lostN
  rw [List.find?_eq_none]
  intro z hz
  obtain ⟨l, hl, hz⟩ := List.mem_flatMap.mp hz
  obtain ⟨g, hg', rfl⟩ := List.mem_map.mp hz
  have hb : ((metN (wayOf rs) ps n n).getD l 0).testBit g = true := (Yd.memN_mem (Yd.bits_lt _)).mp hg'
  have hgn := met_g hb
  have hS := (inv_rows (n := n) hg).met hgn (met_bit_of hb)
  show ¬ lostB (wayOf rs) ps l g = true
  unfold lostB
  by_cases he : (ps.getD l (0, 0)).2 = (g : Int)
  · rw [decide_eq_true he]; simp
  · have := rows_way hok hR hE hg hS (decide_eq_false he)
    cases ho : onN (wayOf rs) ps g l with
    | nil => exact absurd ho this
    | cons _ _ => simp
/-! nothing is met that was not met ahead -/
theorem met_less {n out g l : Nat} {ps : List (Int × Int)} {wy wy' : Oks → Nat} (hwl : ∀ k, ∀ z ∈ wl wy k, z < ps.length) (hW : LessW wy wy' ps n out) (hm : MetA wy' ps n g l) : MetA wy ps n g l :=
  met_all (S := fun z => MetA wy ps n g z) (fun p hp z hz => first_met hwl hp (hW.sub _ z hz)) (fun l hl z hz => step_met hwl hl (by
    unfold onN at hz ⊢
    split at hz
    · cases hz
    · rename_i hne
      rw [if_neg hne]
      exact hW.sub _ z hz)) hm
theorem and_not (a b : Nat) : Builtin.bitAnd (a : Int) (Builtin.bitNot (b : Int)) = (a : Int) - ((a &&& b : Nat) : Int) := by
  unfold Builtin.bitAnd
  have h : Builtin.bitNot (b : Int) = -(b : Int) - 1 := Yd.bitNot_eq _
  have h2 : Builtin.bitNot (Builtin.bitNot (b : Int)) = (b : Int) := by rw [Yd.bitNot_eq, Yd.bitNot_eq]; omega
  rw [decide_eq_true (show 0 ≤ (a : Int) by omega), decide_eq_false (show ¬ 0 ≤ Builtin.bitNot (b : Int) by rw [h]; omega)]
  simp only []
  rw [h2, Int.toNat_natCast, Int.toNat_natCast]
theorem met_sub {n out l : Nat} {ps : List (Int × Int)} {wy wy' : Oks → Nat} (hwl : ∀ k, ∀ z ∈ wl wy k, z < ps.length) (hW : LessW wy wy' ps n out) (hl : l < ps.length) : Builtin.bitAnd (((metN wy' ps n n).getD l 0 : Nat) : Int) (Builtin.bitNot (((metN wy ps n n).getD l 0 : Nat) : Int)) = 0 := by
  rw [and_not]
  have : (metN wy' ps n n).getD l 0 &&& (metN wy ps n n).getD l 0 = (metN wy' ps n n).getD l 0 := by
    refine Nat.eq_of_testBit_eq fun g => ?_
    rw [Nat.testBit_and]
    cases hb : ((metN wy' ps n n).getD l 0).testBit g with
    | false => rfl
    | true => rw [met_bit_le (met_g hb) hl (met_less hwl hW (met_bit_of hb))]; rfl
  rw [this]
  omega
end K73
namespace K73
open PySem L2
def spLaw (K : PySem.W.Frag) : Sp := fun vs H Q _ => ∃ (a : Addr) (ns : List Int), vs = [.ref a] ∧ SqL K H a (ns.map V.int) ∧ ns.length ≤ 63 ∧ ∀ H', Q (.bl true) H'
abbrev NLw : List Str := ["_law_script", "_law_places", "_law_lanes", "_law_numbers_here", "_law_reach_here", "_law_table", "_law_before", "_law_k", "_law_sets"]
def cmpComp (s : Stmt) : Scope := match s with
  | .If (.Compare (.ListComp _ _ sc _) _ _ _) _ _ _ => sc
  | _ => noScope
theorem cut_ints (ns : List Int) (lo hi : Option Int) : cutV (ns.map V.int) lo hi = ((ns.drop (HT.sIx ns.length 0 lo)).take (HT.sIx ns.length ns.length hi - HT.sIx ns.length 0 lo)).map V.int := by
  unfold cutV
  rw [List.length_map, List.map_take, List.map_drop]
theorem good_land {n : Nat} {ps : List (Int × Int)} (hn : 2 ≤ n ∧ n ≤ 12) (hl : ps.length ≤ 40) (h : ∀ q ∈ ps, okP n q = true) : dueOf n ps = .good := by
  unfold dueOf
  rw [decide_eq_true (show (1 : Int) ≤ (n : Int) ∧ (n : Int) ≤ 12 by omega), if_neg (by decide), if_neg (by omega), badIx_none h]
theorem told_way {n : Nat} {ps : List (Int × Int)} {rs : List Rw} {kvs : List Ent} (hok : RowsOk n ps rs) (hp : ps.length ≤ 40) (h : ∀ k, valO kvs k = (lastR rs k).map setV) (k : Oks) : (valO kvs k).getD (.int 0) = .int (wayOf rs k) ∧ wayOf rs k < 2 ^ 400 := by
  constructor
  · rw [h]
    unfold wayOf
    cases lastR rs k with
    | none => rfl
    | some r => rfl
  · unfold wayOf
    cases e : lastR rs k with
    | none => show 0 < 2 ^ 400; decide
    | some r => exact set_lt fun z hz => by have := ixM_le ((hok.lanes r (last_mem e)).1 z hz); omega
theorem wl_told {n : Nat} {ps : List (Int × Int)} {rs : List Rw} (hok : RowsOk n ps rs) (k : Oks) : (∀ z ∈ wl (wayOf rs) k, z < ps.length) ∧ (wl (wayOf rs) k).length ≤ ps.length := by
  have hb := Yd.bits_lt (wayOf rs k)
  have h1 : ∀ z ∈ wl (wayOf rs) k, z < ps.length := by
    intro z hz
    have h := (Yd.memN_mem hb).mp hz
    unfold wayOf at h
    cases e : lastR rs k with
    | none => rw [e] at h; dsimp only at h; rw [Nat.zero_testBit] at h; cases h
    | some r =>
      rw [e] at h
      dsimp only at h
      rw [Yd.setN_bit, Nat.zero_testBit, Bool.false_or] at h
      exact ixM_le ((hok.lanes r (last_mem e)).1 z (of_decide_eq_true h))
  exact ⟨h1, nodup_le _ _ ((Yd.memN_rise _ _).imp fun h => Nat.ne_of_lt h) h1⟩
theorem ends_of {n : Nat} {ps : List (Int × Int)} (h : ∀ q ∈ ps, okP n q = true) : Ends ps n := fun l hl => by
  have hg : ps.getD l (0, 0) = ps[l] := by rw [List.getD_eq_getElem?_getD, List.getElem?_eq_getElem hl]; rfl
  have h1 := h ps[l] (List.getElem_mem hl)
  rw [hg]
  unfold okP at h1
  simp only [Bool.and_eq_true, decide_eq_true_eq] at h1
  exact ⟨(ps[l]).2.toNat, by omega, by omega⟩
theorem less_tab {P : Program} {w : World} {c : Cs} {LC z dz x dx lt de cu : Addr} {H : Hp} {n out : Nat} {tvs : List V} {ps : List (Int × Int)} {wy wy' : Oks → Nat} {kvs : List Ent} (hz : H z = some (.ins LC dz [("land", .ref x), ("entries", .ref de), ("cut", .ref cu)])) (hd : DicAt P w H de kvs) (hv : ∀ k, (valO kvs k).getD (.int 0) = .int (wy' k) ∧ wy' k < 2 ^ 400) (hW : LessW wy wy' ps n out) (hL : LandAt H c x dx lt n tvs ps) (hn : n ≤ 12) (hp : ps.length ≤ 40) (hok : ∀ k, ∀ z ∈ wl wy k, z < ps.length) :
    TabIn c LC (LessAt P w LC) H z x dx lt n tvs ps wy' :=
  ⟨⟨dz, de, _, kvs, hz, rfl, rfl, hd, hv⟩, ⟨dz, _, hz, rfl⟩, hL, hn, hp, less_ok hW hok, fun k => Nat.le_trans (wl_few (less_ok hW hok) k) hp⟩
def spLessU (P : Program) (w : World) (c : Cs) (ts : Ts) (LC : Addr) : Sp := fun vs H Q E => spLess P w c ts.told LC (ToldAt P w ts) vs H Q E ∨ spLess P w c LC LC (LessAt P w LC) vs H Q E
structure Fns (P : Program) (w : World) (K : PySem.W.Frag) (mg : Str → Option Value) (base : Heap) (c : Cs) (ts : Ts) (LC : Addr) (fl fn fe fr fi ft fz fs fm fo ff fd fw fw' : Addr) (dl dn de dr di dt dz ds dm d_o df dd dw dw' : FuncData) : Prop where
  ml : mg "_law_land" = some (.ref fl)
  kl : PySem.W.keepIn K (.ref fl) = true
  bl : Binds K dl ["_law_script"] []
  Gl : FnOk P w K mg base CX0 2 fl dl ["_law_script"] (spLand K)
  mn : mg "_law_numbers" = some (.ref fn)
  kn : PySem.W.keepIn K (.ref fn) = true
  bn : Binds K dn ["_law_script", "_law_lanes"] []
  Gn : FnOk P w K mg base CX0 2 fn dn ["_law_script", "_law_lanes"] (spNums K)
  me : mg "_law_reach" = some (.ref fe)
  ke : PySem.W.keepIn K (.ref fe) = true
  be : Binds K de ["_law_lanes", "_law_numbers_here"] []
  Ge : FnOk P w K mg base CX0 1 fe de ["_law_lanes", "_law_numbers_here"] (spReach K)
  mr : mg "_law_rows" = some (.ref fr)
  kr : PySem.W.keepIn K (.ref fr) = true
  br : Binds K dr ["_law_script", "_law_places", "_law_lanes", "_law_numbers_here", "_law_reach_here"] []
  Gr : FnOk P w K mg base CX0 2 fr dr ["_law_script", "_law_places", "_law_lanes", "_law_numbers_here", "_law_reach_here"] (spRows K)
  mi : mg "Land" = some (.ref c.land)
  Mi : Mk K c.land fi
  bi : Binds K di ["self", "places", "lanes"] []
  Gi : FnOk P w K mg base (CXe P w) 4 fi di ["self", "places", "lanes"] (spInit K c)
  mt : mg "Told" = some (.ref ts.told)
  Mt : Mk K ts.told ft
  bt : Binds K dt ["self", "land", "rows"] []
  Gt : FnOk P w K mg base (CXe P w) 5 ft dt ["self", "land", "rows"] (spTold P w K c ts)
  mz : mg "_law_set" = some (.ref fz)
  kz : PySem.W.keepIn K (.ref fz) = true
  bz : Binds K dz ["_law_script", "_law_k"] []
  Gz : FnOk P w K mg base CX0 2 fz dz ["_law_script", "_law_k"] (spLSet K)
  ms : mg "Less" = some (.ref LC)
  Ms : Mk K LC fs
  bs : Binds K ds ["self", "table", "out"] []
  Gs : FnOk P w K mg base CX0 6 fs ds ["self", "table", "out"] (spLessU P w c ts LC)
  mm : mg "met" = some (.ref fm)
  km : PySem.W.keepIn K (.ref fm) = true
  bm : Binds K dm ["table"] []
  Gm : FnOk P w K mg base CX0 6 fm dm ["table"] (spMet c ts.told (ToldAt P w ts))
  Gm' : FnOk P w K mg base CX0 6 fm dm ["table"] (spMet c LC (LessAt P w LC))
  mo : mg "lost" = some (.ref fo)
  ko : PySem.W.keepIn K (.ref fo) = true
  bo : Binds K d_o ["table"] []
  Go : FnOk P w K mg base CX0 7 fo d_o ["table"] (spLost c LC (LessAt P w LC))
  mf : mg "fault" = some (.ref ff)
  kf : PySem.W.keepIn K (.ref ff) = true
  bf : Binds K df ["table", "paper"] []
  Gf : FnOk P w K mg base CX0 7 ff df ["table", "paper"] (spFault K c ts.told (ToldAt P w ts))
  Gf' : FnOk P w K mg base CX0 7 ff df ["table", "paper"] (spFault K c LC (LessAt P w LC))
  md : mg "_law_draw" = some (.ref fd)
  kd : PySem.W.keepIn K (.ref fd) = true
  bd : Binds K dd ["_law_script", "_law_k"] []
  Gd : FnOk P w K mg base CX0 1 fd dd ["_law_script", "_law_k"] (spDraw K)
  W : Way K ts.told fw dw (ToldAt P w ts)
  Lc : LsC K LC fw' dw'
section
variable {P : Program} {w : World} {K : PySem.W.Frag} {mg : Str → Option Value} {base : Heap}
theorem scLw : FnScope NLw ["_law_script"] (defScope sLaw) := ⟨rfl, rfl, rfl, by decide +kernel, rfl, by decide +kernel, by decide +kernel⟩
theorem bkLw : Blk NLw (defScope sLaw) (cmpComp ((forBody ((defBody sLaw).getD 7 (.Pass ⟨0, 0, 0, 0⟩))).getD 3 (.Pass ⟨0, 0, 0, 0⟩))) ["_law_sets", "_law_before"] [8, 6] := ⟨rfl, by decide +kernel, by decide +kernel, by decide +kernel, rfl, by decide +kernel⟩
theorem ndLw : (["_law_lane", "_law_sets", "_law_before"] : List Str).Nodup := by decide +kernel
theorem ok_law {c : Cs} {ts : Ts} {LC f fl fn fe fr fi ft fz fs fm fo ff fd fw fw' : Addr} {df dl dn de dr di dt dz ds dm d_o df' dd dw dw' : FuncData} (F : Fun K "law" "law" sLaw f df) (T : Txt mg) (D : Fns P w K mg base c ts LC fl fn fe fr fi ft fz fs fm fo ff fd fw fw' dl dn de dr di dt dz ds dm d_o df' dd dw dw') :
    FnOk P w K mg base CX0 8 f df ["_law_script"] (spLaw K) := by
  refine F.ok scLw (fun vs H Q E h => ?_) (fun cdv A outer s H vs Q E hr h => ?_)
  · obtain ⟨a, ns, rfl, _⟩ := h
    rfl
  · obtain ⟨a, ns, rfl, hS, hlen, q⟩ := h
    have hu := hr.units
    have hr1 : Room 1 _ := hr.mono (by decide)
    have hr2 : Room 2 _ := hr.mono (by decide)
    have hr5 : Room 5 _ := hr.mono (by decide)
    have hr6 : Room 6 _ := hr.mono (by decide)
    refine ⟨_, pss_cons (ps_set (i := 0) scLw.nd rfl (Or.inl rfl) (pe_slice sl_list (pv 0) po_none (po_some pe_int)))
      (pss_cons (ps_asg (pe_call D.Gl hr2 rfl D.ml D.kl D.bl .nil pass0 (pa_cons (pv 0) pa_nil)) (pg_tup rfl (pgs_cons (pg_name (i := 1) scLw.nd rfl (Or.inl rfl)) (pgs_cons (pg_name (i := 2) scLw.nd rfl (Or.inl rfl)) pgs_nil))))
      (pss_cons (ps_set (i := 3) scLw.nd rfl (Or.inl rfl) (pe_call D.Gn hr2 rfl D.mn D.kn D.bn .nil pass0 (pa_cons (pv 0) (pa_cons (pv 2) pa_nil))))
      (pss_cons (ps_set (i := 4) scLw.nd rfl (Or.inl rfl) (pe_call D.Ge hr1 rfl D.me D.ke D.be .nil pass0 (pa_cons (pv 2) (pa_cons (pv 3) pa_nil))))
      (pss_cons (ps_set (i := 5) scLw.nd rfl (Or.inl rfl) (pe_make D.Mt D.Gt hr6 rfl D.mt D.bt .nil passE0 (pa_cons (pe_make D.Mi D.Gi hr5 rfl D.mi D.bi .nil passE0 (pa_cons (pv 1) (pa_cons (pv 2) pa_nil))) (pa_cons (pe_call D.Gr hr2 rfl D.mr D.kr D.br .nil pass0 (pa_cons (pv 0) (pa_cons (pv 1) (pa_cons (pv 2) (pa_cons (pv 3) (pa_cons (pv 4) pa_nil)))))) pa_nil))))
      (pss_cons (ps_if (PW.pt (pw_or (pt_cmpR op_notN (pe_call D.Gf hr rfl D.mf D.kf D.bf .nil pass0 (pa_cons (pv 5) (pa_cons (pe_tup (pa_cons (pv 3) (pa_cons (pv 4) pa_nil))) pa_nil))) pe_non (nomark _)) (pw_or1 (pt_cmpR op_notN (pe_call D.Gf hr rfl D.mf D.kf D.bf .nil pass0 (pa_cons (pv 5) (pa_cons (pe_tup (pa_cons (pe_callTy call_tuple_of rfl T.tuple PySem.Pv.boot_tuple (pa_cons (pv 3) pa_nil)) (pa_cons (pe_call D.Gm hr6 rfl D.mm D.km D.bm .nil pass0 (pa_cons (pv 5) pa_nil)) pa_nil))) pa_nil))) pe_non (nomark _))))) (pss_one (ps_ret pe_bl)) pss_nil)
      (pss_cons (ps_set (i := 6) scLw.nd rfl (Or.inr rfl) (pe_call D.Gm hr6 rfl D.mm D.km D.bm .nil pass0 (pa_cons (pv 5) pa_nil)))
      (pss_cons (ps_for PassesOwn.never rfl (pi_range1 rfl T.range (pa_cons (pe_op op_mod (pe_call D.Gd hr1 rfl D.md D.kd D.bd .nil pass0 (pa_cons (pv 0) (pa_cons pe_int pa_nil))) pe_int) pa_nil)) (pg_name (i := 7) scLw.nd rfl (Or.inl rfl))
        (pss_cons (ps_set (i := 5) scLw.nd rfl (Or.inl rfl) (pe_make D.Ms D.Gs hr rfl D.ms D.bs .nil pass0 (pa_cons (pv 5) (pa_cons (pe_call D.Gz hr2 rfl D.mz D.kz D.bz .nil pass0 (pa_cons (pv 0) (pa_cons (pe_op op_add pe_int (pe_op op_mul pe_int (pv 7))) pa_nil))) pa_nil))))
        (pss_cons (ps_set (i := 8) scLw.nd rfl (Or.inr rfl) (pe_call D.Gm' hr6 rfl D.mm D.km D.bm .nil pass0 (pa_cons (pv 5) pa_nil)))
        (pss_cons (ps_if (PW.pt (pw_or (pt_cmpR op_notN (pe_call D.Go hr rfl D.mo D.ko D.bo .nil pass0 (pa_cons (pv 5) pa_nil)) pe_non (nomark _)) (pw_or1 (pt_cmpR op_notN (pe_call D.Gf' hr rfl D.mf D.kf D.bf .nil pass0 (pa_cons (pv 5) (pa_cons (pe_tup (pa_cons (pe_callTy call_list_of rfl T.list PySem.Pv.boot_list (pa_cons (pv 3) pa_nil)) (pa_cons (pv 8) pa_nil))) pa_nil))) pe_non (nomark _))))) (pss_one (ps_ret pe_bl)) pss_nil)
        (pss_cons (ps_if (pt_cmpR (op_neI hu) (pe_comp (own := ["_law_lane"]) (capN := ["_law_sets", "_law_before"]) (cap := [8, 6]) bkLw rfl (pi_range1 rfl T.range (pa_cons (pe_callB call_len_seq rfl T.len PySem.boot_len (pa_cons (pv 2) pa_nil)) pa_nil))
            (fun C s' H' fp => ⟨pg_name (i := 0) ndLw rfl (Or.inl rfl), pts_one (pt_cmpR op_ne (pe_op op_and (pe_ix (show IxR _ (rIxT K) from ix_tup) (pv 1) (pv 0) (fun _ _ => rfl)) (pe_un un_inv (pe_ix (show IxR _ (rIxT K) from ix_tup) (pv 2) (pv 0) (fun _ _ => rfl)))) pe_int (nomark _)), pv 0⟩)) (pe_lst pa_nil) (nomark _)) (pss_one (ps_ret pe_bl)) pss_nil)
        (pss_one (ps_set (i := 6) scLw.nd rfl (Or.inr rfl) (pv 8))))))))
      (pss_one (ps_ret pe_bl))))))))), ?_⟩
    -- 0. the script, cut
    refine ⟨_, rfl, _, rfl, a, _, rfl, hS, fun p0 hp0 => ?_⟩
    rw [cut_ints]
    generalize (ns.drop (HT.sIx ns.length 0 none)).take (HT.sIx ns.length ns.length (some 63) - HT.sIx ns.length 0 none) = ms
    have g0 : SqL K (upd H p0 (.lst (ms.map V.int))) p0 (ms.map V.int) := SqL.of upd_same
    generalize upd H p0 (.lst (ms.map V.int)) = H0 at g0 ⊢
    -- 1. the land that is drawn
    refine ⟨_, rfl, p0, ms, rfl, g0, fun t0 l n lvs ps H1 s1 gt gl hLn hpl hn hokp => ?_⟩
    refine ⟨t0, _, rfl, SqT.of gt, rfl, _, _, rfl, _, _, rfl, rfl, ?_⟩
    have hll : lvs.length = ps.length := Paired.length hLn
    have hE := ends_of hokp
    -- 2. the numbers
    refine ⟨_, rfl, _, rfl, p0, l, ms, lvs, rfl, s1.seq g0, gl, by omega, fun Nu nums H2 s2 hNu gNu hnl => ?_⟩
    have hnl' : nums.length = ps.length := by omega
    -- 3. what they lead to
    refine ⟨_, rfl, _, rfl, l, Nu, lvs, ps, nums, n, rfl, s2 _ _ gl, Lns.same s2 hLn, gNu, hnl', hpl, hn.2, hE, fun Re S H3 s3 hRe gRe hR => ?_⟩
    have s03 := (s1.trans s2).trans s3
    have gl3 := s3 _ _ (s2 _ _ gl)
    have hLn3 := Lns.same s3 (Lns.same s2 hLn)
    have gN3 := s3 _ _ gNu
    -- 4. the land, the rows, the table
    refine ⟨_, rfl, _, rfl, fun x dx nx ndx nex => ?_⟩
    have s3' : Same H3 (upd (upd H3 dx (.own x)) x (.ins c.land dx [])) := Same.new (Same.new (Same.refl H3) ndx) (by rw [upd_ne (Ne.symm nex)]; exact nx)
    have gd := good_land hn hpl hokp
    refine ⟨x, dx, (n : Int), l, lvs, ps, rfl, upd_same, SqL.of (s3' _ _ gl3), Lns.same s3' hLn3, by omega, (fun h => by rw [gd] at h; cases h), (fun k h => by rw [gd] at h; cases h), (fun k h => by rw [gd] at h; cases h), fun _ H4 lt tvs off hL4 => ⟨rfl, ?_⟩⟩
    have s34 : Same H3 H4 := fun b o z => off b o (ne_of_none z nx) (s3' _ _ z)
    have s04 := s03.trans s34
    refine ⟨_, rfl, _, rfl, _, rfl, _, rfl, _, rfl, p0, l, Nu, Re, ms, n, lvs, ps, nums, S, rfl, s04.seq g0, s34 _ _ gl3, Lns.same s34 hLn3, hpl, hn, s34 _ _ gN3, hnl', s34 _ _ gRe, hR.len, fun p rvs rs H5 s5 gp hRw hok hrg hrl => ?_⟩
    have hrr : rvs.length = rs.length := Paired.length hRw
    have s05 := s04.trans s5
    have s35 := s34.trans s5
    have hL : LandAt H5 c x dx lt n tvs ps := ⟨s5 _ _ hL4.1, s5 _ _ hL4.2.1, Lns.same s5 hL4.2.2⟩
    refine fun y dy ny ndy ney => ?_
    have s5' : Same H5 (upd (upd H5 dy (.own y)) y (.ins ts.told dy [])) := Same.new (Same.new (Same.refl H5) ndy) (by rw [upd_ne (Ne.symm ney)]; exact ny)
    have hgood := rows_good hok
    refine ⟨y, dy, x, dx, lt, p, (n : Int), tvs, rvs, ps, rs, rfl, upd_same, ⟨s5' _ _ hL.1, s5' _ _ hL.2.1, Lns.same s5' hL.2.2⟩, SqL.of (s5' _ _ gp), Rws.same s5' hRw, by omega, by omega, (fun r hr => ⟨fun k hk => by have := ixM_le ((hok.lanes r hr).1 k hk); omega, by have := (hok.lanes r hr).2; omega⟩), (fun i hi => by rw [hgood] at hi; cases hi), fun _ H6 de' kvs off6 hy hdic hval => ⟨rfl, ?_⟩⟩
    have s6 : Same H5 H6 := fun b o z => off6 b o (ne_of_none z ny) (s5' _ _ z)
    have hJ : ToldAt P w ts H6 y (wayOf rs) := ⟨dy, de', _, kvs, hy, hdic, told_way hok hpl hval⟩
    have hL6 : LandAt H6 c x dx lt n tvs ps := ⟨s6 _ _ hL.1, s6 _ _ hL.2.1, Lns.same s6 hL.2.2⟩
    have hok' := fun k => (wl_told hok k).1
    have told : ∀ {H' : Hp}, Same H6 H' → TabIn c ts.told (ToldAt P w ts) H' y x dx lt n tvs ps (wayOf rs) := fun {H'} s' => ⟨D.W.stay _ _ _ _ hJ s', ⟨dy, _, s' _ _ hy, rfl⟩, ⟨s' _ _ hL6.1, s' _ _ hL6.2.1, Lns.same s' hL6.2.2⟩, hn.2, hpl, hok', fun k => Nat.le_trans (wl_told hok k).2 hpl⟩
    have s36 := s35.trans s6
    have gN6 := s36 _ _ gN3
    have gR6 := s36 _ _ gRe
    have gl6 := s36 _ _ gl3
    have sq6 : SqL K H6 p0 (ms.map V.int) := (s05.trans s6).seq g0
    have hSlen := hR.len
    have izl : ∀ S' : List Nat, S'.length = ps.length → (iz S').length ≤ 1000 := fun S' h => by unfold iz; rw [List.length_map]; omega
    -- 5. the papers have no fault
    refine ⟨_, rfl, _, rfl, _, rfl, by show 2 ≤ sizeLine; decide, fun pa hpa => ?_⟩
    have s67 := (Same.refl H6).new (o := .tup [.ref Nu, .ref Re]) hpa
    have gpa : (upd H6 pa (.tup [.ref Nu, .ref Re])) pa = some (.tup [.ref Nu, .ref Re]) := upd_same
    generalize upd H6 pa (.tup [.ref Nu, .ref Re]) = H7 at s67 gpa ⊢
    refine ⟨y, x, dx, lt, pa, Nu, Re, n, tvs, ps, wayOf rs, nums, iz S, rfl, told s67, gpa, .inl (SqL.of (s67 _ _ gN6)), .inl (by rw [← natV_iz]; exact SqL.of (s67 _ _ gR6)), izl S hSlen, fun v1 H8 s78 hv1 => ?_⟩
    rw [fault_rows hnl' hok hR hE hrg] at hv1
    have hv1 : v1 = .non := hv1
    subst hv1
    refine ⟨rfl, _, rfl, iteF ?_⟩
    have s68 := s67.trans s78
    refine ⟨_, rfl, _, rfl, Nu, _, rfl, .inl ⟨SqL.of (s68 _ _ gN6), fun tu htu => ?_⟩⟩
    have s69 := s68.new (o := .tup (nums.map V.int)) htu
    have gtu : (upd H8 tu (.tup (nums.map V.int))) tu = some (.tup (nums.map V.int)) := upd_same
    generalize upd H8 tu (.tup (nums.map V.int)) = H9 at s69 gtu ⊢
    refine ⟨_, rfl, y, x, dx, lt, n, tvs, ps, wayOf rs, rfl, told s69, fun M1 Ha sa hM1 gM1 => ?_⟩
    have s6a := s69.trans sa
    refine ⟨by show 2 ≤ sizeLine; decide, fun pb hpb => ?_⟩
    have sab := (Same.refl Ha).new (o := .tup [.ref tu, .ref M1]) hpb
    have gpb : (upd Ha pb (.tup [.ref tu, .ref M1])) pb = some (.tup [.ref tu, .ref M1]) := upd_same
    generalize upd Ha pb (.tup [.ref tu, .ref M1]) = Hb at sab gpb ⊢
    refine ⟨y, x, dx, lt, pb, tu, M1, n, tvs, ps, wayOf rs, nums, iz (metN (wayOf rs) ps n n), rfl, told (s6a.trans sab), gpb, .inr (SqT.of (sab _ _ (sa _ _ gtu))), .inr (by rw [← natV_iz]; exact SqT.of (sab _ _ gM1)), izl _ (met_len _ _ _ _), fun v2 Hc sbc hv2 => ?_⟩
    rw [fault_met hnl' hok' (inv_rows hrg) (lost_rows hok hR hE hrg)] at hv2
    have hv2 : v2 = .non := hv2
    subst hv2
    refine ⟨rfl, _, rfl, iteF ?_⟩
    have s6c := s6a.trans (sab.trans sbc)
    -- 6. what is met
    refine ⟨_, rfl, y, x, dx, lt, n, tvs, ps, wayOf rs, rfl, told s6c, fun Bf Hd scd hBf gBf => ?_⟩
    have s6d := s6c.trans scd
    -- 7. what is left, again and again
    refine ⟨_, rfl, p0, ms, 3, rfl, s6d.seq sq6, by decide, by decide, fun d He sde => ⟨_, _, rfl, rfl, (by show (0 : Int) < 4; decide), ?_⟩⟩
    have s6e := s6d.trans sde
    obtain ⟨m, hm, hm4⟩ : ∃ m : Nat, d % 4 = (m : Int) ∧ m ≤ 4 := ⟨(d % 4).toNat, by omega, by omega⟩
    refine ⟨d % 4, rfl, by omega, by omega, ?_⟩
    rw [hm, Int.toNat_natCast]
    refine for_range (n := m) (fun i σ Hf => ∃ (tb bf : Addr) (a7 a8 : Option V) (wy : Oks → Nat), Same H6 Hf ∧ (TabIn c ts.told (ToldAt P w ts) Hf tb x dx lt n tvs ps wy ∨ TabIn c LC (LessAt P w LC) Hf tb x dx lt n tvs ps wy) ∧ InvW ps nums S n wy ∧ Hf bf = some (.tup (nV (metN wy ps n n))) ∧ σ = [some (.ref p0), some (.int n), some (.ref l), some (.ref Nu), some (.ref Re), some (.ref tb), some (.ref bf), a7, a8])
      ⟨y, Bf, none, none, wayOf rs, s6e, .inl (told s6e), inv_rows hrg, sde _ _ gBf, rfl⟩ ?_ ?_
    rotate_left
    · rintro σ Hf ⟨tb, bf, a7, a8, wy, sf, hT, hI, gbf, rfl⟩
      exact q _
    rintro i σ Hf hi ⟨tb, bf, a7, a8, wy, sf, hT, hI, gbf, rfl⟩
    rw [Int.zero_add]
    refine ⟨_, rfl, _, rfl, _, rfl, _, _, rfl, rfl, .inl ⟨by decide, by decide⟩, _, _, rfl, rfl, p0, ms, _, rfl, sf.seq sq6, by omega, by omega, fun out Hg sfg => ?_⟩
    have sg := sf.trans sfg
    refine fun z dz nz ndz nez => ?_
    have sgh : Same Hg (upd (upd Hg dz (.own z)) z (.ins LC dz [])) := Same.new (Same.new (Same.refl Hg) ndz) (by rw [upd_ne (Ne.symm nez)]; exact nz)
    have hwl : ∀ k, ∀ z ∈ wl wy k, z < ps.length := hT.elim (fun h => h.ok) fun h => h.ok
    refine (fun rest => hT.elim (fun h => Or.inl ⟨z, dz, tb, x, dx, lt, n, tvs, ps, wy, out, rfl, upd_same, h.same D.W (sfg.trans sgh), rest⟩) (fun h => Or.inr ⟨z, dz, tb, x, dx, lt, n, tvs, ps, wy, out, rfl, upd_same, h.same D.Lc.way (sfg.trans sgh), rest⟩)) ?_
    refine fun Hh deL cu kvL cvs wy' off hz hdL hvL hW _ _ => ⟨rfl, ?_⟩
    have sh : Same Hg Hh := fun b o e => off b o (ne_of_none e nz) (sgh _ _ e)
    have s6h := sg.trans sh
    have tabL : TabIn c LC (LessAt P w LC) Hh z x dx lt n tvs ps wy' := less_tab hz hdL hvL hW (told s6h).l hn.2 hpl hwl
    have hok2 := tabL.ok
    have hI' := hI.less hW
    have hlost := lost_less hwl hE hW
    -- what is met there
    refine ⟨_, rfl, z, x, dx, lt, n, tvs, ps, wy', rfl, tabL, fun Se Hi shi hSe gSe => ?_⟩
    have s6i := s6h.trans shi
    have gbi := shi _ _ (sh _ _ (sfg _ _ gbf))
    -- no pair is lost, and the paper has no fault
    refine ⟨_, rfl, z, x, dx, lt, n, tvs, ps, wy', rfl, tabL.same D.Lc.way shi, fun lv Hj sij hlv => ?_⟩
    rw [hlost] at hlv
    have hlv : lv = .non := hlv
    subst hlv
    refine ⟨rfl, _, rfl, iteF ?_⟩
    have s6j := s6i.trans sij
    have shj := shi.trans sij
    refine ⟨_, rfl, _, rfl, Nu, _, rfl, .inl (SqL.of (s6j _ _ gN6)), fun li hli => ?_⟩
    have sjk := (Same.refl Hj).new (o := .lst (nums.map V.int)) hli
    have gli : (upd Hj li (.lst (nums.map V.int))) li = some (.lst (nums.map V.int)) := upd_same
    generalize upd Hj li (.lst (nums.map V.int)) = Hk at sjk gli ⊢
    refine ⟨_, rfl, by show 2 ≤ sizeLine; decide, fun pc hpc => ?_⟩
    have skl := (Same.refl Hk).new (o := .tup [.ref li, .ref Se]) hpc
    have gpc : (upd Hk pc (.tup [.ref li, .ref Se])) pc = some (.tup [.ref li, .ref Se]) := upd_same
    generalize upd Hk pc (.tup [.ref li, .ref Se]) = Hl at skl gpc ⊢
    have sil := sij.trans (sjk.trans skl)
    have shl := shi.trans sil
    have gSl := sil _ _ gSe
    refine ⟨z, x, dx, lt, pc, li, Se, n, tvs, ps, wy', nums, iz (metN wy' ps n n), rfl, tabL.same D.Lc.way shl, gpc, .inl (SqL.of (skl _ _ gli)), .inr (by rw [← natV_iz]; exact SqT.of gSl), izl _ (met_len _ _ _ _), fun v3 Hm slm hv3 => ?_⟩
    rw [fault_met hnl' hok2 hI' hlost] at hv3
    have hv3 : v3 = .non := hv3
    subst hv3
    refine ⟨rfl, _, rfl, iteF ?_⟩
    have sim := sil.trans slm
    have s6m := s6i.trans sim
    have gSm := sim _ _ gSe
    have gbm := sim _ _ gbi
    -- nothing is met that was not met ahead
    refine ⟨_, rfl, l, _, rfl, .inl (SqL.of (s6m _ _ gl6)), (lvs.length : Int), rfl, by omega, by omega, ?_⟩
    rw [Int.toNat_natCast, hll]
    refine comp_rng (fun _ => false) (fun j : Nat => V.int (0 + (j : Int))) (by rw [PySem.sizeLine_eq]; omega) (fun j acc N hj h => ?_) fun C0 hC0 => ?_
    · have hb1 : atI (nV (metN wy' ps n n)) (0 + (j : Int)) = some (.int (((metN wy' ps n n).getD j 0 : Nat) : Int)) := by rw [Int.zero_add]; exact atS (by rw [met_len]; exact hj)
      have hb2 : atI (nV (metN wy ps n n)) (0 + (j : Int)) = some (.int (((metN wy ps n n).getD j 0 : Nat) : Int)) := by rw [Int.zero_add]; exact atS (by rw [met_len]; exact hj)
      refine ⟨_, rfl, _, rfl, Se, _, _, _, rfl, rfl, SqT.of gSm, hb1, _, rfl, _, rfl, bf, _, _, _, rfl, rfl, SqT.of gbm, hb2, _, rfl, _, _, rfl, rfl, rfl, _, rfl, ?_⟩
      rw [int_eq, met_sub hwl hW hj, decide_eq_true rfl]
      exact iteF h
    rw [show (List.range ps.length).filter (fun _ => false) = [] from List.filter_eq_nil_iff.mpr fun _ _ => by decide]
    have smn := (Same.refl Hm).new (o := .lst ([].map fun j : Nat => V.int (0 + (j : Int)))) hC0
    have gC0 : (upd Hm C0 (.lst ([].map fun j : Nat => V.int (0 + (j : Int))))) C0 = some (.lst []) := upd_same
    generalize upd Hm C0 (.lst ([].map fun j : Nat => V.int (0 + (j : Int)))) = Hn at smn gC0 ⊢
    refine ⟨Nat.zero_le _, fun e1 he1 => ?_⟩
    have sno := (Same.refl Hn).new (o := .lst []) he1
    refine ⟨C0, e1, [], [], rfl, rfl, SqL.of (sno _ _ gC0), SqL.of upd_same, _, rfl, ?_⟩
    generalize upd Hn e1 (.lst []) = Ho at sno ⊢
    rw [decide_eq_true rfl]
    refine iteF ?_
    have smo := smn.trans sno
    have s6o := s6m.trans smo
    exact ⟨_, rfl, z, Se, _, _, wy', s6o, .inr (tabL.same D.Lc.way (shi.trans (sim.trans smo))), hI', smo _ _ gSm, rfl⟩
end
end K73
namespace K73
open PySem L2
theorem len_of1 {α : Type} {P : List α → Prop} (h : ∀ a0, P [a0]) : ∀ us : List α, us.length = 1 → P us
  | [a0], _ => h a0
theorem len_of2 {α : Type} {P : List α → Prop} (h : ∀ a0 a1, P [a0, a1]) : ∀ us : List α, us.length = 2 → P us
  | [a0, a1], _ => h a0 a1
theorem len_of3 {α : Type} {P : List α → Prop} (h : ∀ a0 a1 a2, P [a0, a1, a2]) : ∀ us : List α, us.length = 3 → P us
  | [a0, a1, a2], _ => h a0 a1 a2
theorem len_of4 {α : Type} {P : List α → Prop} (h : ∀ a0 a1 a2 a3, P [a0, a1, a2, a3]) : ∀ us : List α, us.length = 4 → P us
  | [a0, a1, a2, a3], _ => h a0 a1 a2 a3
theorem len_of5 {α : Type} {P : List α → Prop} (h : ∀ a0 a1 a2 a3 a4, P [a0, a1, a2, a3, a4]) : ∀ us : List α, us.length = 5 → P us
  | [a0, a1, a2, a3, a4], _ => h a0 a1 a2 a3 a4
theorem all_mk {l : PySem.W.OpenLaw} {w : World} {K : PySem.W.Frag} {h : Heap} {mg : Str → Option Value} {fa cL cN cT cR cE cB cD cS f1 f2 f3 f4 f5 f6 f7 f8 f9 f10 f11 f12 f13 f14 f15 f16 f17 f18 f19 f20 f21 f22 f23 f24 f25 f26 f27 f28 f29 f30 f31 f32 f33 f34 f35 f36 f37 f38 f39 f40 f41 f42 : Addr} {t1 t2 : Tok} (X : K.In h) (G : h.Ns mainGlobals mg) (hfa : mg "law" = some (.ref fa))
    {od1 an1 od2 an2 od3 an3 od4 an4 od5 an5 od6 an6 od7 an7 od8 an8 od9 an9 od10 an10 od11 an11 od12 an12 od13 an13 od14 an14 od15 an15 od16 an16 od17 an17 od18 an18 od19 an19 od20 an20 od21 an21 od22 an22 od23 an23 od24 an24 od25 an25 od26 an26 od27 an27 od28 an28 od29 an29 od30 an30 od31 an31 od32 an32 od33 an33 od34 an34 od35 an35 od36 an36 od37 an37 od38 an38 od39 an39 od40 an40 od41 an41 od42 an42 : Option Addr} {sl1 sl2 sl3 sl4 sl5 sl6 sl7 sl8 sl9 sl10 sl11 sl12 sl13 sl14 sl15 sl16 sl17 sl18 sl19 sl20 sl21 sl22 sl23 sl24 sl25 sl26 sl27 sl28 sl29 sl30 sl31 sl32 sl33 sl34 sl35 sl36 sl37 sl38 sl39 sl40 sl41 sl42 : Array (Option Value)} {oc1 kV1 dc1 pm1 cd1 ct1 oc2 kV2 dc2 pm2 cd2 ct2 oc3 kV3 dc3 pm3 cd3 ct3 oc4 kV4 dc4 pm4 cd4 ct4 oc5 kV5 dc5 pm5 cd5 ct5 oc6 kV6 dc6 pm6 cd6 ct6 oc7 kV7 dc7 pm7 cd7 ct7 oc8 kV8 dc8 pm8 cd8 ct8 oc9 kV9 dc9 pm9 cd9 ct9 oc10 kV10 dc10 pm10 cd10 ct10 oc11 kV11 dc11 pm11 cd11 ct11 oc12 kV12 dc12 pm12 cd12 ct12 oc13 kV13 dc13 pm13 cd13 ct13 oc14 kV14 dc14 pm14 cd14 ct14 oc15 kV15 dc15 pm15 cd15 ct15 oc16 kV16 dc16 pm16 cd16 ct16 oc17 kV17 dc17 pm17 cd17 ct17 oc18 kV18 dc18 pm18 cd18 ct18 oc19 kV19 dc19 pm19 cd19 ct19 oc20 kV20 dc20 pm20 cd20 ct20 oc21 kV21 dc21 pm21 cd21 ct21 oc22 kV22 dc22 pm22 cd22 ct22 oc23 kV23 dc23 pm23 cd23 ct23 oc24 kV24 dc24 pm24 cd24 ct24 oc25 kV25 dc25 pm25 cd25 ct25 oc26 kV26 dc26 pm26 cd26 ct26 oc27 kV27 dc27 pm27 cd27 ct27 oc28 kV28 dc28 pm28 cd28 ct28 oc29 kV29 dc29 pm29 cd29 ct29 oc30 kV30 dc30 pm30 cd30 ct30 oc31 kV31 dc31 pm31 cd31 ct31 oc32 kV32 dc32 pm32 cd32 ct32 oc33 kV33 dc33 pm33 cd33 ct33 oc34 kV34 dc34 pm34 cd34 ct34 oc35 kV35 dc35 pm35 cd35 ct35 oc36 kV36 dc36 pm36 cd36 ct36 oc37 kV37 dc37 pm37 cd37 ct37 oc38 kV38 dc38 pm38 cd38 ct38 oc39 kV39 dc39 pm39 cd39 ct39 oc40 kV40 dc40 pm40 cd40 ct40 oc41 kV41 dc41 pm41 cd41 ct41 oc42 kV42 dc42 pm42 cd42 ct42 : Value}
    (gcL : PySem.W.nsIn K mainGlobals "Land" = some (some (.ref cL)))
    (gcN : PySem.W.nsIn K mainGlobals "NoPlaces" = some (some (.ref cN)))
    (gcT : PySem.W.nsIn K mainGlobals "TooMany" = some (some (.ref cT)))
    (gcR : PySem.W.nsIn K mainGlobals "NoRoad" = some (some (.ref cR)))
    (gcE : PySem.W.nsIn K mainGlobals "NoEntry" = some (some (.ref cE)))
    (gcB : PySem.W.nsIn K mainGlobals "Table" = some (some (.ref cB)))
    (gcD : PySem.W.nsIn K mainGlobals "Told" = some (some (.ref cD)))
    (gcS : PySem.W.nsIn K mainGlobals "Less" = some (some (.ref cS)))
    (a1 : PySem.W.nsIn K mainGlobals "has" = some (some (.ref f1)))
    (l1 : K.lookup f1 = some ⟨oc1, od1, .func (PySem.W.fnOf "has" "has" (defArgs sHas) (defBody sHas) (defScope sHas) .none kV1 dc1 pm1 an1 cd1 ct1), sl1⟩)
    (c1 : PySem.W.codeIn K cd1 "has" = true)
    (k1 : PySem.W.keepIn K (.ref f1) = true)
    (a2 : PySem.W.nsIn K mainGlobals "members" = some (some (.ref f2)))
    (l2 : K.lookup f2 = some ⟨oc2, od2, .func (PySem.W.fnOf "members" "members" (defArgs sMem) (defBody sMem) (defScope sMem) .none kV2 dc2 pm2 an2 cd2 ct2), sl2⟩)
    (c2 : PySem.W.codeIn K cd2 "members" = true)
    (k2 : PySem.W.keepIn K (.ref f2) = true)
    (a3 : PySem.W.nsIn K mainGlobals "set_of" = some (some (.ref f3)))
    (l3 : K.lookup f3 = some ⟨oc3, od3, .func (PySem.W.fnOf "set_of" "set_of" (defArgs sSet) (defBody sSet) (defScope sSet) .none kV3 dc3 pm3 an3 cd3 ct3), sl3⟩)
    (c3 : PySem.W.codeIn K cd3 "set_of" = true)
    (k3 : PySem.W.keepIn K (.ref f3) = true)
    (a4 : PySem.W.nsIn K mainGlobals "is_whole" = some (some (.ref f4)))
    (l4 : K.lookup f4 = some ⟨oc4, od4, .func (PySem.W.fnOf "is_whole" "is_whole" (defArgs sWhole) (defBody sWhole) (defScope sWhole) .none kV4 dc4 pm4 an4 cd4 ct4), sl4⟩)
    (c4 : PySem.W.codeIn K cd4 "is_whole" = true)
    (k4 : PySem.W.keepIn K (.ref f4) = true)
    (a5 : PySem.W.nsIn K mainGlobals "is_within" = some (some (.ref f5)))
    (l5 : K.lookup f5 = some ⟨oc5, od5, .func (PySem.W.fnOf "is_within" "is_within" (defArgs sWithin) (defBody sWithin) (defScope sWithin) .none kV5 dc5 pm5 an5 cd5 ct5), sl5⟩)
    (c5 : PySem.W.codeIn K cd5 "is_within" = true)
    (k5 : PySem.W.keepIn K (.ref f5) = true)
    (a6 : PySem.W.nsIn K mainGlobals "is_one_of" = some (some (.ref f6)))
    (l6 : K.lookup f6 = some ⟨oc6, od6, .func (PySem.W.fnOf "is_one_of" "is_one_of" (defArgs sOne) (defBody sOne) (defScope sOne) .none kV6 dc6 pm6 an6 cd6 ct6), sl6⟩)
    (c6 : PySem.W.codeIn K cd6 "is_one_of" = true)
    (k6 : PySem.W.keepIn K (.ref f6) = true)
    (a7 : PySem.W.nsIn K mainGlobals "are_two_places" = some (some (.ref f7)))
    (l7 : K.lookup f7 = some ⟨oc7, od7, .func (PySem.W.fnOf "are_two_places" "are_two_places" (defArgs sTwo) (defBody sTwo) (defScope sTwo) .none kV7 dc7 pm7 an7 cd7 ct7), sl7⟩)
    (c7 : PySem.W.codeIn K cd7 "are_two_places" = true)
    (k7 : PySem.W.keepIn K (.ref f7) = true)
    (a8 : PySem.W.nsIn K mainGlobals "row_fits" = some (some (.ref f8)))
    (l8 : K.lookup f8 = some ⟨oc8, od8, .func (PySem.W.fnOf "row_fits" "row_fits" (defArgs sFits) (defBody sFits) (defScope sFits) .none kV8 dc8 pm8 an8 cd8 ct8), sl8⟩)
    (c8 : PySem.W.codeIn K cd8 "row_fits" = true)
    (k8 : PySem.W.keepIn K (.ref f8) = true)
    (a9 : PySem.W.nsIn K mainGlobals "onward" = some (some (.ref f9)))
    (l9 : K.lookup f9 = some ⟨oc9, od9, .func (PySem.W.fnOf "onward" "onward" (defArgs sOn) (defBody sOn) (defScope sOn) .none kV9 dc9 pm9 an9 cd9 ct9), sl9⟩)
    (c9 : PySem.W.codeIn K cd9 "onward" = true)
    (k9 : PySem.W.keepIn K (.ref f9) = true)
    (a10 : PySem.W.nsIn K mainGlobals "starts" = some (some (.ref f10)))
    (l10 : K.lookup f10 = some ⟨oc10, od10, .func (PySem.W.fnOf "starts" "starts" (defArgs sStarts) (defBody sStarts) (defScope sStarts) .none kV10 dc10 pm10 an10 cd10 ct10), sl10⟩)
    (c10 : PySem.W.codeIn K cd10 "starts" = true)
    (k10 : PySem.W.keepIn K (.ref f10) = true)
    (a11 : PySem.W.nsIn K mainGlobals "first_lanes" = some (some (.ref f11)))
    (l11 : K.lookup f11 = some ⟨oc11, od11, .func (PySem.W.fnOf "first_lanes" "first_lanes" (defArgs sFirst) (defBody sFirst) (defScope sFirst) .none kV11 dc11 pm11 an11 cd11 ct11), sl11⟩)
    (c11 : PySem.W.codeIn K cd11 "first_lanes" = true)
    (k11 : PySem.W.keepIn K (.ref f11) = true)
    (a12 : PySem.W.nsIn K mainGlobals "lanes_ahead" = some (some (.ref f12)))
    (l12 : K.lookup f12 = some ⟨oc12, od12, .func (PySem.W.fnOf "lanes_ahead" "lanes_ahead" (defArgs sAhead) (defBody sAhead) (defScope sAhead) .none kV12 dc12 pm12 an12 cd12 ct12), sl12⟩)
    (c12 : PySem.W.codeIn K cd12 "lanes_ahead" = true)
    (k12 : PySem.W.keepIn K (.ref f12) = true)
    (a13 : PySem.W.nsIn K mainGlobals "met" = some (some (.ref f13)))
    (l13 : K.lookup f13 = some ⟨oc13, od13, .func (PySem.W.fnOf "met" "met" (defArgs sMet) (defBody sMet) (defScope sMet) .none kV13 dc13 pm13 an13 cd13 ct13), sl13⟩)
    (c13 : PySem.W.codeIn K cd13 "met" = true)
    (k13 : PySem.W.keepIn K (.ref f13) = true)
    (a14 : PySem.W.nsIn K mainGlobals "is_lost" = some (some (.ref f14)))
    (l14 : K.lookup f14 = some ⟨oc14, od14, .func (PySem.W.fnOf "is_lost" "is_lost" (defArgs sIsLost) (defBody sIsLost) (defScope sIsLost) .none kV14 dc14 pm14 an14 cd14 ct14), sl14⟩)
    (c14 : PySem.W.codeIn K cd14 "is_lost" = true)
    (k14 : PySem.W.keepIn K (.ref f14) = true)
    (a15 : PySem.W.nsIn K mainGlobals "lost" = some (some (.ref f15)))
    (l15 : K.lookup f15 = some ⟨oc15, od15, .func (PySem.W.fnOf "lost" "lost" (defArgs sLost) (defBody sLost) (defScope sLost) .none kV15 dc15 pm15 an15 cd15 ct15), sl15⟩)
    (c15 : PySem.W.codeIn K cd15 "lost" = true)
    (k15 : PySem.W.keepIn K (.ref f15) = true)
    (a16 : PySem.W.nsIn K mainGlobals "lanes_alive" = some (some (.ref f16)))
    (l16 : K.lookup f16 = some ⟨oc16, od16, .func (PySem.W.fnOf "lanes_alive" "lanes_alive" (defArgs sAlive) (defBody sAlive) (defScope sAlive) .none kV16 dc16 pm16 an16 cd16 ct16), sl16⟩)
    (c16 : PySem.W.codeIn K cd16 "lanes_alive" = true)
    (k16 : PySem.W.keepIn K (.ref f16) = true)
    (a17 : PySem.W.nsIn K mainGlobals "has_size" = some (some (.ref f17)))
    (l17 : K.lookup f17 = some ⟨oc17, od17, .func (PySem.W.fnOf "has_size" "has_size" (defArgs sSize) (defBody sSize) (defScope sSize) .none kV17 dc17 pm17 an17 cd17 ct17), sl17⟩)
    (c17 : PySem.W.codeIn K cd17 "has_size" = true)
    (k17 : PySem.W.keepIn K (.ref f17) = true)
    (a18 : PySem.W.nsIn K mainGlobals "start_fault" = some (some (.ref f18)))
    (l18 : K.lookup f18 = some ⟨oc18, od18, .func (PySem.W.fnOf "start_fault" "start_fault" (defArgs sStF) (defBody sStF) (defScope sStF) .none kV18 dc18 pm18 an18 cd18 ct18), sl18⟩)
    (c18 : PySem.W.codeIn K cd18 "start_fault" = true)
    (k18 : PySem.W.keepIn K (.ref f18) = true)
    (a19 : PySem.W.nsIn K mainGlobals "way_fault" = some (some (.ref f19)))
    (l19 : K.lookup f19 = some ⟨oc19, od19, .func (PySem.W.fnOf "way_fault" "way_fault" (defArgs sWayF) (defBody sWayF) (defScope sWayF) .none kV19 dc19 pm19 an19 cd19 ct19), sl19⟩)
    (c19 : PySem.W.codeIn K cd19 "way_fault" = true)
    (k19 : PySem.W.keepIn K (.ref f19) = true)
    (a20 : PySem.W.nsIn K mainGlobals "pair_fault" = some (some (.ref f20)))
    (l20 : K.lookup f20 = some ⟨oc20, od20, .func (PySem.W.fnOf "pair_fault" "pair_fault" (defArgs sPairF) (defBody sPairF) (defScope sPairF) .none kV20 dc20 pm20 an20 cd20 ct20), sl20⟩)
    (c20 : PySem.W.codeIn K cd20 "pair_fault" = true)
    (k20 : PySem.W.keepIn K (.ref f20) = true)
    (a21 : PySem.W.nsIn K mainGlobals "lane_fault" = some (some (.ref f21)))
    (l21 : K.lookup f21 = some ⟨oc21, od21, .func (PySem.W.fnOf "lane_fault" "lane_fault" (defArgs sLaneF) (defBody sLaneF) (defScope sLaneF) .none kV21 dc21 pm21 an21 cd21 ct21), sl21⟩)
    (c21 : PySem.W.codeIn K cd21 "lane_fault" = true)
    (k21 : PySem.W.keepIn K (.ref f21) = true)
    (a22 : PySem.W.nsIn K mainGlobals "fault" = some (some (.ref f22)))
    (l22 : K.lookup f22 = some ⟨oc22, od22, .func (PySem.W.fnOf "fault" "fault" (defArgs sFault) (defBody sFault) (defScope sFault) .none kV22 dc22 pm22 an22 cd22 ct22), sl22⟩)
    (c22 : PySem.W.codeIn K cd22 "fault" = true)
    (k22 : PySem.W.keepIn K (.ref f22) = true)
    (a23 : PySem.W.nsIn K mainGlobals "_law_draw" = some (some (.ref f23)))
    (l23 : K.lookup f23 = some ⟨oc23, od23, .func (PySem.W.fnOf "_law_draw" "_law_draw" (defArgs sDraw) (defBody sDraw) (defScope sDraw) .none kV23 dc23 pm23 an23 cd23 ct23), sl23⟩)
    (c23 : PySem.W.codeIn K cd23 "_law_draw" = true)
    (k23 : PySem.W.keepIn K (.ref f23) = true)
    (a24 : PySem.W.nsIn K mainGlobals "_law_land" = some (some (.ref f24)))
    (l24 : K.lookup f24 = some ⟨oc24, od24, .func (PySem.W.fnOf "_law_land" "_law_land" (defArgs sLand) (defBody sLand) (defScope sLand) .none kV24 dc24 pm24 an24 cd24 ct24), sl24⟩)
    (c24 : PySem.W.codeIn K cd24 "_law_land" = true)
    (k24 : PySem.W.keepIn K (.ref f24) = true)
    (a25 : PySem.W.nsIn K mainGlobals "_law_numbers" = some (some (.ref f25)))
    (l25 : K.lookup f25 = some ⟨oc25, od25, .func (PySem.W.fnOf "_law_numbers" "_law_numbers" (defArgs sNums) (defBody sNums) (defScope sNums) .none kV25 dc25 pm25 an25 cd25 ct25), sl25⟩)
    (c25 : PySem.W.codeIn K cd25 "_law_numbers" = true)
    (k25 : PySem.W.keepIn K (.ref f25) = true)
    (a26 : PySem.W.nsIn K mainGlobals "_law_reach" = some (some (.ref f26)))
    (l26 : K.lookup f26 = some ⟨oc26, od26, .func (PySem.W.fnOf "_law_reach" "_law_reach" (defArgs sReach) (defBody sReach) (defScope sReach) .none kV26 dc26 pm26 an26 cd26 ct26), sl26⟩)
    (c26 : PySem.W.codeIn K cd26 "_law_reach" = true)
    (k26 : PySem.W.keepIn K (.ref f26) = true)
    (a27 : PySem.W.nsIn K mainGlobals "_law_fewer" = some (some (.ref f27)))
    (l27 : K.lookup f27 = some ⟨oc27, od27, .func (PySem.W.fnOf "_law_fewer" "_law_fewer" (defArgs sFewer) (defBody sFewer) (defScope sFewer) .none kV27 dc27 pm27 an27 cd27 ct27), sl27⟩)
    (c27 : PySem.W.codeIn K cd27 "_law_fewer" = true)
    (k27 : PySem.W.keepIn K (.ref f27) = true)
    (a28 : PySem.W.nsIn K mainGlobals "_law_rows" = some (some (.ref f28)))
    (l28 : K.lookup f28 = some ⟨oc28, od28, .func (PySem.W.fnOf "_law_rows" "_law_rows" (defArgs sRows) (defBody sRows) (defScope sRows) .none kV28 dc28 pm28 an28 cd28 ct28), sl28⟩)
    (c28 : PySem.W.codeIn K cd28 "_law_rows" = true)
    (k28 : PySem.W.keepIn K (.ref f28) = true)
    (a29 : PySem.W.nsIn K mainGlobals "_law_set" = some (some (.ref f29)))
    (l29 : K.lookup f29 = some ⟨oc29, od29, .func (PySem.W.fnOf "_law_set" "_law_set" (defArgs sLSet) (defBody sLSet) (defScope sLSet) .none kV29 dc29 pm29 an29 cd29 ct29), sl29⟩)
    (c29 : PySem.W.codeIn K cd29 "_law_set" = true)
    (k29 : PySem.W.keepIn K (.ref f29) = true)
    (a30 : PySem.W.nsIn K mainGlobals "law" = some (some (.ref f30)))
    (l30 : K.lookup f30 = some ⟨oc30, od30, .func (PySem.W.fnOf "law" "law" (defArgs sLaw) (defBody sLaw) (defScope sLaw) .none kV30 dc30 pm30 an30 cd30 ct30), sl30⟩)
    (c30 : PySem.W.codeIn K cd30 "law" = true)
    (k30 : PySem.W.keepIn K (.ref f30) = true)
    (a31 : PySem.W.findIn K (.ref cL) "__init__" = some (some (.ref f31)))
    (l31 : K.lookup f31 = some ⟨oc31, od31, .func (PySem.W.fnOf "__init__" "Land.__init__" (defArgs sInit) (defBody sInit) (defScope sInit) .none kV31 dc31 pm31 an31 cd31 ct31), sl31⟩)
    (c31 : PySem.W.codeIn K cd31 "Land.__init__" = true)
    (k31 : PySem.W.keepIn K (.ref f31) = true)
    (i31 : PySem.W.isFn K (.ref f31) = true)
    (a32 : PySem.W.findIn K (.ref cL) "end_of" = some (some (.ref f32)))
    (l32 : K.lookup f32 = some ⟨oc32, od32, .func (PySem.W.fnOf "end_of" "Land.end_of" (defArgs sEnd) (defBody sEnd) (defScope sEnd) .none kV32 dc32 pm32 an32 cd32 ct32), sl32⟩)
    (c32 : PySem.W.codeIn K cd32 "Land.end_of" = true)
    (k32 : PySem.W.keepIn K (.ref f32) = true)
    (i32 : PySem.W.isFn K (.ref f32) = true)
    (a33 : PySem.W.findIn K (.ref cL) "out_of" = some (some (.ref f33)))
    (l33 : K.lookup f33 = some ⟨oc33, od33, .func (PySem.W.fnOf "out_of" "Land.out_of" (defArgs sOut) (defBody sOut) (defScope sOut) .none kV33 dc33 pm33 an33 cd33 ct33), sl33⟩)
    (c33 : PySem.W.codeIn K cd33 "Land.out_of" = true)
    (k33 : PySem.W.keepIn K (.ref f33) = true)
    (i33 : PySem.W.isFn K (.ref f33) = true)
    (a34 : PySem.W.findIn K (.ref cL) "into" = some (some (.ref f34)))
    (l34 : K.lookup f34 = some ⟨oc34, od34, .func (PySem.W.fnOf "into" "Land.into" (defArgs sInto) (defBody sInto) (defScope sInto) .none kV34 dc34 pm34 an34 cd34 ct34), sl34⟩)
    (c34 : PySem.W.codeIn K cd34 "Land.into" = true)
    (k34 : PySem.W.keepIn K (.ref f34) = true)
    (i34 : PySem.W.isFn K (.ref f34) = true)
    (a35 : PySem.W.findIn K (.ref cT) "__init__" = some (some (.ref f35)))
    (l35 : K.lookup f35 = some ⟨oc35, od35, .func (PySem.W.fnOf "__init__" "TooMany.__init__" (defArgs sTM) (defBody sTM) (defScope sTM) .none kV35 dc35 pm35 an35 cd35 ct35), sl35⟩)
    (c35 : PySem.W.codeIn K cd35 "TooMany.__init__" = true)
    (k35 : PySem.W.keepIn K (.ref f35) = true)
    (i35 : PySem.W.isFn K (.ref f35) = true)
    (a36 : PySem.W.findIn K (.ref cR) "__init__" = some (some (.ref f36)))
    (l36 : K.lookup f36 = some ⟨oc36, od36, .func (PySem.W.fnOf "__init__" "NoRoad.__init__" (defArgs sNR) (defBody sNR) (defScope sNR) .none kV36 dc36 pm36 an36 cd36 ct36), sl36⟩)
    (c36 : PySem.W.codeIn K cd36 "NoRoad.__init__" = true)
    (k36 : PySem.W.keepIn K (.ref f36) = true)
    (i36 : PySem.W.isFn K (.ref f36) = true)
    (a37 : PySem.W.findIn K (.ref cE) "__init__" = some (some (.ref f37)))
    (l37 : K.lookup f37 = some ⟨oc37, od37, .func (PySem.W.fnOf "__init__" "NoEntry.__init__" (defArgs sNE) (defBody sNE) (defScope sNE) .none kV37 dc37 pm37 an37 cd37 ct37), sl37⟩)
    (c37 : PySem.W.codeIn K cd37 "NoEntry.__init__" = true)
    (k37 : PySem.W.keepIn K (.ref f37) = true)
    (i37 : PySem.W.isFn K (.ref f37) = true)
    (a38 : PySem.W.findIn K (.ref cB) "__init__" = some (some (.ref f38)))
    (l38 : K.lookup f38 = some ⟨oc38, od38, .func (PySem.W.fnOf "__init__" "Table.__init__" (defArgs sTab) (defBody sTab) (defScope sTab) .none kV38 dc38 pm38 an38 cd38 ct38), sl38⟩)
    (c38 : PySem.W.codeIn K cd38 "Table.__init__" = true)
    (k38 : PySem.W.keepIn K (.ref f38) = true)
    (i38 : PySem.W.isFn K (.ref f38) = true)
    (a39 : PySem.W.findIn K (.ref cD) "__init__" = some (some (.ref f39)))
    (l39 : K.lookup f39 = some ⟨oc39, od39, .func (PySem.W.fnOf "__init__" "Told.__init__" (defArgs sTold) (defBody sTold) (defScope sTold) .none kV39 dc39 pm39 an39 cd39 ct39), sl39⟩)
    (c39 : PySem.W.codeIn K cd39 "Told.__init__" = true)
    (k39 : PySem.W.keepIn K (.ref f39) = true)
    (i39 : PySem.W.isFn K (.ref f39) = true)
    (a40 : PySem.W.findIn K (.ref cD) "ways" = some (some (.ref f40)))
    (l40 : K.lookup f40 = some ⟨oc40, od40, .func (PySem.W.fnOf "ways" "Told.ways" (defArgs sToldW) (defBody sToldW) (defScope sToldW) .none kV40 dc40 pm40 an40 cd40 ct40), sl40⟩)
    (c40 : PySem.W.codeIn K cd40 "Told.ways" = true)
    (k40 : PySem.W.keepIn K (.ref f40) = true)
    (i40 : PySem.W.isFn K (.ref f40) = true)
    (a41 : PySem.W.findIn K (.ref cS) "__init__" = some (some (.ref f41)))
    (l41 : K.lookup f41 = some ⟨oc41, od41, .func (PySem.W.fnOf "__init__" "Less.__init__" (defArgs sLess) (defBody sLess) (defScope sLess) .none kV41 dc41 pm41 an41 cd41 ct41), sl41⟩)
    (c41 : PySem.W.codeIn K cd41 "Less.__init__" = true)
    (k41 : PySem.W.keepIn K (.ref f41) = true)
    (i41 : PySem.W.isFn K (.ref f41) = true)
    (a42 : PySem.W.findIn K (.ref cS) "ways" = some (some (.ref f42)))
    (l42 : K.lookup f42 = some ⟨oc42, od42, .func (PySem.W.fnOf "ways" "Less.ways" (defArgs sLessW) (defBody sLessW) (defScope sLessW) .none kV42 dc42 pm42 an42 cd42 ct42), sl42⟩)
    (c42 : PySem.W.codeIn K cd42 "Less.ways" = true)
    (k42 : PySem.W.keepIn K (.ref f42) = true)
    (i42 : PySem.W.isFn K (.ref f42) = true)
    (mp : PySem.W.nsIn K mainGlobals "MOST_PLACES" = some (some (.int 12 t1)))
    (ml : PySem.W.nsIn K mainGlobals "MOST_LANES" = some (some (.int 40 t2)))
    (p1cL : PySem.W.plainGet K cL Str.empty = true)
    (p2cL : PySem.W.hasDictIn K cL = true)
    (p3cL : PySem.W.plainOver K cL = true)
    (p4cL : PySem.W.findIn K (.ref cL) "__setattr__" = some (some (.builtin "object.__setattr__")))
    (p5cL : PySem.W.makesIn K cL = true)
    (p6cL : PySem.W.keepIn K (.ref cL) = true)
    (ncLplaces : PySem.W.findIn K (.ref cL) "places" = some none)
    (ncLlanes : PySem.W.findIn K (.ref cL) "lanes" = some none)
    (p1cB : PySem.W.plainGet K cB Str.empty = true)
    (p2cB : PySem.W.hasDictIn K cB = true)
    (p3cB : PySem.W.plainOver K cB = true)
    (p4cB : PySem.W.findIn K (.ref cB) "__setattr__" = some (some (.builtin "object.__setattr__")))
    (p5cB : PySem.W.makesIn K cB = true)
    (p6cB : PySem.W.keepIn K (.ref cB) = true)
    (ncBland : PySem.W.findIn K (.ref cB) "land" = some none)
    (p1cD : PySem.W.plainGet K cD Str.empty = true)
    (p2cD : PySem.W.hasDictIn K cD = true)
    (p3cD : PySem.W.plainOver K cD = true)
    (p4cD : PySem.W.findIn K (.ref cD) "__setattr__" = some (some (.builtin "object.__setattr__")))
    (p5cD : PySem.W.makesIn K cD = true)
    (p6cD : PySem.W.keepIn K (.ref cD) = true)
    (ncDland : PySem.W.findIn K (.ref cD) "land" = some none)
    (ncDentries : PySem.W.findIn K (.ref cD) "entries" = some none)
    (p1cS : PySem.W.plainGet K cS Str.empty = true)
    (p2cS : PySem.W.hasDictIn K cS = true)
    (p3cS : PySem.W.plainOver K cS = true)
    (p4cS : PySem.W.findIn K (.ref cS) "__setattr__" = some (some (.builtin "object.__setattr__")))
    (p5cS : PySem.W.makesIn K cS = true)
    (p6cS : PySem.W.keepIn K (.ref cS) = true)
    (ncSland : PySem.W.findIn K (.ref cS) "land" = some none)
    (ncSentries : PySem.W.findIn K (.ref cS) "entries" = some none)
    (ncScut : PySem.W.findIn K (.ref cS) "cut" = some none)
    (x1cN : excInI K cN none = true)
    (x2cN : PySem.W.keepIn K (.ref cN) = true)
    (x1cT : excInI K cT (some (.ref f35)) = true)
    (x2cT : PySem.W.keepIn K (.ref cT) = true)
    (x3cT : exOver K cT = true)
    (x4cT : PySem.W.hasDictIn K cT = true)
    (x5cT : PySem.W.findIn K (.ref cT) "__setattr__" = some (some (.builtin "object.__setattr__")))
    (x6cT : PySem.W.findIn K (.ref cT) "__getattribute__" = some (some (.builtin "BaseException.__getattribute__")))
    (x7cT : PySem.W.findIn K (.ref cT) "__getattr__" = some none)
    (ncTmany : PySem.W.findIn K (.ref cT) "many" = some none)
    (x1cR : excInI K cR (some (.ref f36)) = true)
    (x2cR : PySem.W.keepIn K (.ref cR) = true)
    (x3cR : exOver K cR = true)
    (x4cR : PySem.W.hasDictIn K cR = true)
    (x5cR : PySem.W.findIn K (.ref cR) "__setattr__" = some (some (.builtin "object.__setattr__")))
    (x6cR : PySem.W.findIn K (.ref cR) "__getattribute__" = some (some (.builtin "BaseException.__getattribute__")))
    (x7cR : PySem.W.findIn K (.ref cR) "__getattr__" = some none)
    (ncRlane : PySem.W.findIn K (.ref cR) "lane" = some none)
    (x1cE : excInI K cE (some (.ref f37)) = true)
    (x2cE : PySem.W.keepIn K (.ref cE) = true)
    (x3cE : exOver K cE = true)
    (x4cE : PySem.W.hasDictIn K cE = true)
    (x5cE : PySem.W.findIn K (.ref cE) "__setattr__" = some (some (.builtin "object.__setattr__")))
    (x6cE : PySem.W.findIn K (.ref cE) "__getattribute__" = some (some (.builtin "BaseException.__getattribute__")))
    (x7cE : PySem.W.findIn K (.ref cE) "__getattr__" = some none)
    (ncErow : PySem.W.findIn K (.ref cE) "row" = some none)
    (w1cB : PySem.W.readsIn K cB (.type "type") = true)
    (w2cB : PySem.W.findCls K (.ref cB) (.type "type") "__init__" = some (.val (.ref f38)))
    (w3cB : PySem.W.specialIn K (.ref cB) "__getattribute__" = some (some (.builtin "type.__getattribute__")))
    (z0 : PySem.W.nsIn K mainGlobals "isinstance" = some none)
    (z1 : PySem.W.nsIn K mainGlobals "int" = some none)
    (z2 : PySem.W.nsIn K mainGlobals "bool" = some none)
    (z3 : PySem.W.nsIn K mainGlobals "len" = some none)
    (z4 : PySem.W.nsIn K mainGlobals "enumerate" = some none)
    (z5 : PySem.W.nsIn K mainGlobals "tuple" = some none)
    (z6 : PySem.W.nsIn K mainGlobals "range" = some none)
    (z7 : PySem.W.nsIn K mainGlobals "list" = some none)
    (z8 : PySem.W.nsIn K mainGlobals "all" = some none)
    : ∃ fd : FuncData, (∀ (s : Shared) (v : Value), BindsTo s fd ⟨[v], []⟩ [("_law_script", v)]) ∧ ∀ base : Heap, K.In base → base.Ns mainGlobals mg → FnOk l.prog w K mg base CX0 8 fa fd ["_law_script"] (spLaw K) := by
  have e := hfa.symm.trans (PySem.W.mg_of X G a30)
  cases e
  have T : Txt mg := ⟨PySem.W.mg_none_of X G z0, PySem.W.mg_none_of X G z1, PySem.W.mg_none_of X G z2, PySem.W.mg_none_of X G z3, PySem.W.mg_none_of X G z4, PySem.W.mg_none_of X G z5, PySem.W.mg_none_of X G z6, PySem.W.mg_none_of X G z7, PySem.W.mg_none_of X G z8⟩
  have F1 := fun_mk (st := sHas) l1 c1 k1
  have F2 := fun_mk (st := sMem) l2 c2 k2
  have F3 := fun_mk (st := sSet) l3 c3 k3
  have F4 := fun_mk (st := sWhole) l4 c4 k4
  have F5 := fun_mk (st := sWithin) l5 c5 k5
  have F6 := fun_mk (st := sOne) l6 c6 k6
  have F7 := fun_mk (st := sTwo) l7 c7 k7
  have F8 := fun_mk (st := sFits) l8 c8 k8
  have F9 := fun_mk (st := sOn) l9 c9 k9
  have F10 := fun_mk (st := sStarts) l10 c10 k10
  have F11 := fun_mk (st := sFirst) l11 c11 k11
  have F12 := fun_mk (st := sAhead) l12 c12 k12
  have F13 := fun_mk (st := sMet) l13 c13 k13
  have F14 := fun_mk (st := sIsLost) l14 c14 k14
  have F15 := fun_mk (st := sLost) l15 c15 k15
  have F16 := fun_mk (st := sAlive) l16 c16 k16
  have F17 := fun_mk (st := sSize) l17 c17 k17
  have F18 := fun_mk (st := sStF) l18 c18 k18
  have F19 := fun_mk (st := sWayF) l19 c19 k19
  have F20 := fun_mk (st := sPairF) l20 c20 k20
  have F21 := fun_mk (st := sLaneF) l21 c21 k21
  have F22 := fun_mk (st := sFault) l22 c22 k22
  have F23 := fun_mk (st := sDraw) l23 c23 k23
  have F24 := fun_mk (st := sLand) l24 c24 k24
  have F25 := fun_mk (st := sNums) l25 c25 k25
  have F26 := fun_mk (st := sReach) l26 c26 k26
  have F27 := fun_mk (st := sFewer) l27 c27 k27
  have F28 := fun_mk (st := sRows) l28 c28 k28
  have F29 := fun_mk (st := sLSet) l29 c29 k29
  have F30 := fun_mk (st := sLaw) l30 c30 k30
  have F31 := fun_mk (st := sInit) l31 c31 k31
  have F32 := fun_mk (st := sEnd) l32 c32 k32
  have F33 := fun_mk (st := sOut) l33 c33 k33
  have F34 := fun_mk (st := sInto) l34 c34 k34
  have F35 := fun_mk (st := sTM) l35 c35 k35
  have F36 := fun_mk (st := sNR) l36 c36 k36
  have F37 := fun_mk (st := sNE) l37 c37 k37
  have F38 := fun_mk (st := sTab) l38 c38 k38
  have F39 := fun_mk (st := sTold) l39 c39 k39
  have F40 := fun_mk (st := sToldW) l40 c40 k40
  have F41 := fun_mk (st := sLess) l41 c41 k41
  have F42 := fun_mk (st := sLessW) l42 c42 k42
  have b1 := F1.binds (ps := ["some", "number"]) fun _ _ _ _ _ _ => len_of2 (fun _ _ => rfl)
  have b2 := F2.binds (ps := ["some"]) fun _ _ _ _ _ _ => len_of1 (fun _ => rfl)
  have b3 := F3.binds (ps := ["numbers"]) fun _ _ _ _ _ _ => len_of1 (fun _ => rfl)
  have b4 := F4.binds (ps := ["value"]) fun _ _ _ _ _ _ => len_of1 (fun _ => rfl)
  have b5 := F5.binds (ps := ["value", "least", "most"]) fun _ _ _ _ _ _ => len_of3 (fun _ _ _ => rfl)
  have b6 := F6.binds (ps := ["value", "numbers"]) fun _ _ _ _ _ _ => len_of2 (fun _ _ => rfl)
  have b7 := F7.binds (ps := ["places", "one", "other"]) fun _ _ _ _ _ _ => len_of3 (fun _ _ _ => rfl)
  have b8 := F8.binds (ps := ["land", "row"]) fun _ _ _ _ _ _ => len_of2 (fun _ _ => rfl)
  have b9 := F9.binds (ps := ["table", "lane", "goal"]) fun _ _ _ _ _ _ => len_of3 (fun _ _ _ => rfl)
  have b10 := F10.binds (ps := ["table"]) fun _ _ _ _ _ _ => len_of1 (fun _ => rfl)
  have b11 := F11.binds (ps := ["table", "goal"]) fun _ _ _ _ _ _ => len_of2 (fun _ _ => rfl)
  have b12 := F12.binds (ps := ["table", "goal"]) fun _ _ _ _ _ _ => len_of2 (fun _ _ => rfl)
  have b13 := F13.binds (ps := ["table"]) fun _ _ _ _ _ _ => len_of1 (fun _ => rfl)
  have b14 := F14.binds (ps := ["table", "lane", "goal"]) fun _ _ _ _ _ _ => len_of3 (fun _ _ _ => rfl)
  have b15 := F15.binds (ps := ["table"]) fun _ _ _ _ _ _ => len_of1 (fun _ => rfl)
  have b16 := F16.binds (ps := ["table", "out", "goal"]) fun _ _ _ _ _ _ => len_of3 (fun _ _ _ => rfl)
  have b17 := F17.binds (ps := ["land", "numbers", "sets"]) fun _ _ _ _ _ _ => len_of3 (fun _ _ _ => rfl)
  have b18 := F18.binds (ps := ["table", "sets"]) fun _ _ _ _ _ _ => len_of2 (fun _ _ => rfl)
  have b19 := F19.binds (ps := ["numbers", "sets", "lane", "goal", "way"]) fun _ _ _ _ _ _ => len_of5 (fun _ _ _ _ _ => rfl)
  have b20 := F20.binds (ps := ["table", "numbers", "sets", "lane", "goal"]) fun _ _ _ _ _ _ => len_of5 (fun _ _ _ _ _ => rfl)
  have b21 := F21.binds (ps := ["table", "numbers", "sets", "lane"]) fun _ _ _ _ _ _ => len_of4 (fun _ _ _ _ => rfl)
  have b22 := F22.binds (ps := ["table", "paper"]) fun _ _ _ _ _ _ => len_of2 (fun _ _ => rfl)
  have b23 := F23.binds (ps := ["_law_script", "_law_k"]) fun _ _ _ _ _ _ => len_of2 (fun _ _ => rfl)
  have b24 := F24.binds (ps := ["_law_script"]) fun _ _ _ _ _ _ => len_of1 (fun _ => rfl)
  have b25 := F25.binds (ps := ["_law_script", "_law_lanes"]) fun _ _ _ _ _ _ => len_of2 (fun _ _ => rfl)
  have b26 := F26.binds (ps := ["_law_lanes", "_law_numbers_here"]) fun _ _ _ _ _ _ => len_of2 (fun _ _ => rfl)
  have b27 := F27.binds (ps := ["_law_ways", "_law_draw_here"]) fun _ _ _ _ _ _ => len_of2 (fun _ _ => rfl)
  have b28 := F28.binds (ps := ["_law_script", "_law_places", "_law_lanes", "_law_numbers_here", "_law_reach_here"]) fun _ _ _ _ _ _ => len_of5 (fun _ _ _ _ _ => rfl)
  have b29 := F29.binds (ps := ["_law_script", "_law_k"]) fun _ _ _ _ _ _ => len_of2 (fun _ _ => rfl)
  have b31 := F31.binds (ps := ["self", "places", "lanes"]) fun _ _ _ _ _ _ => len_of3 (fun _ _ _ => rfl)
  have b32 := F32.binds (ps := ["self", "lane"]) fun _ _ _ _ _ _ => len_of2 (fun _ _ => rfl)
  have b33 := F33.binds (ps := ["self", "place"]) fun _ _ _ _ _ _ => len_of2 (fun _ _ => rfl)
  have b34 := F34.binds (ps := ["self", "place"]) fun _ _ _ _ _ _ => len_of2 (fun _ _ => rfl)
  have b35 := F35.binds (ps := ["self", "many"]) fun _ _ _ _ _ _ => len_of2 (fun _ _ => rfl)
  have b36 := F36.binds (ps := ["self", "lane"]) fun _ _ _ _ _ _ => len_of2 (fun _ _ => rfl)
  have b37 := F37.binds (ps := ["self", "row"]) fun _ _ _ _ _ _ => len_of2 (fun _ _ => rfl)
  have b38 := F38.binds (ps := ["self", "land"]) fun _ _ _ _ _ _ => len_of2 (fun _ _ => rfl)
  have b39 := F39.binds (ps := ["self", "land", "rows"]) fun _ _ _ _ _ _ => len_of3 (fun _ _ _ => rfl)
  have b40 := F40.binds (ps := ["self", "place", "goal", "came"]) fun _ _ _ _ _ _ => len_of4 (fun _ _ _ _ => rfl)
  have b41 := F41.binds (ps := ["self", "table", "out"]) fun _ _ _ _ _ _ => len_of3 (fun _ _ _ => rfl)
  have b42 := F42.binds (ps := ["self", "place", "goal", "came"]) fun _ _ _ _ _ _ => len_of4 (fun _ _ _ _ => rfl)
  have L : Lnd K ⟨cN, cT, cR, cL⟩ := ⟨⟨p1cL, p2cL, p3cL, p4cL⟩, ncLplaces, ncLlanes⟩
  have xT : XCls K cT := ⟨x3cT, x4cT, x5cT, x6cT, x7cT⟩
  have xR : XCls K cR := ⟨x3cR, x4cR, x5cR, x6cR, x7cR⟩
  have xE : XCls K cE := ⟨x3cE, x4cE, x5cE, x6cE, x7cE⟩
  have E : Exc K mg ⟨cN, cT, cR, cL⟩ f35 f36 _ _ := ⟨(PySem.W.mg_of X G gcN), x1cN, x2cN, (PySem.W.mg_of X G gcT), x1cT, x2cT, xT, ncTmany, i35, F35, b35, (PySem.W.mg_of X G gcR), x1cR, x2cR, xR, ncRlane, i36, F36, b36⟩
  have B : Tbl K mg ⟨cB, cD, cE⟩ f38 f37 _ _ := ⟨⟨p1cB, p2cB, p3cB, p4cB⟩, ncBland, ⟨p1cD, p2cD, p3cD, p4cD⟩, ncDland, ncDentries, (PySem.W.mg_of X G gcB), ⟨w1cB, w2cB, w3cB, k38⟩, b38, (PySem.W.mg_of X G gcE), x1cE, x2cE, xE, ncErow, i37, F37, b37⟩
  have M : Mths K ⟨cN, cT, cR, cL⟩ f33 f34 _ _ := ⟨⟨a33, i33, k33⟩, ⟨a34, i34, k34⟩, b33, b34⟩
  have Mi : Mk K cL f31 := ⟨p5cL, a31, i31, p6cL⟩
  have Mt : Mk K cD f39 := ⟨p5cD, a39, i39, p6cD⟩
  refine ⟨PySem.W.fnOf "law" "law" (defArgs sLaw) (defBody sLaw) (defScope sLaw) .none kV30 dc30 pm30 an30 cd30 ct30, fun s v => .of_eq rfl, fun base _ _ => ?_⟩
  have W1 : Way K cD f40 _ (ToldAt l.prog w ⟨cB, cD, cE⟩) := ⟨B.cd, ⟨a40, i40, k40⟩, b40, fun H x wy ⟨dx, de, lv, kvs, h1, _⟩ => ⟨dx, _, h1, rfl⟩, fun H H' x wy ⟨dx, de, lv, kvs, h1, h2, h3⟩ s => ⟨dx, de, lv, kvs, s _ _ h1, h2.same s, h3⟩⟩
  have Gw : FnOk l.prog w K mg base CX0 2 f5 _ ["value", "least", "most"] spWithin := ok_within F5 T (PySem.W.mg_of X G a4) F4 b4
  have G2 : FnOk l.prog w K mg base CX0 3 f7 _ ["places", "one", "other"] spTwo := ok_two F7 (PySem.W.mg_of X G a5) k5 b5 Gw
  have Gi : FnOk l.prog w K mg base (CXe l.prog w) 4 f31 _ ["self", "places", "lanes"] (spInit K ⟨cN, cT, cR, cL⟩) := ok_init F31 T L E (PySem.W.mg_of X G a5) k5 b5 Gw (PySem.W.mg_of X G a7) k7 b7 G2 (PySem.W.mg_of X G mp) (PySem.W.mg_of X G ml)
  have Go : FnOk l.prog w K mg base CX0 2 f6 _ ["value", "numbers"] (spOne K) := ok_one F6 T (PySem.W.mg_of X G a4) F4 b4
  have Gf : FnOk l.prog w K mg base CX0 4 f8 _ ["land", "row"] (spFits ⟨cN, cT, cR, cL⟩) := ok_fits F8 T L M (PySem.W.mg_of X G a7) k7 b7 G2 (PySem.W.mg_of X G a6) k6 b6 Go (ok_out F33 T L) (ok_into F34 T L)
  have Gm : FnOk l.prog w K mg base CX0 2 f2 _ ["some"] spMem := ok_mem F2 T (PySem.W.mg_of X G a1) F1 b1
  have G1 : FnOk l.prog w K mg base CX0 1 f38 _ ["self", "land"] (spTab K) := ok_tab F38
  have Gt : FnOk l.prog w K mg base (CXe l.prog w) 5 f39 _ ["self", "land", "rows"] (spTold l.prog w K ⟨cN, cT, cR, cL⟩ ⟨cB, cD, cE⟩) := ok_told F39 T B G1 (PySem.W.mg_of X G a8) k8 b8 Gf (PySem.W.mg_of X G a3) k3 b3 (ok_set F3)
  have Gd : FnOk l.prog w K mg base CX0 1 f23 _ ["_law_script", "_law_k"] (spDraw K) := ok_draw F23 T
  have Gld : FnOk l.prog w K mg base CX0 2 f24 _ ["_law_script"] (spLand K) := ok_land F24 T (PySem.W.mg_of X G a23) k23 b23 Gd
  have ME : EndM K ⟨cN, cT, cR, cL⟩ f32 _ := ⟨⟨a32, i32, k32⟩, b32⟩
  have Ge : FnOk l.prog w K mg base CX0 1 f32 _ ["self", "lane"] (spAt ⟨cN, cT, cR, cL⟩ Prod.snd) := ok_end F32 L
  have Gw1 : FnOk l.prog w K mg base CX0 3 f40 _ ["self", "place", "goal", "came"] (spWays (ToldAt l.prog w ⟨cB, cD, cE⟩)) := told_ways (ok_toldW F40 B (PySem.W.mg_of X G a2) k2 b2 Gm)
  have Gon1 : FnOk l.prog w K mg base CX0 4 f9 _ ["table", "lane", "goal"] (spOn ⟨cN, cT, cR, cL⟩ cD (ToldAt l.prog w ⟨cB, cD, cE⟩)) := ok_on F9 L W1 ncDland Gw1 ME Ge
  have Mls : Mk K cS f41 := ⟨p5cS, a41, i41, p6cS⟩
  have Lc : LsC K cS f42 _ := ⟨⟨p1cS, p2cS, p3cS, p4cS⟩, ncSland, ncSentries, ncScut, ⟨a42, i42, k42⟩, b42⟩
  have Gst : FnOk l.prog w K mg base CX0 4 f10 _ ["table"] (spStarts ⟨cN, cT, cR, cL⟩ cD (ToldAt l.prog w ⟨cB, cD, cE⟩)) := ok_starts F10 T L W1 ncDland Gw1
  have XH : HasM l.prog w K mg base f1 _ := ⟨PySem.W.mg_of X G a1, k1, b1, ok_has F1⟩
  have Gal : FnOk l.prog w K mg base CX0 5 f16 _ ["table", "out", "goal"] (spAlive ⟨cN, cT, cR, cL⟩ cD (ToldAt l.prog w ⟨cB, cD, cE⟩)) := ok_alive F16 T L W1 ncDland ME Ge XH (PySem.W.mg_of X G a9) k9 b9 Gon1
  have Gw2 : FnOk l.prog w K mg base CX0 3 f42 _ ["self", "place", "goal", "came"] (spWays (LessAt l.prog w cS)) := ok_lessW F42 Lc (PySem.W.mg_of X G a2) k2 b2 Gm
  have W2 : Way K cS f42 _ (LessAt l.prog w cS) := Lc.way
  have Gls : FnOk l.prog w K mg base CX0 6 f41 _ ["self", "table", "out"] (spLess l.prog w ⟨cN, cT, cR, cL⟩ cD cS (ToldAt l.prog w ⟨cB, cD, cE⟩)) := ok_less F41 T L B G1 W1 told_stays ncDland Gw1 M (ok_into F34 T L) Lc Gw2 (PySem.W.mg_of X G a16) k16 b16 Gal (PySem.W.mg_of X G a3) k3 b3 (ok_set F3) (PySem.W.mg_of X G a10) k10 b10 Gst
  have Gon2 : FnOk l.prog w K mg base CX0 4 f9 _ ["table", "lane", "goal"] (spOn ⟨cN, cT, cR, cL⟩ cS (LessAt l.prog w cS)) := ok_on F9 L W2 ncSland Gw2 ME Ge
  have Gst2 : FnOk l.prog w K mg base CX0 4 f10 _ ["table"] (spStarts ⟨cN, cT, cR, cL⟩ cS (LessAt l.prog w cS)) := ok_starts F10 T L W2 ncSland Gw2
  have Gal2 : FnOk l.prog w K mg base CX0 5 f16 _ ["table", "out", "goal"] (spAlive ⟨cN, cT, cR, cL⟩ cS (LessAt l.prog w cS)) := ok_alive F16 T L W2 ncSland ME Ge XH (PySem.W.mg_of X G a9) k9 b9 Gon2
  have Gls2 : FnOk l.prog w K mg base CX0 6 f41 _ ["self", "table", "out"] (spLess l.prog w ⟨cN, cT, cR, cL⟩ cS cS (LessAt l.prog w cS)) := ok_less F41 T L B G1 W2 less_stays ncSland Gw2 M (ok_into F34 T L) Lc Gw2 (PySem.W.mg_of X G a16) k16 b16 Gal2 (PySem.W.mg_of X G a3) k3 b3 (ok_set F3) (PySem.W.mg_of X G a10) k10 b10 Gst2
  have Gfi2 : FnOk l.prog w K mg base CX0 4 f11 _ ["table", "goal"] (spFirst ⟨cN, cT, cR, cL⟩ cS (LessAt l.prog w cS)) := ok_first F11 T L W2 ncSland Gw2
  have Gah2 : FnOk l.prog w K mg base CX0 5 f12 _ ["table", "goal"] (spAhead ⟨cN, cT, cR, cL⟩ cS (LessAt l.prog w cS)) := ok_ahead F12 T W2 (PySem.W.mg_of X G a11) k11 b11 Gfi2 (PySem.W.mg_of X G a9) k9 b9 Gon2
  have Gme2 : FnOk l.prog w K mg base CX0 6 f13 _ ["table"] (spMet ⟨cN, cT, cR, cL⟩ cS (LessAt l.prog w cS)) := ok_met F13 T L W2 ncSland (PySem.W.mg_of X G a12) k12 b12 Gah2
  have Gil2 : FnOk l.prog w K mg base CX0 5 f14 _ ["table", "lane", "goal"] (spIsLost ⟨cN, cT, cR, cL⟩ cS (LessAt l.prog w cS)) := ok_isLost F14 L W2 ncSland ME Ge (PySem.W.mg_of X G a9) k9 b9 Gon2
  have Glo2 : FnOk l.prog w K mg base CX0 7 f15 _ ["table"] (spLost ⟨cN, cT, cR, cL⟩ cS (LessAt l.prog w cS)) := ok_lost F15 T W2 (PySem.W.mg_of X G a13) k13 b13 Gme2 (PySem.W.mg_of X G a2) k2 b2 Gm (PySem.W.mg_of X G a14) k14 b14 Gil2
  have Gfi1 : FnOk l.prog w K mg base CX0 4 f11 _ ["table", "goal"] (spFirst ⟨cN, cT, cR, cL⟩ cD (ToldAt l.prog w ⟨cB, cD, cE⟩)) := ok_first F11 T L W1 ncDland Gw1
  have Gah1 : FnOk l.prog w K mg base CX0 5 f12 _ ["table", "goal"] (spAhead ⟨cN, cT, cR, cL⟩ cD (ToldAt l.prog w ⟨cB, cD, cE⟩)) := ok_ahead F12 T W1 (PySem.W.mg_of X G a11) k11 b11 Gfi1 (PySem.W.mg_of X G a9) k9 b9 Gon1
  have Gme1 : FnOk l.prog w K mg base CX0 6 f13 _ ["table"] (spMet ⟨cN, cT, cR, cL⟩ cD (ToldAt l.prog w ⟨cB, cD, cE⟩)) := ok_met F13 T L W1 ncDland (PySem.W.mg_of X G a12) k12 b12 Gah1
  have Gsz : FnOk l.prog w K mg base CX0 3 f17 _ ["land", "numbers", "sets"] (spSize K ⟨cN, cT, cR, cL⟩) := ok_size F17 T L (PySem.W.mg_of X G a5) k5 b5 Gw
  have Gwf : FnOk l.prog w K mg base CX0 2 f19 _ ["numbers", "sets", "lane", "goal", "way"] (spWayF K) := ok_wayF F19 XH
  have Gsf1 : FnOk l.prog w K mg base CX0 5 f18 _ ["table", "sets"] (spStF K ⟨cN, cT, cR, cL⟩ cD (ToldAt l.prog w ⟨cB, cD, cE⟩)) := ok_stF F18 W1 Gw1 XH (PySem.W.mg_of X G a10) k10 b10 Gst
  have Gpf1 : FnOk l.prog w K mg base CX0 5 f20 _ ["table", "numbers", "sets", "lane", "goal"] (spPairF K ⟨cN, cT, cR, cL⟩ cD (ToldAt l.prog w ⟨cB, cD, cE⟩)) := ok_pairF F20 W1 (PySem.W.mg_of X G a9) k9 b9 Gon1 (PySem.W.mg_of X G a19) k19 b19 Gwf
  have Glf1 : FnOk l.prog w K mg base CX0 6 f21 _ ["table", "numbers", "sets", "lane"] (spLaneF K ⟨cN, cT, cR, cL⟩ cD (ToldAt l.prog w ⟨cB, cD, cE⟩)) := ok_laneF F21 L W1 ncDland ME Ge (PySem.W.mg_of X G a2) k2 b2 Gm (PySem.W.mg_of X G a20) k20 b20 Gpf1
  have Gfa1 : FnOk l.prog w K mg base CX0 7 f22 _ ["table", "paper"] (spFault K ⟨cN, cT, cR, cL⟩ cD (ToldAt l.prog w ⟨cB, cD, cE⟩)) := ok_fault F22 T W1 ncDland (PySem.W.mg_of X G a17) k17 b17 Gsz (PySem.W.mg_of X G a18) k18 b18 Gsf1 (PySem.W.mg_of X G a21) k21 b21 Glf1
  have Gsf2 : FnOk l.prog w K mg base CX0 5 f18 _ ["table", "sets"] (spStF K ⟨cN, cT, cR, cL⟩ cS (LessAt l.prog w cS)) := ok_stF F18 W2 Gw2 XH (PySem.W.mg_of X G a10) k10 b10 Gst2
  have Gpf2 : FnOk l.prog w K mg base CX0 5 f20 _ ["table", "numbers", "sets", "lane", "goal"] (spPairF K ⟨cN, cT, cR, cL⟩ cS (LessAt l.prog w cS)) := ok_pairF F20 W2 (PySem.W.mg_of X G a9) k9 b9 Gon2 (PySem.W.mg_of X G a19) k19 b19 Gwf
  have Glf2 : FnOk l.prog w K mg base CX0 6 f21 _ ["table", "numbers", "sets", "lane"] (spLaneF K ⟨cN, cT, cR, cL⟩ cS (LessAt l.prog w cS)) := ok_laneF F21 L W2 ncSland ME Ge (PySem.W.mg_of X G a2) k2 b2 Gm (PySem.W.mg_of X G a20) k20 b20 Gpf2
  have Gfa2 : FnOk l.prog w K mg base CX0 7 f22 _ ["table", "paper"] (spFault K ⟨cN, cT, cR, cL⟩ cS (LessAt l.prog w cS)) := ok_fault F22 T W2 ncSland (PySem.W.mg_of X G a17) k17 b17 Gsz (PySem.W.mg_of X G a18) k18 b18 Gsf2 (PySem.W.mg_of X G a21) k21 b21 Glf2
  have Gdb : FnOk l.prog w K mg base CX0 1 f23 _ ["_law_script", "_law_k"] (spDrawB K) := ok_drawB F23 T
  have Gse : FnOk l.prog w K mg base CX0 2 f29 _ ["_law_script", "_law_k"] (spLSet K) := ok_lset F29 (PySem.W.mg_of X G a23) k23 b23 Gdb
  have Gnm : FnOk l.prog w K mg base CX0 2 f25 _ ["_law_script", "_law_lanes"] (spNums K) := ok_nums F25 T (PySem.W.mg_of X G a23) k23 b23 Gd
  have Gre : FnOk l.prog w K mg base CX0 1 f26 _ ["_law_lanes", "_law_numbers_here"] (spReach K) := ok_reach F26 T
  have Gfw : FnOk l.prog w K mg base CX0 1 f27 _ ["_law_ways", "_law_draw_here"] spFewer := ok_fewer F27 T
  have Grs : FnOk l.prog w K mg base CX0 2 f28 _ ["_law_script", "_law_places", "_law_lanes", "_law_numbers_here", "_law_reach_here"] (spRows K) := ok_rows F28 T (PySem.W.mg_of X G a23) k23 b23 Gd (PySem.W.mg_of X G a27) k27 b27 Gfw
  exact ok_law (c := ⟨cN, cT, cR, cL⟩) (ts := ⟨cB, cD, cE⟩) F30 T ⟨PySem.W.mg_of X G a24, k24, b24, Gld, PySem.W.mg_of X G a25, k25, b25, Gnm, PySem.W.mg_of X G a26, k26, b26, Gre, PySem.W.mg_of X G a28, k28, b28, Grs, (PySem.W.mg_of X G gcL), Mi, b31, Gi, (PySem.W.mg_of X G gcD), Mt, b39, Gt, PySem.W.mg_of X G a29, k29, b29, Gse, (PySem.W.mg_of X G gcS), Mls, b41, Gls.or Gls2, PySem.W.mg_of X G a13, k13, b13, Gme1, Gme2, PySem.W.mg_of X G a15, k15, b15, Glo2, PySem.W.mg_of X G a22, k22, b22, Gfa1, Gfa2, PySem.W.mg_of X G a23, k23, b23, Gd, W1, Lc⟩
theorem walk {l : PySem.W.OpenLaw} {q : Program} {loose : List Str} {XP : (Str → Option Value) → Heap → Prop} {YP : World → Heap → Prop} {d : DefRec} {K : Params → PySem.W.Frag} (hn : l.most = some 63) (hdf : d.params.defaults = [])
    (hY : ∀ (w : World) (h : Heap), YP w h → (K w.params).In h)
    (F : ∀ (w : World) (mg : Str → Option Value) (fa : Addr) (h : Heap), (K w.params).In h → h.Ns mainGlobals mg → mg d.name = some (.ref fa) →
      ∃ fd : FuncData, (∀ (s : Shared) (u : Value), BindsTo s fd ⟨[u], []⟩ [("_law_script", u)]) ∧ ∀ base : Heap, (K w.params).In base → base.Ns mainGlobals mg → FnOk l.prog w (K w.params) mg base CX0 8 fa fd ["_law_script"] (spLaw (K w.params))) :
    PySem.W.WalkO q loose XP YP l.row.toRowW d [] (fun f vs => PySem.call f vs) :=
  L2.walk_of (n := 63) (k := 8) (x := "_law_script") (CX := fun _ => CX0) (sp := fun w => spLaw (K w.params)) hn (by decide) hdf ⟨rfl, by decide, by decide⟩ hY F (fun _ _ a ns hl _ hS => ⟨a, ns, rfl, hS, hl, fun _ => rfl⟩) fun _ _ _ _ _ z => z
end K73
theorem PySem.W.Fast.tw8868149245423132844 : True := trivial
theorem PySem.W.Fast.tw7267388662375378677 : True := trivial
theorem PySem.W.Fast.tw8461244200721742907 : True := trivial
theorem PySem.W.Fast.tw8590232309109627126 : True := trivial
theorem PySem.W.Fast.tw8335198316182227404 : True := trivial
theorem PySem.W.Fast.tw3318798189162197514 : True := trivial
theorem PySem.W.Fast.tw9105593764400790934 : True := trivial
theorem PySem.W.Fast.tw3894082006025025733 : True := trivial
theorem PySem.W.Fast.tw1038616860712249032 : True := trivial
theorem PySem.W.Fast.tw8515435176025195740 : True := trivial
theorem PySem.W.Fast.tw12748512126775478963 : True := trivial
theorem PySem.W.Fast.tw9806816224287306582 : True := trivial
theorem PySem.W.Fast.tw5274688766774195580 : True := trivial
theorem PySem.W.Fast.tw1445148687049320349 : True := trivial
open PySem PySem.W PyProof.Rows
set_option maxRecDepth 100000 in
set_option maxHeartbeats 0 in
theorem PySem.Challenge.cw_wormyard_k73_whole_papers_of_what_is_lef_holds : PySem.Challenge.rw_wormyard_k73_whole_papers_of_what_is_lef.Holds := by
  w_on; o_law; k_head; (case hw => w_witness2)
  k_fill
  refine K73.walk (l := PySem.Challenge.rw_wormyard_k73_whole_papers_of_what_is_lef) rfl rfl (fun w h Y => PySem.W.kIn_of Y) ?F
  case F =>
    intro w mg fa h KX G hmg
    refine' K73.all_mk KX G hmg ?gcL ?gcN ?gcT ?gcR ?gcE ?gcB ?gcD ?gcS ?a1 ?l1 ?c1 ?k1 ?a2 ?l2 ?c2 ?k2 ?a3 ?l3 ?c3 ?k3 ?a4 ?l4 ?c4 ?k4 ?a5 ?l5 ?c5 ?k5 ?a6 ?l6 ?c6 ?k6 ?a7 ?l7 ?c7 ?k7 ?a8 ?l8 ?c8 ?k8 ?a9 ?l9 ?c9 ?k9 ?a10 ?l10 ?c10 ?k10 ?a11 ?l11 ?c11 ?k11 ?a12 ?l12 ?c12 ?k12 ?a13 ?l13 ?c13 ?k13 ?a14 ?l14 ?c14 ?k14 ?a15 ?l15 ?c15 ?k15 ?a16 ?l16 ?c16 ?k16 ?a17 ?l17 ?c17 ?k17 ?a18 ?l18 ?c18 ?k18 ?a19 ?l19 ?c19 ?k19 ?a20 ?l20 ?c20 ?k20 ?a21 ?l21 ?c21 ?k21 ?a22 ?l22 ?c22 ?k22 ?a23 ?l23 ?c23 ?k23 ?a24 ?l24 ?c24 ?k24 ?a25 ?l25 ?c25 ?k25 ?a26 ?l26 ?c26 ?k26 ?a27 ?l27 ?c27 ?k27 ?a28 ?l28 ?c28 ?k28 ?a29 ?l29 ?c29 ?k29 ?a30 ?l30 ?c30 ?k30 ?a31 ?l31 ?c31 ?k31 ?i31 ?a32 ?l32 ?c32 ?k32 ?i32 ?a33 ?l33 ?c33 ?k33 ?i33 ?a34 ?l34 ?c34 ?k34 ?i34 ?a35 ?l35 ?c35 ?k35 ?i35 ?a36 ?l36 ?c36 ?k36 ?i36 ?a37 ?l37 ?c37 ?k37 ?i37 ?a38 ?l38 ?c38 ?k38 ?i38 ?a39 ?l39 ?c39 ?k39 ?i39 ?a40 ?l40 ?c40 ?k40 ?i40 ?a41 ?l41 ?c41 ?k41 ?i41 ?a42 ?l42 ?c42 ?k42 ?i42 ?mp ?ml ?p1cL ?p2cL ?p3cL ?p4cL ?p5cL ?p6cL ?ncLplaces ?ncLlanes ?p1cB ?p2cB ?p3cB ?p4cB ?p5cB ?p6cB ?ncBland ?p1cD ?p2cD ?p3cD ?p4cD ?p5cD ?p6cD ?ncDland ?ncDentries ?p1cS ?p2cS ?p3cS ?p4cS ?p5cS ?p6cS ?ncSland ?ncSentries ?ncScut ?x1cN ?x2cN ?x1cT ?x2cT ?x3cT ?x4cT ?x5cT ?x6cT ?x7cT ?ncTmany ?x1cR ?x2cR ?x3cR ?x4cR ?x5cR ?x6cR ?x7cR ?ncRlane ?x1cE ?x2cE ?x3cE ?x4cE ?x5cE ?x6cE ?x7cE ?ncErow ?w1cB ?w2cB ?w3cB ?z0 ?z1 ?z2 ?z3 ?z4 ?z5 ?z6 ?z7 ?z8
    (case gcL => k_is)
    (case gcN => k_is)
    (case gcT => k_is)
    (case gcR => k_is)
    (case gcE => k_is)
    (case gcB => k_is)
    (case gcD => k_is)
    (case gcS => k_is)
    (case a1 => k_is)
    (case l1 => k_is)
    (case c1 => k_is)
    (case k1 => k_is)
    (case a2 => k_is)
    (case l2 => k_is)
    (case c2 => k_is)
    (case k2 => k_is)
    (case a3 => k_is)
    (case l3 => k_is)
    (case c3 => k_is)
    (case k3 => k_is)
    (case a4 => k_is)
    (case l4 => k_is)
    (case c4 => k_is)
    (case k4 => k_is)
    (case a5 => k_is)
    (case l5 => k_is)
    (case c5 => k_is)
    (case k5 => k_is)
    (case a6 => k_is)
    (case l6 => k_is)
    (case c6 => k_is)
    (case k6 => k_is)
    (case a7 => k_is)
    (case l7 => k_is)
    (case c7 => k_is)
    (case k7 => k_is)
    (case a8 => k_is)
    (case l8 => k_is)
    (case c8 => k_is)
    (case k8 => k_is)
    (case a9 => k_is)
    (case l9 => k_is)
    (case c9 => k_is)
    (case k9 => k_is)
    (case a10 => k_is)
    (case l10 => k_is)
    (case c10 => k_is)
    (case k10 => k_is)
    (case a11 => k_is)
    (case l11 => k_is)
    (case c11 => k_is)
    (case k11 => k_is)
    (case a12 => k_is)
    (case l12 => k_is)
    (case c12 => k_is)
    (case k12 => k_is)
    (case a13 => k_is)
    (case l13 => k_is)
    (case c13 => k_is)
    (case k13 => k_is)
    (case a14 => k_is)
    (case l14 => k_is)
    (case c14 => k_is)
    (case k14 => k_is)
    (case a15 => k_is)
    (case l15 => k_is)
    (case c15 => k_is)
    (case k15 => k_is)
    (case a16 => k_is)
    (case l16 => k_is)
    (case c16 => k_is)
    (case k16 => k_is)
    (case a17 => k_is)
    (case l17 => k_is)
    (case c17 => k_is)
    (case k17 => k_is)
    (case a18 => k_is)
    (case l18 => k_is)
    (case c18 => k_is)
    (case k18 => k_is)
    (case a19 => k_is)
    (case l19 => k_is)
    (case c19 => k_is)
    (case k19 => k_is)
    (case a20 => k_is)
    (case l20 => k_is)
    (case c20 => k_is)
    (case k20 => k_is)
    (case a21 => k_is)
    (case l21 => k_is)
    (case c21 => k_is)
    (case k21 => k_is)
    (case a22 => k_is)
    (case l22 => k_is)
    (case c22 => k_is)
    (case k22 => k_is)
    (case a23 => k_is)
    (case l23 => k_is)
    (case c23 => k_is)
    (case k23 => k_is)
    (case a24 => k_is)
    (case l24 => k_is)
    (case c24 => k_is)
    (case k24 => k_is)
    (case a25 => k_is)
    (case l25 => k_is)
    (case c25 => k_is)
    (case k25 => k_is)
    (case a26 => k_is)
    (case l26 => k_is)
    (case c26 => k_is)
    (case k26 => k_is)
    (case a27 => k_is)
    (case l27 => k_is)
    (case c27 => k_is)
    (case k27 => k_is)
    (case a28 => k_is)
    (case l28 => k_is)
    (case c28 => k_is)
    (case k28 => k_is)
    (case a29 => k_is)
    (case l29 => k_is)
    (case c29 => k_is)
    (case k29 => k_is)
    (case a30 => k_is)
    (case l30 => k_is)
    (case c30 => k_is)
    (case k30 => k_is)
    (case a31 => k_is)
    (case l31 => k_is)
    (case c31 => k_is)
    (case k31 => k_is)
    (case i31 => k_is)
    (case a32 => k_is)
    (case l32 => k_is)
    (case c32 => k_is)
    (case k32 => k_is)
    (case i32 => k_is)
    (case a33 => k_is)
    (case l33 => k_is)
    (case c33 => k_is)
    (case k33 => k_is)
    (case i33 => k_is)
    (case a34 => k_is)
    (case l34 => k_is)
    (case c34 => k_is)
    (case k34 => k_is)
    (case i34 => k_is)
    (case a35 => k_is)
    (case l35 => k_is)
    (case c35 => k_is)
    (case k35 => k_is)
    (case i35 => k_is)
    (case a36 => k_is)
    (case l36 => k_is)
    (case c36 => k_is)
    (case k36 => k_is)
    (case i36 => k_is)
    (case a37 => k_is)
    (case l37 => k_is)
    (case c37 => k_is)
    (case k37 => k_is)
    (case i37 => k_is)
    (case a38 => k_is)
    (case l38 => k_is)
    (case c38 => k_is)
    (case k38 => k_is)
    (case i38 => k_is)
    (case a39 => k_is)
    (case l39 => k_is)
    (case c39 => k_is)
    (case k39 => k_is)
    (case i39 => k_is)
    (case a40 => k_is)
    (case l40 => k_is)
    (case c40 => k_is)
    (case k40 => k_is)
    (case i40 => k_is)
    (case a41 => k_is)
    (case l41 => k_is)
    (case c41 => k_is)
    (case k41 => k_is)
    (case i41 => k_is)
    (case a42 => k_is)
    (case l42 => k_is)
    (case c42 => k_is)
    (case k42 => k_is)
    (case i42 => k_is)
    (case mp => k_is)
    (case ml => k_is)
    (case p1cL => k_is)
    (case p2cL => k_is)
    (case p3cL => k_is)
    (case p4cL => k_is)
    (case p5cL => k_is)
    (case p6cL => k_is)
    (case ncLplaces => k_is)
    (case ncLlanes => k_is)
    (case p1cB => k_is)
    (case p2cB => k_is)
    (case p3cB => k_is)
    (case p4cB => k_is)
    (case p5cB => k_is)
    (case p6cB => k_is)
    (case ncBland => k_is)
    (case p1cD => k_is)
    (case p2cD => k_is)
    (case p3cD => k_is)
    (case p4cD => k_is)
    (case p5cD => k_is)
    (case p6cD => k_is)
    (case ncDland => k_is)
    (case ncDentries => k_is)
    (case p1cS => k_is)
    (case p2cS => k_is)
    (case p3cS => k_is)
    (case p4cS => k_is)
    (case p5cS => k_is)
    (case p6cS => k_is)
    (case ncSland => k_is)
    (case ncSentries => k_is)
    (case ncScut => k_is)
    (case x1cN => kernel_rfl)
    (case x2cN => k_is)
    (case x1cT => kernel_rfl)
    (case x2cT => k_is)
    (case x3cT => kernel_rfl)
    (case x4cT => k_is)
    (case x5cT => k_is)
    (case x6cT => k_is)
    (case x7cT => k_is)
    (case ncTmany => k_is)
    (case x1cR => kernel_rfl)
    (case x2cR => k_is)
    (case x3cR => kernel_rfl)
    (case x4cR => k_is)
    (case x5cR => k_is)
    (case x6cR => k_is)
    (case x7cR => k_is)
    (case ncRlane => k_is)
    (case x1cE => kernel_rfl)
    (case x2cE => k_is)
    (case x3cE => kernel_rfl)
    (case x4cE => k_is)
    (case x5cE => k_is)
    (case x6cE => k_is)
    (case x7cE => k_is)
    (case ncErow => k_is)
    (case w1cB => first | k_is | kernel_rfl)
    (case w2cB => first | k_is | kernel_rfl)
    (case w3cB => first | k_is | kernel_rfl)
    (case z0 => k_is)
    (case z1 => k_is)
    (case z2 => k_is)
    (case z3 => k_is)
    (case z4 => k_is)
    (case z5 => k_is)
    (case z6 => k_is)
    (case z7 => k_is)
    (case z8 => k_is)
