import PyProof.Rows.All
import Wide.All
import OpenK.AllK
import Wide.FinOn
import Lean
import PyProof.EqAt
import PyProof.EqKinds
import PyProof.TupleCall
import PyProof.ExcBaseAll.ValueError
import PyProof.EnumMake
import PyProof.Rows.EnumRows
import PyProof.TupleIter
import PyProof.DictValues
import PyProof.CollectStr
import PySem.Builtin.Int.W1All
import PyProof.Rows.SetFrom
import PyProof.Rows.SortShell
import PyProof.FactsAll.set_1
import PyProof.FactsAll.set_2
import PyProof.Rows.SortWalk
import PyProof.DictRoadsH
import PyProof.DictKinds
import PyProof.FactsAll.NoneType
import PySem.Challenge.RW_wormyard_k11_told_tables
set_option Elab.async false
set_option linter.all false
set_option maxRecDepth 100000
set_option maxHeartbeats 4000000
namespace OmC
theorem len1 {α : Type} {P : List α → Prop} (h : ∀ a0, P [a0]) : ∀ us : List α, us.length = 1 → P us
  | [a0], _ => h a0
theorem len2 {α : Type} {P : List α → Prop} (h : ∀ a0 a1, P [a0, a1]) : ∀ us : List α, us.length = 2 → P us
  | [a0, a1], _ => h a0 a1
theorem len3 {α : Type} {P : List α → Prop} (h : ∀ a0 a1 a2, P [a0, a1, a2]) : ∀ us : List α, us.length = 3 → P us
  | [a0, a1, a2], _ => h a0 a1 a2
theorem len4 {α : Type} {P : List α → Prop} (h : ∀ a0 a1 a2 a3, P [a0, a1, a2, a3]) : ∀ us : List α, us.length = 4 → P us
  | [a0, a1, a2, a3], _ => h a0 a1 a2 a3
theorem len5 {α : Type} {P : List α → Prop} (h : ∀ a0 a1 a2 a3 a4, P [a0, a1, a2, a3, a4]) : ∀ us : List α, us.length = 5 → P us
  | [a0, a1, a2, a3, a4], _ => h a0 a1 a2 a3 a4
theorem len6 {α : Type} {P : List α → Prop} (h : ∀ a0 a1 a2 a3 a4 a5, P [a0, a1, a2, a3, a4, a5]) : ∀ us : List α, us.length = 6 → P us
  | [a0, a1, a2, a3, a4, a5], _ => h a0 a1 a2 a3 a4 a5
theorem len7 {α : Type} {P : List α → Prop} (h : ∀ a0 a1 a2 a3 a4 a5 a6, P [a0, a1, a2, a3, a4, a5, a6]) : ∀ us : List α, us.length = 7 → P us
  | [a0, a1, a2, a3, a4, a5, a6], _ => h a0 a1 a2 a3 a4 a5 a6
end OmC
namespace OmC
theorem ltp {n : Nat} (h : 0 < n) : (0 : Int) < (n : Int) := Int.natCast_pos.mpr h
theorem ltq {n : Nat} (h : 1 ≤ n) : (0 : Int) < (n : Int) := Int.natCast_pos.mpr h
theorem nep {n : Nat} (h : 0 < n) (z : (n : Int) = 0) : False := Int.ne_of_gt (ltp h) z
theorem lo {n : Nat} : -2 ^ 62 ≤ (n : Int) := Int.le_trans (by decide) (Int.natCast_nonneg n)
theorem hi {n m : Nat} (h : n ≤ m) (hm : m < 2 ^ 62) : (n : Int) < 2 ^ 62 := Int.ofNat_lt.mpr (Nat.lt_of_le_of_lt h hm)
theorem hi2 {n m : Nat} (h : n < m) (hm : m ≤ 2 ^ 62) : (n : Int) < 2 ^ 62 := Int.ofNat_lt.mpr (Nat.lt_of_lt_of_le h hm)
theorem mlo {a n : Int} (hn : 0 < n) : -2 ^ 62 ≤ a % n := Int.le_trans (by decide) (Int.emod_nonneg a (Int.ne_of_gt hn))
theorem mhi {a n : Int} (hn : 0 < n) (h : n ≤ 2 ^ 62) : a % n < 2 ^ 62 := Int.lt_of_lt_of_le (Int.emod_lt_of_pos a hn) h
theorem toN {a : Int} {n : Int} (hn : 0 < n) : a % n = ((a % n).toNat : Int) := (Int.toNat_of_nonneg (Int.emod_nonneg a (Int.ne_of_gt hn))).symm
theorem toNp {a : Int} {n : Nat} (hn : 0 < n) : a % (n : Int) = ((a % (n : Int)).toNat : Int) := toN (ltp hn)
theorem nlt {a : Int} {n : Nat} (hn : 0 < n) : (a % (n : Int)).toNat < n := (Int.toNat_lt (Int.emod_nonneg a (Int.ne_of_gt (ltp hn)))).mpr (Int.emod_lt_of_pos a (ltp hn))
end OmC
local macro_rules
  | `(tactic| omega) => `(tactic| first
    | with_reducible assumption
    | with_reducible exact Nat.zero_le _
    | with_reducible exact Nat.le_refl _
    | with_reducible exact Nat.lt_succ_self _
    | with_reducible exact Nat.succ_pos _
    | with_reducible exact Int.natCast_nonneg _
    | with_reducible exact OmC.ltp (by assumption)
    | with_reducible exact OmC.ltq (by assumption)
    | with_reducible exact OmC.nep (by assumption) (by assumption)
    | with_reducible exact Nat.le_of_lt (by assumption)
    | with_reducible exact Nat.lt_of_le_of_lt (by assumption) (by decide)
    | with_reducible exact Nat.lt_of_lt_of_le (by assumption) (by decide)
    | with_reducible exact Nat.le_trans (by assumption) (by decide)
    | with_reducible exact Nat.le_of_lt (Nat.lt_of_lt_of_le (by assumption) (by decide))
    | with_reducible exact Nat.lt_of_lt_of_le (by assumption) (by assumption)
    | with_reducible exact Nat.lt_of_le_of_lt (by assumption) (by assumption)
    | with_reducible exact Nat.le_trans (by assumption) (by assumption)
    | with_reducible exact Nat.lt_trans (by assumption) (by assumption)
    | with_reducible exact Nat.ne_of_lt (by assumption)
    | with_reducible exact Nat.ne_of_gt (by assumption)
    | with_reducible exact Nat.pos_of_ne_zero (by assumption)
    | with_reducible exact Nat.le_of_not_lt (by assumption)
    | with_reducible exact Nat.lt_of_not_le (by assumption)
    | with_reducible exact Nat.succ_le_of_lt (by assumption)
    | with_reducible exact Nat.lt_of_succ_le (by assumption)
    | with_reducible exact Nat.lt_succ_of_le (by assumption)
    | with_reducible exact Nat.lt_succ_of_lt (by assumption)
    | with_reducible exact Nat.le_succ_of_le (by assumption)
    | with_reducible exact Nat.lt_of_succ_lt (by assumption)
    | with_reducible exact Nat.le_add_right _ _
    | with_reducible exact Nat.le_add_left _ _
    | with_reducible exact OmC.lo
    | with_reducible exact OmC.mlo (by first | decide | assumption)
    | with_reducible exact OmC.mhi (by first | decide | assumption) (by first | decide | assumption)
    | with_reducible exact OmC.hi (by assumption) (by decide)
    | with_reducible exact OmC.hi2 (by assumption) (by decide)
    | with_reducible exact OmC.toN (by first | decide | assumption)
    | with_reducible exact OmC.toNp (by assumption)
    | with_reducible exact OmC.nlt (by assumption)
    | with_reducible exact Int.le_of_lt (by assumption)
    | with_reducible exact Int.lt_of_lt_of_le (by assumption) (by decide)
    | with_reducible exact Int.lt_of_le_of_lt (by assumption) (by decide)
    | with_reducible exact Int.le_trans (by assumption) (by decide)
    | with_reducible exact Int.le_trans (by decide) (by assumption)
    | with_reducible exact Int.le_of_not_gt (by assumption)
    | with_reducible exact Int.lt_of_not_ge (by assumption)
    | with_reducible exact Int.ne_of_gt (by assumption)
    | with_reducible exact Int.emod_nonneg _ (by decide)
    | with_reducible exact Int.emod_lt_of_pos _ (by first | decide | assumption)
    | omega (config := {}))
/-! THE HAND LAYER, for ints, bools, texts, own classes, LISTS and tuples (index, slices, in, append, pop ..), calls, loops. Paste it whole ahead of your own text; what your proof does not reach may be deleted. -/
namespace L2
open PySem PySem.Spec PyProof.Rows

/-- a key: an int or a str -/
noncomputable abbrev Key := Sum Int Str
noncomputable def keyIs : Key → Value → Bool
  | .inl k, v => Value.isInt k v
  | .inr x, v => Value.isStrOf x v
noncomputable def keyH (w : World) : Key → Int
  | .inl k => hashInt k
  | .inr x => hashStr w x
theorem keyIs_shape : ∀ {k : Key} {v : Value}, keyIs k v = true → (∃ i t, k = Sum.inl i ∧ v = Value.int i t) ∨ (∃ x t, k = Sum.inr x ∧ v = Value.str x t)
  | .inl i, v, h => by
    obtain ⟨t, e⟩ := Value.isInt_shape (k := i) (v := v) h
    exact .inl ⟨i, t, rfl, e⟩
  | .inr x, v, h => by
    obtain ⟨t, e⟩ := Value.isStrOf_shape (x := x) (v := v) h
    exact .inr ⟨x, t, rfl, e⟩
theorem key_ll (a b : Int) : decide ((Sum.inl a : Key) = Sum.inl b) = (a == b) := by
  by_cases e : a = b
  · subst e; simp
  · have h : ¬ (Sum.inl a : Key) = Sum.inl b := fun q => e (Sum.inl.inj q)
    rw [decide_eq_false h]
    exact (beq_eq_false_iff_ne.mpr e).symm
theorem key_rr (a b : Str) : decide ((Sum.inr a : Key) = Sum.inr b) = decide (a = b) := by
  by_cases e : a = b
  · subst e; simp
  · have h : ¬ (Sum.inr a : Key) = Sum.inr b := fun q => e (Sum.inr.inj q)
    rw [decide_eq_false h, decide_eq_false e]
theorem key_lr (a : Int) (b : Str) : decide ((Sum.inl a : Key) = Sum.inr b) = false := decide_eq_false (fun q => nomatch q)
theorem key_rl (a : Str) (b : Int) : decide ((Sum.inr a : Key) = Sum.inl b) = false := decide_eq_false (fun q => nomatch q)

noncomputable def mixKind (prog : Program) (w : World) : PySem.KeyKind prog w Key where
  is := keyIs
  hash := keyH w
  inj := fun v a b ha hb => by
    rcases keyIs_shape ha with ⟨i, t, rfl, rfl⟩ | ⟨x, t, rfl, rfl⟩
    · rcases keyIs_shape hb with ⟨j, u, rfl, e⟩ | ⟨y, u, rfl, e⟩
      · injection e with e1 _; rw [e1]
      · exact nomatch e
    · rcases keyIs_shape hb with ⟨j, u, rfl, e⟩ | ⟨y, u, rfl, e⟩
      · exact nomatch e
      · injection e with e1 _; rw [e1]
  byValue := fun k v h => by
    rcases keyIs_shape h with ⟨i, t, rfl, rfl⟩ | ⟨x, t, rfl, rfl⟩ <;> rfl
  pyHash := fun hv h => by
    rcases keyIs_shape hv with ⟨i, t, rfl, rfl⟩ | ⟨x, t, rfl, rfl⟩
    · exact wpAny_pyHash_int h
    · exact wpAny_pyHash_str h
  eqBool := fun hu hv h => by
    rcases keyIs_shape hu with ⟨i, t, rfl, rfl⟩ | ⟨x, t, rfl, rfl⟩
    · rcases keyIs_shape hv with ⟨j, u, rfl, rfl⟩ | ⟨y, u, rfl, rfl⟩
      · rw [key_ll] at h; exact wpAny_eqBool_int h
      · rw [key_lr] at h; exact SeqAt.EqAt.int_str i t y u _ _ _ _ h
    · rcases keyIs_shape hv with ⟨j, u, rfl, rfl⟩ | ⟨y, u, rfl, rfl⟩
      · rw [key_rl] at h; exact SeqAt.EqAt.str_int x t j u _ _ _ _ h
      · rw [key_rr] at h; exact wpAny_eqBool_str h
  «strs» := fun k x t v h => by
    rcases keyIs_shape h with ⟨i, u, rfl, e⟩ | ⟨y, u, rfl, e⟩
    · exact nomatch e
    · injection e with e1 _
      subst e1
      cases v <;> rfl

end L2

namespace L2
open PySem PySem.Spec PyProof.Rows

/-- a value, without the heap -/
inductive V where
  | non | bl (b : Bool) | int (i : Int) | str (x : Str) | byt (b : Array UInt8) | flt (b : UInt64) | ref (a : Addr) | ty (n : String)
  deriving DecidableEq

noncomputable def RelV : V → Value → Prop
  | .non, u => u = Value.none
  | .bl b, u => u = Value.bool b
  | .int i, u => ∃ t, u = Value.int i t
  | .str x, u => ∃ t, u = Value.str x t
  | .byt b, u => ∃ t, u = Value.bytes b t
  | .flt b, u => ∃ t, u = Value.float b t
  | .ref a, u => u = Value.ref a
  | .ty n, u => u = Value.type n

noncomputable abbrev Vals : List V → List Value → Prop := Paired RelV
theorem Vals.length {xs : List V} {us : List Value} (r : Vals xs us) : xs.length = us.length := Paired.length r
theorem Vals.get : ∀ {xs : List V} {us : List Value} {i : Nat} {x : V}, Vals xs us → xs[i]? = some x → ∃ u, us[i]? = some u ∧ RelV x u
  | _, _, _, _, .nil, e => by simp at e
  | _, _, 0, _, .cons r _, e => by simp at e; subst e; exact ⟨_, rfl, r⟩
  | _, _, i + 1, x, .cons _ t, e => by
    obtain ⟨u, h1, h2⟩ := Vals.get (i := i) (x := x) t (by simpa using e)
    exact ⟨u, by simpa using h1, h2⟩
theorem Vals.set {x : V} {u : Value} (r : RelV x u) : ∀ {xs : List V} {us : List Value} (i : Nat), Vals xs us → Vals (xs.set i x) (us.set i u)
  | _, _, _, .nil => .nil
  | _, _, 0, .cons _ t => .cons r t
  | _, _, i + 1, .cons q t => .cons q (Vals.set r i t)
theorem Vals.append : ∀ {xs ys : List V} {us ws : List Value}, Vals xs us → Vals ys ws → Vals (xs ++ ys) (us ++ ws)
  | _, _, _, _, .nil, s => s
  | _, _, _, _, .cons r t, s => .cons r (Vals.append t s)
theorem Vals.take : ∀ {xs : List V} {us : List Value} (n : Nat), Vals xs us → Vals (xs.take n) (us.take n)
  | _, _, 0, _ => .nil
  | _, _, _ + 1, .nil => .nil
  | _, _, n + 1, .cons r t => .cons r (Vals.take n t)
theorem Vals.drop : ∀ {xs : List V} {us : List Value} (n : Nat), Vals xs us → Vals (xs.drop n) (us.drop n)
  | _, _, 0, r => r
  | _, _, _ + 1, .nil => .nil
  | _, _, n + 1, .cons _ t => Vals.drop n t

noncomputable def RelO : Option V → Option Value → Prop
  | some v, some u => RelV v u
  | none, none => True
  | _, _ => False
noncomputable def KV {κ : Type} : List (κ × V) → List (κ × Value) → Prop := Paired fun (p : κ × V) (q : κ × Value) => p.1 = q.1 ∧ RelV p.2 q.2

/-- a key of a dict (00_mix): an int or a text -/
noncomputable def kV : Key → V
  | .inl i => .int i
  | .inr x => .str x

/-- what stands at a tracked address -/
inductive HO where
  /-- a list -/
  | lst (xs : List V)
  /-- a tuple (never changes) -/
  | tup (xs : List V)
  /-- a dict whose keys are ints and texts; one whose keys are tuples of ints and texts (the empty one is both) -/
  | dK (kvs : List (Key × V)) | dT (kvs : List (List Key × V))
  /-- a set of ints: its members, its size -/
  | set (S : Int → Bool) (n : Nat)
  /-- an instance of the class at C, its dict at dx, its attributes -/
  | ins (C dx : Addr) (fs : List (Str × V))
  /-- the dict of the instance at x -/
  | own (x : Addr)
  /-- the dict of an exception -/
  | xd (fs : List (Str × V))
  /-- a bound method, f of x -/
  | met (f x : Addr)
  /-- a range object lo, lo + 1, .. below hi -/
  | rng (lo hi : Int)
  /-- a thing that is known to the object (the script; a dict while a loop walks it): read, never written while it is so -/
  | frz (o : Obj) (u : HO)
  /-- a code object's table -/
  | tbl (ps : Array Value)
  /-- any other thing, by what is true of its one object (a def of one's own: SetO a S n := HO.ext fun h => ..) -/
  | ext (φ : Heap → Prop)

noncomputable abbrev Hp := Addr → Option HO
noncomputable def upd (H : Hp) (a : Addr) (o : HO) : Hp := fun b => if b = a then some o else H b
theorem upd_same {H : Hp} {a : Addr} {o : HO} : upd H a o a = some o := by unfold upd; rw [if_pos rfl]
theorem upd_ne {H : Hp} {a b : Addr} {o : HO} (h : b ≠ a) : upd H a o b = H b := by unfold upd; rw [if_neg h]
/-- two objects of different content stand apart -/
theorem ne_of {H : Hp} {a b : Addr} {o u : HO} (h : H a = some o) (h' : H b = some u) (d : o ≠ u) : a ≠ b := by
  intro e; subst e; rw [h] at h'; exact d (Option.some.inj h')
theorem ne_of_none {H : Hp} {a b : Addr} {o : HO} (h : H a = some o) (h' : H b = none) : a ≠ b := by
  intro e; subst e; rw [h] at h'; cases h'

section
variable (P : Program) (w : World)
noncomputable def ObjOk (H : Hp) (h : Heap) (a : Addr) : HO → Prop
  | .lst xs => xs.length ≤ sizeLine ∧ ∃ (its : List Value) (n : Nat), Vals xs its ∧ h.get? a = some { cls := .type "list", data := .seq its.toArray n }
  | .tup xs => xs.length ≤ sizeLine ∧ ∃ its : List Value, Vals xs its ∧ IsTup h a its.toArray
  | .dK kvs => kvs.length ≤ sizeLine ∧ (a == sysModules) = false ∧ ∃ vs, KV kvs vs ∧ h.DictOf (mixKind P w) a vs
  | .dT kvs => kvs.length ≤ sizeLine ∧ (a == sysModules) = false ∧ ∃ xs : List (List Key × Addr × Value),
      Paired (fun (p : List Key × V) (q : List Key × Addr × Value) => p.1 = q.1 ∧ H q.2.1 = some (.tup (p.1.map kV)) ∧ RelV p.2 q.2.2) kvs xs ∧
      ∃ o es ep, h.get? a = some o ∧ o.ExactDict ∧ o.data = .dict es ep ∧ es.toList = xs.map (entryOfKey (tupleKind (mixKind P w))) ∧ (xs.map (·.1)).Nodup
  | .set S n => h.SetOf (intKind P w) a S n
  | .ins C dx fs => H dx = some (.own a) ∧ fs.length ≤ 1000 ∧ dx ≠ a ∧ h.get? a = some (PySem.W.instObj C dx) ∧
      ∃ mA, h.Ns1 dx mA ∧ (∀ f, RelO (fs.lookup f) (mA f)) ∧ PySem.Within mA (fs.map (·.1))
  | .own _ => ∃ o, h.get? a = some o
  | .xd fs => ∃ mA, h.Ns1 a mA ∧ ∀ f, RelO (fs.lookup f) (mA f)
  | .rng lo hi => ∃ t u v, h.get? a = some { cls := .type "range", data := .fields #[.int lo t, .int hi u, .int 1 v] }
  | .frz o u => h.get? a = some o ∧ ObjOk H h a u
  | .tbl ps => h.get? a = some { cls := .none, data := .fields ps }
  | .met f x => h.get? a = some (PySem.W.methodObj (.ref f) (.ref x))
  | .ext φ => φ h ∧ (∃ o, h.get? a = some o) ∧ ∀ h1 h2 : Heap, φ h1 → (∀ o, h1.get? a = some o → h2.get? a = some o) → φ h2
/-- the abstract heap is held -/
noncomputable def HOk (H : Hp) (h : Heap) : Prop := ∀ a o, H a = some o → ObjOk P w H h a o
end

section
variable {P : Program} {w : World} {H H' : Hp} {h h' : Heap} {a : Addr} {o : HO}
theorem ObjOk.lt (x : ObjOk P w H h a o) : a < h.objs.size := by
  cases o with
  | lst xs => obtain ⟨_, _, _, _, e⟩ := x; exact Heap.lt_size e
  | tup xs => obtain ⟨_, _, _, p⟩ := x; exact p.lt
  | dK kvs => obtain ⟨_, _, _, _, o, _, _, e, _⟩ := x; exact Heap.lt_size e
  | dT kvs => obtain ⟨_, _, _, _, o, _, _, e, _⟩ := x; exact Heap.lt_size e
  | set S n => obtain ⟨o, _, _, _, e, _⟩ := x; exact Heap.lt_size e
  | ins C dx fs => obtain ⟨_, _, _, e, _⟩ := x; exact Heap.lt_size e
  | own y => obtain ⟨_, e⟩ := x; exact Heap.lt_size e
  | xd fs => obtain ⟨_, ⟨_, _, _, e, _⟩, _⟩ := x; exact Heap.lt_size e
  | rng lo hi => obtain ⟨_, _, _, e⟩ := x; exact Heap.lt_size e
  | frz ob u => obtain ⟨e, _⟩ := x; exact Heap.lt_size e
  | tbl ps => exact Heap.lt_size (show h.get? a = some _ from x)
  | met f y => exact Heap.lt_size (show h.get? a = some _ from x)
  | ext φ => obtain ⟨_, ⟨_, e⟩, _⟩ := x; exact Heap.lt_size e
theorem Paired.mapP {α β : Type} {F G : α → β → Prop} : ∀ {l₁ : List α} {l₂ : List β}, Paired F l₁ l₂ → (∀ a b, F a b → G a b) → Paired G l₁ l₂
  | _, _, .nil, _ => .nil
  | _, _, .cons r t, f => .cons (f _ _ r) (Paired.mapP t f)
/-- what an object's description leans on: its own object, its own dict, the tuples -/
theorem ObjOk.stay (x : ObjOk P w H h a o) (k : ∀ b u, (b = a ∨ H b = some (.own a)) → h.get? b = some u → h'.get? b = some u)
    (ho : ∀ b, H b = some (.own a) → H' b = some (.own a)) (ht : ∀ b xs, H b = some (.tup xs) → H' b = some (.tup xs)) : ObjOk P w H' h' a o := by
  induction o with
  | lst xs => obtain ⟨z, its, n, r, e⟩ := x; exact ⟨z, its, n, r, k _ _ (.inl rfl) e⟩
  | tup xs => obtain ⟨z, its, r, ob, e, c⟩ := x; exact ⟨z, its, r, ob, k _ _ (.inl rfl) e, c⟩
  | dK kvs => obtain ⟨z, y, vs, r, ob, es, ep, e, c⟩ := x; exact ⟨z, y, vs, r, ob, es, ep, k _ _ (.inl rfl) e, c⟩
  | dT kvs =>
    obtain ⟨z, y, xs, r, ob, es, ep, e, c⟩ := x
    exact ⟨z, y, xs, Paired.mapP r fun p q z => ⟨z.1, ht _ _ z.2.1, z.2.2⟩, ob, es, ep, k _ _ (.inl rfl) e, c⟩
  | set S n => obtain ⟨ob, es, ep, t, e, c⟩ := x; exact ⟨ob, es, ep, t, k _ _ (.inl rfl) e, c⟩
  | ins C dx fs =>
    obtain ⟨d, z, ne, e, mA, ⟨od, es, ep, e2, c⟩, r⟩ := x
    exact ⟨ho _ d, z, ne, k _ _ (.inl rfl) e, mA, ⟨od, es, ep, k _ _ (.inr d) e2, c⟩, r⟩
  | own y => obtain ⟨ob, e⟩ := x; exact ⟨ob, k _ _ (.inl rfl) e⟩
  | xd fs => obtain ⟨mA, ⟨od, es, ep, e, c⟩, r⟩ := x; exact ⟨mA, ⟨od, es, ep, k _ _ (.inl rfl) e, c⟩, r⟩
  | rng lo hi => obtain ⟨t, u, v, e⟩ := x; exact ⟨t, u, v, k _ _ (.inl rfl) e⟩
  | frz ob u ih => obtain ⟨e, q⟩ := x; exact ⟨k _ _ (.inl rfl) e, ih q⟩
  | tbl ps =>
    have e : h.get? a = some { cls := .none, data := .fields ps } := x
    show h'.get? a = some { cls := .none, data := .fields ps }
    exact k a _ (.inl rfl) e
  | met f y =>
    have e : h.get? a = some (PySem.W.methodObj (.ref f) (.ref y)) := x
    show h'.get? a = some (PySem.W.methodObj (.ref f) (.ref y))
    exact k a _ (.inl rfl) e
  | ext φ => obtain ⟨p, ⟨o, e⟩, st⟩ := x; exact ⟨st _ _ p fun o q => k _ _ (.inl rfl) q, ⟨o, k _ _ (.inl rfl) e⟩, st⟩
theorem HOk.lt (x : HOk P w H h) (e : H a = some o) : a < h.objs.size := (x a o e).lt
theorem HOk.fresh (x : HOk P w H h) (e : h.objs.size ≤ a) : H a = none := by
  cases q : H a with
  | none => rfl
  | some u => exact absurd (Nat.lt_of_lt_of_le (x.lt q) e) (Nat.lt_irrefl _)
/-- every object of the heap is kept -/
theorem HOk.kept (x : HOk P w H h) (k : ∀ b u, h.get? b = some u → h'.get? b = some u) : HOk P w H h' := fun a o e =>
  (x a o e).stay (fun b u _ q => k b u q) (fun _ q => q) fun _ _ q => q
/-- a new object is laid and tracked -/
theorem HOk.laid (x : HOk P w H h) (k : ∀ b u, h.get? b = some u → h'.get? b = some u) (hp : h.objs.size ≤ a) (new : ObjOk P w (upd H a o) h' a o) : HOk P w (upd H a o) h' := fun b u e => by
  have hn := x.fresh hp
  by_cases hb : b = a
  · subst hb; rw [upd_same] at e; cases e; exact new
  · rw [upd_ne hb] at e
    exact (x b u e).stay (fun c v _ q => k c v q) (fun c q => by rw [upd_ne (ne_of_none q hn)]; exact q) fun c xs q => by rw [upd_ne (ne_of_none q hn)]; exact q
end

/-- what may be read as u: it is u, or a known u -/
noncomputable def Rd (H : Hp) (a : Addr) (u : HO) : Prop := H a = some u ∨ ∃ o, H a = some (.frz o u)
theorem Rd.ok {P : Program} {w : World} {H : Hp} {h : Heap} {a : Addr} {u : HO} (r : Rd H a u) (x : HOk P w H h) : ObjOk P w H h a u := by
  rcases r with r | ⟨o, r⟩
  · exact x a u r
  · obtain ⟨_, q⟩ := x a _ r
    exact q
/-- what may be written -/
noncomputable def Mut : Option HO → Prop
  | some (.lst _) => True
  | some (.dK _) => True
  | some (.dT _) => True
  | some (.set _ _) => True
  | some (.ins _ _ _) => True
  | some (.ext _) => True
  | _ => False
section
variable {P : Program} {w : World} {H : Hp} {h h' : Heap} {x e : Addr} {o' : HO}
/-- the object at e is changed: x itself, or the dict of the instance x -/
theorem HOk.write (ok : HOk P w H h) (mu : Mut (H x)) (he : e = x ∨ H e = some (.own x)) (k : ∀ b u, b ≠ e → h.get? b = some u → h'.get? b = some u) (heo : ∃ u, h'.get? e = some u)
    (new : ObjOk P w (upd H x o') h' x o') : HOk P w (upd H x o') h' := fun b u q => by
  have nown : ∀ c y, H c = some (.own y) → c ≠ x := fun c y r z => by subst z; rw [r] at mu; exact mu
  have ntup : ∀ c xs, H c = some (.tup xs) → c ≠ x := fun c xs r z => by subst z; rw [r] at mu; exact mu
  by_cases hb : b = x
  · subst hb; rw [upd_same] at q; cases q; exact new
  · rw [upd_ne hb] at q
    by_cases hbe : b = e
    · have q' : H b = some (.own x) := by
        rcases he with z | z
        · exact absurd (hbe.trans z) hb
        · rw [hbe]; exact z
      rw [q] at q'; cases q'
      obtain ⟨v, hv⟩ := heo
      exact ⟨v, by rw [hbe]; exact hv⟩
    · refine (ok b u q).stay (fun c v hc r => k c v ?_ r) (fun c r => by rw [upd_ne (nown c b r)]; exact r) fun c xs r => by rw [upd_ne (ntup c xs r)]; exact r
      rcases hc with rfl | hc
      · exact hbe
      · rintro rfl
        rcases he with z | z
        · exact nown c b hc z
        · rw [hc] at z; cases z; exact hb rfl
end

/-! ### kept unless tracked; of the frames at fs (the callers') the slots may change (an exception that passes writes there); of the records at ex (iterators) nothing is said -/
structure Un (fs ex : List Addr) (H H' : Hp) (h h' : Heap) : Prop where
  keep : ∀ b o, h.get? b = some o → H b = none → b ∉ fs → b ∉ ex → h'.get? b = some o
  slot : ∀ b o, h.get? b = some o → H b = none → b ∈ fs → b ∉ ex → ∃ sl, h'.get? b = some { o with slots := sl }
  free : ∀ b o, h.get? b = some o → H b = none → b ∉ ex → H' b = none
  there : ∀ b o, h.get? b = some o → b ∉ ex → ∃ o', h'.get? b = some o'
  tups : ∀ b xs, H b = some (.tup xs) → H' b = some (.tup xs)
  frzs : ∀ b o u, H b = some (.frz o u) → H' b = some (.frz o u)
  tbls : ∀ b ps, H b = some (.tbl ps) → ∃ more, H' b = some (.tbl (ps ++ more))
section
variable {fs fs' ex ex' : List Addr} {H H1 H2 : Hp} {h h1 h2 h' : Heap} {a x e : Addr} {o : HO}
theorem Un.any (u : Un fs ex H H1 h h1) {b : Addr} {ob : Obj} (q : h.get? b = some ob) (n : H b = none) (hx : b ∉ ex) : ∃ sl, h1.get? b = some { ob with slots := sl } := by
  by_cases hb : b ∈ fs
  · exact u.slot b ob q n hb hx
  · exact ⟨ob.slots, u.keep b ob q n hb hx⟩
theorem Un.kept (k : ∀ b u, h.get? b = some u → h'.get? b = some u) : Un fs ex H H h h' :=
  ⟨fun b ob q _ _ _ => k b ob q, fun b ob q _ _ _ => ⟨ob.slots, k b ob q⟩, fun _ _ _ n _ => n, fun b ob q _ => ⟨ob, k b ob q⟩, fun _ _ q => q, fun _ _ _ q => q, fun _ ps q => ⟨#[], by rw [q]; simp⟩⟩
theorem Un.refl : Un fs ex H H h h := Un.kept fun _ _ q => q
theorem Un.laid (k : ∀ b u, h.get? b = some u → h'.get? b = some u) (hp : h.objs.size ≤ a) (hn : H a = none) : Un fs ex H (upd H a o) h h' where
  keep := fun b u q _ _ _ => k b u q
  slot := fun b u q _ _ _ => ⟨u.slots, k b u q⟩
  free := fun b u q n _ => by rw [upd_ne (Nat.ne_of_lt (Nat.lt_of_lt_of_le (Heap.lt_size q) hp))]; exact n
  there := fun b u q _ => ⟨u, k b u q⟩
  tups := fun b xs q => by rw [upd_ne (ne_of_none q hn)]; exact q
  frzs := fun b u xs q => by rw [upd_ne (ne_of_none q hn)]; exact q
  tbls := fun b ps q => ⟨#[], by rw [upd_ne (ne_of_none q hn), q]; simp⟩
theorem Un.write (mu : Mut (H x)) (he : e = x ∨ H e = some (.own x)) (k : ∀ b u, b ≠ e → h.get? b = some u → h'.get? b = some u) (heo : ∃ u, h'.get? e = some u) : Un fs ex H (upd H x o) h h' := by
  have hx : ∀ b, H b = none → b ≠ x := fun b n z => by subst z; rw [n] at mu; exact mu
  have hb : ∀ b, H b = none → b ≠ e := fun b n z => by
    subst z
    rcases he with r | r
    · exact hx b n r
    · rw [n] at r; cases r
  have hm : ∀ b u, H b = some u → ¬ Mut (some u) → b ≠ x := fun b u q nm z => by subst z; rw [q] at mu; exact nm mu
  refine ⟨fun b u q n _ _ => k b u (hb b n) q, fun b u q n _ _ => ⟨u.slots, k b u (hb b n) q⟩, fun b u q n _ => by rw [upd_ne (hx b n)]; exact n, fun b u q _ => ?_,
    fun b xs q => by rw [upd_ne (hm b _ q fun z => z)]; exact q, fun b u xs q => by rw [upd_ne (hm b _ q fun z => z)]; exact q, fun b ps q => ⟨#[], by rw [upd_ne (hm b _ q fun z => z), q]; simp⟩⟩
  by_cases hbe : b = e
  · subst hbe; exact heo
  · exact ⟨u, k b u hbe q⟩
end

/-! ### the heap without what is tracked -/
noncomputable def trk (h : Heap) (H : Hp) : List Addr := (List.range h.objs.size).filter fun a => (H a).isSome
noncomputable def hidT (h : Heap) (H : Hp) : Heap := PySem.W.hideAll h (trk h H)
theorem hidT_size (h : Heap) (H : Hp) : (hidT h H).objs.size = h.objs.size := PySem.W.hideAll_size _ _
theorem hidT_get {h : Heap} {H : Hp} {b : Addr} {o : Obj} (e : h.get? b = some o) (n : H b = none) : (hidT h H).get? b = some o :=
  PySem.W.hideAll_get _ e fun hm => by
    have q : (H b).isSome = true := (List.mem_filter.mp hm).2
    rw [n] at q; simp at q
theorem of_hidT {h : Heap} {H : Hp} {b : Addr} {o : Obj} (e : (hidT h H).get? b = some o) : h.get? b = some o ∧ H b = none := by
  have e' : h.get? b = some o := PySem.W.of_hideAll (trk h H) e
  refine ⟨e', ?_⟩
  cases q : H b with
  | none => rfl
  | some x =>
    have hm : b ∈ trk h H := List.mem_filter.mpr ⟨List.mem_range.mpr (Heap.lt_size e'), by simp [q]⟩
    have z : (hidT h H).get? b = none := PySem.W.hideAll_none (trk h H) hm
    rw [z] at e; cases e

/-! ### OpenK's ledger, filled with every new object but one -/
noncomputable def allNews (g h : Heap) (L : Addr) : List (Addr × Obj) := (List.range h.objs.size).filterMap fun a => if a = L ∨ (g.get? a).isSome = true then none else (h.get? a).map fun o => (a, o)
noncomputable def rest (g h : Heap) (L d : Addr) : List (Addr × Obj) := (allNews g h L).filter fun p => decide (p.1 ≠ d)
end L2

namespace L2
open PySem PySem.Spec PyProof.Rows

/-- the module's facts, over the base: the heap at the law's entry without what is tracked there -/
structure Mod (K : PySem.W.Frag) (mg : Str → Option Value) (base : Heap) : Prop where
  kin : K.In base
  glob : base.Ns mainGlobals mg
  blt : ∃ mb, base.Ns builtinsNs mb ∧ ∀ x : Str, x ≠ "__name__" → mb x = bootBuiltins x
  nolimit : base.NoLimit

/-- the context: a def's body (or a comprehension's block) running. base: fixed through the whole law; s₀, H₀: the entry; outer: the frames whose slots others may change (a def's callers); stack: all frames that run;
   ex: iterators that were made ahead of the entry and are walked here (a comprehension's); fn: the names whose cells were made at the entry (a def: all; a comprehension's block: its own); calm: not within an except suite; pn: pins that every state bears; xe: what is wanted of an exception that leaves the code -/
structure Cx where
  prog : Program
  w : World
  K : PySem.W.Frag
  mg : Str → Option Value
  base : Heap
  A : Around
  N : List Str
  s₀ : Shared
  H₀ : Hp
  env : Env
  outer : List Env
  stack : List Env
  ex : List Addr
  fn : Str → Bool
  calm : Bool
  pn : List (Addr × Obj)
  xe : Value → Shared → Prop
/-- the callers' frames -/
noncomputable def frs (l : List Env) : List Addr := l.filterMap (·.frame)
noncomputable abbrev Cx.fs (X : Cx) : List Addr := frs X.outer

noncomputable def Vis (sc : Scope) (x : Str) : Prop := sc.names.lookup x = some .local ∨ sc.names.lookup x = some .cell ∨ sc.names.lookup x = some .free
noncomputable def Loc (sc : Scope) (x : Str) : Prop := sc.names.lookup x = some .local ∨ sc.names.lookup x = some .cell
noncomputable def Look (env : Env) (h : Heap) (m : Str → Option Value) (x : Str) (u : Value) : Prop :=
  (env.kindOf x = some .local ∧ m x = some u) ∨ ((env.kindOf x = some .cell ∨ env.kindOf x = some .free) ∧ ∃ c, env.cells.lookup x = some c ∧ h.IsCell c (some u))

structure Cx.Ok (X : Cx) : Prop where
  mod : Mod X.K X.mg X.base
  kind : X.env.scope.kind = .function
  glob : X.env.globals = mainGlobals
  blt : X.env.builtins = builtinsNs
  above : X.s₀.heap.objs.size ≤ X.env.locals
  inj : ∀ x y c, X.env.cells.lookup x = some c → X.env.cells.lookup y = some c → x = y
  has : ∀ x, (X.env.kindOf x = some .cell ∨ X.env.kindOf x = some .free) → ∃ c, X.env.cells.lookup x = some c
  cab : ∀ x c, X.fn x = true → X.env.cells.lookup x = some c → X.s₀.heap.objs.size ≤ c
  hd : X.calm = true → X.A.handled = none
  frames : X.A.frames = some X.stack
  stk : X.stack = X.outer ∨ (X.stack = X.env :: X.outer ∧ X.env.frame = some X.env.locals)
  exf : ∀ b ∈ X.ex, b ≠ X.env.locals ∧ ∀ x c, X.env.cells.lookup x = some c → c ≠ b
  bs : ∀ b o, X.base.get? b = some o → X.s₀.heap.get? b = some o ∧ X.H₀ b = none
  bsz : X.base.objs.size ≤ X.s₀.heap.objs.size
  noex : ∀ b o, X.base.get? b = some o → b ∉ X.ex
  exfs : ∀ b ∈ X.ex, b ∉ X.fs
  funs : X.s₀.heap.FunFrames X.base X.outer
  frf : ∀ b ∈ X.fs, X.H₀ b = none

structure Inv (X : Cx) (pins : List (Addr × Obj)) (σ : List (Option V)) (H : Hp) (s : Shared) : Prop where
  ok : X.Ok
  os : s.os = X.s₀.os
  bare : AllBare s.gens
  base : Un X.fs X.ex X.H₀ H X.s₀.heap s.heap
  loc : ∃ m, s.heap.Ns X.env.locals m ∧ ∀ (i : Nat) (x : Str) (v : V), X.N[i]? = some x → σ[i]? = some (some v) → Vis X.env.scope x → ∃ u, RelV v u ∧ Look X.env s.heap m x u
  cell : ∀ x c, X.env.cells.lookup x = some c → ∃ v, s.heap.IsCell c v
  free : H X.env.locals = none
  freeC : ∀ x c, X.env.cells.lookup x = some c → H c = none
  pin : ∀ p ∈ X.pn ++ pins, s.heap.get? p.1 = some p.2 ∧ H p.1 = none ∧ p.1 ≠ X.env.locals ∧ p.1 ∉ X.fs ∧ ∀ v, p.2.data ≠ .cell v
  hok : HOk X.prog X.w H s.heap
  len : σ.length = X.N.length

section
variable {X : Cx} {pins : List (Addr × Obj)} {σ : List (Option V)} {H H' : Hp} {s : Shared} {h' : Heap}

theorem Cx.Ok.nofr (ok : X.Ok) {b : Addr} {o : Obj} (e : X.base.get? b = some o) : b ∉ X.fs := fun hb => by
  have := (ok.funs.mem hb).1
  rw [e] at this; cases this
theorem Inv.bs (I : Inv X pins σ H s) : ∀ b o, X.base.get? b = some o → s.heap.get? b = some o ∧ H b = none := fun b o e =>
  ⟨I.base.keep b o (I.ok.bs b o e).1 (I.ok.bs b o e).2 (I.ok.nofr e) (I.ok.noex b o e), I.base.free b o (I.ok.bs b o e).1 (I.ok.bs b o e).2 (I.ok.noex b o e)⟩
theorem Inv.bk (I : Inv X pins σ H s) : ∀ b o, X.base.get? b = some o → s.heap.get? b = some o := fun b o e => (I.bs b o e).1
theorem Inv.mod (I : Inv X pins σ H s) : Mod X.K X.mg X.base := I.ok.mod
theorem Inv.kIn (I : Inv X pins σ H s) : X.K.In s.heap := I.ok.mod.kin.keeps I.bk
theorem Inv.lt (I : Inv X pins σ H s) : X.env.locals < s.heap.objs.size := let ⟨_, hn, _⟩ := I.loc; hn.lt
theorem Inv.sz (I : Inv X pins σ H s) : X.s₀.heap.objs.size ≤ s.heap.objs.size := Nat.le_trans I.ok.above (Nat.le_of_lt I.lt)
theorem Inv.nofs (I : Inv X pins σ H s) {a : Addr} (h : s.heap.objs.size ≤ a) : a ∉ X.fs := fun hb => by
  obtain ⟨_, o, ho, _⟩ := I.ok.funs.mem hb
  exact absurd (Nat.lt_of_lt_of_le (Heap.lt_size ho) (Nat.le_trans I.sz h)) (Nat.lt_irrefl _)
theorem Inv.cne (I : Inv X pins σ H s) : ∀ x c, X.env.cells.lookup x = some c → c ≠ X.env.locals := fun x c e z => by
  obtain ⟨v, o, ho, hd⟩ := I.cell x c e
  obtain ⟨m, ⟨o', es, ep, ho', hd', _⟩, _⟩ := I.loc
  rw [z, ho'] at ho; cases ho; rw [hd'] at hd; cases hd
theorem Inv.funs (I : Inv X pins σ H s) : s.heap.FunFrames X.base X.outer := by
  have all : ∀ (l : List Env), (∀ b ∈ frs l, b ∈ X.fs) → X.s₀.heap.FunFrames X.base l → s.heap.FunFrames X.base l := by
    intro l
    induction l with
    | nil => intro _ _; trivial
    | cons env r ih =>
      intro hs hl
      obtain ⟨hk, ⟨L, o, hf, hn, ho, hd⟩, hr⟩ := hl
      have hL : L ∈ X.fs := hs L (by unfold frs; rw [List.filterMap_cons, hf]; exact List.mem_cons_self)
      obtain ⟨sl, e⟩ := I.base.slot L o ho (I.ok.frf L hL) hL fun z => I.ok.exfs L z hL
      exact ⟨hk, ⟨L, _, hf, hn, e, hd⟩, ih (fun b hb => hs b (by unfold frs; rw [List.filterMap_cons, hf]; exact List.mem_cons_of_mem _ hb)) hr⟩
  exact all X.outer (fun _ hb => hb) I.ok.funs

/-- the frames that run, for a call -/
theorem Inv.stack (I : Inv X pins σ H s) : s.heap.FunFrames X.base X.stack := by
  rcases I.ok.stk with e | ⟨e, hf⟩
  · rw [e]; exact I.funs
  · rw [e]
    obtain ⟨m, hn, _⟩ := I.loc
    refine .cons (by rw [I.ok.kind]; decide) hf hn ?_ I.funs
    exact Heap.get?_none_of_le (Nat.le_trans I.ok.bsz I.ok.above)
theorem Inv.stkSub (I : Inv X pins σ H s) : ∀ b ∈ frs X.stack, b ∈ X.env.locals :: X.fs := fun b hb => by
  rcases I.ok.stk with e | ⟨e, hf⟩
  · rw [e] at hb; exact List.mem_cons_of_mem _ hb
  · rw [e] at hb
    unfold frs at hb
    rw [List.filterMap_cons, hf] at hb
    exact hb
theorem Inv.stkFree (I : Inv X pins σ H s) : ∀ b ∈ frs X.stack, H b = none := fun b hb => by
  rcases List.mem_cons.mp (I.stkSub b hb) with e | hb
  · rw [e]; exact I.free
  · obtain ⟨_, o, ho, _⟩ := I.ok.funs.mem hb
    exact I.base.free b o ho (I.ok.frf b hb) fun z => I.ok.exfs b z hb

/-- THE STEP: the untracked objects but the frame and the records at ch are kept (the callers' frames up to slots), the frame's map is kept, the new abstract heap is held -/
theorem Inv.step {g' : Array GenState} {t' : Nat} {d' : Drawn} {ch : List Addr} (I : Inv X pins σ H s)
    (hch : ∀ b ∈ ch, (b ∈ X.ex ∨ X.s₀.heap.objs.size ≤ b) ∧ b ≠ X.env.locals ∧ (∀ x c, X.env.cells.lookup x = some c → c ≠ b) ∧ ∀ p ∈ X.pn ++ pins, p.1 ≠ b)
    (keep : ∀ b o, b ≠ X.env.locals → b ∉ X.fs → b ∉ ch → s.heap.get? b = some o → H b = none → h'.get? b = some o)
    (slot : ∀ b o, b ≠ X.env.locals → b ∈ X.fs → b ∉ ch → s.heap.get? b = some o → H b = none → ∃ sl, h'.get? b = some { o with slots := sl }) (free : ∀ b o, b ∉ ch → s.heap.get? b = some o → H b = none → H' b = none)
    (there : ∀ b o, b ∉ ch → s.heap.get? b = some o → ∃ o', h'.get? b = some o')
    (tups : ∀ b xs, H b = some (.tup xs) → H' b = some (.tup xs)) (frzs : ∀ b o u, H b = some (.frz o u) → H' b = some (.frz o u)) (tbls : ∀ b ps, H b = some (.tbl ps) → ∃ more, H' b = some (.tbl (ps ++ more)))
    (ns : ∀ m, s.heap.Ns X.env.locals m → h'.Ns X.env.locals m) (hok : HOk X.prog X.w H' h') (hg : AllBare g') :
    Inv X pins σ H' { s with heap := h', gens := g', drawn := d', toks := t' } := by
  have neL : ∀ b o, X.s₀.heap.get? b = some o → b ≠ X.env.locals := fun b o e => Nat.ne_of_lt (Nat.lt_of_lt_of_le (Heap.lt_size e) I.ok.above)
  have neC : ∀ b o, X.s₀.heap.get? b = some o → b ∉ X.ex → b ∉ ch := fun b o e hx hb => by
    rcases (hch b hb).1 with z | z
    · exact hx z
    · exact absurd (Nat.lt_of_lt_of_le (Heap.lt_size e) z) (Nat.lt_irrefl _)
  have cellK : ∀ x c, X.env.cells.lookup x = some c → ∀ v, s.heap.IsCell c v → h'.IsCell c v := fun x c e v ⟨o, ho, hd⟩ => by
    have nch : c ∉ ch := fun z => (hch c z).2.2.1 x c e rfl
    by_cases hc : c ∈ X.fs
    · obtain ⟨sl, q⟩ := slot c o (I.cne x c e) hc nch ho (I.freeC x c e)
      exact ⟨_, q, hd⟩
    · exact ⟨o, keep c o (I.cne x c e) hc nch ho (I.freeC x c e), hd⟩
  refine ⟨I.ok, I.os, hg, ⟨fun b o e n hb hx => ?_, fun b o e n hb hx => ?_, fun b o e n hx => ?_, fun b o e hx => ?_, fun b xs e => tups b xs (I.base.tups b xs e), fun b o xs e => frzs b o xs (I.base.frzs b o xs e), fun b ps e => ?_⟩, ?_, fun x c e => ?_, ?_, fun x c e => ?_, fun p hp => ?_, hok, I.len⟩
  · exact keep b o (neL b o e) hb (neC b o e hx) (I.base.keep b o e n hb hx) (I.base.free b o e n hx)
  · obtain ⟨sl, e1⟩ := I.base.slot b o e n hb hx
    obtain ⟨sl', e2⟩ := slot b _ (neL b o e) hb (neC b o e hx) e1 (I.base.free b o e n hx)
    exact ⟨sl', e2⟩
  · obtain ⟨o', e1⟩ := I.base.there b o e hx
    exact free b o' (neC b o e hx) e1 (I.base.free b o e n hx)
  · obtain ⟨o', e1⟩ := I.base.there b o e hx
    exact there b o' (neC b o e hx) e1
  · obtain ⟨m1, e1⟩ := I.base.tbls b ps e
    obtain ⟨m2, e2⟩ := tbls b _ e1
    exact ⟨m1 ++ m2, by rw [e2, Array.append_assoc]⟩
  · obtain ⟨m, hn, hl⟩ := I.loc
    refine ⟨m, ns m hn, fun i x v e1 e2 e3 => ?_⟩
    obtain ⟨u, r, l⟩ := hl i x v e1 e2 e3
    refine ⟨u, r, ?_⟩
    rcases l with l | ⟨k, c, e, z⟩
    · exact .inl l
    · exact .inr ⟨k, c, e, cellK x c e _ z⟩
  · obtain ⟨v, z⟩ := I.cell x c e
    exact ⟨v, cellK x c e v z⟩
  · obtain ⟨m, ⟨o, _, _, ho, _⟩, _⟩ := I.loc
    exact free _ o (fun z => (hch _ z).2.1 rfl) ho I.free
  · obtain ⟨v, o, ho, hd⟩ := I.cell x c e
    exact free c o (fun z => (hch c z).2.2.1 x c e rfl) ho (I.freeC x c e)
  · obtain ⟨e, n, ne, nf, d⟩ := I.pin p hp
    have nch : p.1 ∉ ch := fun z => (hch p.1 z).2.2.2 p hp rfl
    exact ⟨keep p.1 p.2 ne nf nch e n, free p.1 p.2 nch e n, ne, nf, d⟩
/-- .. where the frame's own object is kept too -/
theorem Inv.un {t' : Nat} (I : Inv X pins σ H s) (u : Un X.fs [] H H' s.heap h') (hok : HOk X.prog X.w H' h') : Inv X pins σ H' { s with heap := h', toks := t' } := by
  obtain ⟨m, ⟨o, es, ep, ho, r⟩, _⟩ := id I.loc
  obtain ⟨sl, hL⟩ := u.any ho I.free (by simp)
  exact I.step (g' := s.gens) (d' := s.drawn) (ch := []) (fun _ z => nomatch z) (fun b o _ hb _ e n => u.keep b o e n hb (by simp)) (fun b o _ hb _ e n => u.slot b o e n hb (by simp)) (fun b o _ e n => u.free b o e n (by simp)) (fun b o _ e => u.there b o e (by simp)) u.tups u.frzs u.tbls (fun m' hm => by
    obtain ⟨o', es', ep', ho', r'⟩ := hm
    rw [ho] at ho'; cases ho'
    exact ⟨_, es', ep', hL, r'⟩) hok I.bare
/-- behind a call (or a comprehension's block): the slots of this frame may have changed too, the records at ch may have turned -/
theorem Inv.call {g' : Array GenState} {t' : Nat} {d' : Drawn} {ch : List Addr} (I : Inv X pins σ H s) (u : Un (frs X.stack) ch H H' s.heap h') (hok : HOk X.prog X.w H' h') (hg : AllBare g')
    (hch : ∀ b ∈ ch, (b ∈ X.ex ∨ X.s₀.heap.objs.size ≤ b) ∧ b ≠ X.env.locals ∧ (∀ x c, X.env.cells.lookup x = some c → c ≠ b) ∧ ∀ p ∈ X.pn ++ pins, p.1 ≠ b) :
    Inv X pins σ H' { s with heap := h', gens := g', drawn := d', toks := t' } := by
  obtain ⟨m, ⟨o, es, ep, ho, r⟩, _⟩ := id I.loc
  obtain ⟨sl, hL⟩ := u.any ho I.free fun z => (hch _ z).2.1 rfl
  exact I.step (ch := ch) hch (fun b o hL hb hc e n => u.keep b o e n (fun z => (List.mem_cons.mp (I.stkSub b z)).elim hL hb) hc) (fun b o _ _ hc e n => u.any e n hc) (fun b o hc e n => u.free b o e n hc) (fun b o hc e => u.there b o e hc) u.tups u.frzs u.tbls (fun m' hm => by
    obtain ⟨o', es', ep', ho', r'⟩ := hm
    rw [ho] at ho'; cases ho'
    exact ⟨_, es', ep', hL, r'⟩) hok hg
/-- an untracked record of ours (an iterator) has turned -/
theorem Inv.turned {t' : Nat} {it : Addr} (I : Inv X pins σ H s) (k : ∀ b o, b ≠ it → s.heap.get? b = some o → h'.get? b = some o) (hn : H it = none) (hL : it ≠ X.env.locals)
    (h1 : it ∈ X.ex ∨ X.s₀.heap.objs.size ≤ it) (h2 : ∀ x c, X.env.cells.lookup x = some c → c ≠ it) (h3 : ∀ p ∈ X.pn ++ pins, p.1 ≠ it) : Inv X pins σ H { s with heap := h', toks := t' } := by
  have nit : ∀ b u, H b = some u → b ≠ it := fun b u e z => by rw [z, hn] at e; cases e
  refine I.step (g' := s.gens) (d' := s.drawn) (ch := [it]) (fun b hb => ?_) (fun b o _ _ hc e _ => k b o (fun z => hc (by simp [z])) e) (fun b o _ _ hc e _ => ⟨o.slots, k b o (fun z => hc (by simp [z])) e⟩) (fun _ _ _ _ n => n)
    (fun b o hc e => ⟨o, k b o (fun z => hc (by simp [z])) e⟩) (fun _ _ e => e) (fun _ _ _ e => e) (fun b ps e => ⟨#[], by rw [e]; simp⟩) (fun m hm => ?_) (fun b u e => ?_) I.bare
  · have e : b = it := by simpa using hb
    subst e
    exact ⟨h1, hL, h2, h3⟩
  · obtain ⟨o, es, ep, ho, r⟩ := hm
    exact ⟨o, es, ep, k _ o (Ne.symm hL) ho, r⟩
  · refine (I.hok b u e).stay (fun c v hc q => k c v ?_ q) (fun _ q => q) fun _ _ q => q
    rcases hc with z | z
    · rw [z]; exact nit b u e
    · exact nit c _ z
theorem Inv.tok (I : Inv X pins σ H s) (t : Nat) : Inv X pins σ H { s with toks := t } := I.un (h' := s.heap) (t' := t) Un.refl I.hok
/-- all objects kept -/
theorem Inv.kept {t' : Nat} (I : Inv X pins σ H s) (k : ∀ b u, s.heap.get? b = some u → h'.get? b = some u) : Inv X pins σ H { s with heap := h', toks := t' } := I.un (Un.kept k) (I.hok.kept k)
/-- a new object laid and tracked -/
theorem Inv.laid {a : Addr} {o : HO} {t' : Nat} (I : Inv X pins σ H s) (k : ∀ b u, s.heap.get? b = some u → h'.get? b = some u) (hp : s.heap.objs.size ≤ a) (new : ObjOk X.prog X.w (upd H a o) h' a o) :
    Inv X pins σ (upd H a o) { s with heap := h', toks := t' } := I.un (Un.laid k hp (I.hok.fresh hp)) (I.hok.laid k hp new)
/-- an object written -/
theorem Inv.write {x e : Addr} {o : HO} {t' : Nat} (I : Inv X pins σ H s) (mu : Mut (H x)) (he : e = x ∨ H e = some (.own x)) (k : ∀ b u, b ≠ e → s.heap.get? b = some u → h'.get? b = some u) (heo : ∃ u, h'.get? e = some u)
    (new : ObjOk X.prog X.w (upd H x o) h' x o) : Inv X pins σ (upd H x o) { s with heap := h', toks := t' } := I.un (Un.write mu he k heo) (I.hok.write mu he k heo new)
theorem Inv.pins_of {pins' : List (Addr × Obj)} (I : Inv X pins σ H s) (h : ∀ p ∈ pins', s.heap.get? p.1 = some p.2 ∧ H p.1 = none ∧ p.1 ≠ X.env.locals ∧ p.1 ∉ X.fs ∧ ∀ v, p.2.data ≠ .cell v) : Inv X pins' σ H s :=
  ⟨I.ok, I.os, I.bare, I.base, I.loc, I.cell, I.free, I.freeC, fun p hp => (List.mem_append.mp hp).elim (fun z => I.pin p (List.mem_append_left _ z)) (h p), I.hok, I.len⟩

theorem nodup_ix {N : List Str} (hN : N.Nodup) {i j : Nat} {x : Str} (a : N[i]? = some x) (b : N[j]? = some x) : i = j := by
  obtain ⟨h1, e1⟩ := List.getElem?_eq_some_iff.mp a
  obtain ⟨h2, e2⟩ := List.getElem?_eq_some_iff.mp b
  exact (List.getElem_inj hN).mp (e1.trans e2.symm)

/-- a name is stored; what changed -/
theorem store_ok2 {M : Model} {A : Around} {E : Value → Shared → Prop} {i : Nat} {x : Str} {v : V} {u : Value} {Q : Unit → Shared → Prop} (I : Inv X pins σ H s) (hN : X.N.Nodup) (hi : X.N[i]? = some x) (hx : Loc X.env.scope x) (r : RelV v u)
    (h : ∀ s', Inv X pins (σ.set i (some v)) H s' → (∃ a, Heap.SameBut a s.heap s'.heap ∧ (a = X.env.locals ∨ X.env.cells.lookup x = some a)) → Q () s') (hf : X.fn x = true ∨ X.env.scope.names.lookup x = some .local := by first | exact .inl rfl | exact .inr rfl | assumption) : wpAny M A (storeName X.env x u) Q E s := by
  obtain ⟨m, hn, hl⟩ := id I.loc
  have hcls : (X.env.scope.kind == .class || (X.env.scope.kind == .module && X.env.locals != X.env.globals)) = false := by rw [I.ok.kind]; rfl
  have hiσ : i < σ.length := by rw [I.len]; exact (List.getElem?_eq_some_iff.mp hi).1
  have cne := I.cne
  have tracked : ∀ {a : Addr} {h' : Heap}, (∃ o, s.heap.get? a = some o ∧ H a = none) → Heap.SameBut a s.heap h' → HOk X.prog X.w H h' := fun {a h'} ha hs b ob e => by
    obtain ⟨_, _, hfree⟩ := ha
    refine (I.hok b ob e).stay (fun c w' hc q => (hs.2 c ?_).trans q) (fun _ q => q) fun _ _ q => q
    rintro rfl
    rcases hc with rfl | hc
    · rw [hfree] at e; cases e
    · rw [hfree] at hc; cases hc
  rcases hx with hk | hk
  · refine wpAny_storeName_local hk hn (fun h' hn' hs => ?_) hcls
    obtain ⟨oL, _, _, hoL, _⟩ := id hn
    refine h _ ⟨I.ok, I.os, I.bare, ⟨fun b o e n hb hx => ?_, fun b o e n hb hx => ?_, I.base.free, fun b o e hx => ?_, I.base.tups, I.base.frzs, I.base.tbls⟩, ⟨_, hn', fun j y v' e1 e2 e3 => ?_⟩, fun y c e => ?_, I.free, I.freeC, fun p hp => ?_, tracked ⟨oL, hoL, I.free⟩ hs, by simpa using I.len⟩ ⟨_, hs, .inl rfl⟩
    · exact (hs.2 b (Nat.ne_of_lt (Nat.lt_of_lt_of_le (Heap.lt_size e) I.ok.above))).trans (I.base.keep b o e n hb hx)
    · obtain ⟨sl, e1⟩ := I.base.slot b o e n hb hx
      exact ⟨sl, (hs.2 b (Nat.ne_of_lt (Nat.lt_of_lt_of_le (Heap.lt_size e) I.ok.above))).trans e1⟩
    · obtain ⟨o', e1⟩ := I.base.there b o e hx
      exact ⟨o', (hs.2 b (Nat.ne_of_lt (Nat.lt_of_lt_of_le (Heap.lt_size e) I.ok.above))).trans e1⟩
    · by_cases hj : j = i
      · subst hj
        rw [hi] at e1; cases e1
        rw [List.getElem?_set_self hiσ] at e2
        cases e2
        exact ⟨u, r, .inl ⟨hk, by simp⟩⟩
      · rw [List.getElem?_set_ne (Ne.symm hj)] at e2
        obtain ⟨u', r', q⟩ := hl j y v' e1 e2 e3
        refine ⟨u', r', ?_⟩
        rcases q with ⟨k, e⟩ | ⟨k, c, e, z⟩
        · refine .inl ⟨k, ?_⟩
          have : y ≠ x := fun e => hj (nodup_ix hN e1 (e ▸ hi))
          simp [this, e]
        · exact .inr ⟨k, c, e, z.sameBut hs (cne y c e)⟩
    · obtain ⟨w', z⟩ := I.cell y c e
      exact ⟨w', z.sameBut hs (cne y c e)⟩
    · obtain ⟨e, n, ne, nf, d⟩ := I.pin p hp
      exact ⟨(hs.2 p.1 ne).trans e, n, ne, nf, d⟩
  · have hfn : X.fn x = true := by
      rcases hf with z | z
      · exact z
      · rw [z] at hk; cases hk
    obtain ⟨c, hc⟩ := I.ok.has x (.inl hk)
    obtain ⟨w', z⟩ := I.cell x c hc
    refine wpAny_storeName_cell I.ok.kind hk hc z (fun h' hc' hs => ?_)
    obtain ⟨oc, hoc, hocd⟩ := id z
    refine h { s with heap := h' } ⟨I.ok, I.os, I.bare, ⟨fun b o e n hb hx => ?_, fun b o e n hb hx => ?_, I.base.free, fun b o e hx => ?_, I.base.tups, I.base.frzs, I.base.tbls⟩, ⟨m, hn.sameBut hs (Ne.symm (cne x c hc)), fun j y v' e1 e2 e3 => ?_⟩, fun y c' e => ?_, I.free, I.freeC, fun p hp => ?_, tracked ⟨oc, hoc, I.freeC x c hc⟩ hs, by simpa using I.len⟩ ⟨c, hs, .inr hc⟩
    · exact (hs.2 b (Nat.ne_of_lt (Nat.lt_of_lt_of_le (Heap.lt_size e) (I.ok.cab x c hfn hc)))).trans (I.base.keep b o e n hb hx)
    · obtain ⟨sl, e1⟩ := I.base.slot b o e n hb hx
      exact ⟨sl, (hs.2 b (Nat.ne_of_lt (Nat.lt_of_lt_of_le (Heap.lt_size e) (I.ok.cab x c hfn hc)))).trans e1⟩
    · obtain ⟨o', e1⟩ := I.base.there b o e hx
      exact ⟨o', (hs.2 b (Nat.ne_of_lt (Nat.lt_of_lt_of_le (Heap.lt_size e) (I.ok.cab x c hfn hc)))).trans e1⟩
    · by_cases hj : j = i
      · subst hj
        rw [hi] at e1; cases e1
        rw [List.getElem?_set_self hiσ] at e2
        cases e2
        exact ⟨u, r, .inr ⟨.inl hk, c, hc, hc'⟩⟩
      · rw [List.getElem?_set_ne (Ne.symm hj)] at e2
        obtain ⟨u', r', q⟩ := hl j y v' e1 e2 e3
        refine ⟨u', r', ?_⟩
        rcases q with q | ⟨k, c', e, z'⟩
        · exact .inl q
        · refine .inr ⟨k, c', e, z'.sameBut hs ?_⟩
          rintro rfl
          exact hj (nodup_ix hN e1 (I.ok.inj _ _ _ e hc ▸ hi))
    · by_cases hcc : c' = c
      · subst hcc; exact ⟨_, hc'⟩
      · obtain ⟨w2, z2⟩ := I.cell y c' e
        exact ⟨w2, z2.sameBut hs hcc⟩
    · obtain ⟨e, n, ne, nf, d⟩ := I.pin p hp
      refine ⟨(hs.2 p.1 ?_).trans e, n, ne, nf, d⟩
      intro q
      rw [q, hoc] at e
      have q' : oc = p.2 := Option.some.inj e
      exact d w' (by rw [← q']; exact hocd)
theorem store_ok {M : Model} {A : Around} {E : Value → Shared → Prop} {i : Nat} {x : Str} {v : V} {u : Value} {Q : Unit → Shared → Prop} (I : Inv X pins σ H s) (hN : X.N.Nodup) (hi : X.N[i]? = some x) (hx : Loc X.env.scope x) (r : RelV v u)
    (h : ∀ s', Inv X pins (σ.set i (some v)) H s' → Q () s') (hf : X.fn x = true ∨ X.env.scope.names.lookup x = some .local := by first | exact .inl rfl | exact .inr rfl | assumption) : wpAny M A (storeName X.env x u) Q E s :=
  store_ok2 I hN hi hx r (fun s' I' _ => h s' I') hf
/-- behind a call or a block, the state as it is -/
theorem Inv.call' {s' : Shared} {ch : List Addr} (I : Inv X pins σ H s) (ho : s'.os = s.os) (u : Un (frs X.stack) ch H H' s.heap s'.heap) (hok : HOk X.prog X.w H' s'.heap) (hg : AllBare s'.gens)
    (hch : ∀ b ∈ ch, (b ∈ X.ex ∨ X.s₀.heap.objs.size ≤ b) ∧ b ≠ X.env.locals ∧ (∀ x c, X.env.cells.lookup x = some c → c ≠ b) ∧ ∀ p ∈ X.pn ++ pins, p.1 ≠ b) : Inv X pins σ H' s' := by
  obtain ⟨h', g', d', t', o'⟩ := s'
  have e : o' = s.os := ho
  subst e
  exact I.call (g' := g') (t' := t') (d' := d') u hok hg hch
end

/-! ### the judgements -/
/-- an exception: its class, its own dict's address (where it has one), the abstract heap behind it -/
noncomputable abbrev XK := Value → Option Addr → Hp → Prop
noncomputable abbrev St := List (Option V)
noncomputable abbrev VK := V → Hp → Prop
/-- an expression's reading; a test's; an argument list's -/
noncomputable abbrev TE := St → Hp → VK → Prop
noncomputable abbrev TT := St → Hp → (Bool → Hp → Prop) → Prop
noncomputable abbrev TA := St → Hp → (List V → Hp → Prop) → Prop
/-- what is wanted behind a statement -/
structure Ends where
  nx : St → Hp → Prop
  rt : VK
  bk : St → Hp → Prop := fun _ _ => False
  ct : St → Hp → Prop := fun _ _ => False
noncomputable abbrev TS := Ends → St → Hp → Prop

noncomputable def EP (X : Cx) (pins : List (Addr × Obj)) (σ : St) (Q : VK) (u : Value) (s' : Shared) : Prop := ∃ v H', Inv X pins σ H' s' ∧ RelV v u ∧ Q v H'
noncomputable def TP (X : Cx) (pins : List (Addr × Obj)) (σ : St) (Q : Bool → Hp → Prop) (b : Bool) (s' : Shared) : Prop := ∃ H', Inv X pins σ H' s' ∧ Q b H'
noncomputable def AP (X : Cx) (pins : List (Addr × Obj)) (σ : St) (Q : List V → Hp → Prop) (us : List Value) (s' : Shared) : Prop := ∃ vs H', Inv X pins σ H' s' ∧ Vals vs us ∧ Q vs H'
noncomputable def SP (X : Cx) (pins : List (Addr × Obj)) (D : Ends) (f : Flow) (s' : Shared) : Prop :=
  match f with
  | .next => ∃ σ' H', Inv X pins σ' H' s' ∧ D.nx σ' H'
  | .brk => ∃ σ' H', Inv X pins σ' H' s' ∧ D.bk σ' H'
  | .cont => ∃ σ' H', Inv X pins σ' H' s' ∧ D.ct σ' H'
  | .ret u => ∃ v σ' H', Inv X pins σ' H' s' ∧ RelV v u ∧ D.rt v H'

noncomputable def PE (X : Cx) (e : Expr) (t : TE) : Prop :=
  ∀ (pins : List (Addr × Obj)) (s : Shared) (σ : St) (H : Hp) (Q : VK), Inv X pins σ H s → t σ H Q → wpAny (model X.prog X.w) X.A (eval e X.env) (EP X pins σ Q) X.xe s
noncomputable def PT (X : Cx) (e : Expr) (t : TT) : Prop :=
  ∀ (pins : List (Addr × Obj)) (s : Shared) (σ : St) (H : Hp) (Q : Bool → Hp → Prop), Inv X pins σ H s → t σ H Q → wpAny (model X.prog X.w) X.A (isTrue e X.env (eval e X.env)) (TP X pins σ Q) X.xe s
/-- a test whatever its 'whole' is (and, or) -/
noncomputable def PW (X : Cx) (e : Expr) (t : TT) : Prop :=
  ∀ (whole : Sem Value) (pins : List (Addr × Obj)) (s : Shared) (σ : St) (H : Hp) (Q : Bool → Hp → Prop), Inv X pins σ H s → t σ H Q → wpAny (model X.prog X.w) X.A (isTrue e X.env whole) (TP X pins σ Q) X.xe s
theorem PW.pt {X : Cx} {e : Expr} {t : TT} (h : PW X e t) : PT X e t := h _
/-- an argument list (no star), from the left -/
noncomputable def PA (X : Cx) (es : List Expr) (t : TA) : Prop :=
  ∀ (pos : Pos) (pins : List (Addr × Obj)) (s : Shared) (σ : St) (H : Hp) (Q : List V → Hp → Prop), Inv X pins σ H s → t σ H Q → wpAny (model X.prog X.w) X.A (spliced (backTo pos (starEach es X.env))) (AP X pins σ Q) X.xe s
noncomputable def PS (X : Cx) (st : Stmt) (t : TS) : Prop :=
  ∀ (pins : List (Addr × Obj)) (s : Shared) (σ : St) (H : Hp) (D : Ends), Inv X pins σ H s → t D σ H → wpAny (model X.prog X.w) X.A (exec st X.env) (SP X pins D) X.xe s
noncomputable def PSs (X : Cx) (st : List Stmt) (t : TS) : Prop :=
  ∀ (pins : List (Addr × Obj)) (s : Shared) (σ : St) (H : Hp) (D : Ends), Inv X pins σ H s → t D σ H → wpAny (model X.prog X.w) X.A (execs st X.env) (SP X pins D) X.xe s
/-- weaken the end -/
theorem thn {α : Type} {t : Sem α} {Q Q' : α → Shared → Prop} {M : Model} {A : Around} {E : Value → Shared → Prop} {s : Shared} (h : wpAny M A t Q E s) (hQ : ∀ a s, Q a s → Q' a s) : wpAny M A t Q' E s := wpAny_mono h hQ fun _ _ x => x
end L2

namespace L2
open PySem PySem.Spec PyProof.Rows
section
variable {X : Cx}

/-- two expressions in a row -/
theorem bin {a b : Expr} {ta tb : TE} (ha : PE X a ta) (hb : PE X b tb) {pins : List (Addr × Obj)} {s : Shared} {σ : St} {H : Hp} {R : V → V → Hp → Prop} (I : Inv X pins σ H s) (h : ta σ H fun x H1 => tb σ H1 fun y H2 => R x y H2)
    {α : Type} {Q : α → Shared → Prop} {f : Value → Value → Sem α}
    (hf : ∀ v u s2 x y H2, Inv X pins σ H2 s2 → RelV x v → RelV y u → R x y H2 → wpAny (model X.prog X.w) X.A (f v u) Q X.xe s2) :
    wpAny (model X.prog X.w) X.A (eval a X.env) (fun v s₁ => wpAny (model X.prog X.w) X.A (eval b X.env) (fun u s₂ => wpAny (model X.prog X.w) X.A (f v u) Q X.xe s₂) X.xe s₁) X.xe s := by
  refine thn (ha pins s σ H _ I h) fun v s1 ⟨x, H1, I1, r1, q1⟩ => ?_
  refine thn (hb pins s1 σ H1 _ I1 q1) fun u s2 ⟨y, H2, I2, r2, q2⟩ => ?_
  exact hf v u s2 x y H2 I2 r1 r2 q2

/-! ### names and constants -/
noncomputable def tVar (i : Nat) : TE := fun σ H Q => ∃ v, σ[i]? = some (some v) ∧ Q v H
noncomputable def tC (v : V) : TE := fun _ H Q => Q v H
theorem pe_var {i : Nat} {x : Str} {pos : Pos} (hN : X.N[i]? = some x) (hv : Vis X.env.scope x) (hd : (x == ("__debug__" : Str)) = false := by decide) (hcd : (x == ("__classdict__" : Str)) = false := by decide) : PE X (.Name x pos) (tVar i) := by
  intro pins s σ H Q I h
  obtain ⟨v, e, h⟩ := h
  obtain ⟨m, hn, hl⟩ := I.loc
  obtain ⟨u, r, l⟩ := hl i x v hN e hv
  have fin : EP X pins σ Q u s := ⟨v, H, I, r, h⟩
  rcases l with ⟨hk, hm⟩ | ⟨hk, c, hc, hcell⟩
  · exact wpAny_Name (wpAny_loadName_local I.ok.kind hk hn hm fin) hd
  · rcases hk with hk | hk
    · exact wpAny_Name (wpAny_loadName_cell I.ok.kind hk hc hcell fin) hd
    · exact wpAny_Name (wpAny_loadName_free I.ok.kind hk hc hcell fin hcd) hd
theorem pe_int {i j pos} : PE X (.Constant (.int i) j pos) (tC (.int i)) := fun _ _ _ H _ I h => wpAny_Constant_int ⟨.int i, H, I.tok _, ⟨_, rfl⟩, h⟩
theorem pe_bl {b j pos} : PE X (.Constant (.bool b) j pos) (tC (.bl b)) := fun _ _ _ H _ I h => Constant_bool ⟨.bl b, H, I, rfl, h⟩
theorem pe_non {j pos} : PE X (.Constant .none j pos) (tC .non) := fun _ _ _ H _ I h => Constant_none ⟨.non, H, I, rfl, h⟩
theorem pe_str {x j pos} : PE X (.Constant (.str x) j pos) (tC (.str x)) := fun _ _ _ H _ I h => Calls.Constant_str ⟨.str x, H, I.tok _, ⟨_, rfl⟩, h⟩

/-- a global name of the def -/
noncomputable def Gl (X : Cx) (x : Str) : Prop := X.env.kindOf x = some .globalImplicit
theorem ld_glob {E : Value → Shared → Prop} {pins : List (Addr × Obj)} {s : Shared} {σ : St} {H : Hp} {x : Str} {u : Value} {pos : Pos} {Q : Value → Shared → Prop} (I : Inv X pins σ H s) (hg : Gl X x) (hm : X.mg x = some u) (h : Q u s)
    (hd : (x == ("__debug__" : Str)) = false := by decide) : wpAny (model X.prog X.w) X.A (eval (.Name x pos) X.env) Q E s :=
  Calls.Name_function_global I.ok.kind hg (Calls.loadGlobal_global (by rw [I.ok.glob]; exact I.mod.glob.keeps I.bk) hm h) hd
theorem ld_blt {E : Value → Shared → Prop} {pins : List (Addr × Obj)} {s : Shared} {σ : St} {H : Hp} {x : Str} {u : Value} {pos : Pos} {Q : Value → Shared → Prop} (I : Inv X pins σ H s) (hg : Gl X x) (hm : X.mg x = none) (hv : bootBuiltins x = some u) (h : Q u s)
    (hn : x ≠ "__name__" := by decide) (hd : (x == ("__debug__" : Str)) = false := by decide) : wpAny (model X.prog X.w) X.A (eval (.Name x pos) X.env) Q E s := by
  obtain ⟨mb, h1, h2⟩ := I.mod.blt
  exact Calls.Name_function_global I.ok.kind hg (Calls.loadGlobal_builtin (by rw [I.ok.glob]; exact I.mod.glob.keeps I.bk) hm (by rw [I.ok.blt]; exact h1.keeps I.bk) ((h2 x hn).trans hv) h) hd
/-- a module's constant, a class, a function, as a value -/
theorem pe_glob {x : Str} {v : V} {u : Value} {pos : Pos} (hg : Gl X x) (hm : X.mg x = some u) (r : RelV v u) (hd : (x == ("__debug__" : Str)) = false := by decide) : PE X (.Name x pos) (tC v) :=
  fun _ _ _ H _ I h => ld_glob I hg hm ⟨v, H, I, r, h⟩ hd
theorem pe_bltn {x : Str} {v : V} {u : Value} {pos : Pos} (hg : Gl X x) (hm : X.mg x = none) (hv : bootBuiltins x = some u) (r : RelV v u) (hn : x ≠ "__name__" := by decide) (hd : (x == ("__debug__" : Str)) = false := by decide) : PE X (.Name x pos) (tC v) :=
  fun _ _ _ H _ I h => ld_blt I hg hm hv ⟨v, H, I, r, h⟩ hn hd

/-! ### arithmetic -/
/-- two ints -/
noncomputable def t2I (ta tb : TE) (k : Int → Int → Hp → Prop) : St → Hp → Prop := fun σ H => ta σ H fun x H1 => tb σ H1 fun y H2 => ∃ i j, x = .int i ∧ y = .int j ∧ k i j H2
noncomputable def tAdd (ta tb : TE) : TE := fun σ H Q => t2I ta tb (fun i j H2 => Q (.int (i + j)) H2) σ H
noncomputable def tSub (ta tb : TE) : TE := fun σ H Q => t2I ta tb (fun i j H2 => Q (.int (i - j)) H2) σ H
/-- the left factor below 2^64 -/
noncomputable def tMul (ta tb : TE) : TE := fun σ H Q => t2I ta tb (fun i j H2 => (-(2 ^ 64) < i ∧ i < 2 ^ 64) ∧ Q (.int (i * j)) H2) σ H
variable {a b : Expr} {ta tb : TE} {pos : Pos}

/-! ### comparisons -/
noncomputable def PC (X : Cx) (op : CmpOp) (a b : Expr) (t : TE) : Prop :=
  ∀ (pins : List (Addr × Obj)) (s : Shared) (σ : St) (H : Hp) (Q : VK), Inv X pins σ H s → t σ H Q →
    wpAny (model X.prog X.w) X.A (eval a X.env) (fun v s₁ => wpAny (model X.prog X.w) X.A (eval b X.env) (fun u s₂ => wpAny (model X.prog X.w) X.A (compareOp op v u) (EP X pins σ Q) X.xe s₂) X.xe s₁) X.xe s
noncomputable def tCmp (p : Int → Int → Bool) (ta tb : TE) : TE := fun σ H Q => t2I ta tb (fun i j H2 => Q (.bl (p i j)) H2) σ H
noncomputable abbrev tLt : TE → TE → TE := tCmp fun i j => decide (i < j)
noncomputable abbrev tLe : TE → TE → TE := tCmp fun i j => decide (i ≤ j)
noncomputable abbrev tGt : TE → TE → TE := tCmp fun i j => decide (j < i)
noncomputable abbrev tGe : TE → TE → TE := tCmp fun i j => decide (j ≤ i)
noncomputable abbrev tEqI : TE → TE → TE := tCmp fun i j => decide (i = j)
noncomputable abbrev tNeI : TE → TE → TE := tCmp fun i j => !decide (i = j)
/-- is None -/
noncomputable def tIsN (ta : TE) : TE := fun σ H Q => ta σ H fun x H1 => Q (.bl (decide (x = .non))) H1
noncomputable def tNotN (ta : TE) : TE := fun σ H Q => ta σ H fun x H1 => Q (.bl (!decide (x = .non))) H1
/-- a comparison as a value, as a test -/
noncomputable def tB (t : TE) : TT := fun σ H Q => t σ H fun x H1 => ∃ c, x = .bl c ∧ Q c H1
theorem pt_cmp {op : CmpOp} {t : TE} (h : PC X op a b t) (h1 : behindInMarks op b = false := by first | exact nobehind _ (by decide) (by decide) | rfl) : PT X (.Compare a [op] [b] pos) (tB t) := by
  intro pins s σ H Q I hw
  refine wpAny_isTrue_Compare1 (thn (h pins s σ H _ I hw) fun v s1 h1 => thn h1 fun u s2 h2 => thn h2 fun c s3 ⟨x, H1, I1, r1, q1⟩ => ?_) h1
  obtain ⟨d, rfl, q⟩ := q1
  cases r1
  exact wpAny_truthy_bool ⟨H1, I1, q⟩
/-- an expression whose value is a bool, as a test -/
theorem pt_val {e : Expr} {t : TE} (h : PE X e t) (he : ∀ whole, isTrue e X.env whole = (do let v ← whole; standAt e.pos; holding [v] (truthy v)) := by intro _; rfl) : PT X e (tB t) := by
  intro pins s σ H Q I hw
  refine isTrue_plain (thn (h pins s σ H _ I hw) fun v s1 ⟨x, H1, I1, r1, q1⟩ => ?_) (he _)
  obtain ⟨d, rfl, q⟩ := q1
  cases r1
  exact wpAny_truthy_bool ⟨H1, I1, q⟩

/-! ### and, or, not -/
variable {tA tB' : TT} {rest : List Expr}
noncomputable def tAnd (t u : TT) : TT := fun σ H Q => t σ H fun c H1 => if c = true then u σ H1 Q else Q false H1
noncomputable def tOr (t u : TT) : TT := fun σ H Q => t σ H fun c H1 => if c = true then Q true H1 else u σ H1 Q
noncomputable def tNot (t : TT) : TT := fun σ H Q => t σ H fun c H1 => Q (!c) H1
theorem pw_and1 (ha : PT X a tA) : PW X (.BoolOp .And [a] pos) tA := by
  intro wh pins s σ H Q I h
  refine isTrue_and (thn (ha pins s σ H Q I h) fun c s1 e => ?_)
  cases c with
  | true => exact isTrue_and_nil e
  | false => exact e
theorem pw_or1 (ha : PT X a tA) : PW X (.BoolOp .Or [a] pos) tA := by
  intro wh pins s σ H Q I h
  refine isTrue_or (thn (ha pins s σ H Q I h) fun c s1 e => ?_)
  cases c with
  | false => exact isTrue_or_nil e
  | true => exact e
theorem pw_and (ha : PT X a tA) (hb : PW X (.BoolOp .And (b :: rest) pos) tB') : PW X (.BoolOp .And (a :: b :: rest) pos) (tAnd tA tB') := by
  intro wh pins s σ H Q I h
  refine isTrue_and (thn (ha pins s σ H _ I h) fun c s1 ⟨H1, I1, q1⟩ => ?_)
  cases c with
  | true => exact hb wh pins s1 σ H1 Q I1 q1
  | false => exact ⟨H1, I1, q1⟩
theorem pw_or (ha : PT X a tA) (hb : PW X (.BoolOp .Or (b :: rest) pos) tB') : PW X (.BoolOp .Or (a :: b :: rest) pos) (tOr tA tB') := by
  intro wh pins s σ H Q I h
  refine isTrue_or (thn (ha pins s σ H _ I h) fun c s1 ⟨H1, I1, q1⟩ => ?_)
  cases c with
  | true => exact ⟨H1, I1, q1⟩
  | false => exact hb wh pins s1 σ H1 Q I1 q1
theorem pt_not (ha : PT X a tA) : PT X (.UnaryOp .Not a pos) (tNot tA) := by
  intro pins s σ H Q I h
  exact isTrue_not (ha pins s σ H (fun c H1 => Q (!c) H1) I h)
/-- .. as values (bools) -/
noncomputable def tAndV (ta tb : TE) : TE := fun σ H Q => ta σ H fun x H1 => ∃ c, x = .bl c ∧ if c = true then tb σ H1 Q else Q (.bl false) H1
noncomputable def tOrV (ta tb : TE) : TE := fun σ H Q => ta σ H fun x H1 => ∃ c, x = .bl c ∧ if c = true then Q (.bl true) H1 else tb σ H1 Q
noncomputable def tNotV (ta : TE) : TE := fun σ H Q => ta σ H fun x H1 => ∃ c, x = .bl c ∧ Q (.bl (!c)) H1
theorem pe_one {op} {t : TE} (h : PE X a t) : PE X (.BoolOp op [a] pos) t := fun pins s σ H Q I hw => BoolOp_one (h pins s σ H Q I hw)
theorem pe_and (ha : PE X a ta) (hb : PE X (.BoolOp .And (b :: rest) pos) tb) : PE X (.BoolOp .And (a :: b :: rest) pos) (tAndV ta tb) := by
  intro pins s σ H Q I h
  refine BoolOp_and (thn (ha pins s σ H _ I h) fun v s1 ⟨x, H1, I1, r1, q1⟩ => ?_)
  obtain ⟨c, rfl, q1⟩ := q1
  cases r1
  refine wpAny_truthy_bool ?_
  cases c with
  | true => exact hb pins s1 σ H1 Q I1 q1
  | false => exact ⟨.bl false, H1, I1, rfl, q1⟩
theorem pe_not (ha : PE X a ta) : PE X (.UnaryOp .Not a pos) (tNotV ta) := by
  intro pins s σ H Q I h
  refine UnaryOp_ (thn (ha pins s σ H _ I h) fun v s1 ⟨x, H1, I1, r1, q1⟩ => ?_)
  obtain ⟨c, rfl, q1⟩ := q1
  cases r1
  exact not_of (wpAny_truthy_bool ⟨.bl (!c), H1, I1, rfl, q1⟩)
/-- a if t else b -/
noncomputable def tIf (t : TT) (ta tb : TE) : TE := fun σ H Q => t σ H fun c H1 => if c = true then ta σ H1 Q else tb σ H1 Q
end
end L2

namespace L2
open PySem PySem.Spec PyProof.Rows

/-! ### a list, a tuple that is read: tracked, frozen, or an object of the module -/
noncomputable def SqL (K : PySem.W.Frag) (H : Hp) (a : Addr) (xs : List V) : Prop :=
  Rd H a (.lst xs) ∨
    ∃ (o : Obj) (its : Array Value) (n : Nat), K.lookup a = some o ∧ o.cls = .type "list" ∧ o.dict = none ∧ o.data = .seq its n ∧ its.size ≤ sizeLine ∧ Vals xs its.toList
noncomputable def SqT (K : PySem.W.Frag) (H : Hp) (a : Addr) (xs : List V) : Prop :=
  Rd H a (.tup xs) ∨
    ∃ (o : Obj) (its : Array Value) (n : Nat), K.lookup a = some o ∧ o.cls = .type "tuple" ∧ o.data = .seq its n ∧ its.size ≤ sizeLine ∧ Vals xs its.toList
noncomputable def absV : Value → Option V
  | .none => some .non
  | .bool b => some (.bl b)
  | .int i _ => some (.int i)
  | .str x _ => some (.str x)
  | .bytes b _ => some (.byt b)
  | .float b _ => some (.flt b)
  | .ref a => some (.ref a)
  | .type n => some (.ty n)
  | _ => none
theorem RelV.abs {x : V} {u : Value} (r : RelV x u) : absV u = some x := by
  cases x with
  | non => cases r; rfl
  | bl _ => cases r; rfl
  | int _ => obtain ⟨t, rfl⟩ := r; rfl
  | str _ => obtain ⟨t, rfl⟩ := r; rfl
  | byt _ => obtain ⟨t, rfl⟩ := r; rfl
  | flt _ => obtain ⟨t, rfl⟩ := r; rfl
  | ref _ => cases r; rfl
  | ty _ => cases r; rfl
theorem RelV.inj {x y : V} {u : Value} (r : RelV x u) (q : RelV y u) : x = y := Option.some.inj (r.abs.symm.trans q.abs)
theorem Vals.inj : ∀ {xs ys : List V} {us : List Value}, Vals xs us → Vals ys us → xs = ys
  | _, _, _, .nil, .nil => rfl
  | _, _, _, .cons r t, .cons r' t' => by rw [r.inj r', Vals.inj t t']
section
variable {X : Cx} {pins : List (Addr × Obj)} {σ : St} {H : Hp} {s : Shared} {a : Addr} {xs ys : List V}
theorem SqL.of {K : PySem.W.Frag} (h : H a = some (.lst xs)) : SqL K H a xs := .inl (.inl h)
theorem SqT.of {K : PySem.W.Frag} (h : H a = some (.tup xs)) : SqT K H a xs := .inl (.inl h)
theorem Inv.list (I : Inv X pins σ H s) (h : SqL X.K H a xs) : ∃ its : List Value, Vals xs its ∧ PlainL s.heap a its.toArray ∧ xs.length ≤ sizeLine := by
  rcases h with h | ⟨o, its, n, hk, hc, hd, hs, hz, r⟩
  · obtain ⟨z, its, n, r, e⟩ := h.ok I.hok
    exact ⟨its, r, ⟨_, n, e, rfl, rfl, rfl⟩, z⟩
  · refine ⟨its.toList, r, ⟨o, n, I.kIn a o hk, hc, hd, by simpa using hs⟩, ?_⟩
    have e := r.length
    simp only [Array.length_toList] at e
    omega
theorem Inv.tuple (I : Inv X pins σ H s) (h : SqT X.K H a xs) : ∃ its : List Value, Vals xs its ∧ IsTup s.heap a its.toArray ∧ xs.length ≤ sizeLine := by
  rcases h with h | ⟨o, its, n, hk, hc, hs, hz, r⟩
  · obtain ⟨z, its, r, p⟩ := h.ok I.hok
    exact ⟨its, r, p, z⟩
  · refine ⟨its.toList, r, ⟨o, I.kIn a o hk, hc, n, by simpa using hs⟩, ?_⟩
    have e := r.length
    simp only [Array.length_toList] at e
    omega
theorem Inv.list_inj (I : Inv X pins σ H s) (h : SqL X.K H a xs) (h' : SqL X.K H a ys) : xs = ys := by
  obtain ⟨its, r, ⟨o, n, e, _, _, d⟩, _⟩ := I.list h
  obtain ⟨its', r', ⟨o', n', e', _, _, d'⟩, _⟩ := I.list h'
  rw [e] at e'; cases e'
  rw [d] at d'
  injection d' with d1 _
  have : its = its' := by simpa using congrArg Array.toList d1
  subst this
  exact r.inj r'
theorem Inv.tuple_inj (I : Inv X pins σ H s) (h : SqT X.K H a xs) (h' : SqT X.K H a ys) : xs = ys := by
  obtain ⟨its, r, ⟨o, e, _, n, d⟩, _⟩ := I.tuple h
  obtain ⟨its', r', ⟨o', e', _, n', d'⟩, _⟩ := I.tuple h'
  rw [e] at e'; cases e'
  rw [d] at d'
  injection d' with d1 _
  have : its = its' := by simpa using congrArg Array.toList d1
  subst this
  exact r.inj r'
end

/-! ### another wish about exceptions -/
noncomputable abbrev Cx.wish (X : Cx) (E : Value → Shared → Prop) : Cx := { X with xe := E }
/-- no exception leaves -/
noncomputable abbrev Cx.nox (X : Cx) : Cx := X.wish fun _ _ => False
theorem Cx.Ok.wish {X : Cx} (ok : X.Ok) (E : Value → Shared → Prop) : (X.wish E).Ok :=
  ⟨ok.mod, ok.kind, ok.glob, ok.blt, ok.above, ok.inj, ok.has, ok.cab, ok.hd, ok.frames, ok.stk, ok.exf, ok.bs, ok.bsz, ok.noex, ok.exfs, ok.funs, ok.frf⟩
theorem Cx.Ok.unwish {X : Cx} {E : Value → Shared → Prop} (ok : (X.wish E).Ok) : X.Ok :=
  ⟨ok.mod, ok.kind, ok.glob, ok.blt, ok.above, ok.inj, ok.has, ok.cab, ok.hd, ok.frames, ok.stk, ok.exf, ok.bs, ok.bsz, ok.noex, ok.exfs, ok.funs, ok.frf⟩
section
variable {X : Cx} {pins : List (Addr × Obj)} {σ : St} {H : Hp} {s : Shared} {E : Value → Shared → Prop}
theorem Inv.wish (I : Inv X pins σ H s) (E : Value → Shared → Prop) : Inv (X.wish E) pins σ H s := ⟨I.ok.wish E, I.os, I.bare, I.base, I.loc, I.cell, I.free, I.freeC, I.pin, I.hok, I.len⟩
theorem Inv.unwish (I : Inv (X.wish E) pins σ H s) : Inv X pins σ H s := ⟨I.ok.unwish, I.os, I.bare, I.base, I.loc, I.cell, I.free, I.freeC, I.pin, I.hok, I.len⟩
theorem SP.unwish {D : Ends} {f : Flow} {s' : Shared} (h : SP (X.wish E) pins D f s') : SP X pins D f s' := by
  cases f with
  | next => obtain ⟨σ', H', I, q⟩ := h; exact ⟨σ', H', I.unwish, q⟩
  | brk => obtain ⟨σ', H', I, q⟩ := h; exact ⟨σ', H', I.unwish, q⟩
  | cont => obtain ⟨σ', H', I, q⟩ := h; exact ⟨σ', H', I.unwish, q⟩
  | ret u => obtain ⟨v, σ', H', I, r, q⟩ := h; exact ⟨v, σ', H', I.unwish, r, q⟩
theorem PSs.nox {st : List Stmt} {t : TS} (h : PSs X.nox st t) : PSs X st t := fun pins s σ H D I hw =>
  wpAny_mono (h pins s σ H D (I.wish _) hw) (fun _ _ q => q.unwish) fun _ _ z => False.elim z
end

/-! ### blocks and small statements -/
section
variable {X : Cx} {st : Stmt} {rest : List Stmt} {t u : TS} {e : Expr} {te : TE} {pos : Pos}
noncomputable def tNext : TS := fun D σ H => D.nx σ H
noncomputable def tSeq (t u : TS) : TS := fun D σ H => t { D with nx := u D } σ H
theorem pss_nil : PSs X [] tNext := fun _ _ σ H _ I h => wpAny_execs_nil ⟨σ, H, I, h⟩
theorem pss_cons (h1 : PS X st t) (h2 : PSs X rest u) : PSs X (st :: rest) (tSeq t u) := by
  intro pins s σ H D I h
  refine wpAny_execs_cons (thn (h1 pins s σ H { D with nx := u D } I h) fun f s1 q => ?_)
  cases f with
  | next =>
    obtain ⟨σ', H', I', q⟩ := q
    exact h2 pins s1 σ' H' D I' q
  | ret v => exact q
  | brk => exact q
  | cont => exact q
theorem pss_one (h1 : PS X st t) : PSs X [st] t := by
  intro pins s σ H D I h
  refine wpAny_execs_cons (thn (h1 pins s σ H D I h) fun f s1 q => ?_)
  cases f with
  | next => exact wpAny_execs_nil q
  | ret v => exact q
  | brk => exact q
  | cont => exact q
noncomputable def tBreak : TS := fun D σ H => D.bk σ H
noncomputable def tCont : TS := fun D σ H => D.ct σ H
/-- in a def's body nothing is shown -/
theorem Inv.quiet {pins : List (Addr × Obj)} {σ : St} {H : Hp} {s : Shared} (I : Inv X pins σ H s) : interactive X.env = false := by simp [interactive, I.ok.kind]
/-- an expression whose value is dropped -/
noncomputable def tDrop (te : TE) : TS := fun D σ H => te σ H fun _ H1 => D.nx σ H1
theorem ps_expr (he : PE X e te) (hs : swapsWith e none pos.line X.env = pure false := by rfl) : PS X (.Expr e pos) (tDrop te) := by
  intro pins s σ H D I h
  exact wpAny_Expr_any (thn (he pins s σ H _ I h) fun v s1 ⟨x, H1, I1, r1, q1⟩ => ⟨σ, H1, I1, q1⟩) I.quiet hs
noncomputable def tRet (te : TE) : TS := fun D σ H => te σ H D.rt
theorem ps_ret (he : PE X e te) : PS X (.Return (some e) pos) (tRet te) := by
  intro pins s σ H D I h
  exact wpAny_Return_some (thn (he pins s σ H _ I h) fun v s1 ⟨x, H1, I1, r1, q1⟩ => ⟨x, σ, H1, I1, r1, q1⟩)
noncomputable def tRetN : TS := fun D _ H => D.rt .non H
noncomputable def tIfS (c : TT) (t u : TS) : TS := fun D σ H => c σ H fun b H1 => if b = true then t D σ H1 else u D σ H1
theorem ps_if {c : Expr} {a b : List Stmt} {tc : TT} (hc : PT X c tc) (ha : PSs X a t) (hb : PSs X b u) : PS X (.If c a b pos) (tIfS tc t u) := by
  intro pins s σ H D I h
  refine wpAny_If (thn (hc pins s σ H _ I h) fun d s1 ⟨H1, I1, q1⟩ => ?_)
  cases d with
  | true => exact ha pins s1 σ H1 D I1 q1
  | false => exact hb pins s1 σ H1 D I1 q1
/-- code that the proof never comes to -/
noncomputable def tNever : TS := fun _ _ _ => False
end

/-! ### targets -/
noncomputable abbrev TG := V → St → Hp → (St → Hp → Prop) → Prop
noncomputable abbrev TGs := List V → St → Hp → (St → Hp → Prop) → Prop
noncomputable def PG (X : Cx) (target : Expr) (t : TG) : Prop :=
  ∀ (pins : List (Addr × Obj)) (s : Shared) (σ : St) (H : Hp) (v : V) (u : Value) (Q : St → Hp → Prop), Inv X pins σ H s → RelV v u → t v σ H Q →
    wpAny (model X.prog X.w) X.A (assign target X.env u) (fun _ s' => ∃ σ' H', Inv X pins σ' H' s' ∧ Q σ' H') X.xe s
/-- several targets, one after another -/
noncomputable def PGs (X : Cx) (ts : List Expr) (t : TGs) : Prop :=
  ∀ (pins : List (Addr × Obj)) (s : Shared) (σ : St) (H : Hp) (vs : List V) (us : List Value) (Q : St → Hp → Prop), Inv X pins σ H s → Vals vs us → t vs σ H Q →
    wpAny (model X.prog X.w) X.A (assignInOrder ((assignEach ts X.env).map (·.2)) us) (fun _ s' => ∃ σ' H', Inv X pins σ' H' s' ∧ Q σ' H') X.xe s
/-- o[i] = v, by values -/
noncomputable abbrev TSet := V → V → V → Hp → (Hp → Prop) → Prop
noncomputable def PSet (X : Cx) (t : TSet) : Prop :=
  ∀ (pins : List (Addr × Obj)) (s : Shared) (σ : St) (H : Hp) (o i v : V) (ov iv u : Value) (Q : Hp → Prop), Inv X pins σ H s → RelV o ov → RelV i iv → RelV v u → t o i v H Q →
    wpAny (model X.prog X.w) X.A (setItem ov iv u) (fun _ s' => ∃ H', Inv X pins σ H' s' ∧ Q H') X.xe s
/-- a op= b, by values -/
noncomputable abbrev TIp := V → V → Hp → VK → Prop
noncomputable def PIp (X : Cx) (op : Operator) (t : TIp) : Prop :=
  ∀ (pins : List (Addr × Obj)) (s : Shared) (σ : St) (H : Hp) (x y : V) (v u : Value) (Q : VK), Inv X pins σ H s → RelV x v → RelV y u → t x y H Q →
    wpAny (model X.prog X.w) X.A (inplaceOp op v u) (EP X pins σ Q) X.xe s
section
variable {X : Cx} {pos : Pos}
noncomputable def gName (i : Nat) : TG := fun v σ H Q => Q (σ.set i (some v)) H
theorem pg_name {i : Nat} {x : Str} (hN : X.N.Nodup) (hi : X.N[i]? = some x) (hx : Loc X.env.scope x) (hf : X.fn x = true ∨ X.env.scope.names.lookup x = some .local := by first | exact .inl rfl | exact .inr rfl | assumption) : PG X (.Name x pos) (gName i) := by
  intro pins s σ H v u Q I r h
  exact wpAny_assign_Name (store_ok I hN hi hx r (fun s' I' => ⟨_, H, I', h⟩) hf)
noncomputable def gNil : TGs := fun vs σ H Q => vs = [] ∧ Q σ H
noncomputable def gCons (t : TG) (u : TGs) : TGs := fun vs σ H Q => ∃ v r, vs = v :: r ∧ t v σ H fun σ' H' => u r σ' H' Q
theorem pgs_nil : PGs X [] gNil := by
  intro pins s σ H vs us Q I r h
  obtain ⟨e, h⟩ := h
  subst e
  cases r
  exact assignInOrder_nil ⟨σ, H, I, h⟩
theorem pgs_cons {e : Expr} {es : List Expr} {t : TG} {u : TGs} (h1 : PG X e t) (h2 : PGs X es u)
    (hs : (assignEach (e :: es) X.env).map (·.2) = assign e X.env :: (assignEach es X.env).map (·.2) := by rfl) : PGs X (e :: es) (gCons t u) := by
  intro pins s σ H vs us Q I r h
  obtain ⟨v, vr, e1, h⟩ := h
  subst e1
  cases r with
  | cons r rr =>
    rw [hs]
    refine assignInOrder_cons (thn (h1 pins s σ H _ _ _ I r h) fun _ s1 ⟨σ1, H1, I1, q1⟩ => ?_)
    exact h2 pins s1 σ1 H1 _ _ Q I1 rr q1
/-- (a, b, ..) = a tuple of that length -/
noncomputable def gTup (K : PySem.W.Frag) (n : Nat) (t : TGs) : TG := fun v σ H Q => ∃ a xs, v = .ref a ∧ SqT K H a xs ∧ xs.length = n ∧ t xs σ H Q
theorem pg_tup {es : List Expr} {k : Nat} {t : TGs} {n : Nat} (hc : X.calm = true) (h : PGs X es t)
    (hn : (assignEach es X.env).length = n := by rfl) (hst : (assignEach es X.env).findIdx? (·.1) = none := by rfl) : PG X (.Tuple es k pos) (gTup X.K n t) := by
  intro pins s σ H v u Q I r hw
  obtain ⟨a, xs, e1, hq, hl, hw⟩ := hw
  subst e1
  cases r
  obtain ⟨its, rv, ht, hz⟩ := I.tuple hq
  refine assign_Tuple_tuple (I.ok.hd hc) ht (by simp [hn, ← hl, rv.length]) hst fun h' hx => ?_
  have I1 : Inv X pins σ H { s with heap := h' } := I.kept (t' := s.toks) fun b o e => hx b o (Nat.ne_of_lt (Heap.lt_size e)) e
  exact h pins _ σ H xs _ Q I1 (by simpa using rv) hw
/-- o[i] = .. -/
noncomputable def gSub (to ti : TE) (t : TSet) : TG := fun v σ H Q => to σ H fun o H1 => ti σ H1 fun i H2 => t o i v H2 fun H3 => Q σ H3
theorem pg_sub {o i : Expr} {to ti : TE} {t : TSet} (ho : PE X o to) (hi : PE X i ti) (hs : PSet X t)
    (ha : ∀ v, assign (.Subscript o i pos) X.env v = (do
      let ov ← holding [v] (eval o X.env)
      let iv ← holding [v, ov] (eval i X.env)
      standAt pos
      holding [v, ov, iv] (setItem ov iv v)
      release [v, ov, iv] []) := by intro _; rfl) : PG X (.Subscript o i pos) (gSub to ti t) := by
  intro pins s σ H v u Q I r h
  rw [ha]
  refine wpAny_bind (wpAny_holding (thn (ho pins s σ H _ I h) fun ov s1 ⟨x, H1, I1, r1, q1⟩ => ?_))
  refine wpAny_bind (wpAny_holding (thn (hi pins s1 σ H1 _ I1 q1) fun iv s2 ⟨y, H2, I2, r2, q2⟩ => ?_))
  refine wpAny_bind (wpAny_standAt (wpAny_bind (wpAny_holding (thn (hs pins s2 σ H2 x y v ov iv u _ I2 r1 r2 r q2) fun _ s3 ⟨H3, I3, q3⟩ => ?_))))
  exact wpAny_release ⟨σ, H3, I3, q3⟩
/-- target = value -/
noncomputable def tAsg (te : TE) (g : TG) : TS := fun D σ H => te σ H fun x H1 => g x σ H1 D.nx
theorem ps_asg {tg e : Expr} {te : TE} {g : TG} (he : PE X e te) (hg : PG X tg g) (hs : swapsWithSole [tg] e pos.line X.env = pure false := by rfl) (hw : swappedStores [tg] e X.env = pure none := by rfl)
    (h1 : (assignEach [tg] X.env).map (·.2) = [assign tg X.env] := by rfl) : PS X (.Assign [tg] e pos) (tAsg te g) := by
  intro pins s σ H D I h
  refine wpAny_Assign_stores (thn (he pins s σ H _ I h) fun v s1 ⟨x, H1, I1, r1, q1⟩ => ?_) hs hw
  rw [h1]
  exact thn (hg pins s1 σ H1 x v _ I1 r1 q1) fun _ s2 q => q
/-- name = value -/
theorem ps_set {i : Nat} {x : Str} {e : Expr} {te : TE} {pos' : Pos} (hN : X.N.Nodup) (hi : X.N[i]? = some x) (hx : Loc X.env.scope x) (he : PE X e te) (hs : swapsWith e (some (.Name x pos')) pos.line X.env = pure false := by rfl) (hf : X.fn x = true ∨ X.env.scope.names.lookup x = some .local := by first | exact .inl rfl | exact .inr rfl | assumption) :
    PS X (.Assign [.Name x pos'] e pos) (tAsg te (gName i)) := by
  intro pins s σ H D I h
  refine wpAny_Assign_Name (thn (he pins s σ H _ I h) fun v s1 ⟨y, H1, I1, r1, q1⟩ => ?_) hs
  exact store_ok I1 hN hi hx r1 (fun s2 I2 => ⟨_, H1, I2, q1⟩) hf
/-- a, b = x, y with plain local names: stored from the right; the pair itself is not tracked (the opening rows as in PyProof/Rows/TupAssign.lean:23) -/
noncomputable def tPar (i j : Nat) (ta : TA) : TS := fun D σ H => ta σ H fun vs H1 => ∃ v w, vs = [v, w] ∧ D.nx ((σ.set i (some v)).set j (some w)) H1
/-- name op= e -/
noncomputable def tAug (i : Nat) (te : TE) (ti : TIp) : TS := fun D σ H => ∃ x, σ[i]? = some (some x) ∧ te σ H fun y H1 => ti x y H1 fun z H2 => D.nx (σ.set i (some z)) H2
/-- o[i] op= e -/
noncomputable def tAugS (to ti te : TE) (tget : V → V → Hp → VK → Prop) (tip : TIp) (tset : TSet) : TS := fun D σ H => to σ H fun o H1 => ti σ H1 fun i H2 => tget o i H2 fun x H3 => te σ H3 fun y H4 => tip x y H4 fun z H5 => tset o i z H5 fun H6 => D.nx σ H6
/-- o[i], by values -/
noncomputable def PGet (X : Cx) (t : V → V → Hp → VK → Prop) : Prop :=
  ∀ (pins : List (Addr × Obj)) (s : Shared) (σ : St) (H : Hp) (o i : V) (ov iv : Value) (Q : VK), Inv X pins σ H s → RelV o ov → RelV i iv → t o i H Q →
    wpAny (model X.prog X.w) X.A (getItem ov iv) (EP X pins σ Q) X.xe s
/-- ints -/
noncomputable def ipI (f : Int → Int → Int) : TIp := fun x y H Q => ∃ i j, x = .int i ∧ y = .int j ∧ Q (.int (f i j)) H
end

/-! ### while -/
section
variable {X : Cx} {pos : Pos}
/-- the invariant W with its measure -/
noncomputable def tWhile (c : TT) (tb : TS) : TS := fun D σ H => ∃ W : Nat → St → Hp → Prop, (∃ m, W m σ H) ∧ ∀ m σ H, W m σ H →
  c σ H fun b H1 => if b = true then ∃ N : St → Hp → Prop, (∀ σ' H', N σ' H' → ∃ m', m' < m ∧ W m' σ' H') ∧ tb { D with nx := N, ct := N, bk := D.nx } σ H1 else D.nx σ H1
end

/-! ### what a loop or a comprehension walks -/
/-- at turn i: it yields x (the heap may grow), or it stops -/
structure It where
  go : Nat → Hp → Prop
  yld : Nat → Hp → V → Hp → Prop
  stop : Nat → Hp → Prop
/-- the iterator's own objects may turn: they are not the frame's, not pinned, younger than the entry (or a comprehension's own) -/
noncomputable def FpOk (X : Cx) (pins : List (Addr × Obj)) (H : Hp) (b : Addr) : Prop :=
  H b = none ∧ b ≠ X.env.locals ∧ b ∉ X.fs ∧ (b ∈ X.ex ∨ X.s₀.heap.objs.size ≤ b) ∧ (∀ x c, X.env.cells.lookup x = some c → c ≠ b) ∧ ∀ p ∈ X.pn ++ pins, p.1 ≠ b
theorem Inv.fpOk {X : Cx} {pins : List (Addr × Obj)} {σ : St} {H H' : Hp} {s : Shared} {b : Addr} (I : Inv X pins σ H s) (hb : s.heap.objs.size ≤ b) (hn : H' b = none) : FpOk X pins H' b := by
  refine ⟨hn, Nat.ne_of_gt (Nat.lt_of_lt_of_le I.lt hb), I.nofs hb, .inr (Nat.le_trans I.sz hb), fun x c e z => ?_, fun p hp z => ?_⟩
  · obtain ⟨v, q⟩ := I.cell x c e
    exact absurd (Nat.lt_of_lt_of_le q.lt (by rw [z]; exact hb)) (Nat.lt_irrefl _)
  · exact absurd (Nat.lt_of_lt_of_le (Heap.lt_size (I.pin p hp).1) (by rw [z]; exact hb)) (Nat.lt_irrefl _)
structure Turn (P : Program) (w : World) (K : PySem.W.Frag) (tg : Expr) (J : It) (fp : List Addr) (it : Addr) (tn : Nat → Heap → Prop) : Prop where
  mem : it ∈ fp
  obj : ∀ i h, tn i h → ∀ b ∈ fp, ∃ o, h.get? b = some o ∧ ∀ v, o.data ≠ .cell v
  keep : ∀ i h h', tn i h → (∀ b ∈ fp, ∀ o, h.get? b = some o → h'.get? b = some o) → tn i h'
  item : ∀ (X : Cx), X.prog = P → X.w = w → X.K = K → X.calm = true → ∀ (i : Nat) (pins : List (Addr × Obj)) (s : Shared) (σ : St) (H : Hp) (E : Value → Shared → Prop), Inv X pins σ H s → (∀ b ∈ fp, FpOk X pins H b) → tn i s.heap → J.go i H →
    wpAny (model P w) X.A (pyNext (.ref it)) (fun r s1 => ∃ u, r = some u ∧
      wpAny (model P w) X.A (letOwnedTupleGo tg (.ref it) u) (fun _ s2 => ∃ x H', Inv X pins σ H' s2 ∧ RelV x u ∧ J.yld i H x H' ∧ tn (i + 1) s2.heap ∧ ∀ b ∈ fp, H' b = none) E s1) E s
  done : ∀ (X : Cx), X.prog = P → X.w = w → X.K = K → X.calm = true → ∀ (i : Nat) (pins : List (Addr × Obj)) (s : Shared) (σ : St) (H : Hp) (E : Value → Shared → Prop), Inv X pins σ H s → (∀ b ∈ fp, FpOk X pins H b) → tn i s.heap → J.stop i H →
    wpAny (model P w) X.A (pyNext (.ref it)) (fun r s1 => r = none ∧ Inv X pins σ H s1) E s
  self : ∀ (A : Around) (i : Nat) (s : Shared) (Q : Value → Shared → Prop) (E : Value → Shared → Prop), tn i s.heap → Q (.ref it) s → wpAny (model P w) A (pyIter (.ref it)) Q E s
noncomputable abbrev TI := St → Hp → (It → Hp → Prop) → Prop
/-- an iterator has come -/
noncomputable def PIE (X : Cx) (pins : List (Addr × Obj)) (σ : St) (tg : Expr) (R : It → Hp → Prop) (itv : Value) (s2 : Shared) : Prop :=
  ∃ (it : Addr) (fp : List Addr) (tn : Nat → Heap → Prop) (J : It) (H' : Hp), itv = .ref it ∧ Inv X pins σ H' s2 ∧ Turn X.prog X.w X.K tg J fp it tn ∧ tn 0 s2.heap ∧ (∀ b ∈ fp, FpOk X pins H' b) ∧ R J H'
noncomputable def PI (X : Cx) (tg iter : Expr) (wi : TI) : Prop :=
  ∀ (pins : List (Addr × Obj)) (s : Shared) (σ : St) (H : Hp) (R : It → Hp → Prop), Inv X pins σ H s → wi σ H R →
    wpAny (model X.prog X.w) X.A (eval iter X.env) (fun v s1 => wpAny (model X.prog X.w) X.A (pyIter v) (PIE X pins σ tg R) X.xe s1) X.xe s

/-- the step ahead of the store is nothing for an iterator that keeps no tuple -/
theorem go_of {M : Model} {A : Around} {E : Value → Shared → Prop} {s : Shared} {tg : Expr} {it : Addr} {u : Value} {o : Obj} {n : String} {vs : Array Value} {Q : Unit → Shared → Prop} (ho : s.heap.get? it = some o) (hc : o.cls = .type n) (hd : o.data = .fields vs)
    (hn : ["enumerate", "zip", "dict_itemiterator", "dict_reverseitemiterator", "odict_iterator", "itertools.zip_longest", "itertools.pairwise"].contains n = false) (hQ : Q () s) : wpAny M A (letOwnedTupleGo tg (.ref it) u) Q E s := by
  unfold letOwnedTupleGo
  cases tg <;> first
    | exact wpAny_pure hQ
    | (cases u <;> first
        | exact wpAny_pure hQ
        | (refine wpAny_bind (wpAny_load ho ?_)
           rw [hc, hd]
           show wpAny M A (if (["enumerate", "zip", "dict_itemiterator", "dict_reverseitemiterator", "odict_iterator", "itertools.zip_longest", "itertools.pairwise"].contains n && vs[0]? == some (rawInt _)) = true then _ else _) Q E s
           rw [if_neg (by intro h; rw [hn, Bool.false_and] at h; cases h)]
           exact wpAny_pure hQ))

/-- the list at a, as it stands at each turn (a loop may append to it) -/
noncomputable def Itl (K : PySem.W.Frag) (a : Addr) : It :=
  ⟨fun i H => ∃ xs x, SqL K H a xs ∧ xs[i]? = some x, fun i H x H' => H' = H ∧ ∀ xs, SqL K H a xs → xs[i]? = some x, fun i H => ∃ xs, SqL K H a xs ∧ xs.length ≤ i⟩
noncomputable def Itt (K : PySem.W.Frag) (a : Addr) : It :=
  ⟨fun i H => ∃ xs x, SqT K H a xs ∧ xs[i]? = some x, fun i H x H' => H' = H ∧ ∀ xs, SqT K H a xs → xs[i]? = some x, fun i H => ∃ xs, SqT K H a xs ∧ xs.length ≤ i⟩
/-- lo, lo + 1, .. (n of them) -/
noncomputable def Itr (lo : Int) (n : Nat) : It := ⟨fun i _ => i < n, fun i H x H' => H' = H ∧ x = .int (lo + i), fun i _ => n ≤ i⟩
theorem turn_list {P : Program} {w : World} {K : PySem.W.Frag} {tg : Expr} (a it : Addr) : Turn P w K tg (Itl K a) [it] it (fun i h => h.IsListIter it a i) where
  mem := by simp
  obj := fun i h st b hb => by
    have e : b = it := by simpa using hb
    subst e
    obtain ⟨o, e, c, d⟩ := st
    exact ⟨o, e, fun v z => by rw [d] at z; cases z⟩
  keep := fun i h h' st k => st.at fun o e => k it (by simp) o e
  item := by
    intro X hP hw hK hc i pins s σ H E I hf st hg
    subst hP hw hK
    obtain ⟨xs, x, hq, hx⟩ := hg
    obtain ⟨its, rv, p, hz⟩ := I.list hq
    obtain ⟨u, hu, ru⟩ := rv.get hx
    obtain ⟨f0, f1, f2, f3, f4, f5⟩ := hf it (by simp)
    refine wpAny_pyNext_list_item st p.isList (x := u) (by simpa using hu) fun h' st' sb => ?_
    have I1 : Inv X pins σ H { s with heap := h' } := I.turned (t' := s.toks) (fun b o hb e => (sb.2 b hb).trans e) f0 f1 f3 f4 f5
    obtain ⟨o, e, c, d⟩ := id st'
    exact ⟨u, rfl, go_of (s := { s with heap := h' }) e c d (by decide) ⟨x, H, I1, ru, ⟨rfl, fun ys hy => by rw [I.list_inj hy hq]; exact hx⟩, st', fun b hb => (hf b hb).1⟩⟩
  done := by
    intro X hP hw hK hc i pins s σ H E I hf st hg
    subst hP hw hK
    obtain ⟨xs, hq, hx⟩ := hg
    obtain ⟨its, rv, p, hz⟩ := I.list hq
    obtain ⟨f0, f1, f2, f3, f4, f5⟩ := hf it (by simp)
    have hl := rv.length
    exact wpAny_pyNext_list_end (I.ok.hd hc) st p.isList (by simp; omega) fun h' eb => ⟨rfl, I.turned (t' := s.toks) (fun b o hb e => eb b o hb e) f0 f1 f3 f4 f5⟩
  self := fun _ _ _ _ _ st h => wpAny_pyIter_listiter st h
theorem turn_range {P : Program} {w : World} {K : PySem.W.Frag} {tg : Expr} (it : Addr) (lo : Int) (n : Nat) : Turn P w K tg (Itr lo n) [it] it (fun i h => IsRangeIter h it (lo + (i : Nat) * 1) ((n : Int) - (i : Nat)) 1) where
  mem := by simp
  obj := fun i h st b hb => by
    have e : b = it := by simpa using hb
    subst e
    exact ⟨_, st, fun v z => by
      have z' : Data.fields _ = Data.cell v := z
      cases z'⟩
  keep := fun i h h' st k => k it (by simp) _ st
  item := by
    intro X hP hw hK hc i pins s σ H E I hf st hg
    subst hP hw hK
    obtain ⟨f0, f1, f2, f3, f4, f5⟩ := hf it (by simp)
    have W := Walks.range (prog := X.prog) (w := X.w) (I.ok.hd hc) it lo 1 n
    refine W.item i s _ _ hg st fun v h' tk hv st' kk => ?_
    obtain ⟨t, rfl⟩ := hv
    have I1 : Inv X pins σ H { s with heap := h', toks := tk } := I.turned (fun b o hb e => kk b o (by simpa using hb) e) f0 f1 f3 f4 f5
    refine ⟨_, rfl, go_of (s := { s with heap := h', toks := tk }) (n := "range_iterator") st' rfl rfl (by decide) ⟨.int (lo + i), H, I1, ⟨t, ?_⟩, ⟨rfl, rfl⟩, st', fun b hb => (hf b hb).1⟩⟩
    rw [Int.mul_one]
  done := by
    intro X hP hw hK hc i pins s σ H E I hf st hg
    subst hP hw hK
    obtain ⟨f0, f1, f2, f3, f4, f5⟩ := hf it (by simp)
    exact wpAny_pyNext_range_end (I.ok.hd hc) st (by have : n ≤ i := hg; omega) fun h' eb => ⟨rfl, I.turned (t' := s.toks) (fun b o hb e => eb b o hb e) f0 f1 f3 f4 f5⟩
  self := fun _ _ _ _ _ st h => wpAny_pyIter_rangeiter st h
end L2

namespace L2
open PySem PySem.Spec PyProof.Rows
section
variable {X : Cx} {tg : Expr}
noncomputable def iList (K : PySem.W.Frag) (tl : TE) : TI := fun σ H R => tl σ H fun x H1 => ∃ a, x = .ref a ∧ (∃ xs, SqL K H1 a xs) ∧ R (Itl K a) H1
noncomputable def iTup (K : PySem.W.Frag) (tl : TE) : TI := fun σ H R => tl σ H fun x H1 => ∃ a, x = .ref a ∧ (∃ xs, SqT K H1 a xs) ∧ R (Itt K a) H1
theorem pi_list {l : Expr} {tl : TE} (hl : PE X l tl) : PI X tg l (iList X.K tl) := by
  intro pins s σ H R I h
  refine thn (hl pins s σ H _ I h) fun v s1 ⟨x, H1, I1, r1, q1⟩ => ?_
  obtain ⟨a, e, ⟨xs, hq⟩, q⟩ := q1
  subst e
  cases r1
  obtain ⟨its, rv, p, hz⟩ := I1.list hq
  refine wpAny_pyIter_list p.isList ?_
  refine ⟨s1.heap.objs.size, [s1.heap.objs.size], _, _, H1, rfl, I1.kept (t' := s1.toks) fun b o e => Heap.get?_push_of_some _ e, turn_list a _, ⟨_, Heap.get?_push_size _ rfl, rfl, rfl⟩, fun b hb => ?_, q⟩
  have e : b = s1.heap.objs.size := by simpa using hb
  subst e
  exact I1.fpOk (Nat.le_refl _) (I1.hok.fresh (Nat.le_refl _))
/-- a range object just made, walked -/
theorem range_it {pins : List (Addr × Obj)} {σ : St} {H : Hp} {s : Shared} {R : It → Hp → Prop} {E : Value → Shared → Prop} {lo hi : Int} {t u v : Tok} {tk : Nat} (I : Inv X pins σ H s) (h1 : -(2 ^ 62) ≤ lo) (h2 : lo < 2 ^ 62) (h3 : -(2 ^ 62) ≤ hi) (h4 : hi < 2 ^ 62)
    (q : R (Itr lo (hi - lo).toNat) H) : wpAny (model X.prog X.w) X.A (pyIter (.ref s.heap.objs.size)) (PIE X pins σ tg R) E { s with heap := s.heap.push { cls := .type "range", data := .fields #[.int lo t, .int hi u, .int 1 v] }, toks := tk } := by
  refine wpAny_pyIter_range (IsRange.new ..) (small_one h1 h2 h3 h4) ?_
  have I1 : Inv X pins σ H { s with heap := s.heap.push { cls := .type "range", data := .fields #[.int lo t, .int hi u, .int 1 v] }, toks := tk } := I.kept fun b o e => Heap.get?_push_of_some _ e
  refine ⟨(s.heap.push { cls := .type "range", data := .fields #[.int lo t, .int hi u, .int 1 v] }).objs.size, [(s.heap.push { cls := .type "range", data := .fields #[.int lo t, .int hi u, .int 1 v] }).objs.size], _, _, H, rfl,
    I1.kept (t' := tk) fun b o e => Heap.get?_push_of_some _ e, turn_range _ lo (hi - lo).toNat, ?_, fun b hb => ?_, q⟩
  · have e1 : lo + ((0 : Nat) : Int) * 1 = lo := by simp
    have e2 : (((hi - lo).toNat : Nat) : Int) - ((0 : Nat) : Int) = Builtin.Range.rangeSize lo hi 1 := by rw [rangeSize_one]; split <;> omega
    show IsRangeIter _ _ (lo + ((0 : Nat) : Int) * 1) ((((hi - lo).toNat : Nat) : Int) - ((0 : Nat) : Int)) 1
    rw [e1, e2]
    exact Heap.get?_push_size _ rfl
  · have e : b = (s.heap.push { cls := .type "range", data := .fields #[.int lo t, .int hi u, .int 1 v] }).objs.size := by simpa using hb
    subst e
    exact I1.fpOk (Nat.le_refl _) (I1.hok.fresh (Nat.le_refl _))
noncomputable def iRng1 (ta : TA) : TI := fun σ H R => ta σ H fun vs H1 => ∃ j : Int, vs = [.int j] ∧ -(2 ^ 62) ≤ j ∧ j < 2 ^ 62 ∧ R (Itr 0 j.toNat) H1
noncomputable def iRng2 (ta : TA) : TI := fun σ H R => ta σ H fun vs H1 => ∃ i j : Int, vs = [.int i, .int j] ∧ (-(2 ^ 62) ≤ i ∧ i < 2 ^ 62 ∧ -(2 ^ 62) ≤ j ∧ j < 2 ^ 62) ∧ R (Itr i (j - i).toNat) H1
theorem pi_range1 {a : Expr} {ta : TA} {p pos : Pos} (hg : Gl X "range") (hm : X.mg "range" = none) (ha : PA X [a] ta) (hs : starEach [a] X.env = [(false, eval a X.env)] := by rfl) : PI X tg (.Call (.Name "range" p) [a] [] pos) (iRng1 ta) := by
  intro pins s σ H R I h
  refine Call_ (ld_blt I hg hm boot_range (PyProof.Rows.callWith_type1 (thn (ha pos pins s σ H _ I h) fun us s1 ⟨vs, H1, I1, r1, q1⟩ => ?_) hs rfl))
  obtain ⟨j, e, q1, q2, q⟩ := q1
  subst e
  cases r1 with
  | cons r rr =>
    cases rr
    obtain ⟨t, rfl⟩ := r
    exact call_range_1 (range_it I1 (by omega) (by omega) q1 q2 (by simpa using q))

/-! ### for -/
/-- W: the invariant by the turn and a measure; N: what the body is to reach -/
noncomputable def tFor (wi : TI) (g : TG) (tb : TS) : TS := fun D σ H => wi σ H fun J H1 => ∃ W : Nat → Nat → St → Hp → Prop, (∃ m, W 0 m σ H1) ∧ ∀ i m σ H, W i m σ H →
  (J.stop i H ∧ D.nx σ H) ∨ (J.go i H ∧ ∃ N : St → Hp → Prop, (∀ σ' H', N σ' H' → ∃ m', m' < m ∧ W (i + 1) m' σ' H') ∧ ∀ x H', J.yld i H x H' → g x σ H' fun σ2 H2 => tb { D with nx := N, ct := N, bk := D.nx } σ2 H2)
/-- the records at fp as they stand -/
noncomputable def pinsAt (fp : List Addr) (h : Heap) : List (Addr × Obj) := fp.filterMap fun b => (h.get? b).map fun o => (b, o)
theorem mem_pinsAt {fp : List Addr} {h : Heap} {b : Addr} {o : Obj} (hb : b ∈ fp) (e : h.get? b = some o) : (b, o) ∈ pinsAt fp h := List.mem_filterMap.mpr ⟨b, hb, by rw [e]; rfl⟩
theorem of_pinsAt {fp : List Addr} {h : Heap} {p : Addr × Obj} (hp : p ∈ pinsAt fp h) : p.1 ∈ fp ∧ h.get? p.1 = some p.2 := by
  obtain ⟨b, hb, e⟩ := List.mem_filterMap.mp hp
  cases q : h.get? b with
  | none => rw [q] at e; cases e
  | some o =>
    rw [q] at e
    have e' : (b, o) = p := Option.some.inj e
    subst e'
    exact ⟨hb, q⟩
theorem Inv.pinned {pins : List (Addr × Obj)} {σ : St} {H : Hp} {s : Shared} {fp : List Addr} (I : Inv X pins σ H s) (hf : ∀ b ∈ fp, FpOk X pins H b) (ho : ∀ b ∈ fp, ∃ o, s.heap.get? b = some o ∧ ∀ v, o.data ≠ .cell v) : Inv X (pins ++ pinsAt fp s.heap) σ H s :=
  I.pins_of fun p hp => (List.mem_append.mp hp).elim (fun z => I.pin p (List.mem_append_right _ z)) fun z => by
    obtain ⟨hb, e⟩ := of_pinsAt z
    obtain ⟨f0, f1, f2, _⟩ := hf p.1 hb
    obtain ⟨o, e', d⟩ := ho p.1 hb
    rw [e] at e'; cases e'
    exact ⟨e, f0, f1, f2, d⟩
theorem Inv.unpinned {pins pl : List (Addr × Obj)} {σ : St} {H : Hp} {s : Shared} (I : Inv X (pins ++ pl) σ H s) : Inv X pins σ H s := I.pins_of fun p hp => I.pin p (List.mem_append_right _ (List.mem_append_left _ hp))
theorem ps_for {iter : Expr} {body : List Stmt} {wi : TI} {g : TG} {tb : TS} {pos : Pos} (hp : PassesOwn (model X.prog X.w) X.A X.env X.xe) (hc : X.calm = true) (hi : PI X tg iter wi) (hg : PG X tg g) (hb : PSs X body tb)
    (hs : ∀ x, foldedSetIterable iter X.env x = pure x := by intro _; rfl) : PS X (.For tg iter body [] pos) (tFor wi g tb) := by
  intro pins s σ H D I h
  refine wpAny_For (thn (hi pins s σ H _ I h) fun v s1 h1 => thn h1 fun itv s2 h2 => ?_) hs
  obtain ⟨it, fp, tn, J, H2, e, I2, T, st2, f2, W, ⟨m0, w0⟩, turn⟩ := h2
  subst e
  -- what stays true of the iterator's objects through the loop
  have stat : ∀ {H' : Hp}, (∀ b ∈ fp, H' b = none) → ∀ b ∈ fp, FpOk X pins H' b := fun hn b hb => ⟨hn b hb, (f2 b hb).2⟩
  refine codeAny_forLoop_any (fun n s' => ∃ i σ' H', Inv X pins σ' H' s' ∧ tn i s'.heap ∧ (∀ b ∈ fp, H' b = none) ∧ W i n σ' H') ?_ m0 ⟨0, σ, H2, I2, st2, fun b hb => (f2 b hb).1, w0⟩
  rintro n s3 ⟨i, σ3, H3, I3, st3, fr3, w3⟩
  rcases turn i n σ3 H3 w3 with ⟨stop, qn⟩ | ⟨go, N, hN, step⟩
  · refine wpAny_passesOwn hp (thn (T.done X rfl rfl rfl hc i pins s3 σ3 H3 X.xe I3 (stat fr3) st3 stop) fun r s4 ⟨hr, I4⟩ => ?_)
    subst hr
    exact wpAny_execs_nil ⟨σ3, H3, I4, qn⟩
  · refine wpAny_passesOwn hp (thn (T.item X rfl rfl rfl hc i pins s3 σ3 H3 X.xe I3 (stat fr3) st3 go) fun r s4 ⟨u, hr, h4⟩ => ?_)
    subst hr
    refine wpAny_passesOwn hp (thn h4 fun _ s5 ⟨x, H5, I5, r5, y5, st5, fr5⟩ => ?_)
    have I5' := I5.pinned (stat fr5) (T.obj _ _ st5)
    refine wpAny_passesOwn hp (thn (hg _ s5 σ3 H5 x u _ I5' r5 (step x H5 y5)) fun _ s6 ⟨σ6, H6, I6, q6⟩ => ?_)
    refine wpAny_passesOwn hp (thn (hb _ s6 σ6 H6 _ I6 q6) fun f s7 q7 => ?_)
    have again : ∀ {σ7 : St} {H7 : Hp}, Inv X (pins ++ pinsAt fp s5.heap) σ7 H7 s7 → N σ7 H7 → ∃ m, m < n ∧ ∃ i σ' H', Inv X pins σ' H' s7 ∧ tn i s7.heap ∧ (∀ b ∈ fp, H' b = none) ∧ W i m σ' H' := fun {σ7 H7} I7 n7 => by
      obtain ⟨m', hm, w7⟩ := hN σ7 H7 n7
      refine ⟨m', hm, i + 1, σ7, H7, I7.unpinned, T.keep _ _ _ st5 fun b hb o e => (I7.pin (b, o) (List.mem_append_right _ (List.mem_append_right _ (mem_pinsAt hb e)))).1, fun b hb => ?_, w7⟩
      obtain ⟨o, e, d⟩ := T.obj _ _ st5 b hb
      exact (I7.pin (b, o) (List.mem_append_right _ (List.mem_append_right _ (mem_pinsAt hb e)))).2.1
    cases f with
    | next => obtain ⟨σ7, H7, I7, n7⟩ := q7; exact again I7 n7
    | cont => obtain ⟨σ7, H7, I7, n7⟩ := q7; exact again I7 n7
    | brk => obtain ⟨σ7, H7, I7, q7⟩ := q7; exact ⟨σ7, H7, I7.unpinned, q7⟩
    | ret v => obtain ⟨x7, σ7, H7, I7, r7, q7⟩ := q7; exact ⟨x7, σ7, H7, I7.unpinned, r7, q7⟩
end

/-! ### the forms one uses -/
/-- over a list that the body leaves as it is -/
theorem for_list {K : PySem.W.Frag} {a : Addr} {xs : List V} {g : TG} {tb : TS} {D : Ends} {σ : St} {H : Hp} (Pv : Nat → St → Hp → Prop) (h0 : Pv 0 σ H) (hl : ∀ i σ H, i ≤ xs.length → Pv i σ H → SqL K H a xs)
    (hs : ∀ i x σ H, xs[i]? = some x → Pv i σ H → g x σ H fun σ2 H2 => tb { D with nx := Pv (i + 1), ct := Pv (i + 1), bk := D.nx } σ2 H2) (hd : ∀ σ H, Pv xs.length σ H → D.nx σ H) :
    ∃ W : Nat → Nat → St → Hp → Prop, (∃ m, W 0 m σ H) ∧ ∀ i m σ H, W i m σ H →
      ((Itl K a).stop i H ∧ D.nx σ H) ∨ ((Itl K a).go i H ∧ ∃ N : St → Hp → Prop, (∀ σ' H', N σ' H' → ∃ m', m' < m ∧ W (i + 1) m' σ' H') ∧ ∀ x H', (Itl K a).yld i H x H' → g x σ H' fun σ2 H2 => tb { D with nx := N, ct := N, bk := D.nx } σ2 H2) := by
  refine ⟨fun i m σ H => m = xs.length - i ∧ i ≤ xs.length ∧ Pv i σ H, ⟨xs.length, by simp, Nat.zero_le _, h0⟩, ?_⟩
  rintro i m σ H ⟨rfl, hi, p⟩
  have q := hl i σ H hi p
  by_cases hlt : i < xs.length
  · refine .inr ⟨⟨xs, xs[i], q, by simp [hlt]⟩, Pv (i + 1), fun σ' H' p' => ⟨xs.length - (i + 1), by omega, rfl, hlt, p'⟩, fun x H' y => ?_⟩
    obtain ⟨e, y⟩ := y
    subst e
    exact hs i x σ _ (y xs q) p
  · have e : i = xs.length := by omega
    subst e
    exact .inl ⟨⟨xs, q, Nat.le_refl _⟩, hd σ H p⟩
theorem for_range {lo : Int} {n : Nat} {g : TG} {tb : TS} {D : Ends} {σ : St} {H : Hp} (Pv : Nat → St → Hp → Prop) (h0 : Pv 0 σ H)
    (hs : ∀ i σ H, i < n → Pv i σ H → g (.int (lo + i)) σ H fun σ2 H2 => tb { D with nx := Pv (i + 1), ct := Pv (i + 1), bk := D.nx } σ2 H2) (hd : ∀ σ H, Pv n σ H → D.nx σ H) :
    ∃ W : Nat → Nat → St → Hp → Prop, (∃ m, W 0 m σ H) ∧ ∀ i m σ H, W i m σ H →
      ((Itr lo n).stop i H ∧ D.nx σ H) ∨ ((Itr lo n).go i H ∧ ∃ N : St → Hp → Prop, (∀ σ' H', N σ' H' → ∃ m', m' < m ∧ W (i + 1) m' σ' H') ∧ ∀ x H', (Itr lo n).yld i H x H' → g x σ H' fun σ2 H2 => tb { D with nx := N, ct := N, bk := D.nx } σ2 H2) := by
  refine ⟨fun i m σ H => m = n - i ∧ i ≤ n ∧ Pv i σ H, ⟨n, by simp, Nat.zero_le _, h0⟩, ?_⟩
  rintro i m σ H ⟨rfl, hi, p⟩
  by_cases hlt : i < n
  · refine .inr ⟨hlt, Pv (i + 1), fun σ' H' p' => ⟨n - (i + 1), by omega, rfl, hlt, p'⟩, fun x H' y => ?_⟩
    obtain ⟨e, y⟩ := y
    subst e y
    exact hs i σ _ hlt p
  · have e : i = n := by omega
    subst e
    exact .inl ⟨Nat.le_refl _, hd σ H p⟩
end L2

namespace L2
open PySem PySem.Spec PyProof.Rows

noncomputable abbrev R2 := V → V → Hp → VK → Prop
/-- a two-place operation on values: f is binaryOp op, inplaceOp op or compareOp op -/
noncomputable def OpR (X : Cx) (f : Value → Value → Sem Value) (r : R2) : Prop :=
  ∀ (pins : List (Addr × Obj)) (s : Shared) (σ : St) (H : Hp) (x y : V) (v u : Value) (Q : VK), Inv X pins σ H s → RelV x v → RelV y u → r x y H Q →
    wpAny (model X.prog X.w) X.A (f v u) (EP X pins σ Q) X.xe s
/-- a one-place operation -/
noncomputable def UnR (X : Cx) (f : Value → Sem Value) (r : V → Hp → VK → Prop) : Prop :=
  ∀ (pins : List (Addr × Obj)) (s : Shared) (σ : St) (H : Hp) (x : V) (v : Value) (Q : VK), Inv X pins σ H s → RelV x v → r x H Q →
    wpAny (model X.prog X.w) X.A (f v) (EP X pins σ Q) X.xe s
/-- a call of a value that is known (a builtin, a type) with values -/
noncomputable def CallR (X : Cx) (f : Value) (r : List V → Hp → VK → Prop) : Prop :=
  ∀ (pins : List (Addr × Obj)) (s : Shared) (σ : St) (H : Hp) (xs : List V) (us : List Value) (Q : VK), Inv X pins σ H s → Vals xs us → r xs H Q →
    wpAny (model X.prog X.w) X.A (call f us) (EP X pins σ Q) X.xe s
/-- a value's truth -/
noncomputable def TruR (X : Cx) (r : V → Hp → (Bool → Hp → Prop) → Prop) : Prop :=
  ∀ (pins : List (Addr × Obj)) (s : Shared) (σ : St) (H : Hp) (x : V) (v : Value) (Q : Bool → Hp → Prop), Inv X pins σ H s → RelV x v → r x H Q →
    wpAny (model X.prog X.w) X.A (truthy v) (TP X pins σ Q) X.xe s

noncomputable def tOp (r : R2) (ta tb : TE) : TE := fun σ H Q => ta σ H fun x H1 => tb σ H1 fun y H2 => r x y H2 Q
noncomputable def tUn (r : V → Hp → VK → Prop) (ta : TE) : TE := fun σ H Q => ta σ H fun x H1 => r x H1 Q
/-- ints in, under C, and a value out -/
noncomputable def rI (C : Int → Int → Prop) (g : Int → Int → V) : R2 := fun x y H Q => ∃ i j, x = .int i ∧ y = .int j ∧ C i j ∧ Q (g i j) H
noncomputable def rI0 (g : Int → Int → V) : R2 := fun x y H Q => ∃ i j, x = .int i ∧ y = .int j ∧ Q (g i j) H
noncomputable def rU (g : Int → V) : V → Hp → VK → Prop := fun x H Q => ∃ i, x = .int i ∧ Q (g i) H

section
variable {X : Cx} {a b c : Expr} {ta tb tc : TE} {pos : Pos}

theorem binT (ha : PE X a ta) (hb : PE X b tb) {pins : List (Addr × Obj)} {s : Shared} {σ : St} {H : Hp} {R : V → V → Hp → Prop} (I : Inv X pins σ H s)
    (h : ta σ H fun x H1 => tb σ H1 fun y H2 => R x y H2) {Q : Value → Shared → Prop} {f : Value → Value → Sem Value}
    (hf : ∀ v u s2 x y H2, Inv X pins σ H2 s2 → RelV x v → RelV y u → R x y H2 → wpAny (model X.prog X.w) X.A (f v u) Q X.xe s2) :
    wpAny (model X.prog X.w) X.A (eval a X.env) (fun v s₁ => wpAny (model X.prog X.w) X.A (eval b X.env) (fun u s₂ => wpAny (model X.prog X.w) X.A (f v u) Q X.xe s₂) X.xe s₁) X.xe s := by
  refine thn (ha pins s σ H _ I h) fun v s1 ⟨x, H1, I1, r1, q1⟩ => ?_
  refine thn (hb pins s1 σ H1 _ I1 q1) fun u s2 ⟨y, H2, I2, r2, q2⟩ => ?_
  exact hf v u s2 x y H2 I2 r1 r2 q2

theorem pe_op {op : Operator} {r : R2} (ho : OpR X (binaryOp op) r) (ha : PE X a ta) (hb : PE X b tb) : PE X (.BinOp a op b pos) (tOp r ta tb) := by
  intro pins s σ H Q I h
  exact wpAny_BinOp (binT ha hb I h fun v u s2 x y H2 I2 rx ry q => ho pins s2 σ H2 x y v u Q I2 rx ry q)
theorem pe_un {op : UnaryOp} {r : V → Hp → VK → Prop} (ho : UnR X (unaryOp op) r) (ha : PE X a ta) : PE X (.UnaryOp op a pos) (tUn r ta) := by
  intro pins s σ H Q I h
  exact UnaryOp_ (thn (ha pins s σ H _ I h) fun v s1 ⟨x, H1, I1, r1, q1⟩ => ho pins s1 σ H1 x v Q I1 r1 q1)

/-! ### ints -/
theorem opI {f : Value → Value → Sem Value} {C : Int → Int → Prop} {g : Int → Int → Int}
    (rule : ∀ (i j : Int) (t u : Tok) (s : Shared) (Q : Value → Shared → Prop) (E : Value → Shared → Prop), C i j → Q (.int (g i j) s.toks) { s with toks := s.toks + 1 } → wpAny (model X.prog X.w) X.A (f (.int i t) (.int j u)) Q E s) :
    OpR X f (rI C fun i j => .int (g i j)) := by
  intro pins s σ H x y v u Q I rx ry h
  obtain ⟨i, j, rfl, rfl, hc, q⟩ := h
  obtain ⟨t, rfl⟩ := rx
  obtain ⟨t', rfl⟩ := ry
  exact rule i j t t' s _ _ hc ⟨.int (g i j), H, I.tok _, ⟨_, rfl⟩, q⟩
theorem opI0 {f : Value → Value → Sem Value} {g : Int → Int → Int}
    (rule : ∀ (i j : Int) (t u : Tok) (s : Shared) (Q : Value → Shared → Prop) (E : Value → Shared → Prop), Q (.int (g i j) s.toks) { s with toks := s.toks + 1 } → wpAny (model X.prog X.w) X.A (f (.int i t) (.int j u)) Q E s) :
    OpR X f (rI0 fun i j => .int (g i j)) := by
  intro pins s σ H x y v u Q I rx ry h
  obtain ⟨i, j, rfl, rfl, q⟩ := h
  obtain ⟨t, rfl⟩ := rx
  obtain ⟨t', rfl⟩ := ry
  exact rule i j t t' s _ _ ⟨.int (g i j), H, I.tok _, ⟨_, rfl⟩, q⟩
theorem opB0 {f : Value → Value → Sem Value} {g : Int → Int → Bool}
    (rule : ∀ (i j : Int) (t u : Tok) (s : Shared) (Q : Value → Shared → Prop) (E : Value → Shared → Prop), Q (.bool (g i j)) s → wpAny (model X.prog X.w) X.A (f (.int i t) (.int j u)) Q E s) :
    OpR X f (rI0 fun i j => .bl (g i j)) := by
  intro pins s σ H x y v u Q I rx ry h
  obtain ⟨i, j, rfl, rfl, q⟩ := h
  obtain ⟨t, rfl⟩ := rx
  obtain ⟨t', rfl⟩ := ry
  exact rule i j t t' s _ _ ⟨.bl (g i j), H, I, rfl, q⟩

noncomputable def CDiv (i j : Int) : Prop := 0 < j ∧ j < 1073741824
noncomputable def CDivN (i j : Int) : Prop := j ≠ 0 ∧ j.natAbs < 1073741824
noncomputable def CPow (i j : Int) : Prop := 0 ≤ j ∧ j ≤ 1000000 ∧ i.natAbs < 2 ^ 64
noncomputable def CMul (i j : Int) : Prop := (-(2 ^ 64) < i ∧ i < 2 ^ 64) ∨ (-(2 ^ 64) < j ∧ j < 2 ^ 64)
theorem CMul.ok {i j : Int} (h : CMul i j) : IntMulOk i j := by
  rcases h with ⟨h1, h2⟩ | ⟨h1, h2⟩
  · exact .of_left (intBits_le_64 h1 h2)
  · exact .of_right (intBits_le_64 h1 h2)
theorem two_pow_nn (k : Nat) : (0 : Int) ≤ 2 ^ k := by
  rw [two_pow_cast]
  exact Int.natCast_nonneg _

theorem op_add : OpR X (binaryOp .Add) (rI0 fun i j => .int (i + j)) := opI0 fun _ _ _ _ _ _ _ q => add_int q
theorem op_sub : OpR X (binaryOp .Sub) (rI0 fun i j => .int (i - j)) := opI0 fun _ _ _ _ _ _ _ q => sub_int q
theorem op_mul : OpR X (binaryOp .Mult) (rI CMul fun i j => .int (i * j)) := opI fun _ _ _ _ _ _ _ hc q => mul_int q hc.ok
/-- // by a positive divisor -/
theorem op_fdiv : OpR X (binaryOp .FloorDiv) (rI CDiv fun i j => .int (i / j)) := opI fun i j _ _ _ _ _ hc q => by
  have h1 : (0 : Int) < j := hc.1
  have h2 : j < 1073741824 := hc.2
  exact floordiv_int (by omega) (by rw [Int.fdiv_eq_ediv_of_nonneg i (by omega)]; exact q) (.inl (PyProof.noPylong_small (by omega)))
/-- % by a positive divisor of any size -/
theorem op_mod : OpR X (binaryOp .Mod) (rI (fun _ j => 0 < j) fun i j => .int (i % j)) := opI fun i j _ _ _ _ _ hc q => by
  have h1 : (0 : Int) < j := hc
  exact mod_int' (by omega) (by rw [Int.fmod_eq_emod_of_nonneg i (by omega)]; exact q)
theorem op_pow : OpR X (binaryOp .Pow) (rI CPow fun i j => .int (i ^ j.toNat)) := opI fun _ _ _ _ _ _ _ hc q => pow_int_small hc.1 hc.2.1 hc.2.2 q
theorem op_shl : OpR X (binaryOp .LShift) (rI CPow fun i j => .int (i * 2 ^ j.toNat)) := opI fun _ _ _ _ _ _ _ hc q => lshift_int_small hc.1 hc.2.1 hc.2.2 q
theorem op_shr : OpR X (binaryOp .RShift) (rI (fun _ j => 0 ≤ j) fun i j => .int (i / 2 ^ j.toNat)) := opI fun i j _ _ _ _ _ hc q =>
  rshift_int hc (by rw [Int.fdiv_eq_ediv_of_nonneg i (two_pow_nn _)]; exact q)
theorem op_and : OpR X (binaryOp .BitAnd) (rI0 fun i j => .int (Builtin.bitAnd i j)) := opI0 fun _ _ _ _ _ _ _ q => and_int q
theorem op_or : OpR X (binaryOp .BitOr) (rI0 fun i j => .int (Builtin.bitOr i j)) := opI0 fun _ _ _ _ _ _ _ q => or_int q


theorem unI {f : Value → Sem Value} {g : Int → Int}
    (rule : ∀ (i : Int) (t : Tok) (s : Shared) (Q : Value → Shared → Prop) (E : Value → Shared → Prop), Q (.int (g i) s.toks) { s with toks := s.toks + 1 } → wpAny (model X.prog X.w) X.A (f (.int i t)) Q E s) :
    UnR X f (rU fun i => .int (g i)) := by
  intro pins s σ H x v Q I rx h
  obtain ⟨i, rfl, q⟩ := h
  obtain ⟨t, rfl⟩ := rx
  exact rule i t s _ _ ⟨.int (g i), H, I.tok _, ⟨_, rfl⟩, q⟩
theorem un_neg : UnR X (unaryOp .USub) (rU fun i => .int (-i)) := unI fun _ _ _ _ _ q => neg_int q

/-! ### bools among ints: n += (a < b) -/
end

/-! ### comparisons -/
/-- the scalars that == tells apart as data does -/
noncomputable def scal : V → V → Bool
  | .non, .non => true | .non, .int _ => true | .int _, .non => true | .non, .bl _ => true | .bl _, .non => true | .non, .str _ => true | .str _, .non => true
  | .int _, .int _ => true | .bl _, .bl _ => true | .str _, .str _ => true | .byt _, .byt _ => true
  | .int _, .str _ => true | .str _, .int _ => true | .bl _, .str _ => true | .str _, .bl _ => true
  | _, _ => false
noncomputable def rEq : R2 := fun x y H Q => scal x y = true ∧ Q (.bl (decide (x = y))) H
noncomputable def rNe : R2 := fun x y H Q => scal x y = true ∧ Q (.bl (!decide (x = y))) H

theorem dec_int {i j : Int} : decide (V.int i = V.int j) = (i == j) := by
  rw [Bool.eq_iff_iff]
  simp
theorem dec_bl {i j : Bool} : decide (V.bl i = V.bl j) = (i == j) := by
  rw [Bool.eq_iff_iff]
  simp
theorem dec_str {i j : Str} : decide (V.str i = V.str j) = (i == j) := by
  rw [Bool.eq_iff_iff]
  simp
theorem dec_byt {i j : Array UInt8} : decide (V.byt i = V.byt j) = (i.toList == j.toList) := by
  rw [Bool.eq_iff_iff]
  cases i
  cases j
  simp

section
variable {X : Cx} {a b c : Expr} {ta tb tc : TE} {pos : Pos}
theorem fin_bl {pins : List (Addr × Obj)} {σ : St} {H : Hp} {s : Shared} {Q : VK} {k k' : Bool} (I : Inv X pins σ H s) (q : Q (.bl k) H) (e : k = k') : EP X pins σ Q (.bool k') s := by
  subst e
  exact ⟨.bl k, H, I, rfl, q⟩
theorem op_eq : OpR X (compareOp .Eq) rEq := by
  intro pins s σ H x y v u Q I rx ry h
  obtain ⟨hs, q⟩ := h
  cases x with
  | non =>
    cases rx
    cases y with
    | non => cases ry; exact PySem.EqNone.eq_none_none (fin_bl I q (by simp))
    | bl j => cases ry; exact PySem.EqNone.eq_none_bool (fin_bl I q (by simp))
    | int j => obtain ⟨t', rfl⟩ := ry; exact PySem.EqNone.eq_none_int (fin_bl I q (by simp))
    | str j => obtain ⟨t', rfl⟩ := ry; exact PySem.EqNone.eq_none_str (fin_bl I q (by simp))
    | _ => exact absurd (show false = true from hs) Bool.false_ne_true
  | bl i =>
    cases rx
    cases y with
    | non => cases ry; exact PySem.EqNone.eq_bool_none (fin_bl I q (by simp))
    | bl j => cases ry; exact eq_bool (fin_bl I q dec_bl)
    | str j => obtain ⟨t', rfl⟩ := ry; exact PySem.EqMixed.eq_bool_str (fin_bl I q (by simp))
    | _ => exact absurd (show false = true from hs) Bool.false_ne_true
  | int i =>
    obtain ⟨t, rfl⟩ := rx
    cases y with
    | non => cases ry; exact PySem.EqNone.eq_int_none (fin_bl I q (by simp))
    | int j => obtain ⟨t', rfl⟩ := ry; exact eq_int (fin_bl I q dec_int)
    | str j => obtain ⟨t', rfl⟩ := ry; exact PySem.EqMixed.eq_int_str (fin_bl I q (by simp))
    | _ => exact absurd (show false = true from hs) Bool.false_ne_true
  | str i =>
    obtain ⟨t, rfl⟩ := rx
    cases y with
    | non => cases ry; exact PySem.EqNone.eq_str_none (fin_bl I q (by simp))
    | bl j => cases ry; exact PySem.EqMixed.eq_str_bool (fin_bl I q (by simp))
    | int j => obtain ⟨t', rfl⟩ := ry; exact PySem.EqMixed.eq_str_int (fin_bl I q (by simp))
    | str j => obtain ⟨t', rfl⟩ := ry; exact eq_str (fin_bl I q dec_str)
    | _ => exact absurd (show false = true from hs) Bool.false_ne_true
  | byt i =>
    obtain ⟨t, rfl⟩ := rx
    cases y with
    | byt j => obtain ⟨t', rfl⟩ := ry; exact PySem.W.eq_bytes (fin_bl I q dec_byt)
    | _ => exact absurd (show false = true from hs) Bool.false_ne_true
  | _ => cases y <;> exact absurd (show false = true from hs) Bool.false_ne_true
theorem op_ne : OpR X (compareOp .NotEq) rNe := by
  intro pins s σ H x y v u Q I rx ry h
  obtain ⟨hs, q⟩ := h
  cases x with
  | non =>
    cases rx
    cases y with
    | non => cases ry; exact PySem.EqNone.ne_none_none (fin_bl I q (by simp))
    | bl j => cases ry; exact PySem.EqNone.ne_none_bool (fin_bl I q (by simp))
    | int j => obtain ⟨t', rfl⟩ := ry; exact PySem.EqNone.ne_none_int (fin_bl I q (by simp))
    | str j => obtain ⟨t', rfl⟩ := ry; exact PySem.EqNone.ne_none_str (fin_bl I q (by simp))
    | _ => exact absurd (show false = true from hs) Bool.false_ne_true
  | bl i =>
    cases rx
    cases y with
    | non => cases ry; exact PySem.EqNone.ne_bool_none (fin_bl I q (by simp))
    | bl j => cases ry; exact ne_bool (fin_bl I q (congrArg not dec_bl))
    | str j => obtain ⟨t', rfl⟩ := ry; exact PySem.EqMixed.ne_bool_str (fin_bl I q (by simp))
    | _ => exact absurd (show false = true from hs) Bool.false_ne_true
  | int i =>
    obtain ⟨t, rfl⟩ := rx
    cases y with
    | non => cases ry; exact PySem.EqNone.ne_int_none (fin_bl I q (by simp))
    | int j => obtain ⟨t', rfl⟩ := ry; exact ne_int (fin_bl I q (congrArg not dec_int))
    | str j => obtain ⟨t', rfl⟩ := ry; exact PySem.EqMixed.ne_int_str (fin_bl I q (by simp))
    | _ => exact absurd (show false = true from hs) Bool.false_ne_true
  | str i =>
    obtain ⟨t, rfl⟩ := rx
    cases y with
    | non => cases ry; exact PySem.EqNone.ne_str_none (fin_bl I q (by simp))
    | bl j => cases ry; exact PySem.EqMixed.ne_str_bool (fin_bl I q (by simp))
    | int j => obtain ⟨t', rfl⟩ := ry; exact PySem.EqMixed.ne_str_int (fin_bl I q (by simp))
    | str j => obtain ⟨t', rfl⟩ := ry; exact ne_str (fin_bl I q (congrArg not dec_str))
    | _ => exact absurd (show false = true from hs) Bool.false_ne_true
  | byt i =>
    obtain ⟨t, rfl⟩ := rx
    cases y with
    | byt j => obtain ⟨t', rfl⟩ := ry; exact PySem.W.ne_bytes (fin_bl I q (congrArg not dec_byt))
    | _ => exact absurd (show false = true from hs) Bool.false_ne_true
  | _ => cases y <;> exact absurd (show false = true from hs) Bool.false_ne_true

theorem op_lt : OpR X (compareOp .Lt) (rI0 fun i j => .bl (decide (i < j))) := opB0 fun _ _ _ _ _ _ _ q => lt_int q
theorem op_le : OpR X (compareOp .LtE) (rI0 fun i j => .bl (decide (i ≤ j))) := opB0 fun _ _ _ _ _ _ _ q => le_int q
theorem op_gt : OpR X (compareOp .Gt) (rI0 fun i j => .bl (decide (j < i))) := opB0 fun _ _ _ _ _ _ _ q => gt_int q
theorem op_ge : OpR X (compareOp .GtE) (rI0 fun i j => .bl (decide (j ≤ i))) := opB0 fun _ _ _ _ _ _ _ q => ge_int q

theorem op_notN : OpR X (compareOp .IsNot) (fun x y H Q => y = .non ∧ Q (.bl (!decide (x = .non))) H) := by
  intro pins s σ H x y v u Q I rx ry h
  obtain ⟨rfl, q⟩ := h
  cases ry
  refine isnot_none_gen (fin_bl I q ?_)
  cases x <;> first
    | (cases rx; rfl)
    | (obtain ⟨t, rfl⟩ := rx; rfl)

/-- is, is not of two objects that are tracked lists or instances -/
noncomputable def isObj : HO → Bool
  | .lst _ => true
  | .ins _ _ _ => true
  | _ => false


theorem nomark (b : Expr) {op : CmpOp} (h : op ≠ .In := by decide) (h2 : op ≠ .NotIn := by decide) : behindInMarks op b = false := by
  have e1 : (op == CmpOp.In) = false := by cases op <;> first | rfl | exact absurd rfl h
  have e2 : (op == CmpOp.NotIn) = false := by cases op <;> first | rfl | exact absurd rfl h2
  cases b <;> simp [behindInMarks, e1, e2]
/-- a comparison as a value; hm: nomark b, or (for in, not in) by with_unfolding_all rfl -/
theorem pe_cmpR {op : CmpOp} {r : R2} (ho : OpR X (compareOp op) r) (ha : PE X a ta) (hb : PE X b tb) (hm : behindInMarks op b = false) : PE X (.Compare a [op] [b] pos) (tOp r ta tb) := by
  intro pins s σ H Q I h
  exact wpAny_Compare1 (binT ha hb I h fun v u s2 x y H2 I2 rx ry q => ho pins s2 σ H2 x y v u Q I2 rx ry q) hm
/-- a reading of a value as a test -/
noncomputable def tTest (t : TE) : TT := fun σ H Q => t σ H fun x H' => ∃ k, x = .bl k ∧ Q k H'
theorem pt_cmpR {op : CmpOp} {r : R2} (ho : OpR X (compareOp op) r) (ha : PE X a ta) (hb : PE X b tb) (hm : behindInMarks op b = false) : PT X (.Compare a [op] [b] pos) (tTest (tOp r ta tb)) := by
  intro pins s σ H Q I h
  refine wpAny_isTrue_Compare1 (thn (ha pins s σ H _ I h) fun v s1 ⟨x, H1, I1, r1, q1⟩ => thn (hb pins s1 σ H1 _ I1 q1) fun u s2 ⟨y, H2, I2, r2, q2⟩ =>
    thn (ho pins s2 σ H2 x y v u _ I2 r1 r2 q2) fun c s3 ⟨z, H3, I3, r3, k, e, q3⟩ => ?_) hm
  subst e
  cases r3
  exact wpAny_truthy_bool ⟨H3, I3, q3⟩
/-- a op1 b op2 c -/
noncomputable def tChain (r r' : R2) (ta tb tc : TE) : TE := fun σ H Q => ta σ H fun x H1 => tb σ H1 fun y H2 => r x y H2 fun z H3 => ∃ k, z = .bl k ∧
  (if k = true then tc σ H3 fun w' H4 => r' y w' H4 Q else Q (.bl false) H3)
theorem pe_chain {op op' : CmpOp} {r r' : R2} (ho : OpR X (compareOp op) r) (ho' : OpR X (compareOp op') r') (ha : PE X a ta) (hb : PE X b tb) (hc : PE X c tc)
    (hm : lastMarks [op, op'] [b, c] = false := by with_unfolding_all rfl) : PE X (.Compare a [op, op'] [b, c] pos) (tChain r r' ta tb tc) := by
  intro pins s σ H Q I h
  refine Compare_chain (thn (ha pins s σ H _ I h) fun v s1 ⟨x, H1, I1, r1, q1⟩ => chain_link (thn (hb pins s1 σ H1 _ I1 q1) fun u s2 ⟨y, H2, I2, r2, q2⟩ =>
    thn (ho pins s2 σ H2 x y v u _ I2 r1 r2 q2) fun d s3 ⟨z, H3, I3, r3, k, e, q3⟩ => ?_)) hm
  subst e
  cases r3
  refine wpAny_truthy_bool ?_
  cases k with
  | false => exact ite_ff ⟨.bl false, H3, I3, rfl, q3⟩
  | true => exact ite_tt (chain_last (thn (hc pins s3 σ H3 _ I3 q3) fun w' s4 ⟨z', H4, I4, r4, q4⟩ => ho' pins s4 σ H4 y z' u w' Q I4 r2 r4 q4))

/-! ### truth -/
/-- a value's truth by the abstract heap -/
noncomputable def TruV (K : PySem.W.Frag) (x : V) (H : Hp) (k : Bool) : Prop :=
  match x with
  | .non => k = false
  | .bl b => k = b
  | .int i => k = (i != 0)
  | .str y => y.length ≤ sizeLine ∧ k = ((y.length : Int) != 0)
  | .byt y => y.size ≤ sizeLine ∧ k = ((y.size : Int) != 0)
  | .ref p => (∃ xs, SqL K H p xs ∧ k = !xs.isEmpty) ∨ (∃ xs, SqT K H p xs ∧ k = !xs.isEmpty) ∨ ∃ kvs, H p = some (.dK kvs) ∧ k = !kvs.isEmpty
  | _ => False
theorem line63 : (sizeLine : Nat) < 2 ^ 63 := by rw [sizeLine_eq]; decide

/-! ### strs and bytes -/

noncomputable def PlainIxT (b : Expr) : Prop := ∀ o i, subscripted b false o i = operate [o, i] (getItem o i)

/-! ### scalar builtins, by CallR -/
theorem vals1 {x : V} {us : List Value} (r : Vals [x] us) : ∃ u, us = [u] ∧ RelV x u := by
  cases r with
  | cons r1 r2 => cases r2; exact ⟨_, rfl, r1⟩
theorem vals2 {x y : V} {us : List Value} (r : Vals [x, y] us) : ∃ u w', us = [u, w'] ∧ RelV x u ∧ RelV y w' := by
  cases r with
  | cons r1 r2 =>
    cases r2 with
    | cons r3 r4 => cases r4; exact ⟨_, _, rfl, r1, r3⟩
theorem call_max2 (hc : X.calm = true) : CallR X (.builtin "max") (fun xs H Q => ∃ i j, xs = [.int i, .int j] ∧ Q (.int (if j > i then j else i)) H) := by
  intro pins s σ H xs us Q I r h
  obtain ⟨i, j, rfl, q⟩ := h
  obtain ⟨u, w', rfl, ⟨t, rfl⟩, ⟨t', rfl⟩⟩ := vals2 r
  refine max_two_ints (I.ok.hd hc) fun h' tk k => ⟨_, H, I.kept k, ?_, q⟩
  by_cases hj : j > i
  · rw [if_pos hj, if_pos hj]; exact ⟨_, rfl⟩
  · rw [if_neg hj, if_neg hj]; exact ⟨_, rfl⟩
theorem call_min2 (hc : X.calm = true) : CallR X (.builtin "min") (fun xs H Q => ∃ i j, xs = [.int i, .int j] ∧ Q (.int (if j < i then j else i)) H) := by
  intro pins s σ H xs us Q I r h
  obtain ⟨i, j, rfl, q⟩ := h
  obtain ⟨u, w', rfl, ⟨t, rfl⟩, ⟨t', rfl⟩⟩ := vals2 r
  refine min_two_ints (I.ok.hd hc) fun h' tk k => ⟨_, H, I.kept k, ?_, q⟩
  by_cases hj : j < i
  · rw [if_pos hj, if_pos hj]; exact ⟨_, rfl⟩
  · rw [if_neg hj, if_neg hj]; exact ⟨_, rfl⟩
/-- len of a str, a bytes, a list, a tuple -/
noncomputable def LenV (K : PySem.W.Frag) (x : V) (H : Hp) (n : Nat) : Prop :=
  match x with
  | .str y => y.length ≤ sizeLine ∧ n = y.length
  | .byt y => y.size ≤ sizeLine ∧ n = y.size
  | .ref p => (∃ xs, SqL K H p xs ∧ n = xs.length) ∨ ∃ xs, SqT K H p xs ∧ n = xs.length
  | _ => False
end
end L2

namespace L2
open PySem PySem.Spec PyProof.Rows

/-! ### an instance, its attributes a map -/
structure ObjM (h : Heap) (x dx C : Addr) (mA : Str → Option Value) : Prop where
  obj : h.get? x = some (PySem.W.instObj C dx)
  ns : h.Ns1 dx mA
  ne : dx ≠ x

theorem lookIn_ns {h : Heap} {dx : Addr} {mA : Str → Option Value} (n : h.Ns1 dx mA) : ∃ od, h.get? dx = some od ∧ ∀ name, PySem.W.lookIn name od = some (mA name) := by
  obtain ⟨o, es, ep, ho, hd, hk, _, hm⟩ := n
  refine ⟨o, ho, fun name => ?_⟩
  have e := hm name
  unfold nsFind findBy at e
  rw [← Array.find?_toList] at e
  unfold PySem.W.lookIn
  rw [hd]
  dsimp only
  split
  · rename_i y q
    rw [q] at e
    exact congrArg some e
  · rename_i q
    rw [q] at e
    have a : es.toList.any (·.refKey) = false := by
      rw [List.any_eq_false]
      intro y hy
      obtain ⟨z, t, hkey⟩ := hk y (Array.mem_toList_iff.mp hy)
      simp [DictEntry.refKey, hkey]
    have a' : ¬ es.toList.any (·.refKey) = true := by rw [a]; exact Bool.false_ne_true
    rw [if_neg a']
    exact congrArg some e

theorem ObjM.look {h : Heap} {x dx C : Addr} {mA : Str → Option Value} (I : ObjM h x dx C mA) : ∃ od, PySem.W.InstAt h x (PySem.W.instObj C dx) C (some od) ∧ ∀ name, PySem.W.lookIn name od = some (mA name) :=
  let ⟨od, ho, hl⟩ := lookIn_ns I.ns
  ⟨od, ⟨I.obj, rfl, rfl, ho⟩, hl⟩

section
variable {prog : Program} {w : World} {A : Around} {E : Value → Shared → Prop} {s : Shared} {K : PySem.W.Frag} {x dx C f : Addr} {mA : Str → Option Value} {name : Str} {v : Value}

theorem get_map {expr : Bool} {Q : Value → Shared → Prop} (X : K.In s.heap) (I : ObjM s.heap x dx C mA) (hg : PySem.W.plainGet K C name = true) (hh : PySem.W.hasDictIn K C = true)
    (ha : PySem.W.findIn K (.ref C) name = some none) (hv : mA name = some v) (hv' : PySem.W.handedIn v = true) (h : Q v { s with toks := s.toks + 1 }) :
    wpAny (model prog w) A (getAttr (.ref x) name expr) Q E s := by
  obtain ⟨od, J, hl⟩ := I.look
  exact PySem.W.get_value X J (PySem.W.plainGet_of hg).1 (PySem.W.findObj_own hh ha rfl (by rw [hl, hv])) hv' h


theorem get_meth {pl : Sem Bool} {Q : Value × List Value → Shared → Prop} (X : K.In s.heap) (I : ObjM s.heap x dx C mA) (hg : PySem.W.plainGet K C name = true)
    (hf : PySem.W.findIn K (.ref C) name = some (some (.ref f))) (ht : PySem.W.isFn K (.ref f) = true) (hv : mA name = none) (h : Q (.ref f, [.ref x]) s) :
    wpAny (model prog w) A (getMethod (.ref x) name pl) Q E s := by
  obtain ⟨od, J, hl⟩ := I.look
  exact PySem.W.method_fn X J (PySem.W.plainGet_of hg).1 (PySem.W.plainGet_of hg).2 hf (beq_iff_eq.mp ht) (by show (PySem.W.lookIn name od).map (·.isSome) = some false; rw [hl, hv]; rfl) h

theorem set_map {ns : List Str} {Q : Unit → Shared → Prop} (X : K.In s.heap) (I : ObjM s.heap x dx C mA)
    (hs : PySem.W.findIn K (.ref C) "__setattr__" = some (some (.builtin "object.__setattr__"))) (hp : PySem.W.plainOver K C = true) (ht : PySem.W.takerIn K C name = some none) (hh : PySem.W.hasDictIn K C = true)
    (hw : PySem.Within mA ns) (hsz : ns.length ≤ sizeLine)
    (h : ∀ h', ObjM h' x dx C (fun y => if y = name then some v else mA y) → Heap.SameBut dx s.heap h' → Q () { s with heap := h', toks := s.toks + 2 }) :
    wpAny (model prog w) A (setAttr (.ref x) name v) Q E s := by
  obtain ⟨od, J, hl⟩ := I.look
  refine PySem.W.set_plain X J hs (PySem.W.osa_open (s := { s with toks := s.toks + 1 }) (r := none) X J hp ht fun b => ?_)
  obtain ⟨cd, hc, hd'⟩ := PySem.W.any_some hh
  have hx : s.heap.get? x = some ⟨.ref C, some dx, .plain, #[]⟩ := I.obj
  refine wpAny_bind (wpAny_pure (wpAny_bind (wpAny_bind (wpAny_loadPart hx (wpAny_bind (PySem.W.Looks.here (s := { s with toks := s.toks + 1 }) (PySem.W.looks_clsIn X hc) ?_))))))
  rw [hd']
  refine wpAny_pure (a := some dx) (wpAny_bind (wpAny_pure (wpAny_bind ?_)))
  refine wpAny_nsSet1 (s := { s with toks := s.toks + 1 }) I.ns fun h' hn2 hs2 => ?_
  obtain ⟨oD, esD, epD, hoD, hdD, hcD⟩ := hn2.count (PySem.Within.cons name v hw)
  refine wpAny_bind (wpAny_lookBehind hoD (by rw [hdD]; exact pastItsLine_dict (Nat.le_trans hcD (by rw [List.length_cons]; omega))) ?_)
  exact wpAny_pure (h _ ⟨(hs2.2 _ (Ne.symm I.ne)).trans I.obj, hn2, I.ne⟩ hs2)

/-- C(..): the dict at the heap's end, the instance behind it; then its __init__ -/
theorem make_map {R : Result → Shared → Prop} {vs : List Value} {kw : List (Str × Value)} (X : K.In s.heap) (hm : PySem.W.makesIn K C = true)
    (hi : PySem.W.findIn K (.ref C) "__init__" = some (some (.ref f))) (hf : PySem.W.typeIn K (.ref f) = some (.type "function"))
    (h : codeAny (model prog w) (A.under (.builtin "type.__call__" ⟨.ref C :: vs, kw⟩)) (.call (.ref f) ⟨.ref (s.heap.objs.size + 1) :: vs, kw⟩) (PySem.W.InitBack (s.heap.objs.size + 1) R)
      { s with heap := (s.heap.push PySem.W.emptyDict).push (PySem.W.instObj C s.heap.objs.size) }) :
    codeAny (model prog w) A (.call (.ref C) ⟨vs, kw⟩) R s := by
  obtain ⟨hh, g, d, t, os⟩ := s
  exact PySem.W.make_core (PySem.W.makes_of X hm) (PySem.W.looks_findIn X hi) (fun self => PySem.W.bind_fn X self hf) (.inl rfl) h
end

/-! ### the attributes as a list of pairs -/
noncomputable def putF (f : Str) (v : V) : List (Str × V) → List (Str × V)
  | [] => [(f, v)]
  | (g, x) :: r => if g = f then (g, v) :: r else (g, x) :: putF f v r
theorem lookup_putF (f g : Str) (v : V) : ∀ fs : List (Str × V), (putF f v fs).lookup g = if g = f then some v else fs.lookup g
  | [] => by
    show List.lookup g [(f, v)] = _
    by_cases h : g = f
    · have hb : (g == f) = true := beq_iff_eq.mpr h
      simp only [List.lookup, hb, if_pos h]
    · have hb : (g == f) = false := beq_eq_false_iff_ne.mpr h
      simp only [List.lookup, hb, if_neg h]
  | (k, x) :: r => by
    have ih := lookup_putF f g v r
    rw [show putF f v ((k, x) :: r) = (if k = f then (k, v) :: r else (k, x) :: putF f v r) from rfl]
    by_cases hk : k = f
    · rw [if_pos hk]
      by_cases h : g = k
      · have hb : (g == k) = true := beq_iff_eq.mpr h
        simp only [List.lookup, hb, if_pos (h.trans hk)]
      · have hb : (g == k) = false := beq_eq_false_iff_ne.mpr h
        simp only [List.lookup, hb, if_neg (fun e : g = f => h (e.trans hk.symm))]
    · rw [if_neg hk]
      by_cases h : g = k
      · have hb : (g == k) = true := beq_iff_eq.mpr h
        simp only [List.lookup, hb, if_neg (fun e : g = f => hk (h.symm.trans e))]
      · have hb : (g == k) = false := beq_eq_false_iff_ne.mpr h
        simp only [List.lookup, hb]
        exact ih
theorem keys_putF (f : Str) (v : V) : ∀ fs : List (Str × V), f ∈ (putF f v fs).map (·.1) ∧ ∀ g, g ∈ fs.map (·.1) → g ∈ (putF f v fs).map (·.1)
  | [] => ⟨by simp [putF], fun g h => by simp at h⟩
  | (k, x) :: r => by
    obtain ⟨i1, i2⟩ := keys_putF f v r
    rw [show putF f v ((k, x) :: r) = (if k = f then (k, v) :: r else (k, x) :: putF f v r) from rfl]
    by_cases hk : k = f
    · rw [if_pos hk]
      subst hk
      exact ⟨by simp, fun g h => by simpa using h⟩
    · rw [if_neg hk]
      refine ⟨?_, fun g h => ?_⟩
      · rw [List.map_cons]
        exact List.mem_cons_of_mem _ i1
      · rw [List.map_cons] at h ⊢
        rcases List.mem_cons.mp h with e | e
        · exact List.mem_cons.mpr (.inl e)
        · exact List.mem_cons_of_mem _ (i2 g e)
theorem length_putF (f : Str) (v : V) : ∀ fs : List (Str × V), (putF f v fs).length ≤ fs.length + 1
  | [] => by simp [putF]
  | (k, x) :: r => by
    have ih := length_putF f v r
    rw [show putF f v ((k, x) :: r) = (if k = f then (k, v) :: r else (k, x) :: putF f v r) from rfl]
    by_cases hk : k = f
    · rw [if_pos hk, List.length_cons, List.length_cons]; omega
    · rw [if_neg hk, List.length_cons, List.length_cons]; omega

theorem RelO.some_of {v : V} {o : Option Value} (r : RelO (some v) o) : ∃ u, o = some u ∧ RelV v u := by
  cases o with
  | none => exact (show False from r).elim
  | some u => exact ⟨u, rfl, r⟩
theorem RelO.none_of {o : Option Value} (r : RelO none o) : o = none := by
  cases o with
  | none => rfl
  | some u => exact (show False from r).elim
theorem handed_of {v : V} {u : Value} (r : RelV v u) : PySem.W.handedIn u = true := by
  cases v with
  | non => cases (show u = Value.none from r); rfl
  | bl b => cases (show u = Value.bool b from r); rfl
  | int i => obtain ⟨t, e⟩ := (show ∃ t, u = Value.int i t from r); cases e; rfl
  | str x => obtain ⟨t, e⟩ := (show ∃ t, u = Value.str x t from r); cases e; rfl
  | byt b => obtain ⟨t, e⟩ := (show ∃ t, u = Value.bytes b t from r); cases e; rfl
  | flt b => obtain ⟨t, e⟩ := (show ∃ t, u = Value.float b t from r); cases e; rfl
  | ref a => cases (show u = Value.ref a from r); rfl
  | ty n => cases (show u = Value.type n from r); rfl

section
variable {P : Program} {w : World} {H H' : Hp} {h h' : Heap} {a C dx : Addr} {fs fs' : List (Str × V)}
theorem ins_get (hok : HOk P w H h) (e : H a = some (.ins C dx fs)) : ∃ mA, ObjM h a dx C mA ∧ (∀ f, RelO (fs.lookup f) (mA f)) ∧ PySem.Within mA (fs.map (·.1)) ∧ fs.length ≤ 1000 ∧ H dx = some (.own a) := by
  obtain ⟨d, z, ne, ob, mA, n, r, q⟩ := (show ObjOk P w H h a (.ins C dx fs) from hok a _ e)
  exact ⟨mA, ⟨ob, n, ne⟩, r, q, z, d⟩
end

/-! ### what of the text a class must have -/
structure Cls (K : PySem.W.Frag) (C : Addr) : Prop where
  pg : PySem.W.plainGet K C Str.empty = true
  hd : PySem.W.hasDictIn K C = true
  po : PySem.W.plainOver K C = true
  sa : PySem.W.findIn K (.ref C) "__setattr__" = some (some (.builtin "object.__setattr__"))
theorem Cls.get {K : PySem.W.Frag} {C : Addr} (c : Cls K C) (f : Str) : PySem.W.plainGet K C f = true := c.pg
/-- no class of it has the name -/
noncomputable def NoAttr (K : PySem.W.Frag) (C : Addr) (f : Str) : Prop := PySem.W.findIn K (.ref C) f = some none
theorem NoAttr.taker {K : PySem.W.Frag} {C : Addr} {f : Str} (n : NoAttr K C f) : PySem.W.takerIn K C f = some none := by
  unfold PySem.W.takerIn
  rw [show PySem.W.findIn K (.ref C) f = some none from n]
  rfl
/-- a constant of the class -/
structure Con (K : PySem.W.Frag) (C : Addr) (f : Str) (v : V) (u : Value) : Prop where
  at_ : PySem.W.findIn K (.ref C) f = some (some u)
  rel : RelV v u
  get : PySem.W.specialIn K u "__get__" = some none
  cp : PySem.W.copiedNames.contains f = false
/-- a method: a plain def of the class or of one above it -/
structure Meth (K : PySem.W.Frag) (C : Addr) (m : Str) (f : Addr) : Prop where
  at_ : PySem.W.findIn K (.ref C) m = some (some (.ref f))
  fn : PySem.W.isFn K (.ref f) = true
  kp : PySem.W.keepIn K (.ref f) = true

section
variable {X : Cx} {pins : List (Addr × Obj)} {σ : St} {H : Hp} {s : Shared} {a C dx : Addr} {fs : List (Str × V)} {f : Str} {v : V} {A : Around} {E : Value → Shared → Prop}

theorem getattr_ok {b : Bool} {Q : Value → Shared → Prop} (I : Inv X pins σ H s) (e : H a = some (.ins C dx fs)) (c : Cls X.K C) (n : NoAttr X.K C f) (l : fs.lookup f = some v)
    (h : ∀ u s', Inv X pins σ H s' → RelV v u → Q u s') : wpAny (model X.prog X.w) A (getAttr (.ref a) f b) Q E s := by
  obtain ⟨mA, O, r, _, _, _⟩ := ins_get I.hok e
  obtain ⟨u, hu, ru⟩ := RelO.some_of (v := v) (o := mA f) (by rw [← l]; exact r f)
  exact get_map I.kIn O (c.get f) c.hd n hu (handed_of ru) (h u _ (I.tok _) ru)


theorem getmeth_ok {m : Str} {g : Addr} {pl : Sem Bool} {Q : Value × List Value → Shared → Prop} (I : Inv X pins σ H s) (e : H a = some (.ins C dx fs)) (c : Cls X.K C) (k : Meth X.K C m g) (l : fs.lookup m = none)
    (h : Q (.ref g, [.ref a]) s) : wpAny (model X.prog X.w) A (getMethod (.ref a) m pl) Q E s := by
  obtain ⟨mA, O, r, _, _, _⟩ := ins_get I.hok e
  have hn : mA m = none := RelO.none_of (by rw [← l]; exact r m)
  exact get_meth I.kIn O (c.get m) k.at_ k.fn hn h

theorem setattr_ok {y : V} {u : Value} {Q : Unit → Shared → Prop} (I : Inv X pins σ H s) (e : H a = some (.ins C dx fs)) (c : Cls X.K C) (n : NoAttr X.K C f) (hl : fs.length < 1000) (ry : RelV y u)
    (h : ∀ s', Inv X pins σ (upd H a (.ins C dx (putF f y fs))) s' → Q () s') : wpAny (model X.prog X.w) A (setAttr (.ref a) f u) Q E s := by
  obtain ⟨mA, O, r, wi, _, ho⟩ := ins_get I.hok e
  have hz : (fs.map (·.1)).length ≤ sizeLine := by rw [List.length_map, sizeLine_eq]; omega
  refine set_map I.kIn O c.sa c.po n.taker c.hd wi hz fun h' O' sb => h _ ?_
  have hd : ∃ o, h'.get? dx = some o := let ⟨o, _, _, e', _⟩ := O'.ns; ⟨o, e'⟩
  refine I.write (x := a) (e := dx) (by rw [e]; exact True.intro) (.inr ho) (fun b q hb z => (sb.2 b hb).trans z) hd ?_
  refine ⟨by rw [upd_ne O.ne]; exact ho, ?_, O.ne, O'.obj, _, O'.ns, fun g => ?_, fun g hg => ?_⟩
  · have := length_putF f y fs; omega
  · show RelO ((putF f y fs).lookup g) (if g = f then some u else mA g)
    rw [lookup_putF]
    by_cases q : g = f
    · rw [if_pos q, if_pos q]; exact ry
    · rw [if_neg q, if_neg q]; exact r g
  · by_cases q : g = f
    · rw [q]; exact (keys_putF f y fs).1
    · refine (keys_putF f y fs).2 g (wi g fun z => hg ?_)
      show (if g = f then some u else mA g) = none
      rw [if_neg q]; exact z

/-- a new instance, tracked, without attributes -/
theorem Inv.made (I : Inv X pins σ H s) : Inv X pins σ (upd (upd H s.heap.objs.size (.own (s.heap.objs.size + 1))) (s.heap.objs.size + 1) (.ins C s.heap.objs.size []))
    { s with heap := (s.heap.push PySem.W.emptyDict).push (PySem.W.instObj C s.heap.objs.size) } := by
  have e1 : (s.heap.push PySem.W.emptyDict).get? s.heap.objs.size = some PySem.W.emptyDict := Heap.get?_push_size s.heap rfl
  have e2 : ((s.heap.push PySem.W.emptyDict).push (PySem.W.instObj C s.heap.objs.size)).get? (s.heap.objs.size + 1) = some (PySem.W.instObj C s.heap.objs.size) := by
    have := Heap.get?_push_size (s.heap.push PySem.W.emptyDict) (o := PySem.W.instObj C s.heap.objs.size) rfl
    rwa [Heap.size_push] at this
  have e3 : (s.heap.push PySem.W.emptyDict).Ns s.heap.objs.size (fun _ => none) := ⟨PySem.W.emptyDict, #[], _, e1, rfl, (fun e he => absurd he (by simp)), fun _ => rfl⟩
  have I1 := I.laid (a := s.heap.objs.size) (o := .own (s.heap.objs.size + 1)) (h' := s.heap.push PySem.W.emptyDict) (t' := s.toks) (fun b u q => Heap.get?_push_of_some _ q) (Nat.le_refl _) ⟨_, e1⟩
  refine I1.laid (a := s.heap.objs.size + 1) (o := .ins C s.heap.objs.size []) (t' := s.toks) (fun b u q => Heap.get?_push_of_some _ q) (Nat.le_of_eq (Heap.size_push _ _)) ?_
  have ne : s.heap.objs.size ≠ s.heap.objs.size + 1 := Nat.ne_of_lt (Nat.lt_succ_self _)
  refine ⟨by rw [upd_ne ne, upd_same], Nat.zero_le _, ne, e2, fun _ => none, (Heap.Ns1.of_empty e3).at fun o q => Heap.get?_push_of_some _ q, fun _ => True.intro, fun y hy => absurd rfl hy⟩

/-- e.f where nothing but the object is asked: through attributeBase (super) and the last hold -/
theorem attr_of {prog : Program} {w : World} {env : Env} {e : Expr} {f : Str} {pos : Pos} {s : Shared} {Q : Value → Shared → Prop} (hb : attributeBase e f env (eval e env) = eval e env)
    (h : wpAny (model prog w) A (eval e env) (fun o s₁ => wpAny (model prog w) A (getAttr o f true) Q E s₁) E s) : wpAny (model prog w) A (eval (.Attribute e f pos) env) Q E s :=
  Attribute_any_ h (by rw [arm_eval_Attribute, hb])
end

/-! ### readings and rules -/
/-- e.f, an attribute of the instance -/
noncomputable def tFld (K : PySem.W.Frag) (ta : TE) (f : Str) : TE := fun σ H Q => ta σ H fun x H1 => ∃ a C dx fs v, x = .ref a ∧ H1 a = some (.ins C dx fs) ∧ Cls K C ∧ NoAttr K C f ∧ fs.lookup f = some v ∧ Q v H1
/-- e.f, a constant of the class -/
noncomputable def tCon (K : PySem.W.Frag) (ta : TE) (f : Str) : TE := fun σ H Q => ta σ H fun x H1 => ∃ a C dx fs v u, x = .ref a ∧ H1 a = some (.ins C dx fs) ∧ Cls K C ∧ Con K C f v u ∧ fs.lookup f = none ∧ Q v H1
/-- e.f = value -/
noncomputable def sFld (K : PySem.W.Frag) (ta tv : TE) (f : Str) : TS := fun D σ H => tv σ H fun y H1 => ta σ H1 fun x H2 => ∃ a C dx fs, x = .ref a ∧ H2 a = some (.ins C dx fs) ∧ Cls K C ∧ NoAttr K C f ∧ fs.length < 1000 ∧
  D.nx σ (upd H2 a (.ins C dx (putF f y fs)))
/-- an augmented operator on two values -/
noncomputable def InOp (X : Cx) (op : Operator) (rd : V → V → Hp → VK → Prop) : Prop :=
  ∀ (pins : List (Addr × Obj)) (s : Shared) (σ : St) (H : Hp) (x y : V) (u v : Value) (Q : VK), Inv X pins σ H s → RelV x u → RelV y v → rd x y H Q → wpAny (model X.prog X.w) X.A (inplaceOp op u v) (EP X pins σ Q) X.xe s
/-- e.f op= value -/
noncomputable def sFldAug (K : PySem.W.Frag) (ta tv : TE) (rd : V → V → Hp → VK → Prop) (f : Str) : TS := fun D σ H => ta σ H fun x H1 => ∃ a C dx fs v, x = .ref a ∧ H1 a = some (.ins C dx fs) ∧ Cls K C ∧ NoAttr K C f ∧ fs.lookup f = some v ∧
  tv σ H1 fun y H2 => rd v y H2 fun z H3 => ∃ dx' fs', H3 a = some (.ins C dx' fs') ∧ fs'.length < 1000 ∧ D.nx σ (upd H3 a (.ins C dx' (putF f z fs')))

section
variable {X : Cx} {o e value : Expr} {f : Str} {pos pos' tpos : Pos} {ta tv : TE}
theorem pe_fld (he : PE X e ta) (hb : attributeBase e f X.env (eval e X.env) = eval e X.env) : PE X (.Attribute e f pos) (tFld X.K ta f) := by
  intro pins s σ H Q I h
  refine attr_of hb (thn (he pins s σ H _ I h) fun u s1 ⟨x, H1, I1, rx, a, C, dx, fs, v, ex, ea, c, n, l, q⟩ => ?_)
  subst ex
  obtain rfl : u = Value.ref a := rx
  exact getattr_ok I1 ea c n l fun u' s2 I2 ru => ⟨v, H1, I2, ru, q⟩
theorem ps_fld (ha : PE X o ta) (hv : PE X value tv) (hs : swapsWith value (some (.Attribute o f pos')) pos.line X.env = pure false) : PS X (.Assign [.Attribute o f pos'] value pos) (sFld X.K ta tv f) := by
  intro pins s σ H D I h
  refine plainObj_wpAny_Assign_Attribute (thn (hv pins s σ H _ I h) fun u s1 ⟨y, H1, I1, ry, q⟩ => thn (ha pins s1 σ H1 _ I1 q) fun ov s2 ⟨x, H2, I2, rx, a, C, dx, fs, ex, ea, c, n, l, q2⟩ => ?_) hs
  subst ex
  obtain rfl : ov = Value.ref a := rx
  exact setattr_ok I2 ea c n l ry fun s3 I3 => ⟨σ, _, I3, q2⟩
noncomputable def rAdd : V → V → Hp → VK → Prop := fun x y H Q => ∃ i j, x = .int i ∧ y = .int j ∧ Q (.int (i + j)) H
noncomputable def rSub : V → V → Hp → VK → Prop := fun x y H Q => ∃ i j, x = .int i ∧ y = .int j ∧ Q (.int (i - j)) H

/-- what is between an instance and its method: the tree of a method call -/
theorem methcall_of {pl : Sem Bool} {m : Str} {apos : Pos} {args : List Expr} {pins : List (Addr × Obj)} {s : Shared} {σ : St} {H : Hp} {Q : Value → Shared → Prop} {te : TE} (he : PE X e te) (I : Inv X pins σ H s)
    (h : te σ H fun x H1 => ∃ a C dx fs g, x = .ref a ∧ H1 a = some (.ins C dx fs) ∧ Cls X.K C ∧ Meth X.K C m g ∧ fs.lookup m = none ∧
      ∀ s1, Inv X pins σ H1 s1 → wpAny (model X.prog X.w) X.A (callWith pos (.ref g) [.ref a] (backTo pos (starEach args X.env)) (backToKw pos (keywordEach [] X.env))) Q X.xe s1)
    (ht : eval (.Call (.Attribute e m apos) args [] pos) X.env = (do
      let ov ← eval e X.env
      standAt apos.atName
      let (f, first) ← holding [ov] (getMethod ov m pl)
      callWith pos f first (backTo pos (starEach args X.env)) (backToKw pos (keywordEach [] X.env)))) :
    wpAny (model X.prog X.w) X.A (eval (.Call (.Attribute e m apos) args [] pos) X.env) Q X.xe s := by
  refine PySem.W.methodCall_KW (pl := pl) (thn (he pins s σ H _ I h) fun u s1 ⟨x, H1, I1, rx, a, C, dx, fs, g, ex, ea, c, k, l, q⟩ => ?_) ht
  subst ex
  obtain rfl : u = Value.ref a := rx
  exact getmeth_ok I1 ea c k l (q s1 I1)
end

/-! ### isinstance -/
section
variable {X : Cx} {pins : List (Addr × Obj)} {σ : St} {H : Hp} {s : Shared} {A : Around} {E : Value → Shared → Prop} {Q : Value → Shared → Prop} {c : Value} {b : Bool}
/-- the type of a value, as the fragment's deciders take it; for an instance its class -/
inductive TyOf (K : PySem.W.Frag) (H : Hp) : V → Value → Prop where
  | non : TyOf K H .non (.type "NoneType")
  | bl (x : Bool) : TyOf K H (.bl x) (.type "bool")
  | int (i : Int) : TyOf K H (.int i) (.type "int")
  | str (x : Str) : TyOf K H (.str x) (.type "str")
  | flt (x : UInt64) : TyOf K H (.flt x) (.type "float")
  | lst {a : Addr} {xs : List V} (e : H a = some (.lst xs)) : TyOf K H (.ref a) (.type "list")
  | frz {a : Addr} {o : Obj} {xs : List V} (e : H a = some (.frz o (.lst xs))) : TyOf K H (.ref a) (.type "list")
  | tup {a : Addr} {xs : List V} (e : H a = some (.tup xs)) : TyOf K H (.ref a) (.type "tuple")
  | dK {a : Addr} {kvs : List (Key × V)} (e : H a = some (.dK kvs)) : TyOf K H (.ref a) (.type "dict")
  | dT {a : Addr} {kvs : List (List Key × V)} (e : H a = some (.dT kvs)) : TyOf K H (.ref a) (.type "dict")
  | ins {a C dx : Addr} {fs : List (Str × V)} (e : H a = some (.ins C dx fs)) (cl : Cls K C) (ha : PySem.W.findIn K (.ref C) "__class__" = some (some (.builtin "object.__class__")))
      (hn : PySem.W.specialIn K (.builtin "object.__class__") "__get__" = some (some (.builtin "getset_descriptor.__get__"))) (htk : PySem.W.takesIn K (.builtin "object.__class__") = some true)
      (hm : PySem.W.mroIn K C (.type "object") = some true) : TyOf K H (.ref a) (.ref C)
end
end L2

namespace L2
open PySem PySem.Spec PyProof.Rows

/-! ### room -/
structure Room (k : Nat) (A : Around) : Prop where
  hd : A.handled = none
  dp : A.depth + 3 * k + 5 < recursionLimit
  un : A.units + 16 * k + 200 < cLine
theorem Room.mono {j k : Nat} {A : Around} (r : Room k A) (h : j ≤ k) : Room j A := ⟨r.hd, by have := r.dp; omega, by have := r.un; omega⟩
theorem Room.deeper {k : Nat} {A : Around} (r : Room (k + 1) A) (env : Env) : Room k (A.deeper env) :=
  ⟨r.hd, by have := r.dp; show A.depth + 1 + 3 * k + 5 < _; omega, by have := r.un; show A.units + 3 + 16 * k + 200 < _; omega⟩
theorem make_depth {A : Around} {C : Addr} {us : List Value} {kw : List (Str × Value)} : (A.under (.builtin "type.__call__" ⟨.ref C :: us, kw⟩)).depth = A.depth + 1 := by
  first | rfl | simp [Around.under, Code.weight, Code.isCreation, Code.isGuard, Code.isCaller, Code.frames, Code.isFrame, guardIds]
theorem make_units {A : Around} {C : Addr} {us : List Value} {kw : List (Str × Value)} : (A.under (.builtin "type.__call__" ⟨.ref C :: us, kw⟩)).units = A.units + 1 := by
  first | rfl | simp [Around.under, Code.cUnits, Code.frames, Code.isFrame]
theorem Room.make {k : Nat} {A : Around} (r : Room (k + 1) A) (C : Addr) (us : List Value) (kw : List (Str × Value)) : Room k (A.under (.builtin "type.__call__" ⟨.ref C :: us, kw⟩)) :=
  ⟨r.hd, by have := r.dp; rw [make_depth]; omega, by have := r.un; rw [make_units]; omega⟩
theorem Room.depth {k : Nat} {A : Around} (r : Room k A) : A.depth < recursionLimit := by have := r.dp; omega
theorem Room.units {k : Nat} {A : Around} (r : Room k A) : A.units + 64 < cLine := by have := r.un; omega

/-! ### argument lists and displays -/
noncomputable def tNil : TA := fun _ H Q => Q [] H
noncomputable def tCons (ta : TE) (tr : TA) : TA := fun σ H Q => ta σ H fun x H1 => tr σ H1 fun xs H2 => Q (x :: xs) H2
section
variable {X : Cx} {e : Expr} {es : List Expr} {te : TE} {t : TA} {pos : Pos}
theorem pa_nil : PA X [] tNil := fun _ _ _ _ H Q I h => Calls.spliced_nil ⟨[], H, I, .nil, h⟩
theorem pa_cons (ha : PE X e te) (hr : PA X es t) (hs : starEach (e :: es) X.env = (false, eval e X.env) :: starEach es X.env := by rfl) : PA X (e :: es) (tCons te t) := by
  intro pos pins s σ H Q I h
  rw [hs]
  show wpAny _ _ (spliced ((false, eval e X.env) :: backTo pos (starEach es X.env))) _ _ s
  refine Calls.spliced_cons (thn (ha pins s σ H _ I h) fun u s1 ⟨x, H1, I1, r1, q1⟩ => ?_)
  exact thn (hr pos pins s1 σ H1 _ I1 q1) fun us s2 ⟨xs, H2, I2, r2, q2⟩ => ⟨x :: xs, H2, I2, .cons r1 r2, q2⟩

/-- a tuple, a list of written items -/
noncomputable def tTup (t : TA) : TE := fun σ H Q => t σ H fun xs H1 => xs.length ≤ sizeLine ∧ ∀ p, H1 p = none → Q (.ref p) (upd H1 p (.tup xs))
noncomputable def tLst (t : TA) : TE := fun σ H Q => t σ H fun xs H1 => xs.length ≤ sizeLine ∧ ∀ p, H1 p = none → Q (.ref p) (upd H1 p (.lst xs))
theorem pe_tup {x1} (h : PA X es t) : PE X (.Tuple es x1 pos) (tTup t) := by
  intro pins s σ H Q I hq
  refine wpAny_Tuple_spliced (thn (h pos pins s σ H _ I hq) fun us s1 ⟨xs, H1, I1, r, z, q⟩ => ⟨by rw [← r.length]; exact z, ?_⟩)
  have hf : H1 s1.heap.objs.size = none := I1.hok.fresh (Nat.le_refl _)
  refine ⟨.ref s1.heap.objs.size, upd H1 s1.heap.objs.size (.tup xs), I1.laid (t' := s1.toks) (fun b u e => Heap.get?_push_of_some _ e) (Nat.le_refl _) ?_, rfl, q _ hf⟩
  exact ⟨z, us, r, ⟨_, Heap.get?_push_size _ rfl, rfl, _, rfl⟩⟩
theorem pe_lst (h : PA X es t) : PE X (.List es pos) (tLst t) := by
  intro pins s σ H Q I hq
  refine wpAny_List_spliced (thn (h pos pins s σ H _ I hq) fun us s1 ⟨xs, H1, I1, r, z, q⟩ => ⟨by rw [← r.length]; exact z, ?_⟩)
  have hf : H1 s1.heap.objs.size = none := I1.hok.fresh (Nat.le_refl _)
  refine ⟨.ref s1.heap.objs.size, upd H1 s1.heap.objs.size (.lst xs), I1.laid (t' := s1.toks) (fun b u e => Heap.get?_push_of_some _ e) (Nat.le_refl _) ?_, rfl, q _ hf⟩
  exact ⟨z, us, 0, r, Heap.get?_push_size _ rfl⟩
end

/-! ### what a def promises -/
/-- a def's promise: the bound arguments in the parameters' order, the heap, the wanted end, the wanted exception -/
noncomputable abbrev Sp := List V → Hp → VK → XK → Prop
/-- how an exception lies behind a call (file 08 gives it): the callers' frames, abstract heap and state ahead of the call, the wish, the exception, the state -/
noncomputable abbrev CXT := List Env → Hp → Shared → XK → Value → Shared → Prop

/-- the state at a call -/
structure Env0 (P : Program) (w : World) (K : PySem.W.Frag) (mg : Str → Option Value) (base : Heap) (A : Around) (outer : List Env) (s : Shared) (H : Hp) : Prop where
  frames : A.frames = some outer
  mod : Mod K mg base
  bs : ∀ b o, base.get? b = some o → s.heap.get? b = some o ∧ H b = none
  bsz : base.objs.size ≤ s.heap.objs.size
  funs : s.heap.FunFrames base outer
  frf : ∀ b ∈ frs outer, H b = none
  hok : HOk P w H s.heap
  bare : AllBare s.gens
/-- a call's end -/
noncomputable def CE (outer : List Env) (P : Program) (w : World) (H : Hp) (s : Shared) (Q : VK) (u : Value) (s' : Shared) : Prop :=
  ∃ v H', s'.os = s.os ∧ AllBare s'.gens ∧ Un (frs outer) [] H H' s.heap s'.heap ∧ HOk P w H' s'.heap ∧ RelV v u ∧ Q v H'
noncomputable def CR (CX : CXT) (outer : List Env) (P : Program) (w : World) (H : Hp) (s : Shared) (Q : VK) (E : XK) (r : Result) (s' : Shared) : Prop :=
  match r with
  | .ok (.ret u) => CE outer P w H s Q u s'
  | .ok _ => False
  | .error e => CX outer H s E e s'
structure FnOk (P : Program) (w : World) (K : PySem.W.Frag) (mg : Str → Option Value) (base : Heap) (CX : CXT) (k : Nat) (f : Addr) (fd : FuncData) (ps : List Str) (sp : Sp) : Prop where
  len : ∀ vs H Q E, sp vs H Q E → vs.length = ps.length
  run : ∀ (A : Around) (outer : List Env) (s : Shared) (H : Hp) (args : Args) (us : List Value) (vs : List V) (Q : VK) (E : XK), Room k A → Env0 P w K mg base A outer s H → BindsTo s fd args (ps.zip us) → Vals vs us → sp vs H Q E →
    codeAny (model P w) A (.call (.ref f) args) (CR CX outer P w H s Q E) s
theorem FnOk.mono {P : Program} {w : World} {K : PySem.W.Frag} {mg : Str → Option Value} {base : Heap} {CX : CXT} {j k : Nat} {f : Addr} {fd : FuncData} {ps : List Str} {sp : Sp} (F : FnOk P w K mg base CX j f fd ps sp) (h : j ≤ k) :
    FnOk P w K mg base CX k f fd ps sp := ⟨F.len, fun A outer s H args us vs Q E hr => F.run A outer s H args us vs Q E (hr.mono h)⟩
/-- a weaker promise -/
theorem FnOk.imp {P : Program} {w : World} {K : PySem.W.Frag} {mg : Str → Option Value} {base : Heap} {CX : CXT} {k : Nat} {f : Addr} {fd : FuncData} {ps : List Str} {sp sp' : Sp} (F : FnOk P w K mg base CX k f fd ps sp)
    (h : ∀ vs H Q E, sp' vs H Q E → sp vs H Q E) : FnOk P w K mg base CX k f fd ps sp' :=
  ⟨fun vs H Q E q => F.len vs H Q E (h _ _ _ _ q), fun A outer s H args us vs Q E hr he hb hv hs => F.run A outer s H args us vs Q E hr he hb hv (h _ _ _ _ hs)⟩

theorem Env0.make {P : Program} {w : World} {K : PySem.W.Frag} {mg : Str → Option Value} {base : Heap} {A : Around} {outer : List Env} {s : Shared} {H : Hp} (e : Env0 P w K mg base A outer s H) (C : Addr) (us : List Value) (kw : List (Str × Value)) :
    Env0 P w K mg base (A.under (.builtin "type.__call__" ⟨.ref C :: us, kw⟩)) outer s H := ⟨by first | exact e.frames | (simpa [Around.under, Code.envs, Code.isFrame, pushEnvs] using e.frames), e.mod, e.bs, e.bsz, e.funs, e.frf, e.hok, e.bare⟩

section
variable {X : Cx} {pins : List (Addr × Obj)} {σ : St} {H : Hp} {s s' : Shared}
/-- from a body: what a callee wants -/
theorem Inv.env0 (I : Inv X pins σ H s) : Env0 X.prog X.w X.K X.mg X.base X.A X.stack s H :=
  ⟨I.ok.frames, I.ok.mod, I.bs, Nat.le_trans I.ok.bsz I.sz, I.stack, I.stkFree, I.hok, I.bare⟩
/-- behind a call -/
theorem Inv.after {Q : VK} {u : Value} (I : Inv X pins σ H s) (h : CE X.stack X.prog X.w H s Q u s') : EP X pins σ Q u s' := by
  obtain ⟨v, H', os, bare, un, hok, r, q⟩ := h
  obtain ⟨hh, g, d, t, os'⟩ := s'
  obtain rfl : os' = s.os := os
  exact ⟨v, H', I.call (h' := hh) (g' := g) (d' := d) (t' := t) (ch := []) un hok bare (fun b z => absurd z (by simp)), r, q⟩
end

/-! ### calls -/
/-- f(..): the written arguments, then the defaults dvs; E: what is wanted of an exception -/
noncomputable def tCall (sp : Sp) (dvs : List V) (E : XK) (t : TA) : TE := fun σ H Q => t σ H fun vs H1 => sp (vs ++ dvs) H1 Q E
/-- o.m(..) of an instance of the class at C -/
noncomputable def tMeth (C : Addr) (m : Str) (sp : Sp) (dvs : List V) (E : XK) (ta : TE) (t : TA) : TE := fun σ H Q => ta σ H fun x H1 => ∃ a dx fs, x = .ref a ∧ H1 a = some (.ins C dx fs) ∧ fs.lookup m = none ∧
  t σ H1 fun vs H2 => sp (x :: (vs ++ dvs)) H2 Q E
/-- C(..): a new instance and its dict, then __init__ -/
noncomputable def tMake (C : Addr) (sp : Sp) (dvs : List V) (E : XK) (t : TA) : TE := fun σ H Q => t σ H fun vs H1 => ∀ x dx, H1 x = none → H1 dx = none → dx ≠ x →
  sp (.ref x :: (vs ++ dvs)) (upd (upd H1 dx (.own x)) x (.ins C dx [])) (fun v H2 => v = .non ∧ Q (.ref x) H2) E

/-- how the parameters are bound: us the positional arguments, kw the keywords' values by name, ds the defaults that fill up -/
noncomputable def Binds (K : PySem.W.Frag) (fd : FuncData) (ps : List Str) (ds : List Value) : Prop :=
  ∀ (s : Shared) (us : List Value), K.In s.heap → (us ++ ds).length = ps.length → BindsTo s fd ⟨us, []⟩ (ps.zip (us ++ ds))
/-- every parameter is given -/
theorem Binds.all {K : PySem.W.Frag} {fd : FuncData} {ps : List Str} (h : ∀ us : List Value, us.length = ps.length → bindArgs fd ⟨us, []⟩ = pure (ps.zip us)) : Binds K fd ps [] := fun s us _ hl => by
  rw [List.append_nil] at hl ⊢
  exact .of_eq (h us hl)

/-- an exception of a callee reaches what this body wants of exceptions -/
noncomputable def Passes (CX : CXT) (X : Cx) (E : XK) : Prop := ∀ (pins : List (Addr × Obj)) (σ : St) (H : Hp) (s : Shared) (e : Value) (s' : Shared), Inv X pins σ H s → CX X.stack H s E e s' → X.xe e s'

section
variable {X : Cx} {CX : CXT} {k : Nat} {f C : Addr} {fd : FuncData} {ps : List Str} {sp : Sp} {dvs : List V} {ds : List Value} {E : XK} {x m : Str} {p pos apos : Pos} {e o : Expr} {es : List Expr} {ta : TE} {t : TA}

/-- the callee runs -/
theorem run_fn {pins : List (Addr × Obj)} {σ : St} {H : Hp} {s : Shared} {Q : VK} {us : List Value} {vs : List V} (F : FnOk X.prog X.w X.K X.mg X.base CX k f fd ps sp) (hr : Room k X.A) (hb : Binds X.K fd ps ds) (hd : Vals dvs ds) (hx : Passes CX X E)
    (I : Inv X pins σ H s) (r : Vals vs us) (h : sp (vs ++ dvs) H Q E) : wpAny (model X.prog X.w) X.A (call (.ref f) us) (EP X pins σ Q) X.xe s := by
  have r2 : Vals (vs ++ dvs) (us ++ ds) := r.append hd
  have hl : (us ++ ds).length = ps.length := by rw [← r2.length]; exact F.len _ _ _ _ h
  refine wpAny_call (codeAny_mono (F.run X.A X.stack s H ⟨us, []⟩ (us ++ ds) (vs ++ dvs) Q E hr I.env0 (hb s us I.kIn hl) r2 h) fun r s' hq => ?_)
  cases r with
  | error e => exact hx pins σ H s e s' I hq
  | ok fl =>
    cases fl with
    | ret u => exact I.after hq
    | next => exact False.elim hq
    | brk => exact False.elim hq
    | cont => exact False.elim hq

theorem pe_call (F : FnOk X.prog X.w X.K X.mg X.base CX k f fd ps sp) (hr : Room k X.A) (hg : Gl X x) (hm : X.mg x = some (.ref f)) (hk : PySem.W.keepIn X.K (.ref f) = true) (hb : Binds X.K fd ps ds) (hd : Vals dvs ds) (hx : Passes CX X E)
    (ha : PA X (e :: es) t) (hdb : (x == ("__debug__" : Str)) = false := by decide) (he : starEach (e :: es) X.env = (false, eval e X.env) :: starEach es X.env := by rfl) (hpl : (backTo pos (starEach es X.env)).any (·.1) = false := by rfl) :
    PE X (.Call (.Name x p) (e :: es) [] pos) (tCall sp dvs E t) := by
  intro pins s σ H Q I h
  refine wpAny_Call_Name_kw (ld_glob I hg hm ?_ hdb)
  refine PySem.W.callWith_K (h₀ := X.base) I.ok.mod.kin hk (thn (ha pos pins s σ H _ I h) fun us s1 ⟨vs, H1, I1, r, q⟩ => ⟨I1.kIn, ?_⟩) he hpl
  exact run_fn F hr hb hd hx I1 r q

/-- o.m(e, ..) -/
theorem pe_meth {pl : Sem Bool} (he : PE X o ta) (c : Cls X.K C) (hm : Meth X.K C m f) (F : FnOk X.prog X.w X.K X.mg X.base CX k f fd ps sp) (hr : Room k X.A) (hb : Binds X.K fd ps ds) (hd : Vals dvs ds) (hx : Passes CX X E) (ha : PA X (e :: es) t)
    (hst : starEach (e :: es) X.env = (false, eval e X.env) :: starEach es X.env := by rfl) (hpl : (backTo pos (starEach es X.env)).any (·.1) = false := by rfl)
    (ht : eval (.Call (.Attribute o m apos) (e :: es) [] pos) X.env = (do
      let ov ← eval o X.env
      standAt apos.atName
      let (f, first) ← holding [ov] (getMethod ov m pl)
      callWith pos f first (backTo pos (starEach (e :: es) X.env)) (backToKw pos (keywordEach [] X.env))) := by rfl) :
    PE X (.Call (.Attribute o m apos) (e :: es) [] pos) (tMeth C m sp dvs E ta t) := by
  intro pins s σ H Q I h
  refine PySem.W.methodCall_KW (pl := pl) (thn (he pins s σ H _ I h) fun u s1 ⟨x, H1, I1, rx, a, dx, fs, ex, ea, l, q⟩ => ?_) ht
  subst ex
  obtain rfl : u = Value.ref a := rx
  refine getmeth_ok I1 ea c hm l ?_
  refine PySem.W.callWith_K (first := [.ref a]) (h₀ := X.base) I.ok.mod.kin hm.kp (thn (ha pos pins s1 σ H1 _ I1 q) fun us s2 ⟨vs, H2, I2, r, q2⟩ => ⟨I2.kIn, ?_⟩) hst hpl
  exact run_fn (us := .ref a :: us) (vs := .ref a :: vs) F hr hb hd hx I2 (.cons rfl r) q2

/-- what a class must have to be made -/
structure Mk (K : PySem.W.Frag) (C f : Addr) : Prop where
  makes : PySem.W.makesIn K C = true
  init : PySem.W.findIn K (.ref C) "__init__" = some (some (.ref f))
  fn : PySem.W.isFn K (.ref f) = true
  kp : PySem.W.keepIn K (.ref C) = true

theorem run_make {pins : List (Addr × Obj)} {σ : St} {H : Hp} {s : Shared} {Q : VK} {us : List Value} {vs : List V} (M : Mk X.K C f) (F : FnOk X.prog X.w X.K X.mg X.base CX k f fd ps sp) (hr : Room (k + 1) X.A) (hb : Binds X.K fd ps ds) (hd : Vals dvs ds)
    (hx : Passes CX X E) (I : Inv X pins σ H s) (r : Vals vs us)
    (h : ∀ x dx, H x = none → H dx = none → dx ≠ x → sp (.ref x :: (vs ++ dvs)) (upd (upd H dx (.own x)) x (.ins C dx [])) (fun v H2 => v = .non ∧ Q (.ref x) H2) E) :
    wpAny (model X.prog X.w) X.A (call (.ref C) us) (EP X pins σ Q) X.xe s := by
  have hq := h (s.heap.objs.size + 1) s.heap.objs.size (I.hok.fresh (Nat.le_succ _)) (I.hok.fresh (Nat.le_refl _)) (Nat.ne_of_lt (Nat.lt_succ_self _))
  have I2 := Inv.made (C := C) I
  have r2 : Vals (V.ref (s.heap.objs.size + 1) :: (vs ++ dvs)) (Value.ref (s.heap.objs.size + 1) :: (us ++ ds)) := .cons rfl (r.append hd)
  have hl : (Value.ref (s.heap.objs.size + 1) :: us ++ ds).length = ps.length := by
    have e := r2.length
    rw [F.len _ _ _ _ hq] at e
    exact e.symm
  refine wpAny_call (make_map (f := f) I.kIn M.makes M.init (beq_iff_eq.mp M.fn) (codeAny_mono (F.run _ X.stack _ _ ⟨Value.ref (s.heap.objs.size + 1) :: us, []⟩ (Value.ref (s.heap.objs.size + 1) :: (us ++ ds)) _ _ E (hr.make C us [])
    (I2.env0.make C us []) (hb _ (Value.ref (s.heap.objs.size + 1) :: us) I2.kIn hl) r2 hq) fun r s' hq' => ?_))
  cases r with
  | error e => exact hx pins σ _ _ e s' I2 hq'
  | ok fl =>
    cases fl with
    | ret u =>
      obtain ⟨v, H', I3, rv, ev, q3⟩ := I2.after hq'
      subst ev
      exact ⟨rv, ⟨V.ref (s.heap.objs.size + 1), H', I3, rfl, q3⟩⟩
    | next => exact False.elim hq'
    | brk => exact False.elim hq'
    | cont => exact False.elim hq'
theorem pe_make (M : Mk X.K C f) (F : FnOk X.prog X.w X.K X.mg X.base CX k f fd ps sp) (hr : Room (k + 1) X.A) (hg : Gl X x) (hm : X.mg x = some (.ref C)) (hb : Binds X.K fd ps ds) (hd : Vals dvs ds) (hx : Passes CX X E)
    (ha : PA X (e :: es) t) (hdb : (x == ("__debug__" : Str)) = false := by decide) (he : starEach (e :: es) X.env = (false, eval e X.env) :: starEach es X.env := by rfl) (hpl : (backTo pos (starEach es X.env)).any (·.1) = false := by rfl) :
    PE X (.Call (.Name x p) (e :: es) [] pos) (tMake C sp dvs E t) := by
  intro pins s σ H Q I h
  refine wpAny_Call_Name_kw (ld_glob I hg hm ?_ hdb)
  refine PySem.W.callWith_K (h₀ := X.base) I.ok.mod.kin M.kp (thn (ha pos pins s σ H _ I h) fun us s1 ⟨vs, H1, I1, r, q⟩ => ⟨I1.kIn, ?_⟩) he hpl
  exact run_make M F hr hb hd hx I1 r q
end

/-! ### keywords -/
/-- the values of the keywords, from the left -/
noncomputable def PK (X : Cx) (kws : List Keyword) (t : TA) : Prop :=
  ∀ (pos : Pos) (pins : List (Addr × Obj)) (s : Shared) (σ : St) (H : Hp) (Q : List V → Hp → Prop), Inv X pins σ H s → t σ H Q → wpAny (model X.prog X.w) X.A (evalAll ((backToKw pos (keywordEach kws X.env)).map (·.2))) (AP X pins σ Q) X.xe s
section
variable {X : Cx} {CX : CXT} {k : Nat} {f C : Addr} {fd : FuncData} {ps ks : List Str} {sp : Sp} {E : XK} {x m : Str} {p pos apos kpos : Pos} {e o : Expr} {es : List Expr} {kws : List Keyword} {te ta : TE} {t tk : TA} {nm : Option Str}

/-- how a call with keywords binds: g puts the positional values us and the keywords' values ws (names ks) in the parameters' order, defaults among them -/
structure KBinds (K : PySem.W.Frag) (fd : FuncData) (ps ks : List Str) (g : List Value → List Value → List Value) (gV : List V → List V → List V) : Prop where
  to : ∀ (s : Shared) (us ws : List Value), K.In s.heap → (g us ws).length = ps.length → BindsTo s fd ⟨us, ks.zip ws⟩ (ps.zip (g us ws))
  rel : ∀ {vs : List V} {us : List Value} {zs : List V} {ws : List Value}, Vals vs us → Vals zs ws → Vals (gV vs zs) (g us ws)
noncomputable def tCallK (sp : Sp) (gV : List V → List V → List V) (E : XK) (t tk : TA) : TE := fun σ H Q => t σ H fun vs H1 => tk σ H1 fun zs H2 => sp (gV vs zs) H2 Q E
variable {g : List Value → List Value → List Value} {gV : List V → List V → List V}
end

/-! ### a def's body keeps its promise -/
/-- names: the parameters first -/
structure FnScope (N P : List Str) (sc : Scope) : Prop where
  kind : sc.kind = .function
  co : sc.isCoroutine = false
  gen : sc.isGenerator = false
  nd : N.Nodup
  pre : N.take P.length = P
  par : ∀ x ∈ P, sc.names.lookup x = some .local ∨ sc.names.lookup x = some .cell
  nofree : ∀ y ∈ sc.names, y.2 ≠ .free

theorem bindL_out {kindOf : Str → Option NameKind} {x : Str} : ∀ {binds : List (Str × Value)} {m : Str → Option Value}, (∀ v, (x, v) ∉ binds) → bindL kindOf binds m x = m x
  | [], _, _ => rfl
  | (n, v) :: r, m, h => by
    unfold bindL
    rw [bindL_out fun w hw => h w (List.mem_cons_of_mem _ hw)]
    split
    · have : x ≠ n := by rintro rfl; exact h v List.mem_cons_self
      simp [this]
    · rfl
theorem bindC_out {kindOf : Str → Option NameKind} {x : Str} : ∀ {binds : List (Str × Value)} {m : Str → Option Value}, (∀ v, (x, v) ∉ binds) → bindC kindOf binds m x = m x
  | [], _, _ => rfl
  | (n, v) :: r, m, h => by
    unfold bindC
    rw [bindC_out fun w hw => h w (List.mem_cons_of_mem _ hw)]
    split
    · rfl
    · have : x ≠ n := by rintro rfl; exact h v List.mem_cons_self
      simp [this]
theorem bindL_get {kindOf : Str → Option NameKind} {x : Str} {v : Value} : ∀ {P : List Str} {vs : List Value} {i : Nat} {m : Str → Option Value}, P.Nodup → P[i]? = some x → vs[i]? = some v → kindOf x = some .local →
    bindL kindOf (P.zip vs) m x = some v
  | [], _, _, _, _, h, _, _ => by simp at h
  | _ :: _, [], _, _, _, _, h, _ => by simp at h
  | p :: P, w :: vs, 0, m, nd, h1, h2, hk => by
    simp at h1 h2; subst h1; subst h2
    show bindL kindOf ((p, w) :: P.zip vs) m p = _
    unfold bindL
    rw [bindL_out fun v hv => (List.nodup_cons.mp nd).1 (List.of_mem_zip hv).1, if_pos hk]
    simp
  | p :: P, w :: vs, i + 1, m, nd, h1, h2, hk => by
    show bindL kindOf ((p, w) :: P.zip vs) m x = _
    unfold bindL
    exact bindL_get (i := i) (List.nodup_cons.mp nd).2 (by simpa using h1) (by simpa using h2) hk
theorem bindC_get {kindOf : Str → Option NameKind} {x : Str} {v : Value} : ∀ {P : List Str} {vs : List Value} {i : Nat} {m : Str → Option Value}, P.Nodup → P[i]? = some x → vs[i]? = some v → kindOf x ≠ some .local →
    bindC kindOf (P.zip vs) m x = some v
  | [], _, _, _, _, h, _, _ => by simp at h
  | _ :: _, [], _, _, _, _, h, _ => by simp at h
  | p :: P, w :: vs, 0, m, nd, h1, h2, hk => by
    simp at h1 h2; subst h1; subst h2
    show bindC kindOf ((p, w) :: P.zip vs) m p = _
    unfold bindC
    rw [bindC_out fun v hv => (List.nodup_cons.mp nd).1 (List.of_mem_zip hv).1, if_neg hk]
    simp
  | p :: P, w :: vs, i + 1, m, nd, h1, h2, hk => by
    show bindC kindOf ((p, w) :: P.zip vs) m x = _
    unfold bindC
    exact bindC_get (i := i) (List.nodup_cons.mp nd).2 (by simpa using h1) (by simpa using h2) hk

/-- the names' values at the entry -/
noncomputable def start (N : List Str) (vs : List V) : St := vs.map some ++ List.replicate (N.length - vs.length) none

/-- the context of a def's body, at its entry; an exception leaves the frame, then lies as CX says -/
noncomputable def cxOf (CX : CXT) (P : Program) (w : World) (K : PySem.W.Frag) (mg : Str → Option Value) (base : Heap) (N : List Str) (qual : Str) (scope : Scope) (f : Addr) (cd : Value) (A : Around) (outer : List Env) (s : Shared) (H : Hp) (E : XK) : Cx where
  prog := P
  w := w
  K := K
  mg := mg
  base := base
  A := A.deeper (envOfC qual scope s.heap.objs.size f cd)
  N := N
  s₀ := s
  H₀ := H
  env := envOfC qual scope s.heap.objs.size f cd
  outer := outer
  stack := envOfC qual scope s.heap.objs.size f cd :: outer
  ex := []
  calm := true
  fn := fun _ => true
  pn := []
  xe := fun e s' => wpAny (model P w) (A.deeper (envOfC qual scope s.heap.objs.size f cd)) (leaving (envOfC qual scope s.heap.objs.size f cd) e) (fun _ s'' => CX outer H s E e s'') (fun e' s'' => CX outer H s E e' s'') s'

theorem cell_has {sc : Scope} {n : Nat} {x : Str} (h : sc.names.lookup x = some .cell) : ∃ c, (cellsFrom n sc.names []).lookup x = some c := by
  have q := PySem.W.cellsFrom_some sc.names n [] (.inl h)
  exact Option.isSome_iff_exists.mp q

theorem inv_start {CX : CXT} {P : Program} {w : World} {K : PySem.W.Frag} {mg : Str → Option Value} {base : Heap} {N ps : List Str} {qual : Str} {scope : Scope} {f : Addr} {cd : Value} {A : Around} {outer : List Env} {s s1 : Shared} {H : Hp} {E : XK} {us : List Value} {vs : List V}
    (S : FnScope N ps scope) (hd : A.handled = none) (e0 : Env0 P w K mg base A outer s H) (hl : vs.length = ps.length) (r : Vals vs us)
    (x : InCallC s s.heap.objs.size (bindL (envOfC qual scope s.heap.objs.size f cd).kindOf (ps.zip us) fun _ => none) (cellsFrom (s.heap.objs.size + 1) scope.names []) (bindC (envOfC qual scope s.heap.objs.size f cd).kindOf (ps.zip us) fun _ => none) s1) :
    Inv (cxOf CX P w K mg base N qual scope f cd A outer s H E) [] (start N vs) H s1 := by
  have hpl : ps.length ≤ N.length := by have := congrArg List.length S.pre; rw [List.length_take] at this; omega
  obtain ⟨h1, tk, rfl, hk⟩ := x.done
  have noA : ∀ b : Addr, b ∉ (cxOf CX P w K mg base N qual scope f cd A outer s H E).ex := fun b z => absurd (show b ∈ ([] : List Addr) from z) (by simp)
  refine ⟨⟨e0.mod, S.kind, rfl, rfl, Nat.le_refl _, fun y z c h1 h2 => ?_, fun y hy => ?_, fun y c _ h => ?_, fun _ => hd, Around.frames_deeper e0.frames, .inr ⟨rfl, rfl⟩, fun b z => absurd z (noA b), e0.bs, e0.bsz, fun b _ _ => noA b, fun b z => absurd z (noA b), e0.funs, e0.frf⟩,
    rfl, e0.bare, Un.kept hk, ⟨_, x.toInCall.ns, fun i y v h1 h2 h3 => ?_⟩, fun y c h => ⟨_, x.cell y c h⟩, e0.hok.fresh (Nat.le_refl _), fun y c h => ?_, fun p hp => absurd (show p ∈ ([] : List (Addr × Obj)) from hp) (by simp), e0.hok.kept hk, ?_⟩
  · exact name_of_addr x.apart (PySem.mem_of_lookup h1) (PySem.mem_of_lookup h2)
  · have hy : scope.names.lookup y = some .cell ∨ scope.names.lookup y = some .free := hy
    rcases hy with hy | hy
    · exact cell_has hy
    · exact absurd rfl (S.nofree _ (PySem.mem_of_lookup hy))
  · exact Nat.le_of_lt (x.above y c (PySem.mem_of_lookup h))
  · have hi : i < vs.length := by
      unfold start at h2
      by_cases hi : i < vs.length
      · exact hi
      · rw [List.getElem?_append_right (by simpa using hi)] at h2
        rw [List.getElem?_replicate] at h2
        split at h2 <;> cases h2
    have ha : vs[i]? = some v := by
      unfold start at h2
      rw [List.getElem?_append_left (by simpa using hi), List.getElem?_map] at h2
      cases e : vs[i]? with
      | none => rw [e] at h2; cases h2
      | some a => rw [e] at h2; cases h2; rfl
    obtain ⟨u, hu, rv⟩ := r.get ha
    have hp : ps[i]? = some y := by
      rw [← S.pre, List.getElem?_take_of_lt (by omega)]; exact h1
    have ndP : ps.Nodup := by rw [← S.pre]; exact S.nd.sublist (List.take_sublist _ _)
    refine ⟨u, rv, ?_⟩
    rcases S.par y (List.mem_of_getElem? hp) with k | k
    · exact .inl ⟨k, bindL_get ndP hp hu k⟩
    · obtain ⟨c, e⟩ := cell_has (n := s.heap.objs.size + 1) k
      refine .inr ⟨.inl k, c, e, ?_⟩
      have q := x.cell y c e
      rw [bindC_get ndP hp hu (by show scope.names.lookup y ≠ _; rw [k]; decide)] at q
      exact q
  · exact e0.hok.fresh (Nat.le_of_lt (x.above y c (PySem.mem_of_lookup h)))
  · unfold start
    show _ = N.length
    rw [List.length_append, List.length_map, List.length_replicate]
    omega

/-- THE RULE: a def (or a method) of the text, by its body. The body's reading t is chosen for each entry; it is run at the parameters' values -/
theorem fn_of {CX : CXT} {P : Program} {w : World} {K : PySem.W.Frag} {mg : Str → Option Value} {base : Heap} {k : Nat} {f : Addr} {name qual : Str} {params : Arguments} {body : List Stmt} {scope : Scope} {dV kV doc pm cdv ct oc : Value} {an od : Option Addr}
    {osl : Array (Option Value)} {N ps : List Str} {sp : Sp} (lk : K.lookup f = some ⟨oc, od, .func (PySem.W.fnOf name qual params body scope dV kV doc pm an cdv ct), osl⟩) (hcd : PySem.W.codeIn K cdv qual = true) (S : FnScope N ps scope)
    (len : ∀ vs H Q E, sp vs H Q E → vs.length = ps.length)
    (hbody : ∀ (A : Around) (outer : List Env) (s : Shared) (H : Hp) (vs : List V) (Q : VK) (E : XK), Room k (A.deeper (envOfC qual scope s.heap.objs.size f cdv)) → sp vs H Q E →
      ∃ t, PSs (cxOf CX P w K mg base N qual scope f cdv A outer s H E) body t ∧ t { nx := fun _ H' => Q .non H', rt := Q } (start N vs) H) :
    FnOk P w K mg base CX (k + 1) f (PySem.W.fnOf name qual params body scope dV kV doc pm an cdv ct) ps sp := by
  refine ⟨len, fun A outer s H args us vs Q E hr e0 hb r hsp => ?_⟩
  have hl := len _ _ _ _ hsp
  have KX : K.In s.heap := e0.mod.kin.keeps fun b o e => (e0.bs b o e).1
  have lim : s.heap.NoLimit := e0.mod.nolimit.keeps fun b o e => (e0.bs b o e).1
  have hkind : ∀ y ∈ ps.zip us, scope.names.lookup y.1 = some .local ∨ (scope.names.lookup y.1 = some .cell ∧ ((cellsFrom (s.heap.objs.size + 1) scope.names []).lookup y.1).isSome = true) := fun ⟨n, v⟩ hy => by
    rcases S.par n (List.of_mem_zip hy).1 with q | q
    · exact .inl q
    · exact .inr ⟨q, PySem.W.cellsFrom_some _ _ _ (.inl q)⟩
  refine codeAny_call_function hr.depth (KX _ _ lk) rfl S.co S.gen rfl (PySem.W.codeRec_of KX hcd) (hb _ _ _ _ ?_)
  refine wpAny_newFunctionEnv_cells S.kind hkind fun env he s1 x => ?_
  subst he
  refine ⟨lim.keeps x.toInCall.keep, codeAny_func ?_⟩
  obtain ⟨t, ht, hq⟩ := hbody A outer s H vs Q E (hr.deeper _) hsp
  have I : Inv (cxOf CX P w K mg base N qual scope f cdv A outer s H E) [] (start N vs) H s1 := inv_start S hr.hd e0 hl r x
  refine wpAny_mono (ht [] s1 (start N vs) H _ I hq) (fun fl s' hs => ?_) fun e s' hs => hs
  have fin : ∀ {σ' : St} {H' : Hp} {v : V} {u : Value}, Inv (cxOf CX P w K mg base N qual scope f cdv A outer s H E) [] σ' H' s' → RelV v u → Q v H' → CE outer P w H s Q u s' :=
    fun {σ' H' v u} J rv q => ⟨v, H', J.os, J.bare, J.base, J.hok, rv, q⟩
  cases fl with
  | ret u =>
    obtain ⟨v, σ', H', J, rv, q⟩ := hs
    exact fin J rv q
  | next =>
    obtain ⟨σ', H', J, q⟩ := hs
    exact fin (v := V.non) (u := Value.none) J rfl q
  | brk =>
    obtain ⟨_, _, _, q⟩ := hs
    exact False.elim q
  | cont =>
    obtain ⟨_, _, _, q⟩ := hs
    exact False.elim q
end L2

namespace L2
open PySem PySem.Spec PyProof.Rows
section
variable {X : Cx} {x : Str} {p pos : Pos} {e : Expr} {es : List Expr} {t : TA} {id T : String} {r : List V → Hp → VK → Prop}

noncomputable def tCB (r : List V → Hp → VK → Prop) (t : TA) : TE := fun σ H Q => t σ H fun vs H1 => r vs H1 Q
/-- f(e, ..), f a built-in function -/
theorem pe_callB (hc : CallR X (.builtin id) r) (hg : Gl X x) (hm : X.mg x = none) (hv : bootBuiltins x = some (.builtin id)) (ha : PA X (e :: es) t) (hn : x ≠ "__name__" := by decide) (hdb : (x == ("__debug__" : Str)) = false := by decide)
    (he : starEach (e :: es) X.env = (false, eval e X.env) :: starEach es X.env := by rfl) (hpl : (backTo pos (starEach es X.env)).any (·.1) = false := by rfl) : PE X (.Call (.Name x p) (e :: es) [] pos) (tCB r t) := by
  intro pins s σ H Q I h
  refine wpAny_Call_Name_kw (ld_blt I hg hm hv ?_ hn hdb)
  exact PyProof.Rows.callWith_builtin1 (thn (ha pos pins s σ H _ I h) fun us s1 ⟨vs, H1, I1, r1, q1⟩ => hc pins s1 σ H1 vs us Q I1 r1 q1) he hpl
/-- T(e, ..), T a built-in type -/
theorem pe_callTy (hc : CallR X (.type T) r) (hg : Gl X x) (hm : X.mg x = none) (hv : bootBuiltins x = some (.type T)) (ha : PA X (e :: es) t) (hn : x ≠ "__name__" := by decide) (hdb : (x == ("__debug__" : Str)) = false := by decide)
    (he : starEach (e :: es) X.env = (false, eval e X.env) :: starEach es X.env := by rfl) (hpl : (backTo pos (starEach es X.env)).any (·.1) = false := by rfl) : PE X (.Call (.Name x p) (e :: es) [] pos) (tCB r t) := by
  intro pins s σ H Q I h
  refine wpAny_Call_Name_kw (ld_blt I hg hm hv ?_ hn hdb)
  exact PyProof.Rows.callWith_type1 (thn (ha pos pins s σ H _ I h) fun us s1 ⟨vs, H1, I1, r1, q1⟩ => hc pins s1 σ H1 vs us Q I1 r1 q1) he hpl
end
end L2

namespace HT
open PySem PyProof.Rows

/-- t < u of tuples of ints -/
noncomputable def lexLt : List Int → List Int → Bool
  | [], [] => false
  | [], _ :: _ => true
  | _ :: _, [] => false
  | x :: xs, y :: ys => if x = y then lexLt xs ys else decide (x < y)


section
open PySem.SeqAt
open PySem.AutoSeq1 (wpAny_loadPart')
open PySem.MeetsSeq PySem.MeetsSeq2 PySem.MeetsSeq3

end

section
variable {prog : Program} {w : World} {A : Around} {E : Value → Shared → Prop} {s : Shared}


/-- t + u, t not empty -/
theorem cat_tup {t b : Addr} {vs ws : List Value} {Q : Value → Shared → Prop} (ht : IsTup s.heap t vs.toArray) (hb : IsTup s.heap b ws.toArray) (hv : vs ≠ [])
    (h1 : ws = [] → Q (.ref t) s) (h2 : ws ≠ [] → Q (.ref s.heap.objs.size) { s with heap := s.heap.push { cls := .type "tuple", data := .seq (vs ++ ws).toArray } })
    (hsz : vs.length + ws.length ≤ sizeLine) : wpAny (model prog w) A (binaryOp .Add (.ref t) (.ref b)) Q E s := by
  obtain ⟨⟨cls, dd, data, sl⟩, ho, hc, n, hd⟩ := id ht
  obtain ⟨⟨cls2, dd2, data2, sl2⟩, ho2, hc2, n2, hd2⟩ := id hb
  simp only at hc hd hc2 hd2
  subst hc hd hc2 hd2
  have e : vs.toArray ++ ws.toArray = (vs ++ ws).toArray := by simp
  by_cases hw : ws = []
  · exact concat_meets ⟨_, ho, rfl⟩ ⟨_, ho2, rfl⟩ noFill_tuple_add seq_tuple_add PySem.F.slot_tuple_add PySem.F.entry_tuple_add (PySem.F.args_tuple_add_2 _ _)
      (tuple_addW1 t b vs.toArray ws.toArray n n2 dd dd2 sl sl2 (by simpa using hv) (by simp [hw])) ⟨ho, ho2, h1 hw⟩
  · refine concat_meets ⟨_, ho, rfl⟩ ⟨_, ho2, rfl⟩ noFill_tuple_add seq_tuple_add PySem.F.slot_tuple_add PySem.F.entry_tuple_add (PySem.F.args_tuple_add_2 _ _)
      (tuple_addW2 t b vs.toArray ws.toArray n n2 dd dd2 sl sl2 (by simpa using hv) (by simpa using hw) (by rw [List.size_toArray, List.size_toArray]; exact hsz)) ⟨ho, ho2, ?_⟩
    rw [e]
    exact h2 hw

/-! ### t[a:b], not the whole -/
/-- a slice's bound as a place among n (d where it is left out) -/
noncomputable def sIx (n d : Nat) : Option Int → Nat
  | none => d
  | some v => if v < 0 then (v + (n : Int)).toNat else min v.toNat n
theorem sIx_nat (n d k : Nat) : sIx n d (some (k : Int)) = min k n := by
  show (if (k : Int) < 0 then ((k : Int) + (n : Int)).toNat else min (k : Int).toNat n) = min k n
  rw [if_neg (by omega), Int.toNat_natCast]
theorem sIx_le (n d : Nat) (hd : d ≤ n) (o : Option Int) : sIx n d o ≤ n := by
  cases o with
  | none => exact hd
  | some v =>
    show (if v < 0 then (v + (n : Int)).toNat else min v.toNat n) ≤ n
    by_cases hv : v < 0
    · rw [if_pos hv]; omega
    · rw [if_neg hv]; exact Nat.min_le_right _ _
theorem clip_eq (v : Int) (n d : Nat) : (if v < 0 then max (v + (n : Int)) 0 else min v (n : Int)) = ((sIx n d (some v) : Nat) : Int) := by
  show (if v < 0 then max (v + (n : Int)) 0 else min v (n : Int)) = (((if v < 0 then (v + (n : Int)).toNat else min v.toNat n) : Nat) : Int)
  by_cases hv : v < 0
  · simp only [if_pos hv]; omega
  · simp only [if_neg hv]; omega
theorem adjust_gen (lo hi : Option Int) (n : Nat) : Builtin.Slice.sliceAdjust lo hi 1 (n : Int) = (((sIx n 0 lo : Nat) : Int), ((sIx n n hi : Nat) : Int)) := by
  have h1 : ¬ ((1 : Int) < 0) := by omega
  unfold Builtin.Slice.sliceAdjust
  simp only [h1, if_false]
  refine Prod.ext ?_ ?_
  · cases lo with
    | none => rfl
    | some v => exact clip_eq v n 0
  · cases hi with
    | none => rfl
    | some v => exact clip_eq v n n
theorem places_gen (i j : Nat) : Builtin.Slice.slicePlaces (i : Int) (j : Int) 1 = j - i := by
  unfold Builtin.Slice.slicePlaces
  have h1 : (1 : Int) > 0 := by omega
  simp only [h1, if_true, Int.ediv_one]
  split <;> omega
theorem slicePart_ {v : Value} {o : Option Int} {Q : Option Int → Shared → Prop} (p : IsPart v o) (h : Q o s) : wpAny (model prog w) A (Builtin.Slice.slicePartIndex v) Q E s := by
  cases p with
  | none => exact slicePart_none h
  | int i t => exact slicePart_int h
theorem sliceApplied_gen {sl : Addr} {vl vu : Value} {lo hi : Option Int} {n : Nat} {Q : Int × Int × Nat → Shared → Prop} (hs : s.heap.IsSliceOf sl vl vu .none) (pl : IsPart vl lo) (pu : IsPart vu hi)
    (h : Q (((sIx n 0 lo : Nat) : Int), 1, sIx n n hi - sIx n 0 lo) s) : wpAny (model prog w) A (Builtin.Slice.sliceApplied (.ref sl) (pure (n : Int))) Q E s := by
  obtain ⟨os, hos, hcs, hds⟩ := id hs
  unfold Builtin.Slice.sliceApplied Builtin.Slice.sliceFields
  refine wpAny_bind (wpAny_bind (wpAny_field hos hds (x := vl) rfl (wpAny_bind (wpAny_field hos hds (x := vu) rfl (wpAny_bind (wpAny_field hos hds (x := .none) rfl (wpAny_pure ?_)))))))
  refine wpAny_bind (slicePart_none ?_)
  show wpAny _ _ (if ((1 : Int) == 0) = true then _ else _) _ _ s
  rw [if_neg (by decide)]
  refine wpAny_bind (slicePart_ pl (wpAny_bind (slicePart_ pu (wpAny_bind (wpAny_pure ?_)))))
  show wpAny _ _ (match Builtin.Slice.sliceAdjust lo hi 1 (n : Int) with | (lo, hi) => pure (lo, (1 : Int), Builtin.Slice.slicePlaces lo hi 1)) _ _ s
  rw [adjust_gen lo hi n]
  show wpAny _ _ (pure (((sIx n 0 lo : Nat) : Int), (1 : Int), Builtin.Slice.slicePlaces ((sIx n 0 lo : Nat) : Int) ((sIx n n hi : Nat) : Int) 1)) _ _ s
  rw [places_gen]
  exact wpAny_pure h
theorem pick_gen (xs : Array Value) (i k : Nat) : ((List.range k).filterMap fun (m : Nat) => xs[((i : Int) + (m : Int) * 1).toNat]?).toArray = ((xs.toList.drop i).take k).toArray := by
  have e : (fun (m : Nat) => xs[((i : Int) + (m : Int) * 1).toNat]?) = fun m => xs[i + m]? := by
    funext m
    have : ((i : Int) + (m : Int) * 1).toNat = i + m := by omega
    rw [this]
  rw [e]
  have := pick_run xs i k
  rw [List.filterMap_map] at this
  have e2 : ((fun x => xs[x]?) ∘ fun x => i + x) = fun m => xs[i + m]? := rfl
  rw [e2] at this
  rw [this]

theorem getItem_tuple_cut {t sl : Addr} {items : Array Value} {vl vu : Value} {lo hi : Option Int} {Q : Value → Shared → Prop} (ht : IsTup s.heap t items) (hs : s.heap.IsSliceOf sl vl vu .none) (pl : IsPart vl lo) (pu : IsPart vu hi)
    (hw : ¬ (sIx items.size 0 lo = 0 ∧ sIx items.size items.size hi = items.size))
    (h : Q (.ref s.heap.objs.size) { s with heap := s.heap.push { cls := .type "tuple", data := .seq ((items.toList.drop (sIx items.size 0 lo)).take (sIx items.size items.size hi - sIx items.size 0 lo)).toArray } })
    (hsz : items.size ≤ sizeLine) : wpAny (model prog w) A (getItem (.ref t) (.ref sl)) Q E s := by
  have htake : sizeOk (.seq ((items.toList.drop (sIx items.size 0 lo)).take (sIx items.size items.size hi - sIx items.size 0 lo)).toArray) := by
    show ((items.toList.drop (sIx items.size 0 lo)).take (sIx items.size items.size hi - sIx items.size 0 lo)).toArray.size ≤ sizeLine
    rw [List.size_toArray, List.length_take, List.length_drop, Array.length_toList]
    omega
  have hj : sIx items.size items.size hi ≤ items.size := sIx_le _ _ (Nat.le_refl _) hi
  obtain ⟨os, hos, hcs, hds⟩ := id hs
  have hTs : s.TypeIs (.ref sl) "slice" := ⟨os, hos, hcs⟩
  unfold getItem
  try with_reducible refine wpAny_holding ?_
  first | refine wpAny_bind (wpAny_pure ?_) | skip
  refine wpAny_bind (wpAny_sequenceKey ht.typeIs (by decide) ?_)
  refine wpAny_bind (wpAny_callSpecial?_slot (name := Str.ofString "__getitem__") ht.typeIs PyProof.Rows.slot_tuple_getitem
    (wpAny_call_entry PyProof.Rows.slot_tuple_getitem ht.typeIs entry_tuple_getitem ?_ (args_tuple_getitem _ _)))
  show wpAny _ _ (Builtin.Tuple.tupleItemsOf (.ref t) >>= _) _ _ s
  refine wpAny_bind (tupleItemsOf_ ht ?_)
  refine wpAny_bind (wpAny_typeOf hTs ?_)
  rw [if_pos (by decide)]
  refine wpAny_bind (sliceApplied_gen hs pl pu ?_)
  have hno : ¬ ((((sIx items.size 0 lo : Nat) : Int) == 0 && (1 : Int) == 1 && (sIx items.size items.size hi - sIx items.size 0 lo) == items.size) = true) := by
    intro q
    rw [Bool.and_eq_true, Bool.and_eq_true] at q
    have q1 : ((sIx items.size 0 lo : Nat) : Int) = 0 := eq_of_beq q.1.1
    have q2 : sIx items.size items.size hi - sIx items.size 0 lo = items.size := eq_of_beq q.2
    exact hw ⟨by omega, by omega⟩
  show wpAny _ _ (if (((sIx items.size 0 lo : Nat) : Int) == 0 && (1 : Int) == 1 && (sIx items.size items.size hi - sIx items.size 0 lo) == items.size) = true then _ else _) _ _ s
  rw [if_neg hno, pick_gen]
  first
    | exact wpAny_bind (m := Builtin.Tuple.tupleExact _) (wpAny_newObj_type (wpAny_pure ⟨_, rfl, wpAny_pure h⟩) htake)
    | exact wpAny_bind (m := Builtin.Tuple.tupleExact _) (wpAny_newObj_type (wpAny_bind (wpAny_pure (wpAny_pure ⟨_, rfl, wpAny_pure h⟩))) htake)
    | exact wpAny_bind (wpAny_bind (m := Builtin.Tuple.tupleExact _) (wpAny_newObj_type (wpAny_pure (wpAny_pure ⟨_, rfl, wpAny_pure h⟩)) htake))
    | exact wpAny_bind (wpAny_bind (m := Builtin.Tuple.tupleExact _) (wpAny_newObj_type (wpAny_pure ⟨_, rfl, wpAny_pure h⟩) htake))
end
end HT

namespace L2
open PySem PySem.Spec PyProof.Rows

/-! ### the parts of a slice -/
noncomputable abbrev TO := St → Hp → (Option Int → Hp → Prop) → Prop
/-- a slice's part (left out, or an int) -/
noncomputable def PO (X : Cx) (e : Option Expr) (t : TO) : Prop :=
  ∀ (pins : List (Addr × Obj)) (s : Shared) (σ : St) (H : Hp) (Q : Option Int → Hp → Prop), Inv X pins σ H s → t σ H Q →
    wpAny (model X.prog X.w) X.A (evalPart e X.env) (fun u s' => ∃ o H', Inv X pins σ H' s' ∧ IsPart u o ∧ Q o H') X.xe s
noncomputable def tNoPart : TO := fun _ H Q => Q none H
noncomputable def tPart (t : TE) : TO := fun σ H Q => t σ H fun x H1 => ∃ i, x = .int i ∧ Q (some i) H1

theorem intsAre_of {ns : List Int} : ∀ {us : List Value}, Vals (ns.map V.int) us → IntsAre us ns := by
  induction ns with
  | nil => intro us r; rw [List.map_nil] at r; cases r; exact .nil
  | cons n ns ih =>
    intro us r
    rw [List.map_cons] at r
    cases r with
    | cons r1 r2 =>
      obtain ⟨t, e⟩ := r1
      subst e
      exact .cons n t (ih r2)

section
variable {X : Cx} {e : Expr} {te : TE} {lo hi : Option Expr} {tl th : TO} {pos p2 : Pos}

theorem po_none : PO X none tNoPart := by
  intro pins s σ H Q I h
  rw [evalPart_none]
  exact wpAny_pure ⟨none, H, I, .none, h⟩
theorem po_some (h : PE X e te) : PO X (some e) (tPart te) := by
  intro pins s σ H Q I hw
  rw [evalPart_some]
  refine thn (h pins s σ H _ I hw) fun u s1 ⟨x, H1, I1, r1, q1⟩ => ?_
  obtain ⟨i, rfl, q⟩ := q1
  obtain ⟨t, rfl⟩ := r1
  exact ⟨some i, H1, I1, .int i t, q⟩

/-- what a slice of a value is, by values: the slice object stands at sl -/
noncomputable def SlR (X : Cx) (r : V → Option Int → Option Int → Hp → VK → Prop) : Prop :=
  ∀ (pins : List (Addr × Obj)) (s : Shared) (σ : St) (H : Hp) (x : V) (v vl vu : Value) (lo hi : Option Int) (sl : Addr) (Q : VK), Inv X pins σ H s → RelV x v → s.heap.IsSliceOf sl vl vu .none → IsPart vl lo → IsPart vu hi → r x lo hi H Q →
    ∃ T id, typeLookup (.type T) "__getitem__" = pure (some (.builtin id)) ∧ s.TypeIs v T ∧ wpAny (model X.prog X.w) X.A (getItem v (.ref sl)) (EP X pins σ Q) X.xe s
noncomputable def tSl (r : V → Option Int → Option Int → Hp → VK → Prop) (te : TE) (tl th : TO) : TE := fun σ H Q => te σ H fun x H1 => tl σ H1 fun l H2 => th σ H2 fun u H3 => r x l u H3 Q
/-- a[lo:hi], any a -/
theorem pe_slice {r : V → Option Int → Option Int → Hp → VK → Prop} (hr : SlR X r) (he : PE X e te) (hl : PO X lo tl) (hu : PO X hi th) : PE X (.Subscript e (.Slice lo hi none p2) pos) (tSl r te tl th) := by
  intro pins s σ H Q I h
  refine Subscript_ (thn (he pins s σ H _ I h) fun v s1 ⟨x, H1, I1, r1, q1⟩ => ?_)
  refine wpAny_Slice (thn (hl pins s1 σ H1 _ I1 q1) fun vl s2 ⟨l, H2, I2, pl, q2⟩ => thn (hu pins s2 σ H2 _ I2 q2) fun vu s3 ⟨u, H3, I3, pu, q3⟩ => ?_)
  rw [evalPart_none]
  refine wpAny_pure ?_
  have I4 : Inv X pins σ H3 { s3 with heap := s3.heap.push { cls := .type "slice", data := .fields #[vl, vu, .none] } } := I3.kept (t' := s3.toks) fun b ob q => Heap.get?_push_of_some _ q
  obtain ⟨T, id, hT, ht, hg⟩ := hr pins { s3 with heap := s3.heap.push { cls := .type "slice", data := .fields #[vl, vu, .none] } } σ H3 x v vl vu l u s3.heap.objs.size Q I4 r1 (Heap.IsSliceOf.new ..) pl pu q3
  show wpAny (model X.prog X.w) X.A (subscriptTail e (.Slice lo hi none p2) v (.ref s3.heap.objs.size)) (EP X pins σ Q) X.xe { s3 with heap := s3.heap.push { cls := .type "slice", data := .fields #[vl, vu, .none] } }
  exact tail_any (ops := [.ref s3.heap.objs.size, v]) ht hT hg (by with_unfolding_all rfl)

/-- the items of xs[lo:hi] -/
noncomputable def cutV (xs : List V) (lo hi : Option Int) : List V := (xs.drop (HT.sIx xs.length 0 lo)).take (HT.sIx xs.length xs.length hi - HT.sIx xs.length 0 lo)
theorem cutV_length (xs : List V) (lo hi : Option Int) : (cutV xs lo hi).length ≤ xs.length := by
  unfold cutV
  rw [List.length_take, List.length_drop]
  omega
/-- t[lo:hi], not the whole of it (the whole would be t itself) -/
noncomputable def rSlT (K : PySem.W.Frag) : V → Option Int → Option Int → Hp → VK → Prop := fun x lo hi H Q => ∃ a xs, x = .ref a ∧ SqT K H a xs ∧
  ¬ (HT.sIx xs.length 0 lo = 0 ∧ HT.sIx xs.length xs.length hi = xs.length) ∧ ∀ p, H p = none → Q (.ref p) (upd H p (.tup (cutV xs lo hi)))
theorem sl_tup : SlR X (rSlT X.K) := by
  intro pins s σ H x v vl vu lo hi sl Q I rx hs pl pu h
  obtain ⟨a, xs, rfl, hx, hw, q⟩ := h
  cases rx
  obtain ⟨its, r, ht, hz⟩ := I.tuple hx
  have hlen : its.toArray.size = xs.length := by rw [List.size_toArray]; exact r.length.symm
  refine ⟨"tuple", _, PyProof.Rows.slot_tuple_getitem.lookup, ht.typeIs, ?_⟩
  refine HT.getItem_tuple_cut ht hs pl pu (by rw [hlen]; exact hw) ?_ (by rw [hlen]; exact hz)
  rw [hlen]
  refine ⟨.ref s.heap.objs.size, _, I.laid (t' := s.toks) (o := .tup (cutV xs lo hi)) (fun b ob q => Heap.get?_push_of_some _ q) (Nat.le_refl _) ?_, rfl, q _ (I.hok.fresh (Nat.le_refl _))⟩
  exact ⟨Nat.le_trans (cutV_length xs lo hi) hz, _, (r.drop (HT.sIx xs.length 0 lo)).take (HT.sIx xs.length xs.length hi - HT.sIx xs.length 0 lo), IsTup.new _ _⟩

/-! ### t < u, t + u -/
noncomputable def rLtT (K : PySem.W.Frag) : R2 := fun x y H Q => ∃ a b ns ms, x = .ref a ∧ y = .ref b ∧ SqT K H a (ns.map V.int) ∧ SqT K H b (ms.map V.int) ∧ Q (.bl (HT.lexLt ns ms)) H
/-- t + u, t not empty: u empty gives t itself -/
noncomputable def rCatT (K : PySem.W.Frag) : R2 := fun x y H Q => ∃ a b xs ys, x = .ref a ∧ y = .ref b ∧ SqT K H a xs ∧ SqT K H b ys ∧ xs ≠ [] ∧ xs.length + ys.length ≤ sizeLine ∧
  (ys = [] → Q (.ref a) H) ∧ (ys ≠ [] → ∀ p, H p = none → Q (.ref p) (upd H p (.tup (xs ++ ys))))
theorem Vals.nil_iff {xs : List V} {us : List Value} (r : Vals xs us) : us = [] ↔ xs = [] := by
  cases r with
  | nil => simp
  | cons _ _ => simp
theorem op_catT : OpR X (binaryOp .Add) (rCatT X.K) := by
  intro pins s σ H x y v u Q I rx ry h
  obtain ⟨a, b, xs, ys, rfl, rfl, ha, hb, hx, hz, q1, q2⟩ := h
  cases rx
  cases ry
  obtain ⟨its, r1, p1, _⟩ := I.tuple ha
  obtain ⟨its2, r2, p2, _⟩ := I.tuple hb
  refine HT.cat_tup p1 p2 (fun z => hx (r1.nil_iff.mp z)) (fun z => ⟨.ref a, H, I, rfl, q1 (r2.nil_iff.mp z)⟩) (fun z => ?_) (by rw [← r1.length, ← r2.length]; exact hz)
  refine ⟨.ref s.heap.objs.size, _, I.laid (t' := s.toks) (o := .tup (xs ++ ys)) (fun b ob q => Heap.get?_push_of_some _ q) (Nat.le_refl _) ?_, rfl, q2 (fun w => z (r2.nil_iff.mpr w)) _ (I.hok.fresh (Nat.le_refl _))⟩
  exact ⟨by rw [List.length_append]; exact hz, _, r1.append r2, IsTup.new _ _⟩
end
end L2

namespace L2
open PySem PySem.Spec PyProof.Rows

/-! ### places -/
/-- the place that an index of any sign means -/
noncomputable def ixN (n : Nat) (i : Int) : Option Nat := if 0 ≤ i then (if i < n then some i.toNat else none) else if -(n : Int) ≤ i then some (i + n).toNat else none
noncomputable def atI {α : Type} (xs : List α) (i : Int) : Option α := (ixN xs.length i).bind fun j => xs[j]?
theorem ixN_seq {n : Nat} {i : Int} {j : Nat} (h : ixN n i = some j) : seqIndex? i n = some j ∧ j < n ∧ -(n : Int) ≤ i ∧ i < n := by
  unfold ixN at h
  by_cases h0 : 0 ≤ i
  · rw [if_pos h0] at h
    by_cases h1 : i < n
    · rw [if_pos h1] at h
      have e : i.toNat = j := Option.some.inj h
      exact ⟨by rw [seqIndex_of h0 h1, e], by omega, by omega, h1⟩
    · rw [if_neg h1] at h; cases h
  · rw [if_neg h0] at h
    by_cases h1 : -(n : Int) ≤ i
    · rw [if_pos h1] at h
      have e : (i + n).toNat = j := Option.some.inj h
      exact ⟨by rw [seqIndex_neg (by omega) h1, e], by omega, h1, by omega⟩
    · rw [if_neg h1] at h; cases h
theorem atI_get {α : Type} {xs : List α} {i : Int} {v : α} (h : atI xs i = some v) : ∃ j, seqIndex? i xs.length = some j ∧ xs[j]? = some v ∧ j < xs.length ∧ -(xs.length : Int) ≤ i ∧ i < xs.length := by
  unfold atI at h
  cases e : ixN xs.length i with
  | none => rw [e] at h; cases h
  | some j =>
    rw [e] at h
    obtain ⟨h1, h2, h3, h4⟩ := ixN_seq e
    exact ⟨j, h1, h, h2, h3, h4⟩
theorem atI_nat {α : Type} {xs : List α} {j : Nat} {v : α} (h : xs[j]? = some v) : atI xs (j : Int) = some v := by
  have hj : j < xs.length := (List.getElem?_eq_some_iff.mp h).1
  have e : ixN xs.length (j : Int) = some j := by
    unfold ixN
    rw [if_pos (by omega), if_pos (by omega)]; simp
  unfold atI; rw [e]; exact h

/-! ### what may be subscripted -/
/-- what stands as an index of a plain subscript -/
noncomputable def PlainIx (b : Expr) : Prop := ∀ o i, subscripted b false o i = operate [o, i] (getItem o i)
/-- a subscript by values -/
noncomputable def IxR (X : Cx) (r : R2) : Prop :=
  ∀ (value slice : Expr) (pins : List (Addr × Obj)) (s : Shared) (σ : St) (H : Hp) (x y : V) (v u : Value) (Q : VK), Inv X pins σ H s → RelV x v → RelV y u → r x y H Q →
    subscripted slice false v u = operate [v, u] (getItem v u) → wpAny (model X.prog X.w) X.A (subscriptTail value slice v u) (EP X pins σ Q) X.xe s
/-- a call of a builtin's method by values: the receiver, the arguments -/
noncomputable def MtR (X : Cx) (id : String) (r : V → List V → Hp → VK → Prop) : Prop :=
  ∀ (pins : List (Addr × Obj)) (s : Shared) (σ : St) (H : Hp) (x : V) (xs : List V) (v : Value) (us : List Value) (Q : VK), Inv X pins σ H s → RelV x v → Vals xs us → r x xs H Q →
    wpAny (model X.prog X.w) X.A (call (.builtin id) (v :: us)) (EP X pins σ Q) X.xe s
section
variable {X : Cx} {a b : Expr} {ta tb : TE} {pos : Pos}
/-- a[b] -/
theorem pe_ix {r : R2} (hr : IxR X r) (ha : PE X a ta) (hb : PE X b tb) (hs : PlainIx b) : PE X (.Subscript a b pos) (tOp r ta tb) := by
  intro pins s σ H Q I h
  exact Subscript_ (binT ha hb I h fun v u s2 x y H2 I2 rx ry q => hr a b pins s2 σ H2 x y v u Q I2 rx ry q (hs _ _))

noncomputable def rIxL (K : PySem.W.Frag) : R2 := fun x y H Q => ∃ p xs i v, x = .ref p ∧ y = .int i ∧ SqL K H p xs ∧ atI xs i = some v ∧ Q v H
noncomputable def rIxT (K : PySem.W.Frag) : R2 := fun x y H Q => ∃ p xs i v, x = .ref p ∧ y = .int i ∧ SqT K H p xs ∧ atI xs i = some v ∧ Q v H
noncomputable def rIxS : R2 := fun x y H Q => ∃ z i c, x = .str z ∧ y = .int i ∧ z.length ≤ sizeLine ∧ atI z.cps.toList i = some c ∧ Q (.str ⟨#[c]⟩) H
theorem ix_list : IxR X (rIxL X.K) := by
  intro value slice pins s σ H x y v u Q I rx ry h hs
  obtain ⟨p, xs, i, z, rfl, rfl, hq, he, q⟩ := h
  cases rx
  obtain ⟨t, rfl⟩ := ry
  obtain ⟨its, r, pl, hz⟩ := I.list hq
  obtain ⟨j, h1, h2, h3, h4, h5⟩ := atI_get he
  obtain ⟨w, ew, rw'⟩ := r.get h2
  have hl := r.length
  have hn := line63
  have fin : EP X pins σ Q w s := ⟨z, H, I, rw', q⟩
  by_cases h0 : 0 ≤ i
  · have hj : i.toNat = j := by
      rw [seqIndex_of h0 h5] at h1
      exact Option.some.inj h1
    exact item_listR pl.isList h0 (by omega) (by rw [hj]; simpa using ew) fin hs
  · have hj : (i + (its.toArray.size : Int)).toNat = j := by
      rw [seqIndex_neg (by omega) h4] at h1
      rw [List.size_toArray, ← hl]
      exact Option.some.inj h1
    exact subscriptTail_builtinR (x := w) pl.isList.typeIs slot_list_getitem.lookup
      (wpAny_getItem_list_neg (Q := fun r s' => r = w ∧ EP X pins σ Q r s') pl.isList (by omega) (by rw [List.size_toArray] <;> omega) (by omega) (by rw [hj]; simpa using ew) ⟨rfl, fin⟩) hs
theorem ix_tup : IxR X (rIxT X.K) := by
  intro value slice pins s σ H x y v u Q I rx ry h hs
  obtain ⟨p, xs, i, z, rfl, rfl, hq, he, q⟩ := h
  cases rx
  obtain ⟨t, rfl⟩ := ry
  obtain ⟨its, r, pl, hz⟩ := I.tuple hq
  obtain ⟨j, h1, h2, h3, h4, h5⟩ := atI_get he
  obtain ⟨w, ew, rw'⟩ := r.get h2
  have hl := r.length
  have hn := line63
  have fin : EP X pins σ Q w s := ⟨z, H, I, rw', q⟩
  exact subscriptTail_builtinR (x := w) pl.typeIs slot_tuple_getitem.lookup
    (getItem_tuple (j := j) (Q := fun r s' => r = w ∧ EP X pins σ Q r s') pl (by omega) (by omega) (by rw [List.size_toArray, ← hl]; exact h1) (by simpa using ew) ⟨rfl, fin⟩) hs
/-- list, tuple or str -/
noncomputable def rIx (K : PySem.W.Frag) : R2 := fun x y H Q => rIxL K x y H Q ∨ rIxT K x y H Q ∨ rIxS x y H Q

/-! ### xs[i] = v, any sign -/
/-- the list's object behind a store -/
theorem mapSeq_set (its : List Value) (n j : Nat) (u : Value) : Obj.mapSeq (·.setIfInBounds j u) { cls := .type "list", data := .seq its.toArray n } = { cls := .type "list", data := .seq (its.set j u).toArray n } := by
  simp [Obj.mapSeq]
theorem Inv.lst {pins : List (Addr × Obj)} {σ : St} {H : Hp} {s : Shared} {p : Addr} {xs : List V} (I : Inv X pins σ H s) (h : H p = some (.lst xs)) :
    ∃ (its : List Value) (n : Nat), Vals xs its ∧ s.heap.get? p = some { cls := .type "list", data := .seq its.toArray n } ∧ xs.length ≤ sizeLine := by
  obtain ⟨z, its, n, r, e⟩ := I.hok p _ h
  exact ⟨its, n, r, e, z⟩
/-- the list at p is written by an update of its object -/
theorem Inv.lstUpd {pins : List (Addr × Obj)} {σ : St} {H : Hp} {s : Shared} {p : Addr} {xs ys : List V} {its its' : List Value} {n n' : Nat} {f : Obj → Obj} (I : Inv X pins σ H s) (h : H p = some (.lst xs))
    (ho : s.heap.get? p = some { cls := .type "list", data := .seq its.toArray n }) (hf : f { cls := .type "list", data := .seq its.toArray n } = { cls := .type "list", data := .seq its'.toArray n' }) (r : Vals ys its') (hz : ys.length ≤ sizeLine) (t : Nat) :
    Inv X pins σ (upd H p (.lst ys)) { s with heap := s.heap.update p f, toks := t } := by
  have e : (s.heap.update p f).get? p = some { cls := .type "list", data := .seq its'.toArray n' } := by
    rw [Heap.get?_update_self f ho (by rw [hf] <;> rfl), hf]
  refine I.write (x := p) (e := p) (by rw [h]; trivial) (.inl rfl) (fun b u hb q => (Heap.get?_update_other _ _ (Ne.symm hb)).trans q) ⟨_, e⟩ ?_
  exact ⟨hz, its', n', r, e⟩
noncomputable def rSetL : V → V → V → Hp → (Hp → Prop) → Prop := fun o i v H Q => ∃ p xs k j, o = .ref p ∧ i = .int k ∧ H p = some (.lst xs) ∧ ixN xs.length k = some j ∧ Q (upd H p (.lst (xs.set j v)))
theorem set_list : PSet X rSetL := by
  intro pins s σ H o i v ov iv u Q I ro ri rv h
  obtain ⟨p, xs, k, j, rfl, rfl, hp, hj, q⟩ := h
  cases ro
  obtain ⟨t, rfl⟩ := ri
  obtain ⟨its, n, r, ho, hz⟩ := I.lst hp
  obtain ⟨h1, h2, h3, h4⟩ := ixN_seq hj
  have hl := r.length
  have hn := line63
  have I' : Inv X pins σ (upd H p (.lst (xs.set j v))) { s with heap := s.heap.update p (Obj.mapSeq (·.setIfInBounds j u)) } :=
    I.lstUpd hp ho (mapSeq_set its n j u) (r.set rv j) (by rw [List.length_set]; exact hz) s.toks
  by_cases h0 : 0 ≤ k
  · have hk : k.toNat = j := by
      rw [seqIndex_of h0 h4] at h1
      exact Option.some.inj h1
    exact PySem.W.ki_setAt ho h0 (by omega) (by rw [List.size_toArray, ← hl]; exact h4) (by rw [hk]; exact ⟨_, I', q⟩)
  · have hk : (k + (its.toArray.size : Int)).toNat = j := by
      rw [seqIndex_neg (by omega) h3] at h1
      rw [List.size_toArray, ← hl]
      exact Option.some.inj h1
    exact PySem.W.ki_setBack ho (by omega) (by rw [List.size_toArray, ← hl]; exact h3) (by omega) (by rw [hk]; exact ⟨_, I', q⟩)

/-! ### slices -/
theorem slice_bounds (lo hi : Option Int) (n : Nat) : (sliceBounds lo hi none n).1 = ((HT.sIx n 0 lo : Nat) : Int) ∧ (sliceBounds lo hi none n).2.1 = ((HT.sIx n n hi : Nat) : Int) ∧ (sliceBounds lo hi none n).2.2 = 1 := by
  refine ⟨?_, ?_, rfl⟩
  · cases lo with
    | none => simp [sliceBounds, HT.sIx]
    | some i =>
      simp only [sliceBounds, HT.sIx, Option.getD_none, show (1 : Int) > 0 by decide, if_true]
      by_cases h : i < 0
      · simp only [h, if_true] <;> omega
      · simp only [h, if_false] <;> omega
  · cases hi with
    | none => simp [sliceBounds, HT.sIx]
    | some i =>
      simp only [sliceBounds, HT.sIx, Option.getD_none, show (1 : Int) > 0 by decide, if_true]
      by_cases h : i < 0
      · simp only [h, if_true] <;> omega
      · simp only [h, if_false] <;> omega
theorem slicePick_cut (its : List Value) (lo hi : Option Int) : slicePick its.toArray lo hi none = ((its.drop (HT.sIx its.length 0 lo)).take (HT.sIx its.length its.length hi - HT.sIx its.length 0 lo)).toArray := by
  obtain ⟨h1, h2, h3⟩ := slice_bounds lo hi its.toArray.size
  unfold slicePick
  rw [h1, h2, h3]
  simp only [sliceRange_one, pick_run, List.size_toArray] <;> rfl
/-- xs[lo:hi] of a list: a new list -/
noncomputable def rSlL (K : PySem.W.Frag) : V → Option Int → Option Int → Hp → VK → Prop := fun x lo hi H Q => ∃ a xs, x = .ref a ∧ SqL K H a xs ∧ ∀ p, H p = none → Q (.ref p) (upd H p (.lst (cutV xs lo hi)))
theorem sl_list : SlR X (rSlL X.K) := by
  intro pins s σ H x v vl vu lo hi sl Q I rx hs pl pu h
  obtain ⟨a, xs, rfl, hx, q⟩ := h
  cases rx
  obtain ⟨its, r, ht, hz⟩ := I.list hx
  have hlen := r.length
  refine ⟨"list", _, slot_list_getitem.lookup, ht.isList.typeIs, ?_⟩
  refine wpAny_getItem_list_slice ht.isList hs pl pu .none (by simp) ?_ (by rw [List.size_toArray] <;> omega)
  rw [slicePick_cut, ← hlen]
  refine ⟨.ref s.heap.objs.size, _, I.laid (t' := s.toks) (o := .lst (cutV xs lo hi)) (fun b ob q => Heap.get?_push_of_some _ q) (Nat.le_refl _) ?_, rfl, q _ (I.hok.fresh (Nat.le_refl _))⟩
  exact ⟨Nat.le_trans (cutV_length xs lo hi) hz, _, 0, (r.drop (HT.sIx xs.length 0 lo)).take (HT.sIx xs.length xs.length hi - HT.sIx xs.length 0 lo), Heap.get?_push_size _ rfl⟩

/-! ### in, not in: flat items -/
noncomputable def flatV : V → Bool
  | .non => true
  | .bl _ => true
  | .int _ => true
  | .str _ => true
  | _ => false
/-- == of flat values -/
noncomputable def eqV : V → V → Bool
  | .non, .non => true
  | .bl a, .bl b => a == b
  | .bl a, .int b => (if a then 1 else 0) == b
  | .int a, .bl b => a == (if b then 1 else 0)
  | .int a, .int b => a == b
  | .str a, .str b => a == b
  | _, _ => false
theorem eqAt_V {A : Around} {s : Shared} {y x : V} {u v : Value} (ry : RelV y u) (rx : RelV x v) (fy : flatV y = true) (fx : flatV x = true) : SeqAt.EqAt A s u v (eqV y x) := by
  cases y with
  | non =>
    cases ry
    cases x with
    | non => cases rx; exact SeqAt.EqAt.same _
    | bl b => cases rx; exact SeqAt.EqAt.none_bool b
    | int b => obtain ⟨t, rfl⟩ := rx; exact SeqAt.EqAt.none_int b t
    | str b => obtain ⟨t, rfl⟩ := rx; exact SeqAt.EqAt.none_str b t
    | _ => exact absurd (show false = true from fx) Bool.false_ne_true
  | bl a =>
    cases ry
    cases x with
    | non => cases rx; exact SeqAt.EqAt.bool_none a
    | bl b => cases rx; exact SeqAt.EqAt.bool_bool a b
    | int b => obtain ⟨t, rfl⟩ := rx; exact SeqAt.EqAt.bool_int a b t
    | str b => obtain ⟨t, rfl⟩ := rx; exact SeqAt.EqAt.bool_str a b t
    | _ => exact absurd (show false = true from fx) Bool.false_ne_true
  | int a =>
    obtain ⟨t', rfl⟩ := ry
    cases x with
    | non => cases rx; exact SeqAt.EqAt.int_none a t'
    | bl b => cases rx; exact SeqAt.EqAt.int_bool a t' b
    | int b => obtain ⟨t, rfl⟩ := rx; exact SeqAt.EqAt.int_int a t' b t
    | str b => obtain ⟨t, rfl⟩ := rx; exact SeqAt.EqAt.int_str a t' b t
    | _ => exact absurd (show false = true from fx) Bool.false_ne_true
  | str a =>
    obtain ⟨t', rfl⟩ := ry
    cases x with
    | non => cases rx; exact SeqAt.EqAt.str_none a t'
    | bl b => cases rx; exact SeqAt.EqAt.str_bool a t' b
    | int b => obtain ⟨t, rfl⟩ := rx; exact SeqAt.EqAt.str_int a t' b t
    | str b => obtain ⟨t, rfl⟩ := rx; exact SeqAt.EqAt.str_str a t' b t
    | _ => exact absurd (show false = true from fx) Bool.false_ne_true
  | _ => exact absurd (show false = true from fy) Bool.false_ne_true
/-- the items' answers, read off the values (a value's own answer does not lean on its token) -/
noncomputable def eqU (x : V) (u : Value) : Bool := match u with
  | .none => eqV .non x
  | .bool b => eqV (.bl b) x
  | .int i _ => eqV (.int i) x
  | .str z _ => eqV (.str z) x
  | _ => false
theorem eqU_of {x y : V} {u : Value} (r : RelV y u) (f : flatV y = true) : eqU x u = eqV y x := by
  cases y with
  | non => cases r; rfl
  | bl b => cases r; rfl
  | int i => obtain ⟨t, rfl⟩ := r; rfl
  | str z => obtain ⟨t, rfl⟩ := r; rfl
  | _ => exact absurd (show false = true from f) Bool.false_ne_true
theorem any_eqU {x : V} : ∀ {xs : List V} {us : List Value}, Vals xs us → xs.all flatV = true → us.any (eqU x) = xs.any fun y => eqV y x
  | _, _, .nil, _ => rfl
  | y :: xs, u :: us, .cons r t, f => by
    rw [List.all_cons, Bool.and_eq_true] at f
    rw [List.any_cons, List.any_cons, eqU_of r f.1, any_eqU t f.2]
theorem mem_eqAt {A : Around} {s : Shared} {x : V} {v : Value} (rx : RelV x v) (fx : flatV x = true) : ∀ {xs : List V} {us : List Value}, Vals xs us → xs.all flatV = true → ∀ u ∈ us, SeqAt.EqAt A s u v (eqU x u)
  | _, _, .nil, _ => fun u hu => by cases hu
  | y :: xs, u :: us, .cons r t, f => fun u' hu => by
    rw [List.all_cons, Bool.and_eq_true] at f
    rcases List.mem_cons.mp hu with rfl | hu
    · rw [eqU_of r f.1]; exact eqAt_V r rx f.1 fx
    · exact mem_eqAt rx fx t f.2 u' hu
noncomputable def inV (x : V) (xs : List V) : Bool := xs.any fun y => eqV y x
/-- x in a list or tuple of flat items -/
noncomputable def rIn (K : PySem.W.Frag) (neg : Bool) : R2 := fun x y H Q => ∃ p xs, y = .ref p ∧ (SqL K H p xs ∨ SqT K H p xs) ∧ flatV x = true ∧ xs.all flatV = true ∧ Q (.bl (if neg then !inV x xs else inV x xs)) H
theorem op_in_seq : OpR X (compareOp .In) (rIn X.K false) := by
  intro pins s σ H x y v u Q I rx ry h
  obtain ⟨p, xs, rfl, hq, fx, fs, q⟩ := h
  cases ry
  rcases hq with hq | hq
  · obtain ⟨its, r, pl, hz⟩ := I.list hq
    refine SeqAt.in_listAt (eqU x) pl.isList (fun w hw => mem_eqAt rx fx r fs w (by simpa using hw)) ⟨.bl _, H, I, rfl, ?_⟩
    rw [show its.toArray.any (eqU x) = its.any (eqU x) by simp, any_eqU r fs]
    exact q
  · obtain ⟨its, r, pl, hz⟩ := I.tuple hq
    refine SeqAt.in_tupleAt (eqU x) pl (fun w hw => mem_eqAt rx fx r fs w (by simpa using hw)) ⟨.bl _, H, I, rfl, ?_⟩
    rw [show its.toArray.any (eqU x) = its.any (eqU x) by simp, any_eqU r fs]
    exact q

/-! ### len, list(x), tuple(x) of any list or tuple that is read -/
theorem call_len_seq : CallR X (.builtin "len") (fun xs H Q => ∃ p ys, xs = [.ref p] ∧ (SqL X.K H p ys ∨ SqT X.K H p ys) ∧ Q (.int ys.length) H) := by
  intro pins s σ H xs us Q I r h
  obtain ⟨p, ys, rfl, hq, q⟩ := h
  obtain ⟨u, rfl, rx⟩ := vals1 r
  cases rx
  have hn := line63
  rcases hq with hq | hq
  · obtain ⟨its, r', pl, hz⟩ := I.list hq
    have hlen := r'.length
    exact Calls.call_len_list pl.isList (by simp only [List.size_toArray] <;> omega) ⟨.int ys.length, H, I.tok _, ⟨s.toks + 1, by rw [List.size_toArray, hlen]⟩, q⟩
  · obtain ⟨its, r', pl, hz⟩ := I.tuple hq
    have hlen := r'.length
    exact len_tuple pl (by simp only [List.size_toArray] <;> omega) ⟨.int ys.length, H, I.tok _, ⟨s.toks + 1, by rw [List.size_toArray, hlen]⟩, q⟩
theorem call_list_of : CallR X (.type "list") (fun xs H Q => ∃ p ys, xs = [.ref p] ∧ (SqL X.K H p ys ∨ SqT X.K H p ys) ∧ ∀ l, H l = none → Q (.ref l) (upd H l (.lst ys))) := by
  intro pins s σ H xs us Q I r h
  obtain ⟨p, ys, rfl, hq, q⟩ := h
  obtain ⟨u, rfl, rx⟩ := vals1 r
  cases rx
  have fin : ∀ (its : List Value), Vals ys its → ys.length ≤ sizeLine → ∀ (h' : Heap) (c' : Nat), (∀ b o', s.heap.get? b = some o' → h'.get? b = some o') →
      h'.get? s.heap.objs.size = some { cls := .type "list", dict := none, data := .seq its.toArray c', slots := #[] } → EP X pins σ Q (.ref s.heap.objs.size) { s with heap := h' } := fun its r' hz h' c' kp e =>
    ⟨.ref s.heap.objs.size, _, I.laid (t' := s.toks) kp (Nat.le_refl _) (show ObjOk X.prog X.w _ h' _ (.lst ys) from ⟨hz, its, c', r', e⟩), rfl, q _ (I.hok.fresh (Nat.le_refl _))⟩
  rcases hq with hq | hq
  · obtain ⟨its, r', pl, hz⟩ := I.list hq
    have hlen := r'.length
    obtain ⟨o, ho, hc, n, hd⟩ := pl.isList
    exact call_list_seq p (.inl rfl) ho hc hd (fun h' c' kp e => fin its r' hz h' c' kp e) (by simp only [List.size_toArray] <;> omega)
  · obtain ⟨its, r', pl, hz⟩ := I.tuple hq
    have hlen := r'.length
    obtain ⟨o, ho, hc, n, hd⟩ := pl
    exact call_list_seq p (.inr rfl) ho hc hd (fun h' c' kp e => fin its r' hz h' c' kp e) (by simp only [List.size_toArray] <;> omega)
theorem call_tuple_of : CallR X (.type "tuple") (fun xs H Q => ∃ p ys, xs = [.ref p] ∧ ((SqL X.K H p ys ∧ ∀ l, H l = none → Q (.ref l) (upd H l (.tup ys))) ∨ (SqT X.K H p ys ∧ Q (.ref p) H))) := by
  intro pins s σ H xs us Q I r h
  obtain ⟨p, ys, rfl, h⟩ := h
  obtain ⟨u, rfl, rx⟩ := vals1 r
  cases rx
  rcases h with ⟨hq, q⟩ | ⟨hq, q⟩
  · obtain ⟨its, r', pl, hz⟩ := I.list hq
    have hlen := r'.length
    refine call_tuple_list pl.isList (fun h' kp => ?_) (by simp only [List.size_toArray] <;> omega)
    have I1 : Inv X pins σ H { s with heap := h' } := I.kept (t' := s.toks) kp
    have I2 : Inv X pins σ (upd H h'.objs.size (.tup ys)) { s with heap := h'.push { cls := .type "tuple", data := .seq its.toArray } } :=
      I1.laid (t' := s.toks) (fun b o e => Heap.get?_push_of_some _ e) (Nat.le_refl _) (show ObjOk X.prog X.w _ _ _ (.tup ys) from ⟨hz, its, r', IsTup.new _ _⟩)
    exact ⟨.ref h'.objs.size, _, I2, rfl, q _ (I1.hok.fresh (Nat.le_refl _))⟩
  · obtain ⟨its, r', pl, hz⟩ := I.tuple hq
    exact call_tuple_same pl ⟨.ref p, H, I, rfl, q⟩

/-! ### the call of a builtin's method: o.m(..) -/
/-- the value is of that builtin type -/
noncomputable def tyV (K : PySem.W.Frag) (T : String) (x : V) (H : Hp) : Prop := match x with
  | .str _ => T = "str"
  | .int _ => T = "int"
  | .ref p => (T = "list" ∧ ∃ xs, SqL K H p xs) ∨ (T = "tuple" ∧ ∃ o, K.lookup p = some o ∧ o.cls = .type "tuple" ∧ o.dict = none) ∨
      (T = "dict" ∧ ((∃ kvs, H p = some (.dK kvs)) ∨ ∃ kvs, H p = some (.dT kvs))) ∨ (T = "set" ∧ ∃ S n, H p = some (.set S n))
  | _ => False
theorem tyV_is {pins : List (Addr × Obj)} {σ : St} {H : Hp} {s : Shared} {T : String} {x : V} {v : Value} (I : Inv X pins σ H s) (r : RelV x v) (ty : tyV X.K T x H) :
    s.TypeIs v T ∧ ∀ a, v = .ref a → ∃ ob, s.heap.get? a = some ob ∧ ob.dict = none := by
  cases x with
  | str z =>
    obtain ⟨t, rfl⟩ := r
    cases (show T = "str" from ty)
    exact ⟨typeIs_str s z t, fun _ e => nomatch e⟩
  | int i =>
    obtain ⟨t, rfl⟩ := r
    cases (show T = "int" from ty)
    exact ⟨typeIs_int s i t, fun _ e => nomatch e⟩
  | ref p =>
    cases r
    rcases ty with ⟨rfl, xs, hq⟩ | ⟨rfl, o, hk, hc, hd⟩ | ⟨rfl, hk⟩ | ⟨rfl, S, n, hk⟩
    · obtain ⟨its, _, pl, _⟩ := I.list hq
      refine ⟨pl.isList.typeIs, fun a e => ?_⟩
      cases e
      obtain ⟨o, n, e, c, hd, _⟩ := pl
      exact ⟨o, e, hd⟩
    · refine ⟨⟨o, I.kIn p o hk, hc⟩, fun a e => ?_⟩
      cases e
      exact ⟨o, I.kIn _ o hk, hd⟩
    · have z : ∃ o, s.heap.get? p = some o ∧ o.ExactDict := by
        rcases hk with ⟨kvs, hk⟩ | ⟨kvs, hk⟩
        · obtain ⟨_, _, _, _, o, _, _, e, ex, _⟩ := I.hok p _ hk
          exact ⟨o, e, ex⟩
        · obtain ⟨_, _, _, _, o, _, _, e, ex, _⟩ := I.hok p _ hk
          exact ⟨o, e, ex⟩
      obtain ⟨o, e, ex⟩ := z
      refine ⟨⟨o, e, ex.1⟩, fun a e2 => ?_⟩
      cases e2
      exact ⟨o, e, ex.2.1⟩
    · obtain ⟨o, _, _, _, e, ex, _⟩ := I.hok p _ hk
      refine ⟨⟨o, e, ex.1⟩, fun a e2 => ?_⟩
      cases e2
      exact ⟨o, e, ex.2.1⟩
  | _ => exact False.elim ty
noncomputable def tBM0 (K : PySem.W.Frag) (T : String) (r : V → List V → Hp → VK → Prop) (to : TE) : TE := fun σ H Q => to σ H fun x H1 => tyV K T x H1 ∧ r x [] H1 Q
noncomputable def tBM (K : PySem.W.Frag) (T : String) (r : V → List V → Hp → VK → Prop) (to : TE) (t : TA) : TE := fun σ H Q => to σ H fun x H1 => tyV K T x H1 ∧ t σ H1 fun xs H2 => r x xs H2 Q
variable {o e : Expr} {es : List Expr} {to : TE} {t : TA} {name : Str} {apos cpos : Pos} {T id : String} {r : V → List V → Hp → VK → Prop}
theorem pe_bm0 (pa : PlainAttrs T) (slot : Slot T name id) (hty : typeOf (.builtin id) = pure (.type "method_descriptor")) (hm : MtR X id r) (ho : PE X o to)
    (hbase : attributeBase o name X.env (eval o X.env) = eval o X.env := by rfl) (hline : (apos.endLine == cpos.line) = true := by rfl) : PE X (.Call (.Attribute o name apos) [] [] cpos) (tBM0 X.K T r to) := by
  intro pins s σ H Q I h
  refine wpAny_Call_method0_late hbase hline (thn (ho pins s σ H _ I h) fun v s1 ⟨x, H1, I1, r1, ty, q1⟩ => ?_)
  obtain ⟨h1, h2⟩ := tyV_is I1 r1 ty
  exact ⟨T, id, pa, slot, hty, h1, h2, Calls.callWith_builtin rfl (PySem.evalArgs_none (hm pins s1 σ H1 x [] v [] Q I1 r1 .nil q1))⟩
theorem pe_bm (pa : PlainAttrs T) (slot : Slot T name id) (hty : typeOf (.builtin id) = pure (.type "method_descriptor")) (hm : MtR X id r) (ho : PE X o to) (ha : PA X (e :: es) t)
    (hbase : attributeBase o name X.env (eval o X.env) = eval o X.env := by rfl)
    (hfew : ((backTo cpos (starEach (e :: es) X.env)).all (fun x => !x.1) && (backToKw cpos (keywordEach [] X.env)).all (fun x => x.1.isSome)
      && decide ((e :: es).length + ([] : List Keyword).length + (if ([] : List Keyword).isEmpty then 0 else 1) < 30)) = true := by rfl)
    (hline : (apos.endLine == cpos.line) = true := by rfl) (hs : starEach (e :: es) X.env = (false, eval e X.env) :: starEach es X.env := by rfl) (hplain : (backTo cpos (starEach es X.env)).any (·.1) = false := by rfl) :
    PE X (.Call (.Attribute o name apos) (e :: es) [] cpos) (tBM X.K T r to t) := by
  intro pins s σ H Q I h
  refine wpAny_Call_method_late hbase hfew hline rfl (thn (ho pins s σ H _ I h) fun v s1 ⟨x, H1, I1, r1, ty, q1⟩ => ?_)
  obtain ⟨h1, h2⟩ := tyV_is I1 r1 ty
  refine ⟨T, id, pa, slot, hty, h1, h2, ?_⟩
  have hA := ha cpos pins s1 σ H1 _ I1 q1
  rw [hs] at hA ⊢
  refine Calls.callWith_builtin (by show (false || (backTo cpos (starEach es X.env)).any (·.1)) = false; rw [hplain] <;> rfl) (Calls.evalArgs_plain ?_)
  exact thn hA fun us s2 ⟨vs, H2, I2, r2, q2⟩ => hm pins s2 σ H2 x vs v us Q I2 r1 r2 q2
/- xs.append(e), list.index on a module's tuple .. are MtR facts of 06m -/
end
end L2

namespace L2
open PySem PySem.Spec PyProof.Rows

noncomputable def MtM (X : Cx) (id : String) (r : V → List V → Hp → VK → Prop) : Prop :=
  ∀ (pins : List (Addr × Obj)) (s : Shared) (σ : St) (H : Hp) (x : V) (xs : List V) (v : Value) (us : List Value) (Q : VK), Inv X pins σ H s → RelV x v → Vals xs us → r x xs H Q →
    wpAny (model X.prog X.w) X.A (call (.builtin id) (v :: us)) (EP X pins σ Q) X.xe s

/-! ### lists of values -/
theorem Vals.one : ∀ {x : V} {us : List Value}, Vals [x] us → ∃ u, us = [u] ∧ RelV x u
  | _, _, .cons r .nil => ⟨_, rfl, r⟩
theorem Vals.zero : ∀ {us : List Value}, Vals [] us → us = []
  | _, .nil => rfl

section
variable {X : Cx} {pins : List (Addr × Obj)} {σ : St} {H : Hp} {s : Shared} {l b : Addr} {xs ys zs : List V}

/-! ### the two steps: a tracked list is rewritten, a new list is laid -/
theorem Inv.lset {its its' : List Value} {n : Nat} {f : Array Value → Array Value} {t' : Nat} (I : Inv X pins σ H s) (hH : H l = some (.lst xs))
    (e : s.heap.get? l = some { cls := .type "list", data := .seq its.toArray n }) (hf : f its.toArray = its'.toArray) (hv : Vals ys its') (hz : ys.length ≤ sizeLine) :
    Inv X pins σ (upd H l (.lst ys)) { s with heap := s.heap.update l (Obj.mapSeq f), toks := t' } := by
  have q := PySem.IsL.update e f
  rw [hf] at q
  refine I.write (x := l) (e := l) (by rw [hH]; exact trivial) (.inl rfl) (fun b' u hb hu => (Heap.get?_update_other s.heap (Obj.mapSeq f) (Ne.symm hb)).trans hu) ⟨_, q⟩ ?_
  exact ⟨hz, its', _, hv, q⟩
theorem Inv.lnew {its : List Value} {t' : Nat} (I : Inv X pins σ H s) (hv : Vals ys its) (hz : ys.length ≤ sizeLine) :
    Inv X pins σ (upd H s.heap.objs.size (.lst ys)) { s with heap := s.heap.push { cls := .type "list", data := .seq its.toArray }, toks := t' } :=
  I.laid (fun _ _ q => Heap.get?_push_of_some _ q) (Nat.le_refl _) ⟨hz, its, 0, hv, Heap.get?_push_size _ rfl⟩
theorem Inv.fresh (I : Inv X pins σ H s) : H s.heap.objs.size = none := I.hok.fresh (Nat.le_refl _)
theorem Inv.lstM (I : Inv X pins σ H s) (hH : H l = some (.lst xs)) : xs.length ≤ sizeLine ∧ ∃ (its : List Value) (n : Nat), Vals xs its ∧ xs.length = its.length ∧ s.heap.get? l = some { cls := .type "list", data := .seq its.toArray n } := by
  obtain ⟨z, its, n, r, e⟩ := I.hok l _ hH
  exact ⟨z, its, n, r, r.length, e⟩

end

section
variable {X : Cx}

/-! ### methods -/
noncomputable def rAppend : V → List V → Hp → VK → Prop := fun x vs H Q => ∃ l xs y, x = .ref l ∧ vs = [y] ∧ H l = some (.lst xs) ∧ xs.length < sizeLine ∧ Q .non (upd H l (.lst (xs ++ [y])))
theorem mt_append : MtM X "list.append" rAppend := by
  intro pins s σ H x vs v us Q I rx rv h
  obtain ⟨l, xs, y, rfl, rfl, hH, hz, q⟩ := h
  cases rx
  obtain ⟨u, rfl, ru⟩ := rv.one
  obtain ⟨z, its, n, r, hl, e⟩ := I.lstM hH
  refine call_meets F.slot_list_append ⟨_, e, rfl⟩ F.entry_list_append (F.args_list_append_2 _ _) (PySem.list_append l its.toArray n u (by rw [List.size_toArray]; omega)) ⟨e, ?_⟩
  refine ⟨.non, _, I.lset (its' := its ++ [u]) hH e (by simp) (r.append (.cons ru .nil)) ?_, rfl, q⟩
  rw [List.length_append, List.length_singleton]
  omega

noncomputable def rExtend : V → List V → Hp → VK → Prop := fun x vs H Q => ∃ l b xs zs, x = .ref l ∧ vs = [.ref b] ∧ H l = some (.lst xs) ∧ H b = some (.lst zs) ∧ xs.length + zs.length ≤ sizeLine ∧ Q .non (upd H l (.lst (xs ++ zs)))
noncomputable def rPop : V → List V → Hp → VK → Prop := fun x vs H Q => ∃ l xs y, x = .ref l ∧ vs = [] ∧ H l = some (.lst xs) ∧ xs[xs.length - 1]? = some y ∧ Q y (upd H l (.lst xs.dropLast))
noncomputable def rPopAt : V → List V → Hp → VK → Prop := fun x vs H Q => ∃ l xs i k y, x = .ref l ∧ vs = [.int i] ∧ H l = some (.lst xs) ∧ -(2 ^ 63) ≤ i ∧ i < 2 ^ 63 ∧ seqIndex? i xs.length = some k ∧ xs[k]? = some y ∧ Q y (upd H l (.lst (xs.eraseIdx k)))

noncomputable def rReverse : V → List V → Hp → VK → Prop := fun x vs H Q => ∃ l xs, x = .ref l ∧ vs = [] ∧ H l = some (.lst xs) ∧ Q .non (upd H l (.lst xs.reverse))

noncomputable def rClear : V → List V → Hp → VK → Prop := fun x vs H Q => ∃ l xs, x = .ref l ∧ vs = [] ∧ H l = some (.lst xs) ∧ Q .non (upd H l (.lst []))
theorem mt_clear : MtM X "list.clear" rClear := by
  intro pins s σ H x vs v us Q I rx rv h
  obtain ⟨l, xs, rfl, rfl, hH, q⟩ := h
  cases rx
  have hus := rv.zero
  subst hus
  obtain ⟨z, its, n, r, hl, e⟩ := I.lstM hH
  refine call_meets F.slot_list_clear ⟨_, e, rfl⟩ F.entry_list_clear (F.args_list_clear_1 _) (AutoSeq1.list_clear_list_0 l its.toArray n (by rw [List.size_toArray]; omega)) ⟨e, ?_⟩
  exact ⟨.non, _, I.lset (its' := []) (ys := []) hH e rfl .nil (Nat.zero_le _), rfl, q⟩

/-! ### list + list, list += list, list * int -/
noncomputable def rCat : R2 := fun x y H Q => ∃ l b xs zs, x = .ref l ∧ y = .ref b ∧ H l = some (.lst xs) ∧ H b = some (.lst zs) ∧ xs.length + zs.length ≤ sizeLine ∧ ∀ p, H p = none → Q (.ref p) (upd H p (.lst (xs ++ zs)))
theorem op_cat : OpR X (binaryOp .Add) rCat := by
  intro pins s σ H x y v u Q I rx ry h
  obtain ⟨l, b, xs, zs, rfl, rfl, hH, hB, hz, q⟩ := h
  cases rx
  cases ry
  obtain ⟨z, its, n, r, hl, e⟩ := I.lstM hH
  obtain ⟨z2, its2, n2, r2, hl2, e2⟩ := I.lstM hB
  refine PySem.P.add_list e e2 ?_ (by rw [List.size_toArray, List.size_toArray]; omega)
  have ea : its.toArray ++ its2.toArray = (its ++ its2).toArray := by simp
  rw [ea]
  exact ⟨.ref _, _, I.lnew (t' := s.toks) (r.append r2) (by rw [List.length_append]; omega), rfl, q _ I.fresh⟩
/-- a list times an int (a negative one is nothing) -/
noncomputable def rRep : R2 := fun x y H Q => ∃ l k xs, x = .ref l ∧ y = .int k ∧ H l = some (.lst xs) ∧ -(2 ^ 63) ≤ k ∧ k < 2 ^ 63 ∧ xs.length * k.toNat ≤ sizeLine ∧
  ∀ p, H p = none → Q (.ref p) (upd H p (.lst (List.replicate k.toNat xs).flatten))

/-! ### del xs[i] -/
end

/-! ### xs[a:b] = ys -/
section
variable {prog : Program} {w : World} {A : Around} {E : Value → Shared → Prop} {s : Shared}
set_option maxRecDepth 100000 in
end

section
variable {X : Cx}
end
end L2

namespace Att
open PySem PySem.W PySem.Calls PyProof.Rows

/-! ### the script -/
theorem ints_of_wellAll {P : Params} {h : Heap} : ∀ (ns : List Int) (vs : List Value), WellAll P h vs (ns.map WData.int) → IntsAre vs ns := by
  intro ns
  induction ns with
  | nil =>
    intro vs w
    rw [List.map_nil] at w
    cases w
    exact .nil
  | cons n ns ih =>
    intro vs w
    rw [List.map_cons] at w
    cases w with
    | cons a b =>
      cases a
      exact .cons _ _ (ih _ b)

theorem script_of {l : OpenLaw} {n : Nat} (hn : l.most = some n) {P : Params} {h : Heap} {args : List WData} {vals : List Value}
    (hpre : l.row.toRowW.claim.pre args = true) (hwl : WellAll P h vals args) :
    ∃ a vs ns, vals = [Value.ref a] ∧ args = [WData.list (ns.map WData.int)] ∧ h.get? a = some { cls := .type "list", data := .seq vs.toArray } ∧ IntsAre vs ns ∧ ns.length ≤ n := by
  have hsh : WShape.hasAll [] args [.list .int] = true := (pre_splitW hpre).1
  have hc : l.pre.holds [] { args := args } = true := (pre_splitW hpre).2
  obtain ⟨d, r, rfl, h1, h2⟩ := hasAllW_cons hsh
  obtain rfl := hasAllW_nil h2
  obtain ⟨xs, rfl, h3⟩ := hasW_list h1
  obtain ⟨ns, rfl⟩ := items_int h3
  have hlen : ns.length ≤ n := by
    unfold OpenLaw.pre at hc
    have h4 : (WTm.not (.lt (.lit (.int (n : Int))) (.len (.arg 0)))).holds [] { args := [.list (ns.map .int)] } = true := by
      have h4 := (holds_andW hc).1
      rw [hn] at h4
      exact h4
    have h5 := condW_of h4 (w_not (w_lt w_lit (w_len_list (w_arg rfl))))
    rw [List.length_map] at h5
    refine Nat.le_of_not_lt fun q => ?_
    have q' : (n : Int) < ((ns.length : Nat) : Int) := by omega
    first
      | (rw [decide_eq_true q'] at h5; exact absurd h5 (by decide))
      | (simp at h5; omega)
  cases hwl with
  | cons w1 w2 =>
    cases w2
    cases w1 with
    | list ho hall => exact ⟨_, _, ns, rfl, rfl, ho, ints_of_wellAll ns _ hall, hlen⟩

theorem post_true (l : OpenLaw) (args : List WData) : l.row.toRowW.claim.post args (.bool true) args = true :=
  postW_of (r := l.row.toRowW) (X := (true == true))
    (show WShape.has [] (.bool true) .bool = true by first | rfl | decide | simp [WShape.has, WShape.arms, WShape.armsAll])
    (show (WTm.eq .res (.lit (.bool true))).value [] { args := args, res := some (.bool true), after := args } = some (.bool (true == true)) from w_eq_bool (w_res rfl) w_lit) rfl

/-! ### the attachment: holds_open's last premise (the goal 'hc' behind k_head) from a wpAny of the law's body -/

/-- the same from a codeAny of the CALL (for a layer whose function contracts speak of calls) -/
theorem attach_call {l : OpenLaw} {n : Nat} {q : Program} {loose : List Str} {XP : (Str → Option Value) → Heap → Prop} {YP : World → Heap → Prop} {d : DefRec}
    (hn : l.most = some n) (hdf : d.params.defaults = [])
    (call : ∀ (w : World) (s₀ s₁ : Shared) (mg mb : Str → Option Value) (fa : Addr) (o : Obj) (pm cd doc : Value) (a : Addr) (vs : List Value) (ns : List Int),
      Ground q loose [] XP w s₀ mg mb s₁.heap → YP w s₁.heap →
      s₁.heap.get? fa = some o → o.data = .func (docDef d.name d.params d.body d.scope pm cd doc) → s₁.heap.CodeRec cd d.name → mg d.name = some (.ref fa) →
      s₁.heap.get? a = some { cls := .type "list", data := .seq vs.toArray } → IntsAre vs ns → ns.length ≤ n → s₁.gens = #[] →
      codeAny (model l.prog w) callerA (.call (.ref fa) ⟨[.ref a], []⟩) (fun r s' => r = .ok (.ret (.bool true)) ∧ OldK s₁.heap s'.heap ∧ s'.os = s₁.os ∧ AllBare s'.gens) s₁) :
    WalkO q loose XP YP l.row.toRowW d [] (fun f vs => PySem.call f vs) := by
  intro w s₀ s₁ mg mb G Y fa o pm cd doc dV kV ho hd hcd hD hmg hg args vals as hpre hlay hrd hwl hlo
  obtain rfl : dV = .none := Dflts.none hD hdf
  obtain rfl : kV = .none := Dflts.noKw hD
  obtain ⟨a, vs, ns, rfl, rfl, hobj, hints, hlen⟩ := script_of hn hpre hwl
  refine enter_call (codeAny_mono (call w s₀ s₁ mg mb fa o pm cd doc a vs ns G Y ho (fd_plain hd) hcd hmg hobj hints hlen hg) fun r s' hq => ?_)
  obtain ⟨rfl, h2, h3, h4⟩ := hq
  exact ⟨.inl ⟨.bool true, .bool true, [], rfl, fun _ => rfl, .bool true, post_true l _, fun _ => ⟨List.Pairwise.nil, fun _ hm => (nomatch hm)⟩⟩, h2, h3, h4⟩


/-! ### rules over ANY heap (no ledger) from facts about the written part K: the library's own take a ledger (News) for what they write -/
section
variable {prog : Program} {w : World} {A : Around} {E : Value → Shared → Prop} {s : Shared} {K : Frag}





/-! the whole heap as the ledger: makes every rule that writes through a ledger a rule over any heap -/
noncomputable def noObjs (h : Heap) : Heap := { h with objs := #[] }
noncomputable def ledger (h : Heap) (L d : Addr) : List (Addr × Obj) := (List.range h.objs.size).filterMap fun a => if a = L ∨ a = d then none else (h.get? a).map fun o => (a, o)

end
end Att

namespace L2
open PySem PySem.Spec PyProof.Rows

theorem vals_ints : ∀ {vs : List Value} {ns : List Int}, IntsAre vs ns → Vals (ns.map V.int) vs
  | _, _, .nil => .nil
  | _, _, .cons n t h => .cons ⟨t, rfl⟩ (vals_ints h)

/-- nothing is tracked but the script, known to the object (or it is an object of the module) -/
noncomputable def Only (H : Hp) : Prop := ∀ b, H b = none ∨ ∃ o xs, H b = some (.frz o (.lst xs))

/-- THE HEAD: the law's promise, at the heap behind the top. F, the promise of the law's def, may use that base is part of the heap (so K.In base, base.Ns mainGlobals mg stand in Mod) -/
theorem law_call {P : Program} {w : World} {K : PySem.W.Frag} {mg mb : Str → Option Value} {CX : CXT} {k : Nat} {fa a : Addr} {fd : FuncData} {x : Str} {sp : Sp} {s₁ : Shared} {vs : List Value} {ns : List Int}
    (KX : K.In s₁.heap) (hns : s₁.heap.Ns mainGlobals mg) (hb : s₁.heap.Ns builtinsNs mb) (hbb : ∀ x : Str, x ≠ "__name__" → mb x = bootBuiltins x) (hlim : s₁.heap.NoLimit) (hg : s₁.gens = #[])
    (ha : s₁.heap.get? a = some { cls := .type "list", data := .seq vs.toArray }) (hi : IntsAre vs ns) (hl : ns.length ≤ sizeLine) (hr : Room k callerA)
    (F : ∀ base : Heap, K.In base → base.Ns mainGlobals mg → FnOk P w K mg base CX k fa fd [x] sp) (hbind : ∀ (s : Shared) (u : Value), BindsTo s fd ⟨[u], []⟩ [(x, u)])
    (hsp : ∀ H : Hp, Only H → SqL K H a (ns.map V.int) → sp [.ref a] H (fun v _ => v = .bl true) fun _ _ _ => False)
    (hCX : ∀ H e s', CX [] H s₁ (fun _ _ _ => False) e s' → False) :
    codeAny (model P w) callerA (.call (.ref fa) ⟨[.ref a], []⟩) (fun r s' => r = .ok (.ret (.bool true)) ∧ OldK s₁.heap s'.heap ∧ s'.os = s₁.os ∧ AllBare s'.gens) s₁ := by
  have rv := vals_ints hi
  have lenV := hi.length
  -- from an abstract heap in which nothing but the script may be tracked
  have core : ∀ H : Hp, Only H → SqL K H a (ns.map V.int) → HOk P w H s₁.heap → (∀ b, H b ≠ none → b = a) → (H a ≠ none → K.lookup a = none) →
      codeAny (model P w) callerA (.call (.ref fa) ⟨[.ref a], []⟩) (fun r s' => r = .ok (.ret (.bool true)) ∧ OldK s₁.heap s'.heap ∧ s'.os = s₁.os ∧ AllBare s'.gens) s₁ := by
    intro H hO hS hok hA hK
    have base_of : ∀ {b : Addr} {o : Obj}, s₁.heap.get? b = some o → H b = none → (hidT s₁.heap H).get? b = some o := fun e n => hidT_get e n
    have noA : ∀ {b : Addr} {o : Obj} {es : Array DictEntry} {ep : Nat}, s₁.heap.get? b = some o → o.data = .dict es ep → H b = none := fun {b o es ep} e d => by
      cases q : H b with
      | none => rfl
      | some u =>
        have e' : b = a := hA b (by rw [q]; simp)
        subst e'
        rw [ha] at e; cases e
        have d' : Data.seq vs.toArray _ = Data.dict es ep := d
        cases d'
    have nsK : ∀ {b : Addr} {m : Str → Option Value}, s₁.heap.Ns b m → (hidT s₁.heap H).Ns b m := fun {b m} ⟨o, es, ep, e, d, r⟩ => ⟨o, es, ep, base_of e (noA e d), d, r⟩
    have hKb : K.In (hidT s₁.heap H) := fun b o e => base_of (KX b o e) (by
      cases q : H b with
      | none => rfl
      | some u =>
        have e' : b = a := hA b (by rw [q]; simp)
        subst e'
        rw [hK (by rw [q]; simp)] at e; cases e)
    have hM : Mod K mg (hidT s₁.heap H) := ⟨hKb, nsK hns, ⟨mb, nsK hb, hbb⟩, let ⟨mc, h1, h2⟩ := hlim; ⟨mc, nsK h1, h2⟩⟩
    have e0 : Env0 P w K mg (hidT s₁.heap H) callerA [] s₁ H := ⟨rfl, hM, fun b o e => of_hidT e, Nat.le_of_eq (hidT_size _ _), trivial, fun b hb => absurd (show b ∈ ([] : List Addr) from hb) (by simp), hok, .of_eq hg⟩
    refine codeAny_mono ((F _ hKb (nsK hns)).run callerA [] s₁ H ⟨[.ref a], []⟩ [.ref a] [.ref a] _ _ hr e0 (hbind s₁ (.ref a)) (.cons rfl .nil) (hsp H hO hS)) fun r s' h => ?_
    cases r with
    | error e => exact (hCX H e s' h).elim
    | ok fl =>
      cases fl with
      | next => exact False.elim h
      | brk => exact False.elim h
      | cont => exact False.elim h
      | ret u =>
        obtain ⟨v, H', os, bare, un, hok', r', q⟩ := h
        have q' : v = .bl true := q
        subst q'
        obtain rfl : u = Value.bool true := r'
        refine ⟨rfl, OldK.of_keep fun b o e => ?_, os, bare⟩
        cases q : H b with
        | none => exact un.keep b o e q (by intro z; exact absurd (show b ∈ ([] : List Addr) from z) (by simp)) (by simp)
        | some u =>
          rcases hO b with z | ⟨ob, xs, z⟩
          · rw [q] at z; cases z
          · have z2 := un.frzs b ob _ z
            obtain ⟨e1, _⟩ := hok b _ z
            obtain ⟨e2, _⟩ := hok' b _ z2
            rw [e] at e1; cases e1
            exact e2
  cases hk : K.lookup a with
  | some o =>
    -- the script is one of the module's own objects
    have e := KX a o hk
    rw [ha] at e
    cases e
    refine core (fun _ => none) (fun _ => .inl rfl) (.inr ⟨_, vs.toArray, _, hk, rfl, rfl, rfl, by rw [List.size_toArray, lenV]; exact hl, by simpa using rv⟩) (fun b u z => by have z' : (none : Option HO) = some u := z; cases z') (fun b z => absurd rfl z) fun z => absurd rfl z
  | none =>
    refine core (fun b => if b = a then some (.frz { cls := .type "list", data := .seq vs.toArray } (.lst (ns.map V.int))) else none) (fun b => ?_) (.inl (.inr ⟨{ cls := .type "list", data := .seq vs.toArray }, if_pos rfl⟩)) (fun b u z => ?_) (fun b z => ?_) fun _ => hk
    · by_cases hb : b = a
      · exact .inr ⟨_, _, if_pos hb⟩
      · exact .inl (if_neg hb)
    · by_cases hb : b = a
      · have z' := (if_pos hb).symm.trans z
        cases z'
        subst hb
        exact ⟨ha, by rw [List.length_map]; exact hl, vs, _, rv, ha⟩
      · have z' := (if_neg hb).symm.trans z
        cases z'
    · by_cases hb : b = a
      · exact hb
      · exact absurd (if_neg hb) z
end L2

namespace L2
open PySem PySem.Spec PyProof.Rows

noncomputable abbrev KOf {K : PySem.W.Frag} {h : Heap} (_ : K.In h) : PySem.W.Frag := K

/-- the goal that k_head leaves (case hc), from the law's promise. F gives the function object fd (K's own) once, then the promise over every base -/
theorem walk_of {l : PySem.W.OpenLaw} {n k : Nat} {q : Program} {loose : List Str} {XP : (Str → Option Value) → Heap → Prop} {YP : World → Heap → Prop} {d : DefRec} {K : Params → PySem.W.Frag} {CX : World → CXT} {sp : World → Sp} {x : Str}
    (hn : l.most = some n) (hn2 : n ≤ sizeLine) (hdf : d.params.defaults = []) (hr : Room k callerA)
    (hY : ∀ (w : World) (h : Heap), YP w h → (K w.params).In h)
    (F : ∀ (w : World) (mg : Str → Option Value) (fa : Addr) (h : Heap), (K w.params).In h → h.Ns mainGlobals mg → mg d.name = some (.ref fa) →
      ∃ fd : FuncData, (∀ (s : Shared) (u : Value), BindsTo s fd ⟨[u], []⟩ [(x, u)]) ∧
        ∀ base : Heap, (K w.params).In base → base.Ns mainGlobals mg → FnOk l.prog w (K w.params) mg base (CX w) k fa fd [x] (sp w))
    (hsp : ∀ (w : World) (H : Hp) (a : Addr) (ns : List Int), ns.length ≤ n → Only H → SqL (K w.params) H a (ns.map V.int) → sp w [.ref a] H (fun v _ => v = .bl true) fun _ _ _ => False)
    (hCX : ∀ (w : World) (H : Hp) (s : Shared) (e : Value) (s' : Shared), CX w [] H s (fun _ _ _ => False) e s' → False) :
    PySem.W.WalkO q loose XP YP l.row.toRowW d [] (fun f vs => PySem.call f vs) := by
  refine Att.attach_call hn hdf fun w s₀ s₁ mg mb fa o pm cd doc a vs ns G Y ho hd hcd hmg hobj hints hlen hg => ?_
  have KX := hY w _ Y
  obtain ⟨fd, hb, hF⟩ := F w mg fa _ KX G.T.g hmg
  exact law_call KX G.T.g G.T.b G.T.builtins G.T.nolimit hg hobj hints (Nat.le_trans hlen hn2) hr hF hb (fun H hO hS => hsp w H a ns hlen hO hS) fun H e s' => hCX w H s₁ e s'
end L2

/- THE LAST THEOREM (shape; LID, My.* are yours):
   My.Adr: a structure of the addresses that your layer names (classes, functions); My.Txt K t: a structure (Prop) of the equations over K;
   My.txt_mk : {K} {implicit addresses ..} (e1 : nsIn K mainGlobals "law" = some (some (.ref f))) (e2 : K.lookup f = some ⟨oc, od, .func (fnOf "law" "law" params body scope dV kV doc pm an cdv ct), sl⟩) (e3 : codeIn K cdv "law" = true) .. : ∃ t, My.Txt K t

set_option maxRecDepth 100000 in
set_option maxHeartbeats 0 in
theorem PySem.Challenge.cw_LID_holds : PySem.Challenge.rw_LID.Holds := by
  w_on; o_law; k_head; (case hw => w_witness2)
  k_fill
  refine L2.walk_of (l := PySem.Challenge.rw_LID) (n := 63) (k := 40) (x := "script") (CX := fun w => ..) (sp := fun _ => My.sp_law) rfl (by decide) rfl ⟨rfl, by decide, by decide⟩ (fun w h Y => PySem.W.kIn_of Y) ?F ?S ?C
  case F =>
    intro w mg fa h KX G hmg
    have T : ∃ t, My.Txt (L2.KOf KX) t := by
      dsimp only [L2.KOf]                          -- K must stand as «<heap const> w.params» for k_is
      refine' My.txt_mk ?e1 ?e2 ?e3 ..
      (case e1 => PySem.W.k_is)                    -- in the order: a name -> its address -> its object -> its parts
      (case e2 => PySem.W.k_is)
      ..
    obtain ⟨t, T⟩ := T
    have e0 := hmg.symm.trans (PySem.W.mg_of KX G T.law)
    cases e0                                       -- fa is the law's own address
    exact ⟨_, fun s u => .of_eq rfl, fun base kb nb => My.law_fn T kb nb⟩     -- if «.of_eq rfl» comes too early: refine' ⟨_, ?b, fun base kb nb => My.law_fn T kb nb⟩; exact fun s u => .of_eq rfl
  case S => exact fun w H a ns hl hO hS => ..
  case C => exact ..
(the tactic k_is has no namespace: write k_is) -/

/-! SHORT WORDS over the layer: a def of the text, its body, what a loop and a test want. -/
namespace L2
open PySem PySem.Spec PyProof.Rows

/-! ### the text by places -/
/-- the j-th statement of a class's body -/
noncomputable def inClass (s : Stmt) (j : Nat) : Stmt := match s with
  | .ClassDef _ _ _ body _ _ _ _ _ _ _ => body.getD j (.Pass ⟨0, 0, 0, 0⟩)
  | _ => .Pass ⟨0, 0, 0, 0⟩
noncomputable def defArgs (s : Stmt) : Arguments := match s with
  | .FunctionDef _ a _ _ _ _ _ _ _ _ => a
  | _ => { posonlyargs := [], args := [], vararg := none, kwonlyargs := [], kw_defaults := [], kwarg := none, defaults := [] }
noncomputable def defBody (s : Stmt) : List Stmt := match s with
  | .FunctionDef _ _ b _ _ _ _ _ _ _ => b
  | _ => []
noncomputable def defScope (s : Stmt) : Scope := match s with
  | .FunctionDef _ _ _ _ _ _ sc _ _ _ => sc
  | _ => { kind := .function, names := [], isGenerator := false, isCoroutine := false }

/-! ### no exception leaves a def -/
noncomputable abbrev CX0 : CXT := fun _ _ _ _ _ _ => False
noncomputable abbrev E0 : XK := fun _ _ _ => False
theorem pass0 {X : Cx} : Passes CX0 X E0 := fun _ _ _ _ _ _ _ h => h.elim

/-! ### a def (or method) of the text as it stands behind the top -/
structure Fun (K : PySem.W.Frag) (x qual : Str) (st : Stmt) (f : Addr) (fd : FuncData) : Prop where
  ex : ∃ (oc : Value) (od : Option Addr) (kV doc pm : Value) (an : Option Addr) (cdv ct : Value) (osl : Array (Option Value)),
    fd = PySem.W.fnOf x qual (defArgs st) (defBody st) (defScope st) .none kV doc pm an cdv ct ∧ K.lookup f = some ⟨oc, od, .func fd, osl⟩ ∧ PySem.W.codeIn K cdv qual = true
  kp : PySem.W.keepIn K (.ref f) = true
section
variable {P : Program} {w : World} {K : PySem.W.Frag} {mg : Str → Option Value} {base : Heap}
/-- THE RULE for a def: its body as a term of rules, and the reading of that term -/
theorem Fun.ok {x qual : Str} {st : Stmt} {f : Addr} {fd : FuncData} {N ps : List Str} {k : Nat} {sp : Sp} (F : Fun K x qual st f fd) (S : FnScope N ps (defScope st)) (len : ∀ vs H Q E, sp vs H Q E → vs.length = ps.length)
    (hbody : ∀ (cdv : Value) (A : Around) (outer : List Env) (s : Shared) (H : Hp) (vs : List V) (Q : VK) (E : XK), Room k (A.deeper (envOfC qual (defScope st) s.heap.objs.size f cdv)) → sp vs H Q E →
      ∃ t, PSs (cxOf CX0 P w K mg base N qual (defScope st) f cdv A outer s H E).nox (defBody st) t ∧ t { nx := fun _ H' => Q .non H', rt := Q } (start N vs) H) : FnOk P w K mg base CX0 (k + 1) f fd ps sp := by
  obtain ⟨oc, od, kV, doc, pm, an, cdv, ct, osl, rfl, lk, hcd⟩ := F.ex
  refine fn_of lk hcd S len fun A outer s H vs Q E hr hsp => ?_
  obtain ⟨t, h, q⟩ := hbody cdv A outer s H vs Q E hr hsp
  exact ⟨t, h.nox, q⟩
/-- how its arguments bind (no defaults): h is «fun _ _ _ _ _ _ => OmC.len2 (fun _ _ => rfl)», one _ a parameter -/
theorem Fun.binds {x qual : Str} {st : Stmt} {f : Addr} {fd : FuncData} {ps : List Str} (F : Fun K x qual st f fd)
    (h : ∀ (kV doc pm : Value) (an : Option Addr) (cdv ct : Value) (us : List Value), us.length = ps.length → bindArgs (PySem.W.fnOf x qual (defArgs st) (defBody st) (defScope st) .none kV doc pm an cdv ct) ⟨us, []⟩ = pure (ps.zip us)) : Binds K fd ps [] := by
  obtain ⟨oc, od, kV, doc, pm, an, cdv, ct, osl, rfl, lk, hcd⟩ := F.ex
  exact .all (h kV doc pm an cdv ct)
theorem fun_mk {x qual : Str} {st : Stmt} {f : Addr} {oc : Value} {od an : Option Addr} {osl : Array (Option Value)} {kV doc pm cdv ct : Value} (l : K.lookup f = some ⟨oc, od, .func (PySem.W.fnOf x qual (defArgs st) (defBody st) (defScope st) .none kV doc pm an cdv ct), osl⟩)
    (c : PySem.W.codeIn K cdv qual = true) (k : PySem.W.keepIn K (.ref f) = true) : Fun K x qual st f (PySem.W.fnOf x qual (defArgs st) (defBody st) (defScope st) .none kV doc pm an cdv ct) := ⟨⟨oc, od, kV, doc, pm, an, cdv, ct, osl, rfl, l, c⟩, k⟩
end
theorem hu_of {A : Around} {k : Nat} (hr : Room k A) : A.units + 1 < cLine := Nat.lt_of_le_of_lt (Nat.add_le_add_left (by decide : 1 ≤ 64) _) hr.units

/-! ### expressions in short: the name that stands in the i-th slot -/
section
variable {X : Cx}
theorem pv (i : Nat) {x : Str} {pos : Pos} (hN : X.N[i]? = some x := by rfl) (hv : Vis X.env.scope x := by first | exact Or.inl rfl | exact Or.inr (Or.inl rfl) | exact Or.inr (Or.inr rfl)) (hd : (x == ("__debug__" : Str)) = false := by decide)
    (hcd : (x == ("__classdict__" : Str)) = false := by decide) : PE X (.Name x pos) (tVar i) := pe_var hN hv hd hcd
end

/-! ### tests -/
theorem iteF {A B : Prop} (h : B) : if false = true then A else B := by
  rw [if_neg Bool.false_ne_true]
  exact h
theorem iteT {A B : Prop} (h : A) : if true = true then A else B := by
  rw [if_pos rfl]
  exact h
theorem ite2 {c A B : Prop} [Decidable c] (h1 : c → A) (h2 : ¬ c → B) : if c then A else B := by
  by_cases h : c
  · rw [if_pos h]
    exact h1 h
  · rw [if_neg h]
    exact h2 h
theorem iteNS {c A B : Prop} [Decidable c] (hc : c) (h : B) : if (!decide c) = true then A else B := by
  rw [decide_eq_true hc]
  exact iteF h

/-! ### heaps -/
/-- all that was tracked is as it was -/
noncomputable def Same (H H' : Hp) : Prop := ∀ b o, H b = some o → H' b = some o
theorem Same.refl (H : Hp) : Same H H := fun _ _ h => h
theorem Same.trans {H H1 H2 : Hp} (a : Same H H1) (b : Same H1 H2) : Same H H2 := fun c o h => b c o (a c o h)
theorem Same.free {H H' : Hp} (e : Same H H') {l : Addr} (h : H' l = Option.none) : H l = Option.none := by
  cases q : H l with
  | none => rfl
  | some o =>
    rw [e l o q] at h
    cases h
theorem Same.seq {K : PySem.W.Frag} {H H' : Hp} {a : Addr} {xs : List V} (e : Same H H') (h : SqL K H a xs) : SqL K H' a xs := by
  rcases h with (h | ⟨o, h⟩) | h
  · exact .inl (.inl (e _ _ h))
  · exact .inl (.inr ⟨o, e _ _ h⟩)
  · exact .inr h

end L2
namespace Yd
open PySem

/-! the table of a set: its places rise -/
noncomputable def Rise (a : Array Nat) : Prop := ∀ i j : Nat, i < j → j < a.size → a.getD i 0 < a.getD j 0

theorem getD_any {a : Array Nat} {i d e : Nat} (h : i < a.size) : a.getD i d = a.getD i e := by
  simp [Array.getD, h]

theorem below_go {xs : Array Nat} {j : Nat} (hr : Rise xs) : ∀ (fuel lo hi : Nat), hi - lo ≤ fuel → lo ≤ hi → hi ≤ xs.size →
    (∀ i, i < lo → xs.getD i 0 < j) → (∀ i, hi ≤ i → i < xs.size → j ≤ xs.getD i 0) →
    (SetTable.below.go xs j fuel lo hi ≤ xs.size ∧ (∀ i, i < SetTable.below.go xs j fuel lo hi → xs.getD i 0 < j) ∧
      (∀ i, SetTable.below.go xs j fuel lo hi ≤ i → i < xs.size → j ≤ xs.getD i 0)) := by
  intro fuel
  induction fuel with
  | zero =>
    intro lo hi hf hle hs h1 h2
    have e : lo = hi := by omega
    subst e
    exact ⟨hs, h1, h2⟩
  | succ f ih =>
    intro lo hi hf hle hs h1 h2
    unfold SetTable.below.go
    by_cases hlt : lo < hi
    · rw [if_pos hlt]
      simp only []
      have hm1 : (lo + hi) / 2 < hi := by omega
      have hm0 : lo ≤ (lo + hi) / 2 := by omega
      have hms : (lo + hi) / 2 < xs.size := by omega
      by_cases hc : xs.getD ((lo + hi) / 2) j < j
      · rw [if_pos hc]
        refine ih _ _ (by omega) (by omega) hs (fun i hi' => ?_) h2
        rw [getD_any hms (e := 0)] at hc
        by_cases e : i = (lo + hi) / 2
        · rw [e]; exact hc
        · exact Nat.lt_trans (hr i _ (by omega) hms) hc
      · rw [if_neg hc]
        refine ih _ _ (by omega) hm0 (by omega) h1 (fun i hi' hi2 => ?_)
        rw [getD_any hms (e := 0)] at hc
        by_cases e : i = (lo + hi) / 2
        · rw [e]; omega
        · have := hr _ i (show (lo + hi) / 2 < i by omega) hi2
          omega
    · rw [if_neg hlt]
      have e : lo = hi := by omega
      subst e
      exact ⟨hs, h1, h2⟩

theorem below_ok {xs : Array Nat} (hr : Rise xs) (j : Nat) : SetTable.below xs j ≤ xs.size ∧ (∀ i, i < SetTable.below xs j → xs.getD i 0 < j) ∧
    (∀ i, SetTable.below xs j ≤ i → i < xs.size → j ≤ xs.getD i 0) :=
  below_go hr xs.size 0 xs.size (by omega) (Nat.zero_le _) (Nat.le_refl _) (fun i h => absurd h (Nat.not_lt_zero _)) (fun i h1 h2 => by omega)

theorem below_next {xs : Array Nat} (hr : Rise xs) {i : Nat} (hi : i < xs.size) : SetTable.below xs (xs.getD i 0 + 1) = i + 1 := by
  obtain ⟨h0, h1, h2⟩ := below_ok hr (xs.getD i 0 + 1)
  generalize SetTable.below xs (xs.getD i 0 + 1) = b at h0 h1 h2
  by_cases hb : b ≤ i
  · have := h2 i hb hi
    omega
  · by_cases hb2 : b = i + 1
    · exact hb2
    · have h3 : i + 1 < b := by omega
      have := h1 (i + 1) h3
      have := hr i (i + 1) (by omega) (by omega)
      omega
theorem below_zero {xs : Array Nat} (hr : Rise xs) : SetTable.below xs 0 = 0 := by
  obtain ⟨h0, h1, h2⟩ := below_ok hr 0
  generalize SetTable.below xs 0 = b at h0 h1 h2
  cases b with
  | zero => rfl
  | succ n => have := h1 n (by omega); omega

theorem insertAt_size {α : Type} (xs : Array α) (p : Nat) (x : α) (hp : p ≤ xs.size) : (SetTable.insertAt xs p x).size = xs.size + 1 := by
  unfold SetTable.insertAt
  simp only [Array.size_append, Array.size_push, Array.size_extract]
  omega
theorem insertAt_get (xs : Array Nat) (p x : Nat) (hp : p ≤ xs.size) (i : Nat) (hi : i < xs.size + 1) :
    (SetTable.insertAt xs p x).getD i 0 = if i < p then xs.getD i 0 else if i = p then x else xs.getD (i - 1) 0 := by
  have hs := insertAt_size xs p x hp
  have e1 : ((xs.extract 0 p).push x).size = p + 1 := by simp only [Array.size_push, Array.size_extract]; omega
  unfold SetTable.insertAt
  simp only [Array.getD_eq_getD_getElem?]
  by_cases h1 : i < p
  · rw [if_pos h1, Array.getElem?_append_left (by omega), Array.getElem?_push_lt (by simp only [Array.size_extract]; omega)]
    simp only [Array.getElem_extract, Nat.zero_add]
    rw [Array.getElem?_eq_getElem (by omega)]
  · rw [if_neg h1]
    by_cases h2 : i = p
    · rw [if_pos h2, Array.getElem?_append_left (by omega)]
      have e2 : (xs.extract 0 p).size = i := by simp only [Array.size_extract]; omega
      rw [← e2, Array.getElem?_push_size]
      rfl
    · rw [if_neg h2, Array.getElem?_append_right (by omega), e1, Array.getElem?_extract]
      rw [if_pos (by omega)]
      have e3 : p + (i - (p + 1)) = i - 1 := by omega
      rw [e3]

theorem rise_insert {xs : Array Nat} (hr : Rise xs) {j : Nat} (hn : xs[SetTable.below xs j]? ≠ some j) : Rise (SetTable.insertAt xs (SetTable.below xs j) j) := by
  obtain ⟨h0, h1, h2⟩ := below_ok hr j
  intro a b hab hb
  rw [insertAt_size _ _ _ h0] at hb
  rw [insertAt_get _ _ _ h0 a (by omega), insertAt_get _ _ _ h0 b hb]
  have hn' : ∀ i, SetTable.below xs j ≤ i → i < xs.size → j < xs.getD i 0 := fun i q1 q2 => by
    have hge := h2 i q1 q2
    by_cases e : i = SetTable.below xs j
    · have : xs.getD i 0 ≠ j := fun z => hn (by
        rw [← e, Array.getElem?_eq_getElem q2]
        rw [Array.getD_eq_getD_getElem?, Array.getElem?_eq_getElem q2] at z
        exact congrArg some z)
      omega
    · have hlt : SetTable.below xs j < i := by omega
      have := hr _ i hlt q2
      have := h2 _ (Nat.le_refl _) (Nat.lt_trans hlt q2)
      omega
  generalize SetTable.below xs j = p at h0 h1 h2 hn hn'
  by_cases c1 : a < p
  · rw [if_pos c1]
    by_cases c2 : b < p
    · rw [if_pos c2]; exact hr a b hab (by omega)
    · rw [if_neg c2]
      by_cases c3 : b = p
      · rw [if_pos c3]; exact h1 a c1
      · rw [if_neg c3]; exact hr a (b - 1) (by omega) (by omega)
  · rw [if_neg c1]
    have c2 : ¬ b < p := by omega
    have c3 : ¬ b = p := by omega
    rw [if_neg c2, if_neg c3]
    by_cases c4 : a = p
    · rw [if_pos c4]; exact hn' (b - 1) (by omega) (by omega)
    · rw [if_neg c4]; exact hr (a - 1) (b - 1) (by omega) (by omega)

/-- what is kept of a set's table that only ever grows by ints -/
structure TabOk (L : Bool) (t : SetTable) : Prop where
  led : t.led = L
  dum : t.dummies = #[]
  rise : Rise t.place
theorem tok_fresh (L : Bool) (f m : Nat) : TabOk L (SetTable.fresh f m L) := ⟨rfl, rfl, fun i j _ h => absurd (show j < 0 from h) (Nat.not_lt_zero _)⟩
theorem rise_range (n : Nat) : Rise (Array.range n) := by
  intro i j hij hj
  have hj' : j < n := by simpa using hj
  simp only [Array.getD_eq_getD_getElem?]
  rw [Array.getElem?_eq_getElem (by simp; omega), Array.getElem?_eq_getElem (by simpa using hj)]
  simp only [Array.getElem_range, Option.getD_some]
  exact hij
theorem tok_standIn {L : Bool} {t : SetTable} (h : TabOk L t) (n : Nat) : TabOk L (t.standIn n) := ⟨h.led, rfl, rise_range n⟩
theorem tok_or {L : Bool} {t : SetTable} (h : TabOk L t) (n : Nat) : TabOk L (t.orStandIn n) := by
  unfold SetTable.orStandIn
  split
  · exact h
  · exact tok_standIn h n
theorem has_none (j : Nat) : SetTable.has #[] j = false := by simp [SetTable.has]
theorem slot_empty {t : SetTable} (hd : t.dummies = #[]) (j : Nat) : t.slot j = .empty ∨ ∃ i, t.slot j = .live i := by
  unfold SetTable.slot
  simp only []
  split
  · exact .inr ⟨_, rfl⟩
  · rw [hd, has_none]
    exact .inl rfl
theorem slot_free {t : SetTable} {j : Nat} (h : t.slot j = .empty) : t.place[SetTable.below t.place j]? ≠ some j := by
  unfold SetTable.slot at h
  simp only [] at h
  intro z
  rw [if_pos (by rw [z]; exact beq_self_eq_true _)] at h
  cases h
theorem probe_go {t : SetTable} (hd : t.dummies = #[]) (ha : Nat → Int) (h : Int) : ∀ (fuel : Nat) (p : SetTable.Probe) (j : Nat) (d : Option Nat), p.dummy = none →
    SetTable.probe.go t ha h fuel p = some (.empty j d) → d = none ∧ t.slot j = .empty := by
  intro fuel
  induction fuel with
  | zero => intro p j d _ e; cases e
  | succ f ih =>
    intro p j d hp e
    unfold SetTable.probe.go at e
    have adv : ∀ q : SetTable.Probe, q.dummy = none → (t.advance q).dummy = none := fun q hq => by
      unfold SetTable.advance
      split
      · exact hq
      · exact hq
    rcases slot_empty hd p.j with hs | ⟨i, hs⟩
    · rw [hs] at e
      simp only [Option.some.injEq, SetTable.Met.empty.injEq] at e
      obtain ⟨rfl, rfl⟩ := e
      exact ⟨hp, hs⟩
    · rw [hs] at e
      simp only [] at e
      split at e
      · cases e
      · exact ih _ j d (adv p hp) e
theorem tok_layNew {L : Bool} {t : SetTable} (ht : TabOk L t) (es : Array (Int × Value)) (h : Int) (x : Value) : TabOk L (layNew t es h x).2.1 := by
  unfold layNew
  cases e : t.freeSlot h with
  | none => exact tok_standIn ht _
  | some r =>
    obtain ⟨slot, wd⟩ := r
    simp only []
    refine tok_or ?_ _
    unfold SetTable.freeSlot at e
    split at e
    · rename_i j dm hp
      obtain ⟨rfl, hs⟩ := probe_go ht.dum _ _ _ _ _ _ rfl hp
      simp only [Option.getD_none, Option.isSome_none, Option.some.injEq, Prod.mk.injEq] at e
      obtain ⟨rfl, rfl⟩ := e
      refine ⟨ht.led, ?_, rise_insert ht.rise (slot_free hs)⟩
      show (if SetTable.has t.dummies j then SetTable.eraseAt t.dummies (SetTable.below t.dummies j) else t.dummies) = #[]
      rw [ht.dum, has_none]
      rfl
    · cases e
theorem rise_live (f : Nat → Option Nat) : ∀ n, Rise ((((List.range n).filterMap fun j => (f j).map (j, ·)).map (·.1)).toArray) := by
  intro n
  have key : (((List.range n).filterMap fun j => (f j).map (j, ·)).map (·.1)).Pairwise (· < ·) := by
    have hp : (List.range n).Pairwise (· < ·) := List.pairwise_lt_range
    rw [List.pairwise_map]
    refine List.Pairwise.filterMap (R := (· < ·)) _ (fun a a' hlt b hb b' hb' => ?_) hp
    cases e : f a with
    | none => rw [e] at hb; cases hb
    | some u =>
      rw [e] at hb
      cases e' : f a' with
      | none => rw [e'] at hb'; cases hb'
      | some u' =>
        rw [e'] at hb'
        simp only [Option.map_some, Option.some.injEq] at hb hb'
        subst hb
        subst hb'
        exact hlt
  intro i j hij hj
  have hj' : j < (((List.range n).filterMap fun j => (f j).map (j, ·)).map (·.1)).length := by simpa using hj
  have := (List.pairwise_iff_getElem.mp key) i j (by omega) hj' hij
  simp only [Array.getD_eq_getD_getElem?, List.getElem?_toArray]
  rw [List.getElem?_eq_getElem (by omega), List.getElem?_eq_getElem hj']
  simpa using this
theorem tok_relayAll {L : Bool} {t : SetTable} (ht : TabOk L t) (es : Array (Int × Value)) (n : Nat) : TabOk L (relayAll t es n).2.1 := by
  unfold relayAll
  cases e : t.relaid (es.map (·.1)) n with
  | none => exact tok_standIn ht _
  | some r =>
    obtain ⟨t', order⟩ := r
    simp only []
    split
    · unfold SetTable.relaid SetTable.laid at e
      cases e2 : SetTable.layClean (SetTable.sizeAbove n - 1) (es.map (·.1)) with
      | none => rw [e2] at e; cases e
      | some owner =>
        rw [e2] at e
        simp only [Option.bind_eq_bind, Option.bind_some, pure, Option.some.injEq, Prod.mk.injEq] at e
        obtain ⟨rfl, _⟩ := e
        exact ⟨ht.led, rfl, rise_live (fun j => owner.getD j none) _⟩
    · exact tok_standIn ht _

/-- the int that an element is -/
noncomputable def numOf : Value → Int
  | .int i _ => i
  | _ => 0
noncomputable def numsOf (l : List (Int × Value)) : List Int := l.map fun e => numOf e.2
theorem numOf_is {k : Int} {v : Value} (h : Value.isInt k v = true) : numOf v = k := by
  obtain ⟨t, rfl⟩ := Value.isInt_shape h
  rfl
section
variable {prog : Program} {w : World} {A : Around} {E : Value → Shared → Prop} {s : Shared}
/-- a set of ints with its table: the ints of pre, each once -/
noncomputable def SetT (prog : Program) (w : World) (h : Heap) (a : Addr) (L : Bool) (pre : List Int) : Prop :=
  ∃ es ep t, h.get? a = some { cls := .type "set", data := .set es ep t } ∧ ElemsOf (intKind prog w) es.toList ∧ es.size ≤ pre.length ∧ t.fits es.size = true ∧ TabOk L t ∧ (numsOf es.toList).Nodup ∧ ∀ k, k ∈ numsOf es.toList ↔ k ∈ pre
theorem is_num {l : List (Int × Value)} (h : ElemsOf (intKind prog w) l) {e : Int × Value} (he : e ∈ l) {k : Int} : (intKind prog w).is k e.2 = decide (numOf e.2 = k) := by
  obtain ⟨⟨k', hk', _⟩, _⟩ := h e he
  have e1 := numOf_is hk'
  rw [KeyKind.is_eq_decide hk' k, e1]
  by_cases q : k = k'
  · rw [decide_eq_true q, decide_eq_true q.symm]
  · rw [decide_eq_false q, decide_eq_false fun z => q z.symm]
theorem storeT {h : Heap} {a : Addr} {es : Array (Int × Value)} {ep : Nat} {t : SetTable} (es' : Array (Int × Value)) (t' : SetTable) (ho : h.get? a = some { cls := .type "set", data := .set es ep t }) :
    (h.update a (Obj.putSet es' t')).get? a = some { cls := .type "set", data := .set es' (ep + 1) t' } :=
  Heap.get?_update_self (Obj.putSet es' t') ho rfl
theorem setAdd_T {a : Addr} {L : Bool} {pre : List Int} {k : Int} {tk : Tok} {Q : Bool → Shared → Prop} (hS : SetT prog w s.heap a L pre) (hroom : pre.length + 1 < scanBound)
    (h : ∀ b h', Heap.SameBut a s.heap h' → SetT prog w h' a L (pre ++ [k]) → Q b { s with heap := h' }) : wpAny (model prog w) A (setAddHashed a (.int k tk) (hashInt k)) Q E s := by
  obtain ⟨es, ep, t, ho, hel, hsz, hf, ht, hnd, hmem⟩ := hS
  have hb : es.size < scanBound := by omega
  unfold setAddHashed setAddHashedIn
  refine wpAny_holding (wpAny_bind (wpAny_setState_of ho rfl hf ?_))
  dsimp only
  rw [byScan_of (knd := intKind prog w) (x := .int k tk) rfl hb hel]
  simp only [↓reduceIte]
  unfold setAddByScan
  refine wpAny_bind (wpAny_bind (wpAny_rule (wpAny_bind (wpAny_setScan_of (knd := intKind prog w) (k := k) (intKind_is _ _ _ _) ho rfl hf hel ?_))))
  cases hr : List.findIdx? (fun e => (intKind prog w).is k e.2) es.toList with
  | some j =>
    dsimp only
    obtain ⟨hj, hpj, _⟩ := List.findIdx?_eq_some_iff_getElem.mp hr
    refine wpAny_pure (wpAny_pure ?_)
    have hk : k ∈ numsOf es.toList := List.mem_map.mpr ⟨es.toList[j], List.getElem_mem hj, numOf_is hpj⟩
    refine h false s.heap (Heap.SameBut.refl a s.heap) ⟨es, ep, t, ho, hel, by rw [List.length_append]; omega, hf, ht, hnd, fun n => ?_⟩
    rw [hmem n, List.mem_append, List.mem_singleton]
    exact ⟨.inl, fun z => z.elim id fun e => e ▸ (hmem k).mp hk⟩
  | none =>
    dsimp only
    have hk : ¬ k ∈ numsOf es.toList := fun z => by
      obtain ⟨e, he, hn⟩ := List.mem_map.mp z
      have q := List.findIdx?_eq_none_iff.mp hr e he
      rw [is_num hel he, decide_eq_true hn] at q
      exact Bool.noConfusion q
    have hperm := layNew_perm t es (hashInt k) (.int k tk)
    have hfits := layNew_fits t es (hashInt k) (.int k tk)
    have htok := tok_layNew ht es (hashInt k) (.int k tk)
    generalize layNew t es (hashInt k) (.int k tk) = lay at hperm hfits htok ⊢
    obtain ⟨es1, t1, wd, gave⟩ := lay
    dsimp only at hperm hfits htok ⊢
    rw [Array.toList_push] at hperm
    have hel1 : ElemsOf (intKind prog w) es1.toList := (hel.push (k := k) (x := .int k tk) (intKind_is _ _ _ _) rfl).perm hperm
    have hn1 : (numsOf es1.toList).Perm (numsOf es.toList ++ [k]) := by
      have := hperm.map fun e : Int × Value => numOf e.2
      rwa [List.map_append] at this
    have hs1 : es1.size = es.size + 1 := by rw [← Array.length_toList, hperm.length_eq, List.length_append, Array.length_toList]; rfl
    have nd1 : (numsOf es1.toList).Nodup := hn1.nodup_iff.mpr (List.nodup_append.mpr ⟨hnd, by simp, fun x hx y hy => by
      have e : y = k := by simpa using hy
      intro z
      rw [e] at z
      exact hk (z ▸ hx)⟩)
    have mem1 : ∀ n, n ∈ numsOf es1.toList ↔ n ∈ pre ++ [k] := fun n => by
      rw [hn1.mem_iff, List.mem_append, List.mem_append, hmem n]
    have le1 : es1.size ≤ (pre ++ [k]).length := by rw [List.length_append, List.length_singleton]; omega
    have tail : ∀ (g : Bool → Sem Unit), (∀ (b : Bool) (s1 : Shared) (Q' : Unit → Shared → Prop), Q' () s1 → wpAny (model prog w) A (g b) Q' E s1) → ∀ (t2 : SetTable), t2.fits es1.size = true → TabOk L t2 →
        ∀ (R : Option Bool → Shared → Prop), (∀ h', Heap.SameBut a s.heap h' → SetT prog w h' a L (pre ++ [k]) → R (some true) { s with heap := h' }) → wpAny (model prog w) A (do
          storeSet a es1 t2
          if (!wd && t2.tooFull) = true then do
              g (relayAll t2 es1 (SetTable.grown es1.size)).2.2
              storeSet a (relayAll t2 es1 (SetTable.grown es1.size)).1 (relayAll t2 es1 (SetTable.grown es1.size)).2.1
              pure (some true)
            else pure (some true)) R E s := fun g gw t2 hf2 ht2 R hR => by
      refine wpAny_bind (wpAny_storeSet_of ho rfl ?_ (fits_of_scanBound (by omega)))
      have ho1 := storeT es1 t2 ho
      split
      · refine wpAny_bind (gw _ _ _ ?_)
        have hp := relayAll_perm t2 es1 (SetTable.grown es1.size)
        have hfr := relayAll_fits t2 es1 (SetTable.grown es1.size)
        have htr := tok_relayAll ht2 es1 (SetTable.grown es1.size)
        generalize relayAll t2 es1 (SetTable.grown es1.size) = R at hp hfr htr ⊢
        obtain ⟨es2, t3, g3⟩ := R
        dsimp only at hp hfr htr ⊢
        have hs2 : es2.size = es1.size := by rw [← Array.length_toList, hp.length_eq, Array.length_toList]
        have hn2 : (numsOf es2.toList).Perm (numsOf es1.toList) := hp.map fun e : Int × Value => numOf e.2
        refine wpAny_bind (wpAny_storeSet_of ho1 rfl ?_ (fits_of_scanBound (by omega)))
        refine wpAny_pure (hR _ ((Heap.SameBut.update s.heap a (Obj.putSet es1 t2)).trans (Heap.SameBut.update _ a _)) ?_)
        exact ⟨es2, ep + 1 + 1, t3, storeT es2 t3 ho1, hel1.perm hp, by omega, hfr, htr, hn2.nodup_iff.mpr nd1, fun n => by rw [hn2.mem_iff, mem1 n]⟩
      · refine wpAny_pure (hR _ (Heap.SameBut.update s.heap a (Obj.putSet es1 t2)) ?_)
        exact ⟨es1, ep + 1, t2, ho1, hel1, le1, hf2, ht2, nd1, mem1⟩
    have gw : ∀ (b : Bool) (s1 : Shared) (Q' : Unit → Shared → Prop), Q' () s1 → wpAny (model prog w) A (match b with | true => rule "set.scan.the-table-gave-way" | false => pure ()) Q' E s1 := fun b s1 Q' hq => by
      cases b
      · exact wpAny_pure hq
      · exact wpAny_rule hq
    refine wpAny_bind (gw _ _ _ ?_)
    have off : ∀ {t2 : SetTable}, TabOk L t2 → TabOk L { t2 with plain := false } := fun z => ⟨z.led, z.dum, z.rise⟩
    split
    · refine wpAny_bind ?_
      rw [hashByValue_scannable 8 (show (Value.int k tk).scannable = true from rfl)]
      refine wpAny_pure ?_
      refine tail _ gw _ ?_ ?_ _ fun h' hsb hS' => wpAny_pure (h true h' hsb hS')
      · split
        · exact hfits
        · exact SetTable.fits_plain_off hfits
      · split
        · exact htok
        · exact off htok
    · refine wpAny_bind (wpAny_pure ?_)
      simp only [↓reduceIte]
      exact tail _ gw _ hfits htok _ fun h' hsb hS' => wpAny_pure (h true h' hsb hS')
end
end Yd
namespace Yd
open PySem PyProof.Rows
section
variable {prog : Program} {w : World} {A : Around} {E : Value → Shared → Prop} {s : Shared}
/-! a set made of a list of ints -/
theorem update_loop {I l a : Addr} {L : Bool} {items : Array Value} {ns : List Int} (hh : A.in1.handled = none) (hne : l ≠ I) (haI : a ≠ I) (hal : a ≠ l) (hi : IntsAre items.toList ns) (hb : ns.length + 1 < scanBound) {R : Result → Shared → Prop} :
    ∀ (k i : Nat) (s : Shared), items.size - i = k → i ≤ items.size → s.heap.IsListIter I l i → s.heap.IsList l items → SetT prog w s.heap a L (ns.take i) →
      (∀ h' tk, (∀ b o, b ≠ a → b ≠ I → s.heap.get? b = some o → h'.get? b = some o) → SetT prog w h' a L ns → R (.ok (.ret .none)) { s with heap := h', toks := tk }) →
      codeAny (model prog w) A (.builtin "set.update.loop" ⟨[.ref a, .ref I], []⟩) R s := by
  have hlen : items.size = ns.length := by rw [← hi.length, Array.length_toList]
  intro k
  induction k with
  | zero =>
    intro i s hk hle hit hl hS hR
    refine codeAny_builtin F.entry_set_update_loop ?_
    rw [Around.under_plainId F.plain_set_update_loop _]
    show wpAny _ A.in1 (pyNext (.ref I) >>= _) _ _ s
    have hin : i = ns.length := by omega
    refine wpAny_bind (wpAny_pyNext_list_end hh hit hl (by simp; omega) fun h' he => ?_)
    show wpAny _ A.in1 (ret Value.none) _ _ _
    refine wpAny_pure (hR h' s.toks (fun b o _ hb e => he b o hb e) ?_)
    rw [hin, List.take_length] at hS
    obtain ⟨es, ep, t, ho, r⟩ := hS
    exact ⟨es, ep, t, he a _ haI ho, r⟩
  | succ k ih =>
    intro i s hk hle hit hl hS hR
    have hlt : i < items.size := by omega
    refine codeAny_builtin F.entry_set_update_loop ?_
    rw [Around.under_plainId F.plain_set_update_loop _]
    show wpAny _ A.in1 (pyNext (.ref I) >>= _) _ _ s
    refine wpAny_bind (wpAny_pyNext_list_item hit hl (x := items[i]) (by simp [hlt]) fun h1 hit1 hsb => ?_)
    obtain ⟨t, hv⟩ := IntsAre.int_at hi i items[i] (by simp [hlt])
    rw [hv]
    show wpAny _ A.in1 (holding [Value.int (ns.getD i 0) t] (setAdd a (.int (ns.getD i 0) t)) >>= _) _ _ _
    refine wpAny_bind (wpAny_holding ?_)
    unfold setAdd
    refine wpAny_holding (wpAny_bind ((intKind prog w).pyHash (k := ns.getD i 0) (intKind_is _ _ _ _) ?_))
    have hS1 : SetT prog w h1 a L (ns.take i) := by
      obtain ⟨es, ep, t, ho, r⟩ := hS
      exact ⟨es, ep, t, (hsb.2 a haI).trans ho, r⟩
    refine setAdd_T (s := { s with heap := h1, toks := s.toks + 1 }) hS1 (by rw [List.length_take]; omega) fun b h2 hsb2 hS2 => ?_
    refine wpAny_pure ⟨plainId_quiet F.plain_set_update_loop _, ih (i + 1) _ (by omega) hlt (hit1.at fun o e => (hsb2.2 I (Ne.symm haI)).trans e) ((hl.extBut hsb.extBut hne).at fun o e => (hsb2.2 l (Ne.symm hal)).trans e) ?_ fun h' tk kp hS' => ?_⟩
    · have e : ns.take (i + 1) = ns.take i ++ [ns.getD i 0] := by
        rw [List.take_succ, List.getD_eq_getElem?_getD, List.getElem?_eq_getElem (by omega)]
        rfl
      rw [e]
      exact hS2
    · exact hR h' tk (fun b o n1 n2 e => kp b o n1 n2 ((hsb2.2 b n1).trans ((hsb.2 b n2).trans e))) hS'
theorem set_new (a : Value) {Q : Value → Shared → Prop}
    (h : Q (.ref s.heap.objs.size) { s with heap := s.heap.push { cls := .type "set", dict := none, data := .set #[] 0 (.fresh 0 0 (!w.params.followText "set-order")) } }) :
    codeAny (model prog w) A (.call (.builtin "set.__new__") ⟨[.type "set", a], []⟩) (wants Q E) s := by
  refine codeAny_of_tree ?_
  show wpAny _ A.in1 (do
    checkBuiltinCall "set.__new__" ⟨[.type "set", a], []⟩
    again (.builtin "set.__new__" ⟨[.type "set", a], []⟩)) _ _ s
  refine wpAny_bind (wpAny_of_eq (F.newCall_set_1 a) (wpAny_pure ⟨plainId_quiet F.plain_set_new _, codeAny_builtin F.entry_set_new ?_⟩))
  rw [Around.under_plainId F.plain_set_new _]
  unfold Builtin.«set.__new__» Builtin.Frozenset.newClass
  have hsub := sub_set_self
  obtain ⟨hp, g, d, tk, os⟩ := s
  dsimp only
  wp_walk
  refine wpAny_askSetting (wpAny_pure ?_)
  dsimp only
  simp only [newObj]
  exact wpAny_bind (wpAny_alloc (wpAny_pure (wpAny_pure h)))
theorem call_setT {l : Addr} {items : Array Value} {ns : List Int} {Q : Value → Shared → Prop} (hh : A.handled = none) (hl : s.heap.IsList l items) (hi : IntsAre items.toList ns) (hb : ns.length + 1 < scanBound)
    (h : ∀ (h' : Heap) (tk : Nat), SetT prog w h' s.heap.objs.size (!w.params.followText "set-order") ns → (∀ b o, s.heap.get? b = some o → h'.get? b = some o) → Q (.ref s.heap.objs.size) { s with heap := h', toks := tk }) :
    wpAny (model prog w) A (call (.type "set") [.ref l]) Q E s := by
  obtain ⟨c, tl, hmro⟩ := F.called_set.mro
  have hmade := F.called_set.made
  have hsub := F.called_set.sub
  refine wpAny_call (codeAny_of_tree ?_)
  show wpAny _ _ (callAny (.type "set") _) _ _ _
  refine wpAny_pure ⟨Code.quiet_builtin _ (by decide +kernel), codeAny_builtin F.entry_type_call ?_⟩
  rw [Around.under_plain (weight_type_call_type "set" [.ref l] []) rfl]
  have h1 := F.called_set.notType
  have h2 := F.called_set.canCreate
  have hct := F.typeCall_set_1 (.ref l)
  repeat (any_goals (first | assumption | wp_step))
  refine codeAny_mono (set_new (.ref l) (E := E) (Q := fun obj s1 => obj = .ref s.heap.objs.size ∧ s1 = { s with heap := s.heap.push { cls := .type "set", dict := none, data := .set #[] 0 (.fresh 0 0 (!w.params.followText "set-order")) } }) ⟨rfl, rfl⟩) fun r s1 hr => ?_
  cases r with
  | error e => exact hr
  | ok fl =>
    cases fl with
    | ret obj =>
      obtain ⟨rfl, rfl⟩ := hr
      generalize hH : s.heap.push { cls := .type "set", dict := none, data := .set #[] 0 (.fresh 0 0 (!w.params.followText "set-order")) } = H1
      have hS : H1.get? s.heap.objs.size = some { cls := .type "set", data := .set #[] 0 (.fresh 0 0 (!w.params.followText "set-order")) } := hH ▸ Heap.get?_push_size _ rfl
      have hT : Shared.TypeIs { s with heap := H1 } (.ref s.heap.objs.size) "set" := ⟨_, hS, rfl⟩
      have hli := F.called_set.init.lookup
      have hbi := F.called_set.init.bind (.ref s.heap.objs.size)
      have kp1 : ∀ b o, s.heap.get? b = some o → H1.get? b = some o := fun b o e => hH ▸ Heap.get?_push_of_some _ e
      repeat (any_goals (first | assumption | wp_step))
      refine codeAny_mono (codeAny_call_builtin (R := wants (fun r s2 => r = .none ∧ ∃ h' tk, s2 = { s with heap := h', toks := tk } ∧ SetT prog w h' s.heap.objs.size (!w.params.followText "set-order") ns ∧
          (∀ b o, s.heap.get? b = some o → h'.get? b = some o)) E) F.called_set.init.plain F.entry_set_init (check_set_init_1 hT ?_)) fun r2 s2 hr2 => ?_
      · have hl1 : H1.IsList l items := hl.at fun o e => kp1 l o e
        obtain ⟨ol, hol, hcl, nl, hdl⟩ := id hl1
        have hlS : l < s.heap.objs.size := by obtain ⟨o, e, _⟩ := hl; exact Heap.lt_size e
        obtain ⟨ocls, odict, odata, oslots⟩ := ol
        simp only at hcl hdl
        subst hcl; subst hdl
        have hsls := F.sub_list_set
        have hslf := F.sub_list_frozenset
        have hne : (Value.type "list" == Value.type "dict") = false := by decide
        unfold Builtin.«set.__init__» noKeywords Builtin.Frozenset.updateFrom
        generalize hPI : pyIter = PI
        wp_walk
        subst hPI
        refine wpAny_pyIter_list hl1 (wpAny_bind (wpAny_runValue ?_))
        have hsz1 : H1.objs.size = s.heap.objs.size + 1 := by rw [← hH, Heap.size_push]
        have n1 : l ≠ H1.objs.size := by rw [hsz1]; exact Nat.ne_of_lt (Nat.lt_succ_of_lt hlS)
        have n2 : s.heap.objs.size ≠ H1.objs.size := by rw [hsz1]; exact Nat.ne_of_lt (Nat.lt_succ_self _)
        refine update_loop (I := H1.objs.size) (l := l) (a := s.heap.objs.size) (L := !w.params.followText "set-order") (by simp [hh]) n1 n2 (Nat.ne_of_gt hlS) hi hb (items.size - 0) 0 _ rfl (Nat.zero_le _) ⟨_, Heap.get?_push_size _ rfl, rfl, rfl⟩ (hl1.push _) ?_ fun h' tk kp hS' => ?_
        · rw [List.take_zero]
          exact ⟨#[], 0, _, Heap.get?_push_of_some _ hS, fun e he => by simp at he, Nat.le_refl _, by rfl, tok_fresh _ 0 0, by simp [numsOf], fun k => by simp [numsOf]⟩
        · show wpAny _ _ _ _ _ _
          refine wpAny_pure ?_
          show wpAny _ _ (ret Value.none) _ _ _
          refine wpAny_pure ⟨rfl, h', tk, rfl, hS', fun b o e => ?_⟩
          have := Heap.lt_size e
          exact kp b o (Nat.ne_of_lt this) (by rw [hsz1]; exact Nat.ne_of_lt (Nat.lt_succ_of_lt this)) (Heap.get?_push_of_some _ (kp1 b o e))
      · cases r2 with
        | error e => exact hr2
        | ok fl2 =>
          cases fl2 with
          | ret r =>
            obtain ⟨rfl, h', tk, rfl, hS', hk'⟩ := hr2
            repeat (any_goals (first | assumption | wp_step))
            exact h _ _ hS' hk'
          | _ => exact hr2.elim
    | _ => exact hr.elim
end
end Yd
namespace Yd
open PySem PyProof.Rows
theorem perm_erase {α : Type} : ∀ (l : List α) (i : Nat) (h : i < l.length), (l[i] :: l.eraseIdx i).Perm l
  | x :: r, 0, _ => List.Perm.refl _
  | x :: r, i + 1, h => by
    have hi : i < r.length := by simpa using h
    have ih := perm_erase r i hi
    show (r[i] :: x :: r.eraseIdx i).Perm (x :: r)
    exact (List.Perm.swap _ _ _).trans (List.Perm.cons _ ih)
theorem pick_go {α : Type} (next : Nat → Nat) : ∀ (n k : Nat) (left : List α) (out : Array α), left.length = n → (pickOrder.go next n k left out).toList.Perm (out.toList ++ left)
  | 0, k, left, out, h => by
    have e : left = [] := List.length_eq_zero_iff.mp h
    subst e
    unfold pickOrder.go
    simp
  | n + 1, k, left, out, h => by
    unfold pickOrder.go
    have hlt : next k % left.length < left.length := Nat.mod_lt _ (by omega)
    rw [List.getElem?_eq_getElem hlt]
    simp only []
    refine (pick_go next n (k + 1) _ _ (by rw [List.length_eraseIdx]; rw [if_pos hlt]; omega)).trans ?_
    rw [Array.toList_push, List.append_assoc]
    exact List.Perm.append_left _ (perm_erase _ _ hlt)
theorem pick_perm {α : Type} (next : Nat → Nat) (xs : Array α) : (pickOrder next xs).toList.Perm xs.toList := by
  unfold pickOrder
  have := pick_go next xs.size 0 xs.toList #[] (by simp)
  simpa using this
section
variable {prog : Program} {w : World} {M : Model} {A : Around} {E : Value → Shared → Prop} {s : Shared}
theorem wpAny_chosen {src : Source} {n : Nat} {Q : Nat → Shared → Prop} (hn : n ≠ 0) (h : ∀ i d, i < n → Q i { s with drawn := d }) : wpAny M A (choose src n) Q E s := fun Γ p hΓ => by
  unfold choose
  rw [Sem.wp_choose]
  refine ⟨hn, ?_⟩
  rw [Sem.wp_pure]
  exact h _ _ (Nat.mod_lt _ (Nat.pos_of_ne_zero hn))
theorem wpAny_drawn {α : Type} : ∀ (n : Nat) (xs : List α) (s : Shared) {Q : List α → Shared → Prop}, xs.length = n → (∀ ys d, ys.Perm xs → Q ys { s with drawn := d }) → wpAny M A (drawOrder n xs) Q E s
  | 0, xs, s, Q, h, hQ => by
    have e : xs = [] := List.length_eq_zero_iff.mp h
    subst e
    unfold drawOrder
    exact wpAny_pure (hQ [] s.drawn (List.Perm.refl _))
  | n + 1, [], s, Q, h, hQ => by simp at h
  | n + 1, x :: r, s, Q, h, hQ => by
    unfold drawOrder
    refine wpAny_bind (wpAny_chosen (by simp) fun i d hi => ?_)
    rw [List.getElem?_eq_getElem hi]
    simp only []
    refine wpAny_bind (wpAny_drawn n _ _ (by rw [List.length_eraseIdx, if_pos hi]; omega) fun ys d' hp => wpAny_pure ?_)
    exact hQ _ d' ((List.Perm.cons _ hp).trans (perm_erase _ _ hi))
end
/-! the iterator of a set -/
theorem slot_next : Slot "set_iterator" "__next__" "set_iterator.__next__" := by
  refine Slot.of (owner := "set_iterator") (n := "__next__") ?_ ?_ ?_ ?_ (.inl ?_) ?_
  · rw [typeLookup_type, builtinLookup_eq_fast]
    kernel_rfl
  · decide +kernel
  · decide +kernel
  · decide +kernel
  · decide +kernel
  · rw [isSubtype_type]
    kernel_rfl
theorem entry_next : entryFor table "set_iterator.__next__" = some Builtin.«set_iterator.__next__» := by
  refine entryFor_of_fast ?_
  kernel_rfl
theorem args_next (a : Value) : argsOk "set_iterator.__next__" ⟨[a], []⟩ := by
  unfold argsOk
  kernel_rfl
theorem entry_iter : entryFor table "set.__iter__" = some Builtin.«frozenset.__iter__» := by
  refine entryFor_alias (id' := "frozenset.__iter__") ?_ rfl ?_ ?_
  · kernel_rfl
  · decide +kernel
  · kernel_rfl
noncomputable def slotAt (p : Array Nat) (i : Nat) : Nat := if i = 0 then 0 else p.getD (i - 1) 0 + 1
theorem below_slotAt {p : Array Nat} (hr : Rise p) {i : Nat} (hi : i ≤ p.size) : SetTable.below p (slotAt p i) = i := by
  unfold slotAt
  split
  · rename_i e; rw [e]; exact below_zero hr
  · rename_i e
    rw [below_next hr (by omega)]
    omega
noncomputable abbrev itObj (first : Value) (i : Nat) (a : Addr) (n ep : Nat) : Obj := { cls := .type "set_iterator", data := .fields #[first, .int i 0, .ref a, .int n 0, .int ep 0] }
noncomputable abbrev setObj (es : Array (Int × Value)) (ep : Nat) (t : SetTable) : Obj := { cls := .type "set", data := .set es ep t }
/-- what the iterator is at its i-th step, and what it tells -/
noncomputable def ItOk (w : World) (h : Heap) (a : Addr) (es : Array (Int × Value)) (ep : Nat) (t : SetTable) (ord : List Value) (i : Nat) (first : Value) : Prop :=
  (w.params.followText "set-order" = true ∧ first = .int 0 0 ∧ ord = (pickOrder (w.params.setOrder a ep) es).toList.map (·.2)) ∨
  (w.params.followText "set-order" = false ∧ (!t.plain && decide (es.size > 1)) = false ∧ t.led = true ∧ Rise t.place ∧ first = .int (slotAt t.place i) 0 ∧ ord = es.toList.map (·.2)) ∨
  (w.params.followText "set-order" = false ∧ ∃ (T : Addr) (ps : List Nat) (n : Nat), first = .ref T ∧ h.get? T = some { cls := .type "tuple", data := .seq (ps.map fun p : Nat => Value.int p 0).toArray n } ∧ (∀ p ∈ ps, p < es.size) ∧ ord = ps.map fun p => (es[p]?.map (·.2)).getD .none)
noncomputable def SetIt (w : World) (h : Heap) (it a : Addr) (es : Array (Int × Value)) (ep : Nat) (t : SetTable) (ord : List Value) (i : Nat) : Prop :=
  h.get? a = some (setObj es ep t) ∧ t.fits es.size = true ∧ ord.length = es.size ∧ ∃ first, h.get? it = some (itObj first i a es.size ep) ∧ ItOk w h a es ep t ord i first
section
variable {prog : Program} {w : World} {A : Around} {E : Value → Shared → Prop} {s : Shared} {it a : Addr} {es : Array (Int × Value)} {ep : Nat} {t : SetTable} {ord : List Value} {i : Nat}
theorem fits_size {t : SetTable} {n : Nat} (h : t.fits n = true) : t.place.size = n := by
  unfold SetTable.fits at h
  have := (Bool.and_eq_true _ _ ▸ h : _ ∧ _).1
  simpa using this
theorem setEntries_at {Q : Array (Int × Value) → Shared → Prop} (ha : s.heap.get? a = some (setObj es ep t)) (hf : t.fits es.size = true) (h : Q es s) : wpAny (model prog w) A (setEntries a) Q E s := by
  unfold setEntries
  exact wpAny_bind (wpAny_setState_of ha rfl hf (wpAny_pure h))
theorem byText_at {Q : Bool → Shared → Prop} (h : Q (w.params.followText "set-order") s) : wpAny (model prog w) A setsByText Q E s := by
  unfold setsByText
  exact wpAny_bind (wpAny_askSetting (wpAny_pure h))
theorem next_text {slot : Nat} {Q : Option (Value × Nat) → Shared → Prop} (ha : s.heap.get? a = some (setObj es ep t)) (hf : t.fits es.size = true) (hb : w.params.followText "set-order" = true)
    (h : Q (((pickOrder (w.params.setOrder a ep) es)[i]?).map fun e => (e.2, slot)) s) : wpAny (model prog w) A (setNext a slot i ep) Q E s := by
  unfold setNext
  refine wpAny_bind (wpAny_setState_of ha rfl hf ?_)
  refine wpAny_bind (byText_at ?_)
  rw [hb]
  simp only [if_true, bne_self_eq_false, Bool.false_eq_true, if_false]
  unfold setWalk
  refine wpAny_bind (wpAny_bind (wpAny_setState_of ha rfl hf (wpAny_bind (byText_at ?_))))
  rw [hb]
  simp only [if_true]
  exact wpAny_bind (wpAny_askSetting (wpAny_pure (wpAny_pure h)))
theorem next_plain {slot : Nat} {Q : Option (Value × Nat) → Shared → Prop} (ha : s.heap.get? a = some (setObj es ep t)) (hf : t.fits es.size = true) (hb : w.params.followText "set-order" = false)
    (hp : (!t.plain && decide (es.size > 1)) = false) (hl : t.led = true)
    (h : Q (match es[SetTable.below t.place slot]?, t.place[SetTable.below t.place slot]? with | some (_, x), some j => some (x, j + 1) | _, _ => none) s) : wpAny (model prog w) A (setNext a slot i ep) Q E s := by
  unfold setNext
  refine wpAny_bind (wpAny_setState_of ha rfl hf ?_)
  refine wpAny_bind (byText_at ?_)
  rw [hb]
  simp only [Bool.false_eq_true, if_false]
  show wpAny _ _ (if (!t.plain && decide (es.size > 1)) = true then _ else _) _ _ s
  rw [hp]
  simp only [Bool.false_eq_true, if_false]
  show wpAny _ _ ((if (!t.led && !es.isEmpty) = true then _ else _) >>= _) _ _ s
  rw [hl]
  simp only [Bool.not_true, Bool.false_and, Bool.false_eq_true, if_false]
  exact wpAny_bind (wpAny_pure (wpAny_pure h))
theorem put_field {vs : Array Value} {k : Nat} {y : Value} {Q : Unit → Shared → Prop} (h1 : s.heap.get? it = some { cls := .type "set_iterator", data := .fields vs }) (h2 : k < vs.size)
    (h3 : ∀ h', h'.get? it = some { cls := .type "set_iterator", data := .fields (vs.setIfInBounds k y) } → (∀ b o, b ≠ it → s.heap.get? b = some o → h'.get? b = some o) → Q () { s with heap := h' }) :
    wpAny (model prog w) A (setField (.ref it) k y) Q E s :=
  wpAny_setField_rec h1 h2 fun h' e hsb => h3 h' e fun b o hb q => (hsb.2 b hb).trans q
theorem next_item {x : Value} {Q : Option Value → Shared → Prop} (hit : SetIt w s.heap it a es ep t ord i) (hne : it ≠ a) (hx : ord[i]? = some x)
    (hQ : ∀ h', SetIt w h' it a es ep t ord (i + 1) → (∀ b o, b ≠ it → s.heap.get? b = some o → h'.get? b = some o) → Q (some x) { s with heap := h' }) :
    wpAny (model prog w) A (pyNext (.ref it)) Q E s := by
  obtain ⟨ha, hf, hlen, first, hi, hk⟩ := hit
  have hlt : i < es.size := by rw [← hlen]; exact (List.getElem?_eq_some_iff.mp hx).1
  have hT : s.TypeIs (.ref it) "set_iterator" := ⟨_, hi, rfl⟩
  unfold pyNext
  refine wpAny_bind (wpAny_attempt (wpAny_callSpecial?_slot (name := Str.ofString "__next__") hT slot_next (wpAny_call_entry slot_next hT entry_next ?_ (args_next _))))
  unfold Builtin.«set_iterator.__next__»
  refine wpAny_bind (m := slotArgs "__next__" 0 _) (wpAny_pure (wpAny_bind (wpAny_fieldsOf hi rfl ?_)))
  show wpAny _ _ (setEntries a >>= _) _ _ s
  refine wpAny_bind (setEntries_at ha hf ?_)
  rw [if_neg (by simp)]
  have fin : ∀ (h' : Heap) (f' : Value), h'.get? it = some { cls := .type "set_iterator", data := .fields #[f', .int ((i : Int) + 1) 0, .ref a, .int es.size 0, .int ep 0] } → (∀ b o, b ≠ it → s.heap.get? b = some o → h'.get? b = some o) →
      ItOk w h' a es ep t ord (i + 1) f' → Q (some x) { s with heap := h' } := fun h' f' e kp ok => hQ h' ⟨kp a _ (Ne.symm hne) ha, hf, hlen, f', e, ok⟩ kp
  rcases hk with ⟨hb, rfl, rfl⟩ | ⟨hb, hp, hl, hr, rfl, rfl⟩ | ⟨hb, T, ps, n, rfl, hTup, hps, rfl⟩
  · show wpAny _ _ (setNext a 0 i ep >>= _) _ _ s
    refine wpAny_bind (next_text ha hf hb ?_)
    have hx' : (pickOrder (w.params.setOrder a ep) es)[i]?.map (·.2) = some x := by
      rw [← Array.getElem?_toList, ← List.getElem?_map]
      exact hx
    cases e : (pickOrder (w.params.setOrder a ep) es)[i]? with
    | none => rw [e] at hx'; cases hx'
    | some y =>
      rw [e] at hx'
      have hy : y.2 = x := Option.some.inj hx'
      simp only [Option.map_some]
      refine wpAny_bind (put_field (k := 0) hi (by simp) fun h1 e1 k1 => ?_)
      refine wpAny_bind (put_field (k := 1) e1 (by simp) fun h2 e2 k2 => ?_)
      refine wpAny_pure ⟨_, rfl, wpAny_pure ?_⟩
      rw [hy]
      refine fin h2 _ e2 (fun b o hb q => k2 b o hb (k1 b o hb q)) (.inl ⟨hb, rfl, rfl⟩)
  · show wpAny _ _ (setNext a (slotAt t.place i) i ep >>= _) _ _ s
    refine wpAny_bind (next_plain ha hf hb hp hl ?_)
    have hps : t.place.size = es.size := fits_size hf
    have hbl : SetTable.below t.place (slotAt t.place i) = i := below_slotAt hr (by omega)
    rw [hbl, Array.getElem?_eq_getElem hlt, Array.getElem?_eq_getElem (show i < t.place.size by omega)]
    have hy : es[i].2 = x := by
      have : (es.toList.map (·.2))[i]? = some es[i].2 := by simp [hlt]
      rw [this] at hx
      exact Option.some.inj hx
    simp only []
    refine wpAny_bind (put_field (k := 0) hi (by simp) fun h1 e1 k1 => ?_)
    refine wpAny_bind (put_field (k := 1) e1 (by simp) fun h2 e2 k2 => ?_)
    refine wpAny_pure ⟨_, rfl, wpAny_pure ?_⟩
    rw [hy]
    refine fin h2 _ e2 (fun b o hb q => k2 b o hb (k1 b o hb q)) (.inr (.inl ⟨hb, hp, hl, hr, ?_, rfl⟩))
    have : slotAt t.place (i + 1) = t.place[i] + 1 := by
      unfold slotAt
      rw [if_neg (by omega)]
      simp [Array.getD, show i < t.place.size by omega]
    rw [this]
    simp [rawInt]
  · show wpAny _ _ (seqItems? (.ref T) >>= _) _ _ s
    refine wpAny_bind (wpAny_seqItems hTup rfl ?_)
    have hpl : i < ps.length := by rw [List.length_map] at hlen; omega
    have e1 : (ps.map fun p : Nat => Value.int p 0).toArray[((i : Nat) : Int).toNat]? = some (.int ps[i] 0) := by simp [hpl]
    dsimp only
    rw [e1]
    have hpi : ps[i] < es.size := hps _ (List.getElem_mem hpl)
    have hy : es[ps[i]].2 = x := by
      rw [List.getElem?_map, List.getElem?_eq_getElem hpl] at hx
      simp only [Option.map_some, Array.getElem?_eq_getElem hpi, Option.getD_some, Option.some.injEq] at hx
      exact hx
    show wpAny _ _ (setNextDrawn a _ _ >>= _) _ _ s
    refine wpAny_bind ?_
    unfold setNextDrawn
    refine wpAny_bind (wpAny_setState_of ha rfl hf ?_)
    simp only [Int.toNat_natCast, bne_self_eq_false, Bool.false_eq_true, if_false, Array.getElem?_eq_getElem hpi]
    refine wpAny_pure ?_
    have hTi : T ≠ it := fun z => by
      rw [z, hi] at hTup
      have q := congrArg Obj.cls (Option.some.inj hTup)
      injection q with q1
      exact absurd q1 (by decide)
    refine wpAny_bind (put_field (k := 1) hi (by simp) fun h1 e1 k1 => ?_)
    refine wpAny_pure ⟨_, rfl, wpAny_pure ?_⟩
    rw [hy]
    exact fin h1 _ e1 k1 (.inr (.inr ⟨hb, T, ps, n, rfl, k1 T _ hTi hTup, hps, rfl⟩))
theorem raise_stop {Q : Option Value → Shared → Prop} {R : Value → Sem (Option Value)} (hh : A.in1.handled = none) (hQ : ∀ h', (∀ b o, s.heap.get? b = some o → h'.get? b = some o) → Q none { s with heap := h' }) :
    wpAny (model prog w) A.in1 (do let e ← newExc (.type "StopIteration") []; (raiseNew e : Sem Fin)) (fun fin s' => ∃ v, fin = Fin.done (Flow.ret v) ∧ wpAny (model prog w) A (pure (some v)) Q E s')
      (fun e s' => wpAny (model prog w) A (do
        let b ← isInstance e (.type "StopIteration")
        if b = true then pure none else throw e) Q E s') s := by
  refine wpAny_bind ?_
  simp only [newExc, newTuple]
  refine wpAny_bind (wpAny_newObj_type ?_ (by size_fits))
  refine wpAny_bind (m := firstArgMember _ _) (wpAny_of_eq (a := Value.none) (by first | rfl | (simp only [firstArgMember]; rfl)) ?_)
  refine wpAny_newObj_type ?_ (by size_fits)
  simp only [raiseNew]
  refine wpAny_bind (wpAny_handled ?_)
  rw [hh]
  refine wpAny_bind (wpAny_pure (wpAny_throw ?_))
  refine wpAny_bind (wpAny_isInstance (T := "StopIteration") (b := true) ⟨_, Heap.get?_push_size _ rfl, rfl⟩ isSubtype_stop ?_)
  exact wpAny_pure (hQ _ fun b o e => Heap.get?_push_of_some _ (Heap.get?_push_of_some _ e))
theorem next_end {Q : Option Value → Shared → Prop} (hh : A.handled = none) (hit : SetIt w s.heap it a es ep t ord es.size) 
    (hQ : ∀ h', (∀ b o, b ≠ it → s.heap.get? b = some o → h'.get? b = some o) → Q none { s with heap := h' }) :
    wpAny (model prog w) A (pyNext (.ref it)) Q E s := by
  obtain ⟨ha, hf, hlen, first, hi, hk⟩ := hit
  have hT : s.TypeIs (.ref it) "set_iterator" := ⟨_, hi, rfl⟩
  unfold pyNext
  refine wpAny_bind (wpAny_attempt (wpAny_callSpecial?_slot (name := Str.ofString "__next__") hT slot_next (wpAny_call_entry slot_next hT entry_next ?_ (args_next _))))
  unfold Builtin.«set_iterator.__next__»
  refine wpAny_bind (m := slotArgs "__next__" 0 _) (wpAny_pure (wpAny_bind (wpAny_fieldsOf hi rfl ?_)))
  show wpAny _ _ (setEntries a >>= _) _ _ s
  refine wpAny_bind (setEntries_at ha hf ?_)
  rw [if_neg (by simp)]
  rcases hk with ⟨hb, rfl, rfl⟩ | ⟨hb, hp, hl, hr, rfl, rfl⟩ | ⟨hb, T, ps, n, rfl, hTup, hps, rfl⟩
  · show wpAny _ _ (setNext a 0 es.size ep >>= _) _ _ s
    refine wpAny_bind (next_text ha hf hb ?_)
    have e : (pickOrder (w.params.setOrder a ep) es)[es.size]? = none := by
      rw [Array.getElem?_eq_none_iff]
      simp only [List.length_map, Array.length_toList] at hlen
      omega
    rw [e]
    simp only [Option.map_none]
    refine wpAny_bind (put_field (k := 2) hi (by simp) fun h1 e1 k1 => ?_)
    exact raise_stop (R := fun _ => pure none) hh fun h' kp => hQ h' fun b o hb q => kp b o (k1 b o hb q)
  · show wpAny _ _ (setNext a (slotAt t.place es.size) es.size ep >>= _) _ _ s
    refine wpAny_bind (next_plain ha hf hb hp hl ?_)
    have hps : t.place.size = es.size := fits_size hf
    have hbl : SetTable.below t.place (slotAt t.place es.size) = es.size := below_slotAt hr (by omega)
    rw [hbl, Array.getElem?_eq_none_iff.mpr (Nat.le_refl es.size)]
    simp only []
    refine wpAny_bind (put_field (k := 2) hi (by simp) fun h1 e1 k1 => ?_)
    exact raise_stop (R := fun _ => pure none) hh fun h' kp => hQ h' fun b o hb q => kp b o (k1 b o hb q)
  · show wpAny _ _ (seqItems? (.ref T) >>= _) _ _ s
    refine wpAny_bind (wpAny_seqItems hTup rfl ?_)
    have hpl : ps.length = es.size := by rw [List.length_map] at hlen; exact hlen
    have e1 : (ps.map fun p : Nat => Value.int p 0).toArray[((es.size : Nat) : Int).toNat]? = none := by simp [hpl]
    dsimp only
    rw [e1]
    dsimp only
    refine wpAny_bind (put_field (k := 0) hi (by simp) fun h1 e1 k1 => ?_)
    refine wpAny_bind (put_field (k := 2) e1 (by simp) fun h2 e2 k2 => ?_)
    exact raise_stop (R := fun _ => pure none) hh fun h' kp => hQ h' fun b o hb q => kp b o (k2 b o hb (k1 b o hb q))
/-- iter(s): some order of the elements -/
theorem iter_set {L : Bool} {Q : Value → Shared → Prop} (ha : s.heap.get? a = some (setObj es ep t)) (hf : t.fits es.size = true) (ht : TabOk L t) (hL : L = !w.params.followText "set-order") (hz : es.size ≤ 4096)
    (hQ : ∀ it h' d ord, (∀ b o, s.heap.get? b = some o → h'.get? b = some o) → s.heap.objs.size ≤ it → ord.Perm (es.toList.map (·.2)) → SetIt w h' it a es ep t ord 0 → Q (.ref it) { s with heap := h', drawn := d }) :
    wpAny (model prog w) A (pyIter (.ref a)) Q E s := by
  have hT : s.TypeIs (.ref a) "set" := ⟨_, ha, rfl⟩
  refine wpAny_pyIter_slot hT F.slot_set_iter (wpAny_call_entry F.slot_set_iter hT entry_iter ?_ (F.args_set_iter_1 _))
  unfold Builtin.«frozenset.__iter__»
  refine wpAny_bind (m := Builtin.Frozenset.slot0 "__iter__" _) (wpAny_pure ?_)
  refine wpAny_bind (m := Builtin.Frozenset.sizeOf a) ?_
  unfold Builtin.Frozenset.sizeOf
  refine wpAny_bind (setEntries_at ha hf (wpAny_pure ?_))
  refine wpAny_bind (m := setDrawn a) ?_
  unfold setDrawn
  refine wpAny_bind (wpAny_setState_of ha rfl hf (wpAny_bind (byText_at ?_)))
  refine wpAny_pure ?_
  show wpAny _ _ (if (!w.params.followText "set-order" && (!t.plain && decide (es.size > 1))) = true then _ else _) _ _ s
  have fin : ∀ (s1 : Shared) (d : Drawn) (first : Value) (ord : List Value), s1 = { s with heap := s1.heap, drawn := d } → (∀ b o, s.heap.get? b = some o → s1.heap.get? b = some o) → s.heap.objs.size ≤ s1.heap.objs.size → ord.Perm (es.toList.map (·.2)) → ItOk w s1.heap a es ep t ord 0 first →
      wpAny (model prog w) A.in1 (do
        let e ← setEpoch a
        let r ← newFields "set_iterator" [first, rawInt 0, .ref a, rawInt es.size, rawInt e]
        ret r) (fun fin s' => ∃ v, fin = Fin.done (Flow.ret v) ∧ ∃ T' r, s'.TypeIs v T' ∧ typeLookup (.type T') "__next__" = pure (some r) ∧ Q v s') E s1 := fun s1 d first ord es1 kp hle hp ok => by
    refine wpAny_bind (wpAny_setEpoch_of (kp _ _ ha) rfl hf ?_)
    refine wpAny_bind (wpAny_newObj_type ?_)
    refine wpAny_pure ⟨_, rfl, "set_iterator", _, ⟨_, Heap.get?_push_size _ rfl, rfl⟩, slot_next.lookup, ?_⟩
    have kp' : ∀ b o, s1.heap.get? b = some o → (s1.heap.push (itObj first 0 a es.size ep)).get? b = some o := fun b o e => Heap.get?_push_of_some _ e
    have key := hQ s1.heap.objs.size (s1.heap.push (itObj first 0 a es.size ep)) d ord (fun b o e => kp' b o (kp b o e)) hle hp ⟨kp' _ _ (kp _ _ ha), hf, by rw [hp.length_eq, List.length_map, Array.length_toList], first, Heap.get?_push_size _ rfl, ?_⟩
    · have e2 : ({ s1 with heap := s1.heap.push (itObj first 0 a es.size ep) } : Shared) = { s with heap := s1.heap.push (itObj first 0 a es.size ep), drawn := d } := by
        rw [es1]
      have e3 : ({ s1 with heap := s1.heap.push { cls := .type "set_iterator", dict := none, data := .fields [first, rawInt 0, .ref a, rawInt es.size, rawInt ep].toArray } } : Shared) = { s with heap := s1.heap.push (itObj first 0 a es.size ep), drawn := d } := e2
      rw [e3]
      exact key
    · rcases ok with ok | ok | ⟨f, T, ps, n, e, eT, r⟩
      · exact .inl ok
      · exact .inr (.inl ok)
      · exact .inr (.inr ⟨f, T, ps, n, e, kp' _ _ eT, r⟩)
  cases hb : w.params.followText "set-order" with
  | true =>
    simp only [Bool.not_true, Bool.false_and, Bool.false_eq_true, if_false]
    refine wpAny_bind (wpAny_pure ?_)
    exact fin s s.drawn _ _ rfl (fun _ _ e => e) (Nat.le_refl _) ((pick_perm _ es).map _) (.inl ⟨hb, rfl, rfl⟩)
  | false =>
    cases hp : (!t.plain && decide (es.size > 1)) with
    | false =>
      simp only [Bool.not_false, Bool.true_and, Bool.false_eq_true, if_false]
      refine wpAny_bind (wpAny_pure ?_)
      refine fin s s.drawn _ _ rfl (fun _ _ e => e) (Nat.le_refl _) (List.Perm.refl _) (.inr (.inl ⟨hb, hp, by rw [ht.led, hL, hb]; rfl, ht.rise, rfl, rfl⟩))
    | true =>
      simp only [Bool.not_false, Bool.true_and, if_true]
      refine wpAny_bind (wpAny_drawn es.size (List.range es.size) s (by simp) fun ps d hperm => wpAny_bind ?_)
      unfold newTuple
      refine wpAny_newObj_type ?_ (by
        have e : ps.length = es.size := by rw [hperm.length_eq, List.length_range]
        show (List.map (fun i : Nat => rawInt i) ps).toArray.size ≤ sizeLine
        rw [List.size_toArray, List.length_map, e, sizeLine_eq]
        omega)
      refine fin _ d _ (ps.map fun p => (es[p]?.map (·.2)).getD .none) rfl (fun _ _ e => Heap.get?_push_of_some _ e) (by rw [Heap.size_push]; exact Nat.le_succ _) ?_ (.inr (.inr ⟨hb, s.heap.objs.size, ps, 0, rfl, Heap.get?_push_size _ rfl, fun p hp' => List.mem_range.mp (hperm.mem_iff.mp hp'), rfl⟩))
      have e : es.toList.map (·.2) = (List.range es.size).map fun p => (es[p]?.map (·.2)).getD .none := by
        apply List.ext_getElem
        · simp
        · intro j h1 h2
          simp only [List.getElem_map, List.getElem_range, Array.getElem_toList]
          have : j < es.size := by simpa using h1
          simp [this]
      rw [e]
      exact hperm.map _
end
end Yd
namespace Yd
open PySem PyProof.Rows
theorem cls_ne {h : Heap} {b c : Addr} {o u : Obj} {x y : String} (h1 : h.get? b = some o) (h2 : h.get? c = some u) (e1 : o.cls = .type x) (e2 : u.cls = .type y) (hn : x ≠ y) : b ≠ c := fun z => by
  rw [z, h2] at h1
  cases h1
  rw [e1] at e2
  injection e2 with q
  exact hn q
section
variable {prog : Program} {w : World} {A : Around} {E : Value → Shared → Prop} {s : Shared} {it a D : Addr} {es : Array (Int × Value)} {ep : Nat} {t : SetTable} {ord : List Value} {i : Nat}
theorem SetIt.but {h h' : Heap} {o : Obj} (x : SetIt w h it a es ep t ord i) (hD : h.get? D = some o) (hc : o.cls = .type "list") (k : ∀ b o, b ≠ D → h.get? b = some o → h'.get? b = some o) : SetIt w h' it a es ep t ord i := by
  obtain ⟨h1, h2, h3, first, h4, h5⟩ := x
  refine ⟨k _ _ (cls_ne h1 hD rfl hc (by decide)) h1, h2, h3, first, k _ _ (cls_ne h4 hD rfl hc (by decide)) h4, ?_⟩
  rcases h5 with h5 | h5 | ⟨f, T, ps, n, e, eT, r⟩
  · exact .inl h5
  · exact .inr (.inl h5)
  · exact .inr (.inr ⟨f, T, ps, n, e, k _ _ (cls_ne eT hD rfl hc (by decide)) eT, r⟩)
theorem extend_set {res : Value} {R : Result → Shared → Prop} (hh : A.in1.handled = none) (hne : it ≠ a) (hz : es.size ≤ 4096) :
    ∀ (k i : Nat) (s : Shared) (arr : Array Value) (n : Nat), ord.length - i = k → i ≤ ord.length → arr.size = i → SetIt w s.heap it a es ep t ord i → s.heap.get? D = some (seqObj "list" arr n) →
      (∀ h' n', (∀ b o, b ≠ it → b ≠ D → s.heap.get? b = some o → h'.get? b = some o) → h'.get? D = some (seqObj "list" (arr ++ (ord.drop i).toArray) n') → R (.ok (.ret res)) { s with heap := h' }) →
      codeAny (model prog w) A (.builtin "list.extend.loop" ⟨[.ref D, .ref it, res], []⟩) R s := by
  intro k
  induction k with
  | zero =>
    intro i s arr n hk hle hsz hit hD hR
    refine codeAny_builtin F.entry_extend_loop ?_
    rw [Around.under_plainId F.plain_extend_loop _]
    show wpAny _ A.in1 (pyNext (.ref it) >>= _) _ _ s
    have hi : i = es.size := by have := hit.2.2.1; omega
    subst hi
    have hDi : D ≠ it := by
      obtain ⟨_, _, _, f, h4, _⟩ := hit
      exact cls_ne hD h4 rfl rfl (by decide)
    refine wpAny_bind (next_end hh hit fun h' kp => ?_)
    refine wpAny_pure (hR h' n (fun b o hb _ e => kp b o hb e) ?_)
    rw [kp D _ hDi hD, List.drop_of_length_le (by have := hit.2.2.1; omega)]
    simp
  | succ k ih =>
    intro i s arr n hk hle hsz hit hD hR
    refine codeAny_builtin F.entry_extend_loop ?_
    rw [Around.under_plainId F.plain_extend_loop _]
    show wpAny _ A.in1 (pyNext (.ref it) >>= _) _ _ s
    have hlt : i < ord.length := by omega
    have hDi : D ≠ it := by
      obtain ⟨_, _, _, f, h4, _⟩ := hit
      exact cls_ne hD h4 rfl rfl (by decide)
    have hlen := hit.2.2.1
    refine wpAny_bind (next_item hit hne (List.getElem?_eq_getElem hlt) fun h1 hit1 kp => ?_)
    show wpAny _ A.in1 (Builtin.List.listUpdate (.ref D) (·.push ord[i]) >>= _) _ _ _
    have hD1 := kp D _ hDi hD
    refine wpAny_bind (listUpdate_at (s := { s with heap := h1 }) hD1 rfl ?_ (by rw [sizeLine_eq]; omega) (by rw [Array.size_push, sizeLine_eq]; omega))
    have hD2 := get?_update_seq hD1 (·.push ord[i])
    have oth : ∀ b o, b ≠ D → h1.get? b = some o → (h1.update D (Obj.mapSeq (·.push ord[i]))).get? b = some o := fun b o hb e => (Heap.get?_update_other _ _ (Ne.symm hb)).trans e
    refine wpAny_pure ⟨plainId_quiet F.plain_extend_loop _, ih (i + 1) _ _ _ (by omega) hlt (by rw [Array.size_push]; omega) (hit1.but hD1 rfl oth) hD2 fun h' n' kp' hD' => ?_⟩
    refine hR h' n' (fun b o n1 n2 e => kp' b o n1 n2 (oth b o n2 (kp b o n1 e))) ?_
    rw [hD', List.drop_eq_getElem_cons hlt]
    simp
theorem set_len : typeLookup (.type "set") "__len__" = pure (some (.builtin "set.__len__")) := F.slot_set_len.lookup
theorem collect_set {L : Bool} {Q : List Value → Shared → Prop} (hh : A.handled = none) (ha : s.heap.get? a = some (setObj es ep t)) (hf : t.fits es.size = true) (ht : TabOk L t) (hL : L = !w.params.followText "set-order") (hz : es.size ≤ 4096)
    (hQ : ∀ ord h' d, ord.Perm (es.toList.map (·.2)) → (∀ b o, s.heap.get? b = some o → h'.get? b = some o) → s.heap.objs.size ≤ h'.objs.size → Q ord { s with heap := h', drawn := d }) : wpAny (model prog w) A (collect (.ref a)) Q E s := by
  unfold collect
  refine wpAny_bind (wpAny_runValue (codeAny_builtin F.entry_proto_collect ?_))
  rw [Around.under_plainId F.plain_proto_collect _]
  show wpAny _ A.in1 (newList [] >>= fun l => again (.builtin "list.__iadd__" ⟨[l, .ref a], []⟩)) _ _ s
  refine wpAny_bind (wpAny_newObj_type (wpAny_pure ⟨plainId_quiet F.plain_list_iadd _, codeAny_builtin F.entry_list_iadd ?_⟩))
  rw [Around.under_plainId F.plain_list_iadd _]
  show wpAny _ A.in1 (Builtin.List.listExtendWith (.ref s.heap.objs.size) (.ref a) (.ref s.heap.objs.size)) _ _ _
  generalize hH : s.heap.push { cls := .type "list", data := .seq ([] : List Value).toArray } = H1
  have kp1 : ∀ b o, s.heap.get? b = some o → H1.get? b = some o := fun b o e => hH ▸ Heap.get?_push_of_some _ e
  have hD : H1.get? s.heap.objs.size = some (seqObj "list" #[] 0) := hH ▸ Heap.get?_push_size _ rfl
  have ha1 : H1.get? a = some (setObj es ep t) := kp1 _ _ ha
  have hT : Shared.TypeIs { s with heap := H1 } (.ref a) "set" := ⟨_, ha1, rfl⟩
  unfold Builtin.List.listExtendWith
  refine wpAny_bind (wpAny_typeOf hT ?_)
  have n1 : s.heap.objs.size ≠ a := Nat.ne_of_gt (Heap.lt_size ha)
  have h1 : Builtin.List.listSameRef (.ref s.heap.objs.size) (.ref a) = false := by simp [Builtin.List.listSameRef, n1]
  have h2 : (Value.type "set" == Value.type "list") = false := by decide
  have h3 : (Value.type "set" == Value.type "tuple") = false := by decide
  simp only [h1, h2, h3, Bool.or_false, Bool.false_eq_true, if_false]
  refine wpAny_bind (iter_set (s := { s with heap := H1 }) ha1 hf ht hL hz fun it h2 d ord kp2 hge hperm hit => ?_)
  refine wpAny_bind (wpAny_holding ?_)
  have ha2 := kp2 _ _ ha1
  have hT2 : Shared.TypeIs { s with heap := h2, drawn := d } (.ref a) "set" := ⟨_, ha2, rfl⟩
  unfold Builtin.List.listLengthHint
  refine wpAny_bind (wpAny_specialOf hT2 set_len ?_)
  wp_delta
  refine wpAny_bind (wpAny_isInstance hT2 (b := true) (by rw [isSubtype_type]; kernel_rfl) ?_)
  show wpAny _ A.in1 (typeOf (Value.ref a) >>= _) _ _ _
  refine wpAny_bind (wpAny_typeOf hT2 (wpAny_pure ?_))
  show wpAny _ A.in1 (rule "list.extend.makes-room" >>= fun _ => Builtin.List.listTouch (.ref s.heap.objs.size) >>= fun _ => again (.builtin "list.extend.loop" ⟨[.ref s.heap.objs.size, .ref it, .ref s.heap.objs.size], []⟩)) _ _ _
  refine wpAny_bind (wpAny_rule (wpAny_bind ?_))
  unfold Builtin.List.listTouch
  have hD2 := kp2 _ _ hD
  refine wpAny_bind (listUpdate_at (s := { s with heap := h2, drawn := d }) hD2 rfl ?_ (by simp) (by simp [sizeLine_eq]))
  have hD3 := get?_update_seq hD2 (·.push Value.none)
  refine listUpdate_at (s := { s with heap := h2.update s.heap.objs.size (Obj.mapSeq (·.push Value.none)), drawn := d }) hD3 rfl ?_ (by simp [sizeLine_eq]) (by simp)
  have hD4 := get?_update_seq hD3 (·.pop)
  have oth : ∀ b o, b ≠ s.heap.objs.size → h2.get? b = some o → ((h2.update s.heap.objs.size (Obj.mapSeq (·.push Value.none))).update s.heap.objs.size (Obj.mapSeq (·.pop))).get? b = some o :=
    fun b o hb e => (Heap.get?_update_other _ _ (Ne.symm hb)).trans ((Heap.get?_update_other _ _ (Ne.symm hb)).trans e)
  have hia : it ≠ a := by
    obtain ⟨q1, _, _, f, q4, _⟩ := hit
    exact cls_ne q4 q1 rfl rfl (by decide)
  have hsz1 : H1.objs.size = s.heap.objs.size + 1 := by rw [← hH, Heap.size_push]
  refine wpAny_pure ⟨plainId_quiet F.plain_extend_loop _, extend_set hh hia hz (ord.length - 0) 0 _ _ _ rfl (Nat.zero_le _) (by simp) (hit.but hD2 rfl oth) hD4 fun h' n' kp' hD' => ?_⟩
  show wpAny _ A (load s.heap.objs.size >>= _) _ _ _
  refine wpAny_bind (wpAny_load hD' ?_)
  refine wpAny_pure ?_
  have key := hQ ord h' d hperm (fun b o e => ?_) ?_
  · simpa using key
  · have hlt := Heap.lt_size e
    have q1 : s.heap.objs.size < H1.objs.size := by rw [hsz1]; exact Nat.lt_succ_self _
    have q2 : H1.objs.size ≤ it := hge
    exact kp' b o (Nat.ne_of_lt (Nat.lt_trans hlt (Nat.lt_of_lt_of_le q1 q2))) (Nat.ne_of_lt hlt) (oth b o (Nat.ne_of_lt hlt) (kp2 b o (kp1 b o e)))
  · exact Nat.le_of_lt (Heap.lt_size hD')
/-- sorted(s) of a set of ints -/
theorem sorted_setT {L : Bool} {pre : List Int} {Q : Value → Shared → Prop} (hh : A.handled = none) (hS : SetT prog w s.heap a L pre) (hL : L = !w.params.followText "set-order") (h64 : pre.length < 64)
    (hQ : ∀ (l : Addr) (h' : Heap) (d : Drawn) (out : Array Value) (ns : List Int) (n : Nat), IntsAre out.toList ns → ns.Pairwise (· < ·) → (∀ k, k ∈ ns ↔ k ∈ pre) → ns.length ≤ pre.length → (∀ b o, s.heap.get? b = some o → h'.get? b = some o) → s.heap.objs.size ≤ l →
      h'.get? l = some (seqObj "list" out n) → Q (.ref l) { s with heap := h', drawn := d }) : wpAny (model prog w) A (call (.builtin "sorted") [.ref a]) Q E s := by
  obtain ⟨es, ep, t, ho, hel, hsz, hf, ht, hnd, hmem⟩ := hS
  refine Calls.call_function_entry kind_sorted plain_sorted entry_sorted (args_sorted1 _) ?_
  unfold Builtin.«sorted»
  refine wpAny_bind (m := checkCount "sorted" 1 1 _) (wpAny_pure ?_)
  refine wpAny_bind (collect_set hh ho hf ht hL (by omega) fun ord h1 d hperm kp hle => ?_)
  have hI : IntsAre ord (ord.map numOf) := by
    have all : ∀ v ∈ ord, ∃ k t, v = .int k t := fun v hv => by
      obtain ⟨e, he, rfl⟩ := List.mem_map.mp (hperm.mem_iff.mp hv)
      obtain ⟨⟨k, hk, _⟩, _⟩ := hel e he
      obtain ⟨t, q⟩ := Value.isInt_shape hk
      exact ⟨k, t, q⟩
    clear hperm
    induction ord with
    | nil => exact .nil
    | cons v r ih =>
      obtain ⟨k, t, rfl⟩ := all v List.mem_cons_self
      exact .cons k t (ih fun x hx => all x (List.mem_cons_of_mem _ hx))
  have hlen : ord.length = es.size := by rw [hperm.length_eq, List.length_map, Array.length_toList]
  have hnp : (ord.map numOf).Perm (numsOf es.toList) := by
    have := hperm.map numOf
    rw [List.map_map] at this
    exact this
  refine wpAny_bind (wpAny_newList ?_ (by rw [hlen, sizeLine_eq]; omega))
  have hoL : (h1.push (seqObj "list" ord.toArray 0)).get? h1.objs.size = some (seqObj "list" ord.toArray 0) := Heap.get?_push_size _ rfl
  show wpAny _ _ _ _ _ { s with heap := h1.push (seqObj "list" ord.toArray 0), drawn := d }
  refine wpAny_bind (wpAny_holding (wpAny_call_entry slot_list_sort ⟨_, hoL, rfl⟩ entry_list_sort (list_sort_tree (s := { s with heap := h1.push (seqObj "list" ord.toArray 0), drawn := d }) hoL hI (by omega) fun out ns' a1 a2 a3 => ⟨_, rfl, ?_⟩) (args_list_sort _)))
  refine wpAny_pure ⟨_, rfl, ?_⟩
  obtain ⟨n, hn⟩ := sortedHeap_at (out := out) hoL
  have hp := a2.trans hnp
  refine hQ _ _ d out ns' n a1 ?_ (fun k => by rw [hp.mem_iff, hmem k]) (by rw [hp.length_eq]; simp only [numsOf, List.length_map, Array.length_toList]; omega) (fun b o e => ?_) hle hn
  · have nd : ns'.Nodup := hp.nodup_iff.mpr hnd
    exact (List.pairwise_and_iff.mpr ⟨a3, nd⟩).imp fun ⟨x, y⟩ => by omega
  · have hlt := Heap.lt_size (kp b o e)
    show (sortedHeap _ _ _ _).get? b = some o
    rw [sortedHeap_old (Nat.ne_of_lt hlt) (by rw [size_push']; exact Nat.lt_succ_of_lt hlt)]
    exact Heap.get?_push_of_some _ (kp b o e)
end
end Yd
namespace Yd
open PySem
theorem bitAnd_nat (a b : Nat) : Builtin.bitAnd (a : Int) (b : Int) = ((a &&& b : Nat) : Int) := by
  unfold Builtin.bitAnd
  simp
theorem bitNot_eq (x : Int) : Builtin.bitNot x = -x - 1 := by
  unfold Builtin.bitNot
  omega
theorem bitOr_nat (a b : Nat) : Builtin.bitOr (a : Int) (b : Int) = ((a ||| b : Nat) : Int) := by
  unfold Builtin.bitOr
  have h1 : Builtin.bitNot (a : Int) = -(a : Int) - 1 := bitNot_eq _
  have h2 : Builtin.bitNot (b : Int) = -(b : Int) - 1 := bitNot_eq _
  unfold Builtin.bitAnd
  rw [h1, h2]
  have e1 : decide (0 ≤ -(a : Int) - 1) = false := decide_eq_false (by omega)
  have e2 : decide (0 ≤ -(b : Int) - 1) = false := decide_eq_false (by omega)
  rw [e1, e2]
  simp only []
  have e3 : Builtin.bitNot (-(a : Int) - 1) = a := by rw [bitNot_eq]; omega
  have e4 : Builtin.bitNot (-(b : Int) - 1) = b := by rw [bitNot_eq]; omega
  rw [e3, e4]
  simp only [Int.toNat_natCast]
  rw [bitNot_eq, bitNot_eq]
  omega
/-- the set of a list, as a number -/
noncomputable def setN : List Nat → Nat → Nat
  | [], s => s
  | n :: r, s => setN r (s ||| 2 ^ n)
theorem setN_bit (k : Nat) : ∀ (l : List Nat) (s : Nat), (setN l s).testBit k = (s.testBit k || decide (k ∈ l))
  | [], s => by simp [setN]
  | n :: r, s => by
    unfold setN
    rw [setN_bit k r]
    rw [Nat.testBit_or, Nat.testBit_two_pow]
    by_cases h : n = k
    · subst h; simp
    · have : ¬ k = n := fun z => h z.symm
      simp [h, this]
theorem setN_app (l r : List Nat) (s : Nat) : setN (l ++ r) s = setN r (setN l s) := by
  induction l generalizing s with
  | nil => rfl
  | cons n t ih => exact ih _
/-- what the law reckons: the worths of the numbers below n that stand in the list -/
noncomputable def dueN (l : List Nat) : Nat → Nat
  | 0 => 0
  | n + 1 => if n ∈ l then dueN l n + 2 ^ n else dueN l n
theorem dueN_lt (l : List Nat) : ∀ n, dueN l n < 2 ^ n
  | 0 => by simp [dueN]
  | n + 1 => by
    have := dueN_lt l n
    unfold dueN
    rw [Nat.pow_succ]
    split <;> omega
theorem dueN_bit (l : List Nat) (k : Nat) : ∀ n, (dueN l n).testBit k = decide (k < n ∧ k ∈ l)
  | 0 => by simp [dueN]
  | n + 1 => by
    have ih := dueN_bit l k n
    have hlt := dueN_lt l n
    unfold dueN
    by_cases hn : n ∈ l
    · rw [if_pos hn, Nat.add_comm]
      rcases Nat.lt_trichotomy k n with h | h | h
      · rw [Nat.testBit_two_pow_add_gt h, ih]
        simp [h, Nat.lt_succ_of_lt h]
      · subst h
        rw [Nat.testBit_two_pow_add_eq, Nat.testBit_lt_two_pow hlt]
        simp [hn]
      · have hb : 2 ^ n + dueN l n < 2 ^ k := by
          have : 2 ^ (n + 1) ≤ 2 ^ k := Nat.pow_le_pow_right (by decide) h
          rw [Nat.pow_succ] at this
          omega
        rw [Nat.testBit_lt_two_pow hb]
        have : ¬ k < n + 1 := by omega
        simp [this]
    · rw [if_neg hn, ih]
      by_cases h : k = n
      · subst h; simp [hn]
      · have : k < n ↔ k < n + 1 := by omega
        simp [this]
theorem due_set {l : List Nat} {n : Nat} (h : ∀ k ∈ l, k < n) : dueN l n = setN l 0 := by
  apply Nat.eq_of_testBit_eq
  intro k
  rw [dueN_bit, setN_bit]
  by_cases hk : k ∈ l
  · simp [hk, h k hk]
  · simp [hk]
/-- the numbers of a set, rising -/
noncomputable def memN (m b : Nat) : List Nat := (List.range b).filter fun k => m.testBit k
theorem memN_mem {m b k : Nat} (h : m < 2 ^ b) : k ∈ memN m b ↔ m.testBit k = true := by
  unfold memN
  rw [List.mem_filter, List.mem_range]
  constructor
  · exact fun z => z.2
  · intro z
    refine ⟨?_, z⟩
    by_cases hk : k < b
    · exact hk
    · have : m < 2 ^ k := Nat.lt_of_lt_of_le h (Nat.pow_le_pow_right (by decide) (by omega))
      rw [Nat.testBit_lt_two_pow this] at z
      cases z
theorem memN_rise (m b : Nat) : (memN m b).Pairwise (· < ·) := List.Pairwise.filter _ List.pairwise_lt_range
theorem rise_ext : ∀ {l r : List Int}, l.Pairwise (· < ·) → r.Pairwise (· < ·) → (∀ k, k ∈ l ↔ k ∈ r) → l = r
  | [], [], _, _, _ => rfl
  | [], y :: r, _, _, h => by
    have := (h y).mpr List.mem_cons_self
    cases this
  | x :: l, [], _, _, h => by
    have := (h x).mp List.mem_cons_self
    cases this
  | x :: l, y :: r, hl, hr, h => by
    obtain ⟨hx, hl'⟩ := List.pairwise_cons.mp hl
    obtain ⟨hy, hr'⟩ := List.pairwise_cons.mp hr
    have e : x = y := by
      rcases List.mem_cons.mp ((h x).mp List.mem_cons_self) with z | z
      · exact z
      · rcases List.mem_cons.mp ((h y).mpr List.mem_cons_self) with z' | z'
        · exact z'.symm
        · have := hx y z'
          have := hy x z
          omega
    subst e
    congr 1
    refine rise_ext hl' hr' fun k => ?_
    constructor
    · intro z
      rcases List.mem_cons.mp ((h k).mp (List.mem_cons_of_mem _ z)) with q | q
      · have := hx k z; omega
      · exact q
    · intro z
      rcases List.mem_cons.mp ((h k).mpr (List.mem_cons_of_mem _ z)) with q | q
      · have := hy k z; omega
      · exact q
theorem bits_lt (m : Nat) : m < 2 ^ (Builtin.Int.intBits (m : Int)) := by
  unfold Builtin.Int.intBits
  by_cases h : m = 0
  · subst h; simp
  · have e : ((m : Int) == 0) = false := by simp [h]
    rw [e]
    simp only [Bool.false_eq_true, if_false, Int.natAbs_natCast]
    exact Nat.lt_log2_self
theorem bits_le {m b : Nat} (h : m < 2 ^ b) : Builtin.Int.intBits (m : Int) ≤ b := by
  unfold Builtin.Int.intBits
  by_cases h0 : m = 0
  · subst h0; simp
  · have e : ((m : Int) == 0) = false := by simp [h0]
    rw [e]
    simp only [Bool.false_eq_true, if_false, Int.natAbs_natCast]
    have := (Nat.log2_lt h0).mpr h
    omega
theorem has_bit (m k : Nat) : decide (Builtin.bitAnd ((m : Int) / 2 ^ k) 1 = 1) = m.testBit k := by
  have e : ((m : Int) / 2 ^ k) = ((m / 2 ^ k : Nat) : Int) := by
    rw [Int.natCast_ediv, Int.natCast_pow]
    rfl
  rw [e, show (1 : Int) = ((1 : Nat) : Int) from rfl, bitAnd_nat, Nat.testBit_eq_decide_div_mod_eq]
  rw [Nat.and_one_is_mod]
  congr 1
  exact propext ⟨fun z => by exact_mod_cast z, fun z => by exact_mod_cast z⟩
end Yd
namespace L2
open PySem PySem.Spec PyProof.Rows
/-! ### list comprehensions: one clause, any target, at most one test; nothing is raised inside -/
noncomputable def closOf (cells : List (Str × Addr)) : List (Str × NameKind) → List (Str × Addr) → List (Str × Addr)
  | [], acc => acc
  | (n, k) :: r, acc => if k == .free then closOf cells r ((n, (cells.lookup n).getD 0) :: acc) else closOf cells r acc
theorem closureFor_of {scope : Scope} {env : Env} (h : ∀ y ∈ scope.names, y.2 = .free → ∃ c, env.cells.lookup y.1 = some c) :
    closureFor scope env = pure (closOf env.cells scope.names []) := by
  unfold closureFor
  have key : ∀ (names : List (Str × NameKind)) (acc : List (Str × Addr)), (∀ y ∈ names, y.2 = .free → ∃ c, env.cells.lookup y.1 = some c) →
      (forIn names acc fun (x : Str × NameKind) (cs : List (Str × Addr)) => (match x with
        | (name, kind) => if (kind == NameKind.free) = true then do
            let c ← cellOf env name
            pure (ForInStep.yield ((name, c) :: cs))
          else pure (ForInStep.yield cs) : Sem (ForInStep (List (Str × Addr))))) = (pure (closOf env.cells names acc) : Sem (List (Str × Addr))) := by
    intro names
    induction names with
    | nil => intro acc _; rfl
    | cons y r ih =>
      intro acc hy
      obtain ⟨n, k⟩ := y
      rw [List.forIn_cons]
      by_cases hk : (k == NameKind.free) = true
      · obtain ⟨c, hc⟩ := hy (n, k) List.mem_cons_self (by simpa using hk)
        have e1 : cellOf env n = pure c := by
          unfold cellOf
          simp only [] at hc
          rw [hc]
        simp only [hk, if_true, e1, pure_bind]
        rw [ih _ fun z hz => hy z (List.mem_cons_of_mem _ hz)]
        unfold closOf
        simp only [] at hc
        rw [if_pos hk, hc]
        conv => rhs; unfold closOf
        rfl
      · simp only [hk, Bool.false_eq_true, if_false, pure_bind]
        rw [ih _ fun z hz => hy z (List.mem_cons_of_mem _ hz)]
        conv => rhs; unfold closOf
        rw [if_neg hk]
  exact (congrArg (fun (m : Sem (List (Str × Addr))) => m >>= fun z => pure z) (key scope.names [] h)).trans (pure_bind _ _)
theorem closOf_lookup {cells : List (Str × Addr)} {x : Str} {c : Addr} : ∀ (names : List (Str × NameKind)) (acc : List (Str × Addr)), (∀ y ∈ names, y.2 = .free → ∃ c, cells.lookup y.1 = some c) →
    (∀ c, acc.lookup x = some c → cells.lookup x = some c) → (closOf cells names acc).lookup x = some c → cells.lookup x = some c
  | [], acc, _, ha, e => ha c e
  | (n, k) :: r, acc, hn, ha, e => by
    unfold closOf at e
    have hr := fun z hz => hn z (List.mem_cons_of_mem _ hz)
    split at e
    · rename_i hk
      refine closOf_lookup r _ hr (fun c' e' => ?_) e
      rw [List.lookup_cons] at e'
      split at e'
      · rename_i hx
        have hx' : x = n := by simpa using hx
        subst hx'
        obtain ⟨c0, hc0⟩ := hn (x, k) List.mem_cons_self (by simpa using hk)
        simp only [] at hc0
        rw [hc0] at e' ⊢
        exact e'
      · exact ha c' e'
    · exact closOf_lookup r acc hr ha e
theorem closOf_has {cells : List (Str × Addr)} {x : Str} : ∀ (names : List (Str × NameKind)) (acc : List (Str × Addr)), ((x, NameKind.free) ∈ names ∨ ∃ c, acc.lookup x = some c) →
    ∃ c, (closOf cells names acc).lookup x = some c
  | [], acc, h => by
    rcases h with h | h
    · cases h
    · exact h
  | (n, k) :: r, acc, h => by
    unfold closOf
    split
    · rename_i hk
      refine closOf_has r _ ?_
      rcases h with h | ⟨c, h⟩
      · rcases List.mem_cons.mp h with h | h
        · refine .inr ⟨(cells.lookup n).getD 0, ?_⟩
          injection h with h1 h2
          rw [List.lookup_cons, h1]
          simp
        · exact .inl h
      · refine .inr ?_
        rw [List.lookup_cons]
        split
        · exact ⟨_, rfl⟩
        · exact ⟨c, h⟩
    · rename_i hk
      refine closOf_has r _ ?_
      rcases h with h | h
      · rcases List.mem_cons.mp h with h | h
        · injection h with h1 h2
          subst h2
          exact absurd rfl hk
        · exact .inl h
      · exact .inr h

theorem relabel_free {env : Env} {x : Str} : ∀ {names : List (Str × NameKind)}, names.lookup x = some .free →
    (names.map fun (n, k) => if (k == NameKind.free && env.scope.kind == .function && env.kindOf n == some .cell) then (n, NameKind.cell) else (n, k)).lookup x = some .cell ∨
    (names.map fun (n, k) => if (k == NameKind.free && env.scope.kind == .function && env.kindOf n == some .cell) then (n, NameKind.cell) else (n, k)).lookup x = some .free
  | [], h => by simp at h
  | (n, k) :: r, h => by
    have ih := @relabel_free env x r
    rw [List.map_cons]
    cases hx : x == n with
    | true =>
      rw [List.lookup_cons, hx] at h
      cases h
      simp only []
      split
      · left; rw [List.lookup_cons, hx]
      · right; rw [List.lookup_cons, hx]
    | false =>
      rw [List.lookup_cons, hx] at h
      simp only []
      split
      · rw [List.lookup_cons, hx]; exact ih h
      · rw [List.lookup_cons, hx]; exact ih h
theorem relabel_mem {env : Env} {x : Str} {k : NameKind} (hk : k = .cell ∨ k = .free) : ∀ {names : List (Str × NameKind)}, (∀ y ∈ names, y.2 ≠ .cell) →
    (names.map fun (n, k) => if (k == NameKind.free && env.scope.kind == .function && env.kindOf n == some .cell) then (n, NameKind.cell) else (n, k)).lookup x = some k → (x, NameKind.free) ∈ names
  | [], _, h => by simp at h
  | (n, k') :: r, hc, h => by
    have ih := @relabel_mem env x k hk r fun y hy => hc y (List.mem_cons_of_mem _ hy)
    rw [List.map_cons] at h
    simp only [] at h
    cases hx : x == n with
    | true =>
      have e : x = n := by simpa using hx
      subst e
      split at h
      · rename_i q
        have q' : k' = .free := by
          have := (Bool.and_eq_true _ _ ▸ q : _ ∧ _).1
          have := (Bool.and_eq_true _ _ ▸ this : _ ∧ _).1
          simpa using this
        rw [q']
        exact List.mem_cons_self
      · rw [List.lookup_cons, hx] at h
        have e2 : k' = k := Option.some.inj h
        rcases hk with z | z
        · exact absurd (e2.trans z) (hc (x, k') List.mem_cons_self)
        · rw [e2, z]; exact List.mem_cons_self
    | false =>
      split at h
      · rw [List.lookup_cons, hx] at h; exact List.mem_cons_of_mem _ (ih h)
      · rw [List.lookup_cons, hx] at h; exact List.mem_cons_of_mem _ (ih h)

section
variable {prog : Program} {w : World} {A : Around} {R : Result → Shared → Prop} {s : Shared}
/-- the tests of a clause, one after another -/
noncomputable abbrev testsOf (ifs : List Expr) (env : Env) : Sem Bool :=
  forIn ifs true fun c r => if r = true then do let ok ← isTrue c env (eval c env); pure (ForInStep.yield ok) else pure (ForInStep.yield r)
theorem compLoop_by {elt tg iter : Expr} {ifs : List Expr} {scope : Scope} {pos : Pos} {it acc : Value} {env : Env} (I : Nat → Shared → Prop)
    (turn : ∀ n s, I n s → wpAny (model prog w) A (pyNext it) (fun r s1 => match r with
      | none => R (.ok .next) s1
      | some v => wpAny (model prog w) A (letOwnedTupleGo tg it v) (fun _ s2 => wpAny (model prog w) A (assign tg env v) (fun _ s3 =>
          wpAny (model prog w) A (testsOf ifs env) (fun ok s4 =>
            if ok = true then wpAny (model prog w) A (eval elt env) (fun x s5 =>
              wpAny (model prog w) A (call (.builtin "list.append") [acc, x]) (fun _ s6 => ∃ m, m < n ∧ I m s6) (fun _ _ => False) s5) (fun _ _ => False) s4
            else ∃ m, m < n ∧ I m s4) (fun _ _ => False) s3) (fun _ _ => False) s2) (fun _ _ => False) s1) (fun _ _ => False) s)
    (n : Nat) (h : I n s) : codeAny (model prog w) A (.compLoop (.ListComp elt [⟨tg, iter, ifs, 0⟩] scope pos) 0 it acc env) R s := by
  refine codeAny_loop rfl I (fun n s hI => ?_) n h
  have no : ∀ {E' : Value → Shared → Prop} (e : Value) (s' : Shared), False → E' e s' := fun _ _ z => z.elim
  show wpAny _ A (Sem.onRaise (compTurn (.ListComp elt [⟨tg, iter, ifs, 0⟩] scope pos) 0 it acc env) fun x => do
    noteFrame x env
    theTreesLotGoes x) _ _ s
  refine wpAny_noted ?_
  rw [compTurn_list]
  refine wpAny_bind (wpAny_standAt (wpAny_bind (wpAny_mono (turn n s hI) (fun r s1 h1 => ?_) no)))
  cases r with
  | none => exact wpAny_pure h1
  | some v =>
    refine wpAny_bind (wpAny_mono h1 (fun _ s2 h2 => ?_) no)
    refine wpAny_bind (wpAny_mono h2 (fun _ s3 h3 => ?_) no)
    refine wpAny_bind (wpAny_mono h3 (fun ok s4 h4 => ?_) no)
    cases ok with
    | false => exact wpAny_pure ⟨rfl, h4⟩
    | true =>
      refine wpAny_bind (wpAny_bind (wpAny_mono h4 (fun x s5 h5 => ?_) no))
      exact wpAny_bind (wpAny_mono h5 (fun _ s6 h6 => wpAny_pure (wpAny_pure ⟨rfl, h6⟩)) no)
end

/-- a clause's tests, by the layer -/
noncomputable def PTs (X : Cx) (ifs : List Expr) (t : TT) : Prop :=
  ∀ (pins : List (Addr × Obj)) (s : Shared) (σ : St) (H : Hp) (Q : Bool → Hp → Prop), Inv X pins σ H s → t σ H Q → wpAny (model X.prog X.w) X.A (testsOf ifs X.env) (TP X pins σ Q) X.xe s
noncomputable def tYes : TT := fun _ H Q => Q true H
theorem pts_nil {X : Cx} : PTs X [] tYes := fun _ _ _ H _ I h => wpAny_pure ⟨H, I, h⟩
theorem pts_one {X : Cx} {c : Expr} {t : TT} (h : PT X c t) : PTs X [c] t := fun pins s σ H Q I hw => by
  simp only [testsOf, List.forIn_cons, List.forIn_nil, if_true]
  exact wpAny_bind (wpAny_bind (thn (h pins s σ H Q I hw) fun b s' hb => wpAny_pure (wpAny_pure hb)))

/-- what is asked of the block's scope: N, sc are the def's -/
structure Blk (N : List Str) (sc scope : Scope) (capN : List Str) (cap : List Nat) : Prop where
  kind : scope.kind = .function
  nocell : ∀ y ∈ scope.names, y.2 ≠ .cell
  loc : ∀ y ∈ scope.names, y.2 = .local → scope.names.lookup y.1 = some .local
  free : ∀ y ∈ scope.names, y.2 = .free → sc.names.lookup y.1 = some .cell ∨ sc.names.lookup y.1 = some .free
  len : cap.length = capN.length
  cap : ∀ p ∈ capN.zip cap, scope.names.lookup p.1 = some .free ∧ N[p.2]? = some p.1
/-- the block's context -/
noncomputable abbrev cxBlk (X : Cx) (scope : Scope) (N : List Str) (C : Addr) (s : Shared) (H : Hp) (fp : List Addr) : Cx :=
  { X with N := N, s₀ := s, H₀ := H, env := compEnvC scope (closOf X.env.cells scope.names []) C X.env, outer := X.stack, stack := X.stack, ex := fp, fn := fun _ => false, pn := [], xe := fun _ _ => False }
/-- its names at the start of a turn: its own ones, then what it takes from the def -/
noncomputable def blkσ (n : Nat) (cap : List Nat) (σ : St) : St := List.replicate n none ++ cap.map fun j => (σ[j]?).join
theorem blkσ_len (n : Nat) (cap : List Nat) (σ : St) : (blkσ n cap σ).length = n + cap.length := by simp [blkσ]

section
variable {X : Cx} {pins : List (Addr × Obj)} {σ : St} {H : Hp} {s : Shared} {scope : Scope} {own capN : List Str} {cap : List Nat} {fp : List Addr}
theorem Blk.clos (B : Blk X.N X.env.scope scope capN cap) (ok : X.Ok) : ∀ y ∈ scope.names, y.2 = .free → ∃ c, X.env.cells.lookup y.1 = some c := fun y hy hf => ok.has y.1 (B.free y hy hf)
theorem Blk.cell (B : Blk X.N X.env.scope scope capN cap) (ok : X.Ok) {x : Str} {c : Addr} (h : (closOf X.env.cells scope.names []).lookup x = some c) : X.env.cells.lookup x = some c :=
  closOf_lookup scope.names [] (B.clos ok) (fun _ e => by cases e) h
/-- the values that the block takes from the def stand in cells, which nobody changes -/
theorem Blk.locs (I : Inv X pins σ H s) (B : Blk X.N X.env.scope scope capN cap) {h' : Heap} (k : ∀ x c v, X.env.cells.lookup x = some c → s.heap.IsCell c v → h'.IsCell c v) (C : Addr) (m0 : Str → Option Value) :
    ∀ (i : Nat) (x : Str) (v : V), (own ++ capN)[i]? = some x → (blkσ own.length cap σ)[i]? = some (some v) → ∃ u, RelV v u ∧ Look (compEnvC scope (closOf X.env.cells scope.names []) C X.env) h' m0 x u := by
  intro i x v e1 e2
  have hi : own.length ≤ i := by
    by_cases q : own.length ≤ i
    · exact q
    · unfold blkσ at e2
      rw [List.getElem?_append_left (by simp; omega), List.getElem?_replicate, if_pos (by omega)] at e2
      cases e2
  have e1' : capN[i - own.length]? = some x := by
    rwa [List.getElem?_append_right hi] at e1
  unfold blkσ at e2
  rw [List.getElem?_append_right (by simpa using hi), List.length_replicate, List.getElem?_map] at e2
  cases ej : cap[i - own.length]? with
  | none => rw [ej] at e2; cases e2
  | some j =>
    rw [ej] at e2
    have e2' : (σ[j]?).join = some v := Option.some.inj e2
    have e3' : σ[j]? = some (some v) := by
      cases q : σ[j]? with
      | none => rw [q] at e2'; cases e2'
      | some u => rw [q] at e2'; exact congrArg some e2'
    have hz : (x, j) ∈ capN.zip cap := by
      refine List.mem_iff_getElem?.mpr ⟨i - own.length, ?_⟩
      rw [List.getElem?_zip_eq_some]
      exact ⟨e1', ej⟩
    obtain ⟨c1, c2⟩ := B.cap (x, j) hz
    have hfx : (x, NameKind.free) ∈ scope.names := PySem.mem_of_lookup c1
    have hX := B.free _ hfx rfl
    obtain ⟨m, hm, hl⟩ := I.loc
    obtain ⟨u, ru, lk⟩ := hl j x v c2 e3' (hX.elim (fun z => .inr (.inl z)) fun z => .inr (.inr z))
    refine ⟨u, ru, .inr ⟨relabel_free c1, ?_⟩⟩
    rcases lk with ⟨q, _⟩ | ⟨_, c, ec, ic⟩
    · have q' : X.env.scope.names.lookup x = some .local := q
      rcases hX with z | z
      · rw [z] at q'; cases q'
      · rw [z] at q'; cases q'
    · obtain ⟨c', ec'⟩ := closOf_has (cells := X.env.cells) (x := x) scope.names [] (.inl hfx)
      have := B.cell I.ok ec'
      rw [ec] at this
      cases this
      exact ⟨c, ec', k x c _ ec ic⟩
theorem Inv.blk {h4 : Heap} {tk : Nat} {m0 : Str → Option Value} {C : Addr} (I : Inv X pins σ H s) (B : Blk X.N X.env.scope scope capN cap) (hC : s.heap.objs.size ≤ C) (k : ∀ b o, s.heap.get? b = some o → h4.get? b = some o)
    (hn : h4.Ns C m0) (hf : ∀ b ∈ fp, FpOk X pins H b) (hlt : ∀ b ∈ fp, b < s.heap.objs.size) :
    Inv (cxBlk X scope (own ++ capN) C s H fp) [] (blkσ own.length cap σ) H { s with heap := h4, toks := tk } := by
  have nfs : ∀ b ∈ fp, b ∉ frs X.stack := fun b hb z => by
    obtain ⟨_, f1, f2, _⟩ := hf b hb
    rcases List.mem_cons.mp (I.stkSub b z) with e | e
    · exact f1 e
    · exact f2 e
  have hinv : ∀ x, ((relabel scope X.env).names.lookup x = some .cell ∨ (relabel scope X.env).names.lookup x = some .free) → (x, NameKind.free) ∈ scope.names := fun x hx => by
    rcases hx with q | q
    · exact relabel_mem (.inl rfl) B.nocell q
    · exact relabel_mem (.inr rfl) B.nocell q
  refine ⟨⟨I.ok.mod, B.kind, I.ok.glob, I.ok.blt, hC, fun x y c h1 h2 => I.ok.inj x y c (B.cell I.ok h1) (B.cell I.ok h2), fun x hx => closOf_has scope.names [] (.inl (hinv x hx)), fun _ _ z => absurd z Bool.false_ne_true, I.ok.hd, I.ok.frames, .inl rfl,
    fun b hb => ⟨Nat.ne_of_lt (Nat.lt_of_lt_of_le (hlt b hb) hC), fun x c e => (hf b hb).2.2.2.2.1 x c (B.cell I.ok e)⟩, I.bs, Nat.le_trans I.ok.bsz I.sz, fun b o e hb => ?_, fun b hb => nfs b hb, I.stack, I.stkFree⟩,
    rfl, I.bare, Un.kept k, ⟨m0, hn, fun i x v e1 e2 _ => B.locs I (fun _ _ _ _ q => q.keeps k) C m0 i x v e1 e2⟩, fun x c e => ?_, I.hok.fresh hC, fun x c e => I.freeC x c (B.cell I.ok e), fun p hp => absurd (show p ∈ ([] : List (Addr × Obj)) from hp) (by simp), I.hok.kept k, ?_⟩
  · rcases (hf b hb).2.2.2.1 with z | z
    · exact I.ok.noex b o e z
    · exact absurd (Nat.lt_of_lt_of_le (Heap.lt_size e) (Nat.le_trans I.ok.bsz z)) (Nat.lt_irrefl _)
  · obtain ⟨v, q⟩ := I.cell x c (B.cell I.ok e)
    exact ⟨v, q.keeps k⟩
  · show (blkσ own.length cap σ).length = (own ++ capN).length
    rw [blkσ_len, List.length_append, B.len]
/-- behind a turn: the block's own names are forgotten -/
theorem Inv.reset {pins' : List (Addr × Obj)} {σ' : St} {H' : Hp} {s' : Shared} {C : Addr} (I : Inv X pins σ H s) (B : Blk X.N X.env.scope scope capN cap) (hf : ∀ b ∈ fp, FpOk X pins H b) (J : Inv (cxBlk X scope (own ++ capN) C s H fp) pins' σ' H' s') :
    Inv (cxBlk X scope (own ++ capN) C s H fp) pins' (blkσ own.length cap σ) H' s' := by
  obtain ⟨m, hn, _⟩ := J.loc
  refine ⟨J.ok, J.os, J.bare, J.base, ⟨m, hn, fun i x v e1 e2 _ => ?_⟩, J.cell, J.free, J.freeC, J.pin, J.hok, ?_⟩
  · refine B.locs I (fun y c v' ec ic => ?_) C m i x v e1 e2
    obtain ⟨o, ho, hd⟩ := ic
    have hx : c ∉ fp := fun z => (hf c z).2.2.2.2.1 y c ec rfl
    obtain ⟨sl, e⟩ := J.base.any ho (I.freeC y c ec) hx
    exact ⟨_, e, hd⟩
  · show (blkσ own.length cap σ).length = (own ++ capN).length
    rw [blkσ_len, List.length_append, B.len]
/-- an object of ours that was not tracked is tracked from here on -/
theorem Inv.adopt {D : Addr} {o : HO} (I : Inv X pins σ H s) (hn : H D = none) (h0 : X.s₀.heap.objs.size ≤ D) (hL : D ≠ X.env.locals) (hc : ∀ x c, X.env.cells.lookup x = some c → c ≠ D) (hp : ∀ p ∈ X.pn ++ pins, p.1 ≠ D)
    (new : ObjOk X.prog X.w (upd H D o) s.heap D o) : Inv X pins σ (upd H D o) s := by
  have ne : ∀ b u, H b = some u → b ≠ D := fun b u e => ne_of_none e hn
  refine ⟨I.ok, I.os, I.bare, ⟨I.base.keep, I.base.slot, fun b ob e n hx => ?_, I.base.there, fun b xs e => ?_, fun b ob u e => ?_, fun b ps e => ?_⟩, I.loc, I.cell, ?_, fun x c e => ?_, fun p hp' => ?_, fun b u e => ?_, I.len⟩
  · rw [upd_ne (Nat.ne_of_lt (Nat.lt_of_lt_of_le (Heap.lt_size e) h0))]
    exact I.base.free b ob e n hx
  · have q := I.base.tups b xs e
    rw [upd_ne (ne b _ q)]; exact q
  · have q := I.base.frzs b ob u e
    rw [upd_ne (ne b _ q)]; exact q
  · obtain ⟨more, q⟩ := I.base.tbls b ps e
    exact ⟨more, by rw [upd_ne (ne b _ q)]; exact q⟩
  · rw [upd_ne (Ne.symm hL)]; exact I.free
  · rw [upd_ne (hc x c e)]; exact I.freeC x c e
  · obtain ⟨e, n, r⟩ := I.pin p hp'
    exact ⟨e, by rw [upd_ne (hp p hp')]; exact n, r⟩
  · by_cases hb : b = D
    · subst hb; rw [upd_same] at e; cases e; exact new
    · rw [upd_ne hb] at e
      exact (I.hok b u e).stay (fun _ _ _ q => q) (fun c q => by rw [upd_ne (ne c _ q)]; exact q) fun c xs q => by rw [upd_ne (ne c _ q)]; exact q
end

/-- W: turn, a measure, what is gathered so far, the heap -/
noncomputable def CompR (J : It) (g : TG) (tt : TT) (te : TE) (σ0 : St) (Q : VK) (H1 : Hp) : Prop := ∃ W : Nat → Nat → List V → Hp → Prop, (∃ m, W 0 m [] H1) ∧ ∀ i m acc H, W i m acc H →
  acc.length < sizeLine ∧ ((J.stop i H ∧ ∀ D, H D = none → Q (.ref D) (upd H D (.lst acc))) ∨ (J.go i H ∧ ∃ N : List V → Hp → Prop, (∀ acc' H', N acc' H' → ∃ m', m' < m ∧ W (i + 1) m' acc' H') ∧
    ∀ x H', J.yld i H x H' → g x σ0 H' fun σ2 H2 => tt σ2 H2 fun b H3 => if b = true then te σ2 H3 fun y H4 => N (acc ++ [y]) H4 else N acc H3))
noncomputable def tComp (wi : TI) (g : TG) (tt : TT) (te : TE) (n : Nat) (cap : List Nat) : TE := fun σ H Q => wi σ H fun J H1 => CompR J g tt te (blkσ n cap σ) Q H1

section
variable {X : Cx} {tg iter elt : Expr} {ifs : List Expr} {scope : Scope} {pos : Pos} {wi : TI} {g : TG} {tt : TT} {te : TE} {own capN : List Str} {cap : List Nat}
noncomputable abbrev lobj (its : List Value) (k : Nat) : Obj := { cls := .type "list", data := .seq its.toArray k }
theorem comp_run {pins : List (Addr × Obj)} {s : Shared} {σ : St} {H : Hp} {Q : VK} {it : Addr} {fp : List Addr} {tn : Nat → Heap → Prop} {J : It} (B : Blk X.N X.env.scope scope capN cap) (hc : X.calm = true)
    (hb : ∀ (C : Addr) (s : Shared) (H : Hp) (fp : List Addr), PG (cxBlk X scope (own ++ capN) C s H fp) tg g ∧ PTs (cxBlk X scope (own ++ capN) C s H fp) ifs tt ∧ PE (cxBlk X scope (own ++ capN) C s H fp) elt te)
    (I : Inv X pins σ H s) (T : Turn X.prog X.w X.K tg J fp it tn) (st : tn 0 s.heap) (hf : ∀ b ∈ fp, FpOk X pins H b) {W : Nat → Nat → List V → Hp → Prop} {m0 : Nat} (w0 : W 0 m0 [] H)
    (turn : ∀ i m acc H, W i m acc H → acc.length < sizeLine ∧ ((J.stop i H ∧ ∀ D, H D = none → Q (.ref D) (upd H D (.lst acc))) ∨ (J.go i H ∧ ∃ N : List V → Hp → Prop, (∀ acc' H', N acc' H' → ∃ m', m' < m ∧ W (i + 1) m' acc' H') ∧
      ∀ x H', J.yld i H x H' → g x (blkσ own.length cap σ) H' fun σ2 H2 => tt σ2 H2 fun b H3 => if b = true then te σ2 H3 fun y H4 => N (acc ++ [y]) H4 else N acc H3)))
    {RR : Value → Addr → Result → Shared → Prop}
    (fin : ∀ (D C : Addr) (H' : Hp) (s' : Shared), Q (.ref D) H' → Inv X pins σ H' s' → (∃ m, s'.heap.Ns C m) → H' C = none → C ≠ X.env.locals → X.s₀.heap.objs.size ≤ C → (∀ x c, X.env.cells.lookup x = some c → c ≠ C) → (∀ p ∈ X.pn ++ pins, p.1 ≠ C) →
      RR (.ref D) C (.ok .next) s') :
    wpAny (model X.prog X.w) X.A (newList []) (fun acc s3 => wpAny (model X.prog X.w) X.A (newFunctionEnv scope X.env.globals (closOf X.env.cells scope.names []) [] X.env.qual none .none (some X.env)) (fun cenv s4 =>
      codeAny (model X.prog X.w) X.A (.compStart (.ListComp elt [⟨tg, iter, ifs, 0⟩] scope pos) 0 (.ref it) acc { cenv with scope := relabel scope X.env }) (RR acc cenv.locals) s4) X.xe s3) X.xe s := by
  refine wpAny_newObj_type (wpAny_newFunctionEnv B.nocell (by intro y hy; simp at hy) (fun h1 hns hsb => ?_) B.kind)
  dsimp only at hns hsb ⊢
  generalize hH2 : s.heap.push { cls := .type "list", dict := none, data := .seq ([] : List Value).toArray } = H2 at hns hsb ⊢
  have hCs : H2.objs.size = s.heap.objs.size + 1 := by rw [← hH2, Heap.size_push]
  have hCle : s.heap.objs.size ≤ H2.objs.size := by omega
  have ltOf : ∀ b ∈ fp, b < s.heap.objs.size := fun b hb => by
    obtain ⟨o, e, _⟩ := T.obj 0 s.heap st b hb
    exact Heap.lt_size e
  have old : ∀ b o, s.heap.get? b = some o → h1.get? b = some o := fun b o e =>
    hsb.extBut b o (Nat.ne_of_lt (Nat.lt_of_lt_of_le (Heap.lt_size e) hCle)) (Heap.get?_push_of_some _ (hH2 ▸ Heap.get?_push_of_some _ e))
  have hDC : s.heap.objs.size ≠ H2.objs.size := by omega
  have hacc : h1.get? s.heap.objs.size = some (lobj [] 0) := hsb.extBut _ _ hDC (Heap.get?_push_of_some _ (hH2 ▸ Heap.get?_push_size _ rfl))
  have I4 : Inv (cxBlk X scope (own ++ capN) H2.objs.size s H fp) [] (blkσ own.length cap σ) H { s with heap := h1, toks := s.toks + ([] : List (Str × Value)).length } := I.blk (own := own) B hCle old hns hf ltOf
  have nfs : ∀ b ∈ fp, b ∉ frs X.stack := fun b hb z => by
    obtain ⟨_, f1, f2, _⟩ := hf b hb
    rcases List.mem_cons.mp (I.stkSub b z) with e | e
    · exact f1 e
    · exact f2 e
  have stackLt : ∀ b ∈ frs X.stack, b < s.heap.objs.size := fun b hb => by
    obtain ⟨_, o, ho, _⟩ := I.stack.mem hb
    exact Heap.lt_size ho
  have cellLt : ∀ x c, X.env.cells.lookup x = some c → c < s.heap.objs.size := fun x c e => by
    obtain ⟨v, q⟩ := I.cell x c e
    exact q.lt
  have pinOk : ∀ (H' : Hp) (h' : Heap) (its : List Value) (k : Nat), H' s.heap.objs.size = none → h'.get? s.heap.objs.size = some (lobj its k) →
      ∀ p ∈ [(s.heap.objs.size, lobj its k)], h'.get? p.1 = some p.2 ∧ H' p.1 = none ∧ p.1 ≠ (cxBlk X scope (own ++ capN) H2.objs.size s H fp).env.locals ∧ p.1 ∉ (cxBlk X scope (own ++ capN) H2.objs.size s H fp).fs ∧ ∀ v, p.2.data ≠ .cell v := fun H' h' its k hn he p hp => by
    have e : p = (s.heap.objs.size, lobj its k) := by simpa using hp
    subst e
    exact ⟨he, hn, hDC, fun z => absurd (stackLt _ z) (Nat.lt_irrefl _), fun v z => by cases z⟩
  have stat : ∀ (H' : Hp) (its : List Value) (k : Nat), (∀ b ∈ fp, H' b = none) → ∀ b ∈ fp, FpOk (cxBlk X scope (own ++ capN) H2.objs.size s H fp) [(s.heap.objs.size, lobj its k)] H' b := fun H' its k hn b hb =>
    ⟨hn b hb, Nat.ne_of_lt (Nat.lt_of_lt_of_le (ltOf b hb) hCle), nfs b hb, .inl hb, fun x c e => (hf b hb).2.2.2.2.1 x c (B.cell I.ok e), fun p hp => by
      have e : p = (s.heap.objs.size, lobj its k) := by simpa using hp
      subst e
      exact Nat.ne_of_gt (ltOf b hb)⟩
  have loop : ∀ s3 : Shared, s3 = { s with heap := h1, toks := s.toks + ([] : List (Str × Value)).length } →
      codeAny (model X.prog X.w) X.A (.compLoop (.ListComp elt [⟨tg, iter, ifs, 0⟩] scope pos) 0 (.ref it) (.ref s.heap.objs.size) (compEnvC scope (closOf X.env.cells scope.names []) H2.objs.size X.env))
        (RR (.ref s.heap.objs.size) H2.objs.size) s3 := by
    rintro s3 rfl
    refine compLoop_by (fun n s' => ∃ i acc its k H', Inv (cxBlk X scope (own ++ capN) H2.objs.size s H fp) [(s.heap.objs.size, lobj its k)] (blkσ own.length cap σ) H' s' ∧ tn i s'.heap ∧ (∀ b ∈ fp, H' b = none) ∧ Vals acc its ∧ W i n acc H') ?_ m0
      ⟨0, [], [], 0, H, I4.pins_of (pinOk _ _ _ _ (I.hok.fresh (Nat.le_refl _)) hacc), T.keep 0 s.heap h1 st fun b _ o e => old b o e, fun b hb => (hf b hb).1, .nil, w0⟩
    rintro n s5 ⟨i, acc, its, k, H5, I5, st5, fr5, rv, w5⟩
    obtain ⟨hsz, hcase⟩ := turn i n acc H5 w5
    obtain ⟨hgt, htt, hte⟩ := hb H2.objs.size s H fp
    rcases hcase with ⟨stop, q⟩ | ⟨go, N, hN, step⟩
    · refine thn (T.done (cxBlk X scope (own ++ capN) H2.objs.size s H fp) rfl rfl rfl hc i _ s5 _ H5 _ I5 (stat H5 its k fr5) st5 stop) fun r s6 ⟨hr, I6⟩ => ?_
      subst hr
      obtain ⟨hD, hDn, _⟩ := I6.pin (s.heap.objs.size, lobj its k) (by simp)
      have J1 : Inv X pins σ H5 s6 := I.call' (s' := s6) (ch := fp) I6.os I6.base I6.hok I6.bare fun b hb => by
        obtain ⟨_, f1, _, f3, f4, f5⟩ := hf b hb
        exact ⟨f3, f1, f4, f5⟩
      have J2 : Inv X pins σ (upd H5 s.heap.objs.size (.lst acc)) s6 := J1.adopt hDn I.sz (Nat.ne_of_gt I.lt) (fun x c e => Nat.ne_of_lt (cellLt x c e)) (fun p hp => Nat.ne_of_lt (Heap.lt_size (I.pin p hp).1)) ⟨Nat.le_of_lt hsz, its, k, rv, hD⟩
      obtain ⟨mC, hnC, _⟩ := I6.loc
      refine fin _ _ _ s6 (q _ hDn) J2 ⟨mC, hnC⟩ (by rw [upd_ne (Ne.symm hDC)]; exact I6.free) (Nat.ne_of_gt (Nat.lt_of_lt_of_le I.lt hCle)) (Nat.le_trans I.sz hCle) (fun x c e => Nat.ne_of_lt (Nat.lt_of_lt_of_le (cellLt x c e) hCle)) fun p hp =>
        Nat.ne_of_lt (Nat.lt_of_lt_of_le (Heap.lt_size (I.pin p hp).1) hCle)
    · refine thn (T.item (cxBlk X scope (own ++ capN) H2.objs.size s H fp) rfl rfl rfl hc i _ s5 _ H5 _ I5 (stat H5 its k fr5) st5 go) fun r s6 ⟨u, hr, h6⟩ => ?_
      subst hr
      refine thn h6 fun _ s7 ⟨x, H7, I7, r7, y7, st7, fr7⟩ => ?_
      have I7' := I7.pinned (stat H7 its k fr7) (T.obj _ _ st7)
      refine thn (hgt _ s7 _ H7 x u _ I7' r7 (step x H7 y7)) fun _ s8 ⟨σ8, H8, I8, q8⟩ => ?_
      refine thn (htt _ s8 σ8 H8 _ I8 q8) fun b s9 ⟨H9, I9, q9⟩ => ?_
      -- what is kept of the iterator through a turn
      have itk : ∀ {H' : Hp} {s' : Shared} {σ' : St}, Inv (cxBlk X scope (own ++ capN) H2.objs.size s H fp) (pinsAt fp s7.heap) σ' H' s' → tn (i + 1) s'.heap ∧ ∀ b ∈ fp, H' b = none := fun {H' s' σ'} K => by
        refine ⟨T.keep _ _ _ st7 fun b hb o e => (K.pin (b, o) (mem_pinsAt hb e)).1, fun b hb => ?_⟩
        obtain ⟨o, e, _⟩ := T.obj _ _ st7 b hb
        exact (K.pin (b, o) (mem_pinsAt hb e)).2.1
      cases b with
      | false =>
        rw [if_neg Bool.false_ne_true]
        obtain ⟨m', hm, w9⟩ := hN acc H9 (by simpa using q9)
        have K9 : Inv (cxBlk X scope (own ++ capN) H2.objs.size s H fp) (pinsAt fp s7.heap) σ8 H9 s9 := I9.pins_of fun p hp => I9.pin p (List.mem_append_right _ (List.mem_append_right _ hp))
        obtain ⟨t9, f9⟩ := itk K9
        exact ⟨m', hm, i + 1, acc, its, k, H9, I.reset B hf I9.unpinned, t9, f9, rv, w9⟩
      | true =>
        rw [if_pos rfl]
        have q9' : te σ8 H9 fun y H4 => N (acc ++ [y]) H4 := by simpa using q9
        refine thn (hte _ s9 σ8 H9 _ I9 q9') fun yv s10 ⟨y, H10, I10, r10, q10⟩ => ?_
        obtain ⟨hD, hDn, _⟩ := I10.pin (s.heap.objs.size, lobj its k) (by simp)
        have hlen := rv.length
        refine wpAny_list_append_plain ⟨k, hD⟩ (fun h' hpl hsb' => ?_) (by rw [List.size_toArray]; omega)
        obtain ⟨k', hD'⟩ := hpl
        obtain ⟨m', hm, w10⟩ := hN (acc ++ [y]) H10 q10
        have K10 : Inv (cxBlk X scope (own ++ capN) H2.objs.size s H fp) (pinsAt fp s7.heap) σ8 H10 s10 := I10.pins_of fun p hp => I10.pin p (List.mem_append_right _ (List.mem_append_right _ hp))
        have K11 : Inv (cxBlk X scope (own ++ capN) H2.objs.size s H fp) (pinsAt fp s7.heap) σ8 H10 { s10 with heap := h' } := K10.turned (t' := s10.toks) (it := s.heap.objs.size) (fun b o hb e => (hsb'.2 b hb).trans e) hDn hDC (.inr (Nat.le_refl _))
          (fun x c e => Nat.ne_of_lt (cellLt x c (B.cell I.ok e))) fun p hp => by
            obtain ⟨hb, _⟩ := of_pinsAt (show p ∈ pinsAt fp s7.heap from hp)
            exact Nat.ne_of_lt (ltOf p.1 hb)
        obtain ⟨t11, f11⟩ := itk K11
        refine ⟨m', hm, i + 1, acc ++ [y], its ++ [yv], k', H10, ?_, t11, f11, rv.append (.cons r10 .nil), w10⟩
        refine I.reset B hf (K11.pins_of (pinOk _ _ _ _ hDn ?_))
        show h'.get? s.heap.objs.size = some { cls := .type "list", data := .seq (its ++ [yv]).toArray k' }
        rw [show (its ++ [yv]).toArray = its.toArray.push yv by simp]
        exact hD'
  exact codeAny_compStart_list (loop _ rfl) (T.self X.A 0 _ _ _ (T.keep 0 s.heap h1 st fun b _ o e => old b o e) (loop _ rfl))

/-- [elt for tg in iter if ..] -/
theorem pe_comp (B : Blk X.N X.env.scope scope capN cap) (hc : X.calm = true) (hi : PI X tg iter wi)
    (hb : ∀ (C : Addr) (s : Shared) (H : Hp) (fp : List Addr), PG (cxBlk X scope (own ++ capN) C s H fp) tg g ∧ PTs (cxBlk X scope (own ++ capN) C s H fp) ifs tt ∧ PE (cxBlk X scope (own ++ capN) C s H fp) elt te)
    (hs : ∀ x, foldedSetIterable iter X.env x = pure x := by intro _; rfl) : PE X (.ListComp elt [⟨tg, iter, ifs, 0⟩] scope pos) (tComp wi g tt te own.length cap) := by
  intro pins s σ H Q I h
  rw [eval_ListComp]
  refine wpAny_comprehension_free (use := none) rfl hs (closureFor_of (B.clos I.ok)) B.kind B.loc (thn (hi pins s σ H _ I h) fun v s1 h1 => thn h1 fun itv s2 h2 => ?_)
  obtain ⟨it, fp, tn, J, H2, e, I2, T, st2, f2, W, ⟨m0, w0⟩, turn⟩ := h2
  subst e
  refine comp_run (own := own) B hc hb I2 T st2 f2 w0 turn (RR := fun acc C => compPost (model X.prog X.w) X.A X.xe none (EP X pins σ Q) acc C) fun D C H' s' q J2 ⟨mC, hnC⟩ fC n1 n2 n3 n4 => ?_
  refine ⟨mC, hnC, fun h' hsb => ⟨.ref D, H', ?_, rfl, q⟩⟩
  exact J2.turned (t' := s'.toks) (it := C) (fun b o hb e => (hsb.2 b hb).trans e) fC n1 (.inr n2) n3 n4
/-- name = [elt for tg in iter if ..], where the name is the def's own and stands in no cell: the store comes ahead of the block's end -/
theorem ps_setComp {i : Nat} {x : Str} {px : Pos} {spos : Pos} (B : Blk X.N X.env.scope scope capN cap) (hc : X.calm = true) (hN : X.N.Nodup) (hx : X.N[i]? = some x) (hl : X.env.scope.names.lookup x = some .local) (hi : PI X tg iter wi)
    (hb : ∀ (C : Addr) (s : Shared) (H : Hp) (fp : List Addr), PG (cxBlk X scope (own ++ capN) C s H fp) tg g ∧ PTs (cxBlk X scope (own ++ capN) C s H fp) ifs tt ∧ PE (cxBlk X scope (own ++ capN) C s H fp) elt te)
    (hsw : swapsWith (.ListComp elt [⟨tg, iter, ifs, 0⟩] scope pos) (some (.Name x px)) spos.line X.env = pure true := by rfl)
    (hs : ∀ x, foldedSetIterable iter X.env x = pure x := by intro _; rfl) : PS X (.Assign [.Name x px] (.ListComp elt [⟨tg, iter, ifs, 0⟩] scope pos) spos) (tAsg (tComp wi g tt te own.length cap) (gName i)) := by
  intro pins s σ H D0 I h
  rw [exec_Assign_Name_used _ _ _ _ hsw]
  refine wpAny_bind (wpAny_standAt (wpAny_bind ?_))
  show wpAny _ X.A (do
    let _ ← comprehension (.ListComp elt [⟨tg, iter, ifs, 0⟩] scope pos) scope X.env _ (newList []) false (eval iter X.env) (some (assign (.Name x px) X.env))) _ _ s
  refine wpAny_bind (wpAny_mono (wpAny_comprehension_free (use := some (assign (.Name x px) X.env)) (Q := fun _ s' => SP X pins D0 .next s') rfl hs (closureFor_of (B.clos I.ok)) B.kind B.loc
    (thn (hi pins s σ H _ I h) fun v s1 h1 => thn h1 fun itv s2 h2 => ?_)) (fun _ s' hq => wpAny_pure (wpAny_pure hq)) fun _ _ e => e)
  obtain ⟨it, fp, tn, J, H2, e, I2, T, st2, f2, W, ⟨m0, w0⟩, turn⟩ := h2
  subst e
  refine comp_run (own := own) (Q := fun x H1 => gName i x σ H1 D0.nx) B hc hb I2 T st2 f2 w0 turn (RR := fun acc C => compPost (model X.prog X.w) X.A X.xe (some (assign (.Name x px) X.env)) (fun _ s' => SP X pins D0 .next s') acc C) fun D C H' s' q J2 ⟨mC, hnC⟩ fC n1 n2 n3 n4 => ?_
  show wpAny _ X.A (assign (.Name x px) X.env (.ref D)) _ _ s'
  refine wpAny_assign_Name (store_ok2 J2 hN hx (.inl hl) (show RelV (.ref D) (.ref D) from rfl) (fun s'' J3 ⟨a, hsb, ha⟩ => ?_) (.inr hl))
  have hCa : C ≠ a := by
    rcases ha with z | z
    · rw [z]; exact n1
    · exact (n3 x a z).symm
  refine ⟨mC, hnC.sameBut hsb hCa, fun h' hsb' => ⟨_, H', ?_, q⟩⟩
  exact J3.turned (t' := s''.toks) (it := C) (fun b o hb e => (hsb'.2 b hb).trans e) fC n1 (.inr n2) n3 n4
end
end L2
namespace L2
open PySem PySem.Spec PyProof.Rows
/-! ### == of lists and tuples, at any depth, by what they hold -/
mutual
inductive Den (K : PySem.W.Frag) (H : Hp) : V → PyData → Prop
  | non : Den K H .non .none
  | bl (b : Bool) : Den K H (.bl b) (.bool b)
  | int (i : Int) : Den K H (.int i) (.int i)
  | str (x : Str) : Den K H (.str x) (.str x)
  | lst {a : Addr} {xs : List V} {ds : List PyData} : SqL K H a xs → Dens K H xs ds → Den K H (.ref a) (.list ds)
  | tup {a : Addr} {xs : List V} {ds : List PyData} : SqT K H a xs → Dens K H xs ds → Den K H (.ref a) (.tuple ds)
inductive Dens (K : PySem.W.Frag) (H : Hp) : List V → List PyData → Prop
  | nil : Dens K H [] []
  | cons {x : V} {d : PyData} {xs : List V} {ds : List PyData} : Den K H x d → Dens K H xs ds → Dens K H (x :: xs) (d :: ds)
end
section
variable {X : Cx} {pins : List (Addr × Obj)} {σ : St} {H : Hp} {s : Shared}
mutual
theorem Inv.den (I : Inv X pins σ H s) : ∀ {x : V} {d : PyData} {u : Value}, Den X.K H x d → RelV x u → ∃ as, Reads s.heap u d as
  | _, _, _, .non, r => by cases r; exact ⟨_, .none⟩
  | _, _, _, .bl b, r => by cases r; exact ⟨_, .bool b⟩
  | _, _, _, .int i, r => by obtain ⟨t, rfl⟩ := r; exact ⟨_, .int i t⟩
  | _, _, _, .str x, r => by obtain ⟨t, rfl⟩ := r; exact ⟨_, .str x t⟩
  | _, _, _, .lst hq hd, r => by
    cases r
    obtain ⟨its, rv, ⟨o, n, e, hc, _, hdt⟩, _⟩ := I.list hq
    obtain ⟨as, q⟩ := I.dens hd rv
    exact ⟨_, .list e hc hdt (by simpa using q)⟩
  | _, _, _, .tup hq hd, r => by
    cases r
    obtain ⟨its, rv, ⟨o, e, hc, n, hdt⟩, _⟩ := I.tuple hq
    obtain ⟨as, q⟩ := I.dens hd rv
    exact ⟨_, .tuple e hc hdt (by simpa using q)⟩
theorem Inv.dens (I : Inv X pins σ H s) : ∀ {xs : List V} {ds : List PyData} {us : List Value}, Dens X.K H xs ds → Vals xs us → ∃ as, ReadsAll s.heap us ds as
  | _, _, _, .nil, .nil => ⟨_, .nil⟩
  | _, _, _, .cons hd hr, .cons r rr => by
    obtain ⟨as, q⟩ := I.den hd r
    obtain ⟨bs, q'⟩ := I.dens hr rr
    exact ⟨_, .cons q q'⟩
end
noncomputable def rEqD (K : PySem.W.Frag) : R2 := fun x y H Q => ∃ da db, Den K H x da ∧ Den K H y db ∧ SeqAt.shaped da = true ∧ SeqAt.shaped db = true ∧ Q (.bl (PyData.eqv da db)) H
noncomputable def rNeD (K : PySem.W.Frag) : R2 := fun x y H Q => ∃ da db, Den K H x da ∧ Den K H y db ∧ SeqAt.shaped da = true ∧ SeqAt.shaped db = true ∧ Q (.bl (!PyData.eqv da db)) H
end
section
variable {X : Cx}
theorem op_eqD (hu : X.A.units + 64 < cLine) : OpR X (compareOp .Eq) (rEqD X.K) := by
  intro pins s σ H x y v u Q I rx ry h
  obtain ⟨da, db, h1, h2, h3, h4, q⟩ := h
  obtain ⟨as, r1⟩ := I.den h1 rx
  obtain ⟨bs, r2⟩ := I.den h2 ry
  exact SeqAt.compareEq_shaped r1 r2 h3 h4 hu ⟨.bl _, H, I, rfl, q⟩
theorem op_neD (hu : X.A.units + 64 < cLine) : OpR X (compareOp .NotEq) (rNeD X.K) := by
  intro pins s σ H x y v u Q I rx ry h
  obtain ⟨da, db, h1, h2, h3, h4, q⟩ := h
  obtain ⟨as, r1⟩ := I.den h1 rx
  obtain ⟨bs, r2⟩ := I.den h2 ry
  exact SeqAt.compareNe_shaped r1 r2 h3 h4 hu ⟨.bl _, H, I, rfl, q⟩
theorem dens_ints {K : PySem.W.Frag} {H : Hp} : ∀ ns : List Int, Dens K H (ns.map V.int) (ns.map PyData.int)
  | [] => .nil
  | n :: r => .cons (.int n) (dens_ints r)
theorem den_ints {K : PySem.W.Frag} {H : Hp} {a : Addr} {ns : List Int} (h : SqL K H a (ns.map V.int)) : Den K H (.ref a) (.list (ns.map PyData.int)) := .lst h (dens_ints ns)
/-- lists of ints -/
noncomputable def rEqI (K : PySem.W.Frag) : R2 := fun x y H Q => ∃ (p q : Addr) (ns ms : List Int), x = .ref p ∧ y = .ref q ∧ SqL K H p (ns.map V.int) ∧ SqL K H q (ms.map V.int) ∧ Q (.bl (decide (ns = ms))) H
noncomputable def rNeI (K : PySem.W.Frag) : R2 := fun x y H Q => ∃ (p q : Addr) (ns ms : List Int), x = .ref p ∧ y = .ref q ∧ SqL K H p (ns.map V.int) ∧ SqL K H q (ms.map V.int) ∧ Q (.bl (!decide (ns = ms))) H
theorem op_neI (hu : X.A.units + 64 < cLine) : OpR X (compareOp .NotEq) (rNeI X.K) := by
  intro pins s σ H x y v u Q I rx ry h
  obtain ⟨p, q, ns, ms, rfl, rfl, h1, h2, q⟩ := h
  refine op_neD hu pins s σ H _ _ v u Q I rx ry ⟨_, _, den_ints h1, den_ints h2, PySem.W.shaped_ints ns, PySem.W.shaped_ints ms, ?_⟩
  simp only [PyData.eqv, PySem.W.ked_eqvAll]
  exact q

/-! ### isinstance, is not, all, bit_length, [::-1] -/
noncomputable def rIsi (K : PySem.W.Frag) : List V → Hp → VK → Prop := fun xs H Q =>
  (∃ i, xs = [.int i, .ty "int"] ∧ Q (.bl true) H) ∨ (∃ i, xs = [.int i, .ty "bool"] ∧ Q (.bl false) H) ∨ (∃ p ys, xs = [.ref p, .ty "list"] ∧ SqL K H p ys ∧ Q (.bl true) H) ∨ (∃ p ys, xs = [.ref p, .ty "tuple"] ∧ SqT K H p ys ∧ Q (.bl true) H)
theorem call_isi : CallR X (.builtin "isinstance") (rIsi X.K) := by
  intro pins s σ H xs us Q I r h
  rcases h with ⟨i, rfl, q⟩ | ⟨i, rfl, q⟩ | ⟨p, ys, rfl, hq, q⟩ | ⟨p, ys, rfl, hq, q⟩
  · cases r with
    | cons r1 r2 =>
      cases r2 with
      | cons r2 r3 =>
        cases r3
        obtain ⟨t, rfl⟩ := r1
        cases r2
        exact IsiPair.int_int ⟨.bl true, H, I, rfl, q⟩
  · cases r with
    | cons r1 r2 =>
      cases r2 with
      | cons r2 r3 =>
        cases r3
        obtain ⟨t, rfl⟩ := r1
        cases r2
        exact IsiPair.int_bool ⟨.bl false, H, I.tok _, rfl, q⟩
  · cases r with
    | cons r1 r2 =>
      cases r2 with
      | cons r2 r3 =>
        cases r3
        cases r1
        cases r2
        obtain ⟨its, rv, ⟨o, n, e, hc, _⟩, _⟩ := I.list hq
        exact IsiPair.list_list e hc ⟨.bl true, H, I, rfl, q⟩
  · cases r with
    | cons r1 r2 =>
      cases r2 with
      | cons r2 r3 =>
        cases r3
        cases r1
        cases r2
        obtain ⟨its, rv, ⟨o, e, hc, _⟩, _⟩ := I.tuple hq
        exact IsiPair.tuple_tuple e hc ⟨.bl true, H, I, rfl, q⟩
theorem mt_bits : MtR X "int.bit_length" (fun x xs H Q => ∃ i, x = .int i ∧ xs = [] ∧ Q (.int (Builtin.Int.intBits i : Nat)) H) := by
  intro pins s σ H x xs v us Q I rx rv h
  obtain ⟨i, rfl, rfl, q⟩ := h
  obtain ⟨t, rfl⟩ := rx
  cases rv
  exact call_int_bit_length ⟨.int _, H, I.tok _, ⟨_, rfl⟩, q⟩
theorem Inv.same {pins : List (Addr × Obj)} {σ : St} {H : Hp} {s s' : Shared} (I : Inv X pins σ H s) (k : ∀ b o, s.heap.get? b = some o → s'.heap.get? b = some o) (g : s'.gens = s.gens) (ho : s'.os = s.os) : Inv X pins σ H s' := by
  obtain ⟨hh, gg, dd, tt, oo⟩ := s'
  simp only at k g ho
  subst g
  subst ho
  have J : Inv X pins σ H { s with heap := hh, toks := tt } := I.kept k
  exact ⟨J.ok, J.os, J.bare, J.base, J.loc, J.cell, J.free, J.freeC, J.pin, J.hok, J.len⟩
theorem Inv.draw {pins : List (Addr × Obj)} {σ : St} {H : Hp} {s : Shared} (I : Inv X pins σ H s) (d : Drawn) : Inv X pins σ H { s with drawn := d } := ⟨I.ok, I.os, I.bare, I.base, I.loc, I.cell, I.free, I.freeC, I.pin, I.hok, I.len⟩
/-- all(a list of truths) -/
theorem call_all (hc : X.calm = true) : CallR X (.builtin "all") (fun xs H Q => ∃ (p : Addr) (bs : List Bool), xs = [.ref p] ∧ SqL X.K H p (bs.map V.bl) ∧ Q (.bl (bs.all id)) H) := by
  intro pins s σ H xs us Q I r h
  obtain ⟨p, bs, rfl, hq, q⟩ := h
  obtain ⟨u, rfl, rx⟩ := vals1 r
  cases rx
  obtain ⟨its, rv, pl, hz⟩ := I.list hq
  have hlen := rv.length
  rw [List.length_map] at hlen
  have hlt : p < s.heap.objs.size := by obtain ⟨o, n, e, _⟩ := pl; exact Heap.lt_size e
  have bAt : ∀ (i : Nat) (v : Value), its.toArray[i]? = some v → v = Value.bool (bs.getD i false) := fun i v hv => by
    have hv' : its[i]? = some v := by simpa using hv
    have hi : i < bs.length := by rw [hlen]; exact (List.getElem?_eq_some_iff.mp hv').1
    obtain ⟨u, hu, ru⟩ := rv.get (i := i) (x := .bl bs[i]) (by simp [hi])
    rw [hv'] at hu
    cases hu
    rw [List.getD_eq_getElem?_getD, List.getElem?_eq_getElem hi]
    exact ru
  have hh1 : X.A.in1.handled = none := I.ok.hd hc
  refine call_all_walkS (wpAny_pyIter_list pl.isList ⟨s.heap.objs.size, [s.heap.objs.size, p], [s.heap.objs.size], fun a b => b = a, its.toArray.size, fun i v => its.toArray[i]? = some v, _, fun i => bs.getD i false, rfl,
    (Walks.list hh1 _ p (Nat.ne_of_lt hlt) its.toArray).toS, ⟨⟨_, Heap.get?_push_size _ rfl, rfl, rfl⟩, pl.isList.push _⟩, fun i v s1 Q1 E1 hv hq1 => ?_, fun s' hm => ?_⟩)
  · rw [bAt i v hv]
    exact wpAny_truthy_bool hq1
  · have I1 : Inv X pins σ H { s with heap := s.heap.push { cls := .type "list_iterator", data := .fields #[.ref p, .int 0 0] } } := I.kept (t' := s.toks) fun b o e => Heap.get?_push_of_some _ e
    refine ⟨.bl _, H, I.same (fun b o e => hm.heap b o (fun hb => ?_) (Heap.get?_push_of_some _ e)) hm.gens hm.os, rfl, ?_⟩
    · have hb' : b = s.heap.objs.size := by simpa using hb
      exact absurd (Heap.lt_size e) (by rw [hb']; exact Nat.lt_irrefl _)
    · have e : ((List.range its.toArray.size).all fun i => bs.getD i false) = bs.all id := by
        rw [List.size_toArray, ← hlen]
        clear bAt hlen hq rv q
        have : (List.range bs.length).map (fun i => bs.getD i false) = bs := by
          apply List.ext_getElem
          · simp
          · intro i h1 h2
            simp [h2]
        conv => rhs; rw [← this]
        rw [List.all_map]
        rfl
      rw [e]
      exact q
/-- xs[::k], k = -1 -/
noncomputable def tRev (K : PySem.W.Frag) (te tk : TE) : TE := fun σ H Q => te σ H fun x H1 => tk σ H1 fun y H2 => y = .int (-1) ∧ ∃ a xs, x = .ref a ∧ SqL K H2 a xs ∧ ∀ p, H2 p = none → Q (.ref p) (upd H2 p (.lst xs.reverse))
theorem vals_reverse {xs : List V} {us : List Value} (r : Vals xs us) : Vals xs.reverse us.reverse := by
  induction r with
  | nil => exact .nil
  | cons r t ih =>
    rw [List.reverse_cons, List.reverse_cons]
    exact ih.append (.cons r .nil)
theorem pe_rev {e k : Expr} {te tk : TE} {pos p2 : Pos} (he : PE X e te) (hk : PE X k tk) : PE X (.Subscript e (.Slice none none (some k) p2) pos) (tRev X.K te tk) := by
  intro pins s σ H Q I h
  refine Subscript_ (thn (he pins s σ H _ I h) fun v s1 ⟨x, H1, I1, r1, q1⟩ => wpAny_Slice ?_)
  rw [evalPart_none]
  refine wpAny_pure (wpAny_pure ?_)
  rw [evalPart_some]
  refine thn (hk pins s1 σ H1 _ I1 q1) fun vk s3 ⟨y, H3, I3, r3, ey, a, xs, ex, hx, q⟩ => ?_
  subst ey
  subst ex
  cases r1
  obtain ⟨t, rfl⟩ := r3
  have I4 : Inv X pins σ H3 { s3 with heap := s3.heap.push { cls := .type "slice", data := .fields #[.none, .none, .int (-1) t] } } := I3.kept (t' := s3.toks) fun b ob q => Heap.get?_push_of_some _ q
  obtain ⟨its, rv, pl, hz⟩ := I4.list hx
  have hlen := rv.length
  refine tail_any (ops := [.ref a, .ref s3.heap.objs.size]) pl.isList.typeIs slot_list_getitem.lookup (wpAny_getItem_list_slice pl.isList (Heap.IsSliceOf.new ..) .none .none (.int (-1) t) (by decide) ?_ (by rw [List.size_toArray]; omega)) (by with_unfolding_all rfl)
  rw [PySem.W.krv_pick]
  refine ⟨.ref _, _, I4.laid (t' := s3.toks) (o := .lst xs.reverse) (fun b ob q => Heap.get?_push_of_some _ q) (Nat.le_refl _) ?_, rfl, q _ (I4.hok.fresh (Nat.le_refl _))⟩
  refine ⟨by rw [List.length_reverse]; exact hz, its.reverse, 0, vals_reverse rv, ?_⟩
  show (Heap.push _ { cls := .type "list", data := .seq its.reverse.toArray }).get? _ = _
  exact Heap.get?_push_size _ rfl

/-! ### sets of ints -/
noncomputable def setO (P : Program) (w : World) (p : Addr) (ns : List Int) : HO := .ext fun h => Yd.SetT P w h p (!w.params.followText "set-order") ns
theorem setO_ok {P : Program} {w : World} {H : Hp} {h : Heap} {p : Addr} {ns : List Int} (x : Yd.SetT P w h p (!w.params.followText "set-order") ns) : ObjOk P w H h p (setO P w p ns) := by
  obtain ⟨es, ep, t, ho, r⟩ := id x
  exact ⟨x, ⟨_, ho⟩, fun h1 h2 ⟨es, ep, t, ho, r⟩ k => ⟨es, ep, t, k _ ho, r⟩⟩
/-- set(a list of ints) -/
theorem call_set (hc : X.calm = true) : CallR X (.type "set") (fun xs H Q => ∃ (p : Addr) (ns : List Int), xs = [.ref p] ∧ SqL X.K H p (ns.map V.int) ∧ ns.length < 64 ∧ ∀ q, H q = none → Q (.ref q) (upd H q (setO X.prog X.w q ns))) := by
  intro pins s σ H xs us Q I r h
  obtain ⟨p, ns, rfl, hq, hl, q⟩ := h
  obtain ⟨u, rfl, rx⟩ := vals1 r
  cases rx
  obtain ⟨its, rv, pl, hz⟩ := I.list hq
  refine Yd.call_setT (I.ok.hd hc) pl.isList (by simpa using intsAre_of rv) (by unfold scanBound; omega) fun h' tk hS kp => ?_
  exact ⟨.ref s.heap.objs.size, _, I.laid kp (Nat.le_refl _) (setO_ok hS), rfl, q _ (I.hok.fresh (Nat.le_refl _))⟩
theorem valsInts : ∀ {us : List Value} {ns : List Int}, IntsAre us ns → Vals (ns.map V.int) us
  | _, _, .nil => .nil
  | _, _, .cons n t r => .cons ⟨t, rfl⟩ (valsInts r)
/-- sorted(a set of ints) -/
theorem call_sorted (hc : X.calm = true) : CallR X (.builtin "sorted") (fun xs H Q => ∃ (p : Addr) (ns : List Int), xs = [.ref p] ∧ H p = some (setO X.prog X.w p ns) ∧ ns.length < 64 ∧
    ∀ (q : Addr) (ms : List Int), H q = none → ms.Pairwise (· < ·) → (∀ k, k ∈ ms ↔ k ∈ ns) → ms.length ≤ ns.length → Q (.ref q) (upd H q (.lst (ms.map V.int)))) := by
  intro pins s σ H xs us Q I r h
  obtain ⟨p, ns, rfl, hq, hl, q⟩ := h
  obtain ⟨u, rfl, rx⟩ := vals1 r
  cases rx
  obtain ⟨hS, _⟩ := I.hok p _ hq
  refine Yd.sorted_setT (I.ok.hd hc) hS rfl hl fun l h' d out ms n hi hp hm hlen kp hle hg => ?_
  have I1 : Inv X pins σ (upd H l (.lst (ms.map V.int))) { s with heap := h', toks := s.toks } := I.laid kp hle ⟨by rw [List.length_map, sizeLine_eq]; omega, out.toList, n, valsInts hi, by simpa using hg⟩
  exact ⟨.ref l, _, I1.draw d, rfl, q l ms (I.hok.fresh hle) hp hm hlen⟩
end
end L2
namespace L2
open PySem PySem.Spec PyProof.Rows
/-! ### exceptions that fly: the record at e, its class, its own dict, its record of frames -/
theorem dict_mapFields {o : Obj} {vs : Array Value} (hd : o.data = .fields vs) (f : Array Value → Array Value) : (Obj.mapFields f o).dict = o.dict := by
  obtain ⟨c, d, dt, sl⟩ := o
  cases dt <;> rfl
noncomputable def Fly (h : Heap) (e : Addr) (cls : Value) (dd : Option Addr) (ch : List Addr) : Prop :=
  ∃ oe vs, h.get? e = some oe ∧ oe.cls = cls ∧ oe.dict = dd ∧ oe.data = .fields vs ∧
    ((vs[1]? = some .none ∧ ch = [e]) ∨ ∃ T oT ts, vs[1]? = some (.ref T) ∧ T ≠ e ∧ h.get? T = some oT ∧ oT.data = .fields ts ∧ ts[3]? = some .none ∧ ch = [e, T])
theorem Fly.rec {h : Heap} {e : Addr} {cls : Value} {dd : Option Addr} {ch : List Addr} (x : Fly h e cls dd ch) : ∀ b ∈ ch, ∃ o vs, h.get? b = some o ∧ o.data = .fields vs := by
  obtain ⟨oe, vs, he, _, _, hd, h1 | ⟨T, oT, ts, _, _, hT, hdT, _, rfl⟩⟩ := x
  · obtain ⟨_, rfl⟩ := h1
    intro b hb
    simp only [List.mem_singleton] at hb
    subst hb
    exact ⟨oe, vs, he, hd⟩
  · intro b hb
    simp only [List.mem_cons, List.not_mem_nil, or_false] at hb
    rcases hb with rfl | rfl
    · exact ⟨oe, vs, he, hd⟩
    · exact ⟨oT, ts, hT, hdT⟩
theorem Fly.mem {h : Heap} {e : Addr} {cls : Value} {dd : Option Addr} {ch : List Addr} (x : Fly h e cls dd ch) : e ∈ ch := by
  obtain ⟨oe, vs, he, _, _, hd, ⟨_, rfl⟩ | ⟨T, oT, ts, _, _, hT, hdT, _, rfl⟩⟩ := x <;> simp
structure Moved (fs ch : List Addr) (h h' : Heap) : Prop where
  keep : ∀ b o, h.get? b = some o → b ∉ ch → b ∉ fs → h'.get? b = some o
  slot : ∀ b o, h.get? b = some o → b ∉ ch → ∃ sl, h'.get? b = some { o with slots := sl }
  there : ∀ b o, h.get? b = some o → ∃ o', h'.get? b = some o'

section
variable {M : Model} {A : Around} {E : Value → Shared → Prop} {s : Shared}
theorem new_entry {base : Heap} {env : Env} {outer : List Env} {L e : Addr} {oe : Obj} {vs : Array Value} {head : Value} {hadNext : Bool} {Q : Unit → Shared → Prop}
    (hfr : A.frames = some (env :: outer)) (hl : s.heap.FunFrames base (env :: outer)) (hf : env.frame = some L)
    (he : s.heap.get? e = some oe) (hd : oe.data = .fields vs) (hsz : 1 < vs.size)
    (h : ∀ h', Fly h' e oe.cls oe.dict [e, s.heap.objs.size] → Moved (frs (env :: outer)) [e] s.heap h' → Q () { s with heap := h' }) :
    wpAny M A (do let a ← frameOf env; let pl ← entryPlaceOf L hadNext; let b ← EntryCells.newEntry head a .none (rawInt L) .none pl; setField (.ref e) 1 b) (fun _ s' => wpAny M A (setFlight (.ref e) none) Q E s') E s := by
  have hene : e ∉ (env :: outer).filterMap (·.frame) := fun hm => by
    obtain ⟨_, o, ho, hnf⟩ := hl.mem hm
    rw [he] at ho; injection ho with ho; subst ho; exact hnf vs hd
  refine wpAny_bind (wpAny_frameOf_fun hfr hl hf fun h₁ hs₁ => ?_)
  refine wpAny_bind (wpAny_entryPlaceOf fun pl hpl => ?_)
  unfold EntryCells.newEntry newFields
  refine wpAny_bind (wpAny_newObj_type ?_ (hpl.sizeOk5 _ _ _ _ _))
  have he₁ : h₁.get? e = some oe := (hs₁.2.1 e hene).trans he
  have he₂ := Heap.get?_push_of_some (h := h₁) { cls := .type "traceback", dict := none, data := .fields ([head, .ref L, .none, rawInt L, .none] ++ (if pl.isEmpty then List.replicate 6 Value.none else pl)).toArray } he₁
  refine wpAny_setField he₂ hd hsz ?_
  have hTe : h₁.objs.size ≠ e := Nat.ne_of_gt (Heap.lt_size he₁)
  have hd₃ := Obj.data_mapFields hd (·.setIfInBounds 1 (Value.ref h₁.objs.size))
  have he₃ := Heap.get?_update_self (Obj.mapFields (·.setIfInBounds 1 (Value.ref h₁.objs.size))) he₂ (Obj.isFreed_of_fields hd₃)
  have hT₃ := (Heap.get?_update_other (h₁.push { cls := .type "traceback", dict := none, data := .fields ([head, .ref L, .none, rawInt L, .none] ++ (if pl.isEmpty then List.replicate 6 Value.none else pl)).toArray })
    (Obj.mapFields (·.setIfInBounds 1 (Value.ref h₁.objs.size))) (Ne.symm hTe)).trans (Heap.get?_push_size h₁ rfl)
  unfold setFlight
  refine wpAny_bind (wpAny_field he₃ hd₃ (x := .ref h₁.objs.size) (by simp [hsz]) ?_)
  rw [if_pos (show (Value.ref h₁.objs.size != Value.none) = true from by simp)]
  refine wpAny_setField hT₃ rfl (by simp only [List.size_toArray, List.length_append, List.length_cons, List.length_nil] <;> omega) (h _ ?_ ?_)
  · refine ⟨_, _, ?_, Obj.cls_mapFields _ _, dict_mapFields hd _, hd₃, .inr ⟨h₁.objs.size, _, _, by simp [hsz], hTe, Heap.get?_update_self _ hT₃ (Obj.isFreed_of_fields (Obj.data_mapFields rfl _)), Obj.data_mapFields rfl _, by first | (simp; done) | (rcases hpl with rfl | ⟨_, _, _, _, _, _, _, rfl⟩ <;> simp), by rw [hs₁.1]⟩⟩
    rw [Heap.get?_update_other _ _ hTe]; exact he₃
  · have keep : ∀ b o, b ≠ e → h₁.get? b = some o →
        (((h₁.push { cls := .type "traceback", dict := none, data := .fields ([head, .ref L, .none, rawInt L, .none] ++ (if pl.isEmpty then List.replicate 6 Value.none else pl)).toArray }).update e (Obj.mapFields (·.setIfInBounds 1 (Value.ref h₁.objs.size)))).update h₁.objs.size
          (Obj.mapFields (·.setIfInBounds 3 ((none : Option Addr).elim Value.none fun f => rawInt f)))).get? b = some o := fun b o hbe hb => by
      have hbT : h₁.objs.size ≠ b := Nat.ne_of_gt (Heap.lt_size hb)
      rw [Heap.get?_update_other _ _ hbT, Heap.get?_update_other _ _ (Ne.symm hbe)]
      exact Heap.get?_push_of_some _ hb
    refine ⟨fun b o hb hc hfs => keep b o (by simpa using hc) ((hs₁.2.1 b hfs).trans hb), fun b o hb hc => ?_, fun b o hb => ?_⟩
    · obtain ⟨sl, hs⟩ := hs₁.2.2 b o hb
      exact ⟨sl, keep b _ (by simpa using hc) hs⟩
    · by_cases hbe : b = e
      · subst hbe
        exact ⟨_, by rw [Heap.get?_update_other _ _ hTe]; exact he₃⟩
      · obtain ⟨sl, hs⟩ := hs₁.2.2 b o hb
        exact ⟨_, keep b _ hbe hs⟩

/-- a frame is noted, then the flight is set back: so a frame is left, so a try looks -/
theorem note_step {base : Heap} {env : Env} {outer : List Env} {L e : Addr} {cls : Value} {dd : Option Addr} {ch : List Addr} {Q : Unit → Shared → Prop}
    (hfr : A.frames = some (env :: outer)) (hl : s.heap.FunFrames base (env :: outer)) (hf : env.frame = some L) (x : Fly s.heap e cls dd ch)
    (h : ∀ h' ch', Fly h' e cls dd ch' → Moved (frs (env :: outer)) ch s.heap h' → (∀ b ∈ ch', b ∈ ch ∨ s.heap.objs.size ≤ b) → Q () { s with heap := h' }) :
    wpAny M A (noteFrame (.ref e) env) (fun _ s' => wpAny M A (setFlight (.ref e) none) Q E s') E s := by
  obtain ⟨oe, vs, he, rfl, rfl, hd, ⟨h1, rfl⟩ | ⟨T, oT, ts, h1, hTe, hT, hdT, h3, rfl⟩⟩ := x
  · unfold noteFrame
    simp only [hf]
    refine wpAny_bind (wpAny_field he hd h1 ?_)
    rw [if_neg (by decide)]
    refine new_entry hfr hl hf he hd (Array.getElem?_eq_some_iff.mp h1).1 fun h' f m => h h' _ f m fun b hb => ?_
    simp only [List.mem_cons, List.not_mem_nil, or_false] at hb
    rcases hb with rfl | rfl
    · exact .inl (by simp)
    · exact .inr (Nat.le_refl _)
  · unfold noteFrame
    simp only [hf]
    refine wpAny_bind (wpAny_field he hd h1 ?_)
    rw [if_pos (show (Value.ref T != Value.none) = true from by simp)]
    refine wpAny_bind (wpAny_field hT hdT h3 ?_)
    rw [if_neg (show ¬ ((Value.none == rawInt L) = true) from by simp [rawInt])]
    refine wpAny_bind (wpAny_setField hT hdT (Array.getElem?_eq_some_iff.mp h3).1 ?_)
    have other : ∀ b, b ≠ T → (s.heap.update T (Obj.mapFields (·.setIfInBounds 3 Value.none))).get? b = s.heap.get? b := fun b hb => Heap.get?_update_other _ _ (Ne.symm hb)
    have selfT := Heap.get?_update_self (Obj.mapFields (·.setIfInBounds 3 Value.none)) hT (Obj.isFreed_of_fields (Obj.data_mapFields hdT _))
    have noRecord : ∀ b o, s.heap.get? b = some o → (∀ vs, o.data ≠ .fields vs) → b ≠ T := fun b o hb hnf q => by
      rw [q, hT] at hb; injection hb with hb; subst hb; exact hnf ts hdT
    have hsize : (s.heap.update T (Obj.mapFields (·.setIfInBounds 3 Value.none))).objs.size = s.heap.objs.size := Heap.size_after_update _ _ _
    refine new_entry (s := { s with heap := s.heap.update T (Obj.mapFields (·.setIfInBounds 3 Value.none)) }) hfr (hl.of_keeps fun b o hb hnf => ⟨o, (other b (noRecord b o hb hnf)).trans hb, rfl⟩) hf ((other e (Ne.symm hTe)).trans he) hd (Array.getElem?_eq_some_iff.mp h1).1
      fun h' f m => h h' _ f ⟨fun b o hb hc hfs => ?_, fun b o hb hc => ?_, fun b o hb => ?_⟩ fun b hb => ?_
    · simp only [List.mem_cons, List.not_mem_nil, or_false, not_or] at hc
      exact m.keep b o ((other b hc.2).trans hb) (by simpa using hc.1) hfs
    · simp only [List.mem_cons, List.not_mem_nil, or_false, not_or] at hc
      exact m.slot b o ((other b hc.2).trans hb) (by simpa using hc.1)
    · by_cases hbT : b = T
      · subst hbT
        exact m.there b _ selfT
      · exact m.there b o ((other b hbT).trans hb)
    · simp only [List.mem_cons, List.not_mem_nil, or_false] at hb
      rcases hb with rfl | rfl
      · exact .inl (by simp)
      · exact .inr (Nat.le_of_eq hsize.symm)
theorem leave_step {base : Heap} {env : Env} {outer : List Env} {L e : Addr} {cls : Value} {dd : Option Addr} {ch : List Addr} {Q : Unit → Shared → Prop}
    (hfr : A.frames = some (env :: outer)) (hl : s.heap.FunFrames base (env :: outer)) (hf : env.frame = some L) (x : Fly s.heap e cls dd ch)
    (h : ∀ h' ch', Fly h' e cls dd ch' → Moved (frs (env :: outer)) ch s.heap h' → (∀ b ∈ ch', b ∈ ch ∨ s.heap.objs.size ≤ b) → Q () { s with heap := h' }) :
    wpAny M A (leaving env (.ref e)) Q E s := by
  unfold leaving
  exact wpAny_bind (note_step hfr hl hf x h)
end

section
variable {X : Cx} {pins : List (Addr × Obj)} {σ : St} {H : Hp} {s : Shared}
theorem Inv.excStep {h' : Heap} {ch : List Addr} (I : Inv X pins σ H s) (m : Moved (frs X.stack) ch s.heap h')
    (hch : ∀ b ∈ ch, X.s₀.heap.get? b = none ∧ H b = none ∧ (∀ p ∈ X.pn ++ pins, p.1 ≠ b) ∧ ∃ o vs, s.heap.get? b = some o ∧ o.data = .fields vs) :
    Inv X pins σ H { s with heap := h' } := by
  have notF : ∀ b o, s.heap.get? b = some o → (∀ vs, o.data ≠ .fields vs) → b ∉ ch := fun b o hb hn hc => by
    obtain ⟨_, _, _, o', vs, hb', hd⟩ := hch b hc
    rw [hb] at hb'; cases hb'
    exact hn vs hd
  have cellK : ∀ c v, s.heap.IsCell c v → h'.IsCell c v := fun c v ⟨o, ho, hd⟩ => by
    obtain ⟨sl, e⟩ := m.slot c o ho (notF c o ho fun vs q => by rw [hd] at q; cases q)
    exact ⟨_, e, hd⟩
  refine ⟨I.ok, I.os, I.bare, ⟨fun b o e n hf hx => ?_, fun b o e n hf hx => ?_, I.base.free, fun b o e hx => ?_, I.base.tups, I.base.frzs, I.base.tbls⟩, ?_, fun x c hc => ?_, I.free, I.freeC, fun p hp => ?_, fun b u e => ?_, I.len⟩
  · have e1 := I.base.keep b o e n hf hx
    refine m.keep b o e1 (fun hc => ?_) fun hs => ?_
    · rw [(hch b hc).1] at e; cases e
    · rcases List.mem_cons.mp (I.stkSub b hs) with z | z
      · rw [z] at e
        exact absurd (Heap.lt_size e) (Nat.not_lt.mpr I.ok.above)
      · exact hf z
  · obtain ⟨sl, e1⟩ := I.base.slot b o e n hf hx
    obtain ⟨sl2, e2⟩ := m.slot b _ e1 fun hc => by rw [(hch b hc).1] at e; cases e
    exact ⟨sl2, e2⟩
  · obtain ⟨o', e1⟩ := I.base.there b o e hx
    exact m.there b o' e1
  · obtain ⟨mm, ⟨o, es, ep, ho, hd, r⟩, hl⟩ := I.loc
    obtain ⟨sl, e⟩ := m.slot _ o ho (notF _ o ho fun vs q => by rw [hd] at q; cases q)
    refine ⟨mm, ⟨_, es, ep, e, hd, r⟩, fun i x v h1 h2 h3 => ?_⟩
    obtain ⟨u, ru, lk⟩ := hl i x v h1 h2 h3
    refine ⟨u, ru, ?_⟩
    rcases lk with ⟨a, b⟩ | ⟨a, c, hc, hcell⟩
    · exact .inl ⟨a, b⟩
    · exact .inr ⟨a, c, hc, cellK c _ hcell⟩
  · obtain ⟨v, hv⟩ := I.cell x c hc
    exact ⟨v, cellK c v hv⟩
  · obtain ⟨a, b, c, d, e⟩ := I.pin p hp
    refine ⟨m.keep _ _ a (fun hc => (hch _ hc).2.2.1 p hp rfl) fun hs => ?_, b, c, d, e⟩
    rcases List.mem_cons.mp (I.stkSub _ hs) with z | z
    · exact c z
    · exact d z
  · refine (I.hok b u e).stay (fun c v hc q => m.keep c v q (fun z => ?_) fun z => ?_) (fun _ q => q) fun _ _ q => q
    · have n := (hch c z).2.1
      rcases hc with rfl | hc
      · rw [e] at n; cases n
      · rw [hc] at n; cases n
    · have n := I.stkFree c z
      rcases hc with rfl | hc
      · rw [e] at n; cases n
      · rw [hc] at n; cases n

/-- an exception lies behind a call: CX of the layer -/
noncomputable def CXe (P : Program) (w : World) : CXT := fun outer H s E ev s' => ∃ e cls dd ch H', ev = .ref e ∧ s'.os = s.os ∧ AllBare s'.gens ∧ Un (frs outer) [] H H' s.heap s'.heap ∧ HOk P w H' s'.heap ∧
  Fly s'.heap e cls dd ch ∧ (∀ b ∈ ch, s.heap.get? b = none ∧ H' b = none) ∧ E cls dd H'
/-- an exception flies in a body -/
noncomputable def XP (X : Cx) (pins : List (Addr × Obj)) (σ : St) (E : XK) (ev : Value) (s' : Shared) : Prop := ∃ e cls dd ch H', ev = .ref e ∧ Inv X pins σ H' s' ∧ Fly s'.heap e cls dd ch ∧
  (∀ b ∈ ch, X.s₀.heap.get? b = none ∧ H' b = none ∧ ∀ p ∈ X.pn ++ pins, p.1 ≠ b) ∧ E cls dd H'
theorem Inv.new_of (I : Inv X pins σ H s) (hex : X.ex = []) {b : Addr} (hb : s.heap.get? b = none) : X.s₀.heap.get? b = none := by
  cases q : X.s₀.heap.get? b with
  | none => rfl
  | some o =>
    obtain ⟨o', e⟩ := I.base.there b o q (by rw [hex]; simp)
    rw [e] at hb; cases hb
theorem XP.of_cx {E : XK} {ev : Value} {s' : Shared} (I : Inv X pins σ H s) (hex : X.ex = []) (x : CXe X.prog X.w X.stack H s E ev s') : XP X pins σ E ev s' := by
  obtain ⟨e, cls, dd, ch, H', rfl, os, bare, un, hok, fly, new, q⟩ := x
  refine ⟨e, cls, dd, ch, H', rfl, I.call' (ch := []) os un hok bare (fun b z => absurd z (by simp)), fly, fun b hb => ⟨I.new_of hex (new b hb).1, (new b hb).2, fun p hp z => ?_⟩, q⟩
  have := (I.pin p hp).1
  rw [z, (new b hb).1] at this
  cases this
/-- what is wanted of exceptions here follows from E -/
noncomputable def PassX (X : Cx) (E : XK) : Prop := ∀ (pins : List (Addr × Obj)) (σ : St) (ev : Value) (s' : Shared), XP X pins σ E ev s' → X.xe ev s'
theorem passX_def {P : Program} {w : World} {K : PySem.W.Frag} {mg : Str → Option Value} {base : Heap} {N : List Str} {qual : Str} {scope : Scope} {f : Addr} {cd : Value} {A : Around} {outer : List Env} {s : Shared} {H : Hp} {E : XK} :
    PassX (cxOf (CXe P w) P w K mg base N qual scope f cd A outer s H E) E := by
  intro pins σ ev s' x
  obtain ⟨e, cls, dd, ch, H', rfl, I, fly, hch, q⟩ := x
  refine leave_step (base := base) (outer := outer) I.ok.frames I.stack rfl fly fun h' ch' fly' m new => ?_
  have I' := I.excStep m fun b hb => ⟨(hch b hb).1, (hch b hb).2.1, (hch b hb).2.2, fly.rec b hb⟩
  refine ⟨e, cls, dd, ch', H', rfl, I'.os, I'.bare, I'.base, I'.hok, fly', fun b hb => ?_, q⟩
  rcases new b hb with z | z
  · exact ⟨(hch b z).1, (hch b z).2.1⟩
  · exact ⟨Heap.get?_none_of_le (Nat.le_trans I.sz z), I.hok.fresh z⟩
theorem own_def {P : Program} {w : World} {K : PySem.W.Frag} {mg : Str → Option Value} {base : Heap} {N : List Str} {qual : Str} {scope : Scope} {f : Addr} {cd : Value} {A : Around} {outer : List Env} {s : Shared} {H : Hp} {E : XK} :
    PassesOwn (model P w) (cxOf (CXe P w) P w K mg base N qual scope f cd A outer s H E).A (cxOf (CXe P w) P w K mg base N qual scope f cd A outer s H E).env (cxOf (CXe P w) P w K mg base N qual scope f cd A outer s H E).xe :=
  PassesOwn.leaving (Q₁ := fun e s'' => CXe P w outer H s E e s'')
end
end L2
namespace L2
open PySem PySem.Spec PyProof.Rows
/-! ### attributes of an exception of an own class beneath ValueError -/
noncomputable def vErr : List Value := [.type "ValueError", .type "Exception", .type "BaseException", .type "object"]
noncomputable def excMro : List Value → Bool
  | [] => false
  | .ref _ :: r => excMro r
  | l => l == vErr
theorem refuse_exc (self : Value) : ∀ {l : List Value}, excMro l = true → refuseLoop self "__setattr__" l = pure ()
  | .ref c :: r, e => by rw [refuseLoop_ref]; exact refuse_exc self e
  | .type a :: r, e => by
    have e' : (Value.type a :: r) = vErr := beq_iff_eq.mp e
    rw [e']; exact PySem.F.store_ValueError.passes self
  | .none :: r, e => by have := beq_iff_eq.mp (show (_ == vErr) = true from e); cases this
  | .bool _ :: r, e => by have := beq_iff_eq.mp (show (_ == vErr) = true from e); cases this
  | .int _ _ :: r, e => by have := beq_iff_eq.mp (show (_ == vErr) = true from e); cases this
  | .float _ _ :: r, e => by have := beq_iff_eq.mp (show (_ == vErr) = true from e); cases this
  | .str _ _ :: r, e => by have := beq_iff_eq.mp (show (_ == vErr) = true from e); cases this
  | .bytes _ _ :: r, e => by have := beq_iff_eq.mp (show (_ == vErr) = true from e); cases this
  | .builtin _ :: r, e => by have := beq_iff_eq.mp (show (_ == vErr) = true from e); cases this
theorem excMro_has : ∀ {l : List Value}, excMro l = true → l.contains (.type "object") = true ∧ l.contains (.type "BaseException") = true ∧ l.isEmpty = false
  | .ref c :: r, e => by
    obtain ⟨a, b, _⟩ := excMro_has (l := r) e
    exact ⟨by rw [List.contains_cons, a, Bool.or_true], by rw [List.contains_cons, b, Bool.or_true], rfl⟩
  | .type a :: r, e => by
    have e' : (Value.type a :: r) = vErr := beq_iff_eq.mp e
    rw [e']; exact ⟨by decide, by decide, rfl⟩
  | .none :: r, e => by have := beq_iff_eq.mp (show (_ == vErr) = true from e); cases this
  | .bool _ :: r, e => by have := beq_iff_eq.mp (show (_ == vErr) = true from e); cases this
  | .int _ _ :: r, e => by have := beq_iff_eq.mp (show (_ == vErr) = true from e); cases this
  | .float _ _ :: r, e => by have := beq_iff_eq.mp (show (_ == vErr) = true from e); cases this
  | .str _ _ :: r, e => by have := beq_iff_eq.mp (show (_ == vErr) = true from e); cases this
  | .bytes _ _ :: r, e => by have := beq_iff_eq.mp (show (_ == vErr) = true from e); cases this
  | .builtin _ :: r, e => by have := beq_iff_eq.mp (show (_ == vErr) = true from e); cases this
noncomputable def exOver (K : PySem.W.Frag) (C : Addr) : Bool := (PySem.W.clsIn K C).any fun cd => excMro cd.mro
/-- an own class of exceptions, beneath ValueError -/
structure XCls (K : PySem.W.Frag) (C : Addr) : Prop where
  mro : exOver K C = true
  hd : PySem.W.hasDictIn K C = true
  sa : PySem.W.findIn K (.ref C) "__setattr__" = some (some (.builtin "object.__setattr__"))
  ga : PySem.W.findIn K (.ref C) "__getattribute__" = some (some (.builtin "BaseException.__getattribute__"))
  gn : PySem.W.findIn K (.ref C) "__getattr__" = some none
section
variable {prog : Program} {w : World} {A : Around} {E : Value → Shared → Prop} {s : Shared} {K : PySem.W.Frag} {x C : Addr} {ox : Obj} {name : Str} {v : Value}
open PySem.W in
theorem osa_exc {R : Result → Shared → Prop} {od : Option Obj} {tk : Tok} (X : K.In s.heap) (I : PySem.W.InstAt s.heap x ox C od) (hp : exOver K C = true) (ht : findIn K (.ref C) name = some none)
    (h : ∀ b, wpAny (model prog w) A.in1 (Builtin.ObjectAttr.storeInOwnDict (.ref x) (.ref C) (.str name tk) name v b)
      (fun fin s' => match fin with | .done f => R (.ok f) s' | .again c' => c'.quiet = true ∧ codeAny (model prog w) A c' R s') (fun e s' => R (.error e) s') s) :
    codeAny (model prog w) A (.call (.builtin "object.__setattr__") ⟨[.ref x, .str name tk, v], []⟩) R s := by
  have SF := PySem.F.store_object
  obtain ⟨cd, hc, ho⟩ := any_some hp
  obtain ⟨h1, h2, ne⟩ := excMro_has ho
  have sub : Looks (model prog w) s.heap (isInstance (.ref x) (.type "object")) true := I.type.andThen (looks_mroIn X (by unfold mroIn; rw [hc, Option.bind_some, if_neg (by rw [ne]; decide), h1]))
  refine codeAny_call_builtin SF.slot.plain SF.entry (@check_slot (model prog w) _ _ s "object.__setattr__" "object" "__setattr__" (.ref x) [.str name tk, v] [] _ SF.kind SF.split sub (SF.args (.ref x) (.str name tk) v) ?_)
  have hm : Looks (model prog w) s.heap (mroOf (.ref C)) cd.mro := (looks_clsIn X hc).andThen .now
  have L3 : Looks (model prog w) s.heap (Builtin.ObjectAttr.storeTaker? none) none := .now
  rw [osa_eq, refuse_eq]
  refine wpAny_bind (wpAny_bind (I.type.here (wpAny_bind (hm.here ?_))))
  rw [refuse_exc _ ho]
  refine wpAny_pure (wpAny_bind (I.type.here (wpAny_bind ((looks_findIn X ht).here (wpAny_bind (L3.here ?_))))))
  exact h _
/-- the first attribute of an exception: its dict is made -/
theorem set_exc0 {vs : Array Value} {Q : Unit → Shared → Prop} (X : K.In s.heap) (hx : s.heap.get? x = some ⟨.ref C, none, .fields vs, #[]⟩) (c : XCls K C) (ht : PySem.W.findIn K (.ref C) name = some none)
    (h : ∀ h' t', h'.get? x = some ⟨.ref C, some s.heap.objs.size, .fields vs, #[]⟩ → h'.Ns1 s.heap.objs.size (fun y => if y = name then some v else none) →
      (∀ b o, b ≠ x → s.heap.get? b = some o → h'.get? b = some o) → Q () { s with heap := h', toks := t' }) :
    wpAny (model prog w) A (setAttr (.ref x) name v) Q E s := by
  have I : PySem.W.InstAt s.heap x ⟨.ref C, none, .fields vs, #[]⟩ C none := ⟨hx, rfl, rfl, True.intro⟩
  refine PySem.W.set_plain X I c.sa (osa_exc (s := { s with toks := s.toks + 1 }) X I c.mro ht fun b => ?_)
  obtain ⟨cd, hc, hd'⟩ := PySem.W.any_some c.hd
  obtain ⟨hp, g, d, t, os⟩ := s
  dsimp only at X hx h I ⊢
  refine wpAny_bind (wpAny_pure (wpAny_bind (wpAny_bind (wpAny_loadPart hx (wpAny_bind (PySem.W.Looks.here (s := ⟨hp, g, d, t + 1, os⟩) (PySem.W.looks_clsIn X hc) ?_))))))
  rw [hd']
  have hx₁ : (hp.push { cls := .type "dict", data := .dict #[] }).get? x = some ⟨.ref C, none, .fields vs, #[]⟩ := Heap.get?_push_of_some _ hx
  have hxs : x ≠ hp.objs.size := Nat.ne_of_lt (Heap.lt_size hx)
  rw [if_neg (by decide)]
  dsimp only
  rw [if_neg (by simp [typeHasDict])]
  refine wpAny_bind (wpAny_alloc' ?_)
  refine wpAny_bind (wpAny_update' hx₁ ?_)
  refine wpAny_pure ?_
  have hgd : ((hp.push { cls := .type "dict", data := .dict #[] }).update x fun o => { cls := o.cls, dict := some hp.objs.size, data := o.data, slots := o.slots }).get? hp.objs.size
      = some { cls := .type "dict", data := .dict #[] } :=
    (Heap.get?_update_ne _ _ _ _ hxs.symm).trans (Heap.get?_push_at rfl rfl)
  have hnd : ((hp.push { cls := .type "dict", data := .dict #[] }).update x fun o => { cls := o.cls, dict := some hp.objs.size, data := o.data, slots := o.slots }).Ns hp.objs.size (fun _ => none) :=
    ⟨_, #[], _, hgd, rfl, fun e he => absurd he (by simp), fun _ => rfl⟩
  show wpAny _ _ (Builtin.ObjectAttr.storeInDict hp.objs.size (.str name t) name v) _ _ _
  unfold Builtin.ObjectAttr.storeInDict Builtin.ObjectAttr.newKeyGuard
  refine wpAny_bind (wpAny_pure (wpAny_bind (wpAny_nsSet1 (Heap.Ns1.of_empty hnd) fun h' hn' hs => ?_)))
  obtain ⟨oD, esD, epD, hoD, hdD, hcD⟩ := hn'.count (Within.cons name v Within.nil)
  refine wpAny_bind (wpAny_lookBehind hoD (by rw [hdD]; exact pastItsLine_dict (Nat.le_trans hcD (by rw [List.length_cons, List.length_nil, sizeLine_eq]; omega))) ?_)
  refine wpAny_pure (h h' _ ?_ hn' fun b o hbx hb => ?_)
  · exact (hs.2 x hxs).trans (Heap.get?_update_self _ hx₁ rfl)
  · exact (hs.2 b (Nat.ne_of_lt (Heap.lt_size hb))).trans ((Heap.get?_update_ne _ _ _ _ hbx).trans (Heap.get?_push_of_some _ hb))
open PySem.W in
/-- an attribute of an exception is read -/
theorem get_exc (FA : ExcAttrFacts "ValueError") {d : Addr} {vs : Array Value} {sl : Array (Option Value)} {mA : Str → Option Value} {expr : Bool} {Q : Value → Shared → Prop} (X : K.In s.heap) (hx : s.heap.get? x = some ⟨.ref C, some d, .fields vs, sl⟩) (hn : s.heap.Ns1 d mA)
    (c : XCls K C) (ht : findIn K (.ref C) name = some none) (hv : mA name = some v) (hh : handedIn v = true) (h : Q v { s with toks := s.toks + 1 }) : wpAny (model prog w) A (getAttr (.ref x) name expr) Q E s := by
  obtain ⟨od, hod, hl⟩ := lookIn_ns hn
  have I : PySem.W.InstAt s.heap x ⟨.ref C, some d, .fields vs, sl⟩ C (some od) := ⟨hx, rfl, rfl, hod⟩
  have hf : findObj K C (some od) name = some (.value v) := findObj_own c.hd ht rfl (by rw [hl, hv])
  obtain ⟨cd, hc, ho⟩ := any_some c.mro
  obtain ⟨h1, h2, ne⟩ := excMro_has ho
  have sub : Looks (model prog w) s.heap (isInstance (.ref x) (.type "BaseException")) true := I.type.andThen (looks_mroIn X (by unfold mroIn; rw [hc, Option.bind_some, if_neg (by rw [ne]; decide), h2]))
  have GA := FA.ga
  have hk : builtinKind "BaseException.__getattribute__" = some .slot := by decide +kernel
  have hsplit : splitId "BaseException.__getattribute__" = some ("BaseException", "__getattribute__") := by decide +kernel
  have hx0 : (expr && onTheHeap (Value.builtin "BaseException.__getattribute__")) = false := by cases expr <;> rfl
  have hx2 : (Value.builtin "BaseException.__getattribute__" == Value.builtin "object.__getattribute__") = false := by decide +kernel
  have hx1 : (onTheHeap (Value.ref C) && Value.builtin "BaseException.__getattribute__" == Value.builtin "object.__getattribute__") = false := by rw [hx2]; rfl
  have L0 := I.type (M := model prog w)
  have L1 := looks_findIn (M := model prog w) X c.ga
  have L2 := looks_findIn (M := model prog w) X c.gn
  have L3 := looks_find (M := model prog w) X I hf
  obtain ⟨hp, g, dr, t, os⟩ := s
  unfold getAttr getAttrBy
  refine wpAny_bind (wpAny_mkText (wpAny_holding (wpAny_bind (L0.at (wpAny_bind (L1.at ?_))))))
  dsimp only
  rw [hx1, if_neg Bool.false_ne_true]
  unfold getAttrByItsOwn
  refine wpAny_bind (L2.at ?_)
  refine wpAny_bind (wpAny_attempt (wpAny_holding ?_))
  unfold callGetattribute
  rw [hx0, if_neg Bool.false_ne_true]
  unfold boundAndCalled
  rw [GA.bind]
  refine wpAny_bind (wpAny_pure (wpAny_call ?_))
  refine codeAny_call_builtin GA.plain F.entry_bexc_ga (@check_slot (model prog w) _ _ ⟨hp, g, dr, t + 1, os⟩ "BaseException.__getattribute__" "BaseException" "__getattribute__" (.ref x) [.str name t] [] _ hk hsplit sub (F.args_bexc_ga (.ref x) (.str name t)) ?_)
  unfold Builtin.«object.__getattribute__»
  refine wpAny_bind (wpAny_pure ?_)
  dsimp only
  refine wpAny_bind (wpAny_pure (wpAny_bind (L0.at (wpAny_bind (L3.at ?_)))))
  refine wpAny_pure ?_
  show wpAny _ _ (handedOut v) _ _ _
  rw [handedOut_of hh]
  exact wpAny_pure h
end
end L2
namespace PySem
section
variable {prog : Program} {w : World} {A : Around} {E : Value → Shared → Prop} {h : Heap} {g : Array GenState} {d : Drawn} {t : Nat} {os : OsState}
variable {nm q : Str} {C N : Addr} {bs bm bmB : List Value} {hdct : Bool} {sn : List Str} {sub : List Value} {ab : Bool} {col : Option Bool} {dd : Option Addr} {k0 k1 k2 k3 k5 : Option Value} {B newId initId : String}
theorem y_type_call_initT (F : ExcBaseFacts B newId initId bmB) (T : OwnTail h bmB bm) {mN : Str → Option Value} {rest : List Value} {fI : Addr} {oI : Obj} {Q : Fin → Shared → Prop}
    (hC : h.get? C = some (excClassObj nm q C N bs bm hdct sn sub ab col dd k0 k1 k2 k3 k5 newId)) (hn : h.Ns N mN) (hi : mN "__init__" = some (.ref fI))
    (hfI : h.get? fI = some oI) (hfc : oI.cls = .type "function")
    (hq : wpAny (model prog w) A (call (.ref fI) (.ref (h.objs.size + 1) :: rest)) (fun r s' => r = .none ∧ Q (.done (.ret (.ref (h.objs.size + 1)))) s') E
      ⟨(h.push { cls := .type "tuple", data := .seq rest.toArray }).push { cls := .ref C, data := .fields #[.ref h.objs.size, .none, .none, .none, .bool false, .none] }, g, d, t, os⟩) (hrest : rest.length ≤ sizeLine := by size_fits) :
    wpAny (model prog w) A (Builtin.«type.__call__» ⟨.ref C :: rest, []⟩) Q E ⟨h, g, d, t, os⟩ := by
  repeat (first | with_reducible refine wpAny_loadPart_at hC ?_ | with_reducible refine wpAny_madeBy_exc hC ?_ | wp_step)
  refine codeAny_call_builtin_code (Code.quiet_builtin _ F.quiet) (wpAny_check_new_subT F T hC ?_)
  refine codeAny_exc_new_subT F T hC ?_ hrest
  show wpAny _ _ _ _ _ _
  have hC₁ := Heap.get?_push_of_some { cls := .ref C, data := .fields #[.ref h.objs.size, .none, .none, .none, .bool false, .none] }
    (Heap.get?_push_of_some { cls := .type "tuple", data := .seq rest.toArray } hC)
  have hfI₁ := Heap.get?_push_of_some { cls := .ref C, data := .fields #[.ref h.objs.size, .none, .none, .none, .bool false, .none] }
    (Heap.get?_push_of_some { cls := .type "tuple", data := .seq rest.toArray } hfI)
  have hn₁ : ((h.push { cls := .type "tuple", data := .seq rest.toArray }).push { cls := .ref C, data := .fields #[.ref h.objs.size, .none, .none, .none, .bool false, .none] }).Ns N mN :=
    let ⟨o, es, ep, e, r⟩ := hn; ⟨o, es, ep, Heap.get?_push_of_some _ (Heap.get?_push_of_some _ e), r⟩
  have hget : ((h.push { cls := .type "tuple", data := .seq rest.toArray }).push
      { cls := .ref C, data := .fields #[.ref h.objs.size, .none, .none, .none, .bool false, .none] }).get? (h.objs.size + 1) = some
      { cls := .ref C, data := .fields #[.ref h.objs.size, .none, .none, .none, .bool false, .none] } := by heap_get
  have hcC : (Value.ref C :: bm).contains (.ref C) = true := by simp
  have T₁ := T.keeps (h' := (h.push { cls := .type "tuple", data := .seq rest.toArray }).push { cls := .ref C, data := .fields #[.ref h.objs.size, .none, .none, .none, .bool false, .none] })
    fun b o e => Heap.get?_push_of_some _ (Heap.get?_push_of_some _ e)
  unfold isInstance
  repeat (first | with_reducible refine wpAny_loadPart_at hget ?_ | (with_reducible refine wpAny_isSubtype_exc hC₁ ?_; rw [hcC]) | wp_step)
  show wpAny _ _ (typeLookup (.ref C) _) _ _ _
  refine wpAny_typeLookup_tail hC₁ hn₁ T₁ F.mroIs F.init.lookup ?_
  rw [hi]
  refine wpAny_holding (wpAny_bind ?_)
  unfold bindSpecial
  refine wpAny_bind (wpAny_typeOf (T := "function") ⟨_, hfI₁, hfc⟩ ?_)
  rw [if_pos (by decide)]
  refine wpAny_pure (wpAny_bind (wpAny_mono hq (fun r s' hr => ?_) fun _ _ x => x))
  obtain ⟨rfl, hQ⟩ := hr
  wp_walk
  exact hQ

theorem y_call_initT (F : ExcBaseFacts B newId initId bmB) (T : OwnTail h bmB bm) {mN : Str → Option Value} {rest : List Value} {fI : Addr} {oI : Obj} {Q : Value → Shared → Prop}
    (hC : h.get? C = some (excClassObj nm q C N bs bm hdct sn sub ab col dd k0 k1 k2 k3 k5 newId)) (hn : h.Ns N mN) (hi : mN "__init__" = some (.ref fI))
    (hfI : h.get? fI = some oI) (hfc : oI.cls = .type "function")
    (hq : wpAny (model prog w) (A.under (.builtin "type.__call__" ⟨.ref C :: rest, []⟩)) (call (.ref fI) (.ref (h.objs.size + 1) :: rest)) (fun r s' => r = .none ∧ Q (.ref (h.objs.size + 1)) s') E
      ⟨(h.push { cls := .type "tuple", data := .seq rest.toArray }).push { cls := .ref C, data := .fields #[.ref h.objs.size, .none, .none, .none, .bool false, .none] }, g, d, t, os⟩) (hrest : rest.length ≤ sizeLine := by size_fits) :
    wpAny (model prog w) A (call (.ref C) rest) Q E ⟨h, g, d, t, os⟩ := by
  have f1 := tc_lookup
  have f2 := tc_bind (.ref C)
  have hT : (⟨h, g, d, t, os⟩ : Shared).TypeIs (.ref C) "type" := ⟨_, hC, rfl⟩
  refine wpAny_call (codeAny_of_tree ?_)
  show wpAny _ _ (callAny (.ref C) _) _ _ _
  repeat (any_goals (first | assumption | with_reducible refine wpAny_loadPart_at hC ?_ | wp_step))
  refine ⟨rfl, ?_⟩
  refine codeAny_call_builtin_at (Code.quiet_builtin _ (by decide +kernel)) entry_typeCall (wpAny_check_type_call_sub hC (y_type_call_initT (hrest := hrest) F T hC hn hi hfI hfc ?_))
  exact hq
end
section
variable {M : Model} {A : Around} {E : Value → Shared → Prop} {env : Env}
variable {nm q : Str} {C N : Addr} {bs bm : List Value} {hdct : Bool} {sn : List Str} {sub : List Value} {ab : Bool} {col : Option Bool} {dd : Option Addr} {k0 k1 k2 k3 k5 : Option Value} {newId : String}
theorem y_raise_made {s : Shared} {x : Sem Value} {Q : Flow → Shared → Prop} (hh : A.handled = none)
    (h : wpAny M A x (fun v s₁ => ∃ e t de nm q N bs bm hdct sn sub ab col dd k0 k1 k2 k3 k5 newId, v = .ref e ∧ bm.contains (.type "BaseException") = true ∧ s₁.heap.get? C = some (excClassObj nm q C N bs bm hdct sn sub ab col dd k0 k1 k2 k3 k5 newId) ∧
      s₁.heap.get? e = some { cls := .ref C, dict := de, data := .fields #[.ref t, .none, .none, .none, .bool false, .none] } ∧ E (.ref e) s₁) E s) :
    wpAny M A (raiseStmt env (some x) none) Q E s := by
  unfold raiseStmt
  refine wpAny_bind (wpAny_mono h (fun v s₁ h₁ => ?_) fun _ _ x => x)
  obtain ⟨e, t, de, nm, q, N, bs, bm, hdct, sn, sub, ab, col, dd, k0, k1, k2, k3, k5, newId, rfl, hbase, hC, he, hE⟩ := h₁
  have hcB : (Value.ref C :: bm).contains (.type "BaseException") = true := by rw [List.contains_cons, hbase, Bool.or_true]
  obtain ⟨hp, g, d, tk, os⟩ := s₁
  repeat (first | with_reducible refine wpAny_loadPart_at he ?_ | with_reducible refine wpAny_loadPart_at hC ?_ | (with_reducible refine wpAny_isSubtype_exc hC ?_; rw [hcB]) | wp_step)
  exact wpAny_raiseNew_none hh hE
end
end PySem
namespace L2
open PySem PySem.Spec PyProof.Rows
/-! ### classes of exceptions, by the written part -/
noncomputable def excInI (K : PySem.W.Frag) (C : Addr) (init : Option Value) : Bool := match K.lookup C with
  | some ⟨.type "type", _, .cls cd, sl⟩ => (match cd.mro, sl.toList with
    | .ref C' :: bm, [_, _, _, _, some (.builtin n), _] => C' == C && n == "ValueError.__new__" && !cd.hasDel && PySem.W.tailIn K vErr bm && PySem.W.nsOkIn K cd.ns && PySem.W.nsIn K cd.ns "__init__" == some init
    | _, _ => false)
  | _ => false
theorem nsMap_some_of_in {K : PySem.W.Frag} {h : Heap} {N : Addr} {x : Str} {v : Value} (X : K.In h) (e : PySem.W.nsOkIn K N = true) (q : PySem.W.nsIn K N x = some (some v)) : h.nsMap N x = some v := by
  have G : h.Ns N (h.nsMap N) := .of_isNs (PySem.W.isNs_of_in X e)
  generalize h.nsMap N = m at G ⊢
  obtain ⟨o, es, ep, ho, hd, _, hf⟩ := G
  unfold PySem.W.nsIn at q
  split at q
  · rename_i c d es' n' sl z
    have := X _ _ z
    rw [ho] at this
    cases this
    cases hd
    split at q
    · rename_i en he
      cases q
      rw [← hf]
      unfold nsFind findBy
      rw [← Array.find?_toList, he]
      rfl
    · split at q <;> cases q
  · cases q
theorem excI_of {K : PySem.W.Frag} {h : Heap} {C : Addr} {init : Option Value} (X : K.In h) (q : excInI K C init = true) : ∃ bm N nm qn bs hdct sn sub ab col dd k0 k1 k2 k3 k5 mN,
    h.get? C = some (excClassObj nm qn C N bs bm hdct sn sub ab col dd k0 k1 k2 k3 k5 "ValueError.__new__") ∧ h.Ns N mN ∧ mN "__init__" = init ∧ OwnTail h vErr bm := by
  unfold excInI at q
  split at q
  · rename_i dd cd sl ho
    split at q
    · rename_i C' bm k0 k1 k2 k3 n k5 hm hs
      simp only [Bool.and_eq_true, beq_iff_eq, Bool.not_eq_true'] at q
      obtain ⟨⟨⟨⟨⟨rfl, rfl⟩, hdel⟩, ht⟩, hok⟩, hni⟩ := q
      obtain ⟨nm, bs, mro, ns, qn, hd, sn, sub, ab, col, del⟩ := cd
      dsimp only at hm hdel hok hni
      subst hm hdel
      have hsl : sl = #[k0, k1, k2, k3, some (.builtin "ValueError.__new__"), k5] := by
        obtain ⟨l⟩ := sl
        simp only at hs
        rw [hs]
      subst hsl
      refine ⟨bm, ns, nm, qn, bs, hd, sn, sub, ab, col, dd, k0, k1, k2, k3, k5, _, X _ _ ho, .of_isNs (PySem.W.isNs_of_in X hok), ?_, PySem.W.tail_of_in X ht⟩
      cases init with
      | none => exact PySem.W.nsMap_none_of_in X hok hni
      | some v => exact nsMap_some_of_in X hok hni
    · cases q
  · cases q
theorem vErr_base {h : Heap} {bm : List Value} (T : OwnTail h vErr bm) : bm.contains (.type "BaseException") = true := T.hasType (by decide)

/-! ### an exception is made -/
noncomputable def excObj (C t : Addr) (dd : Option Addr) : Obj := { cls := .ref C, dict := dd, data := .fields #[.ref t, .none, .none, .none, .bool false, .none] }
/-- the reading of C(..): its own dict, if it has one -/
noncomputable abbrev TX := St → Hp → (Option Addr → Hp → Prop) → Prop
noncomputable def PX (X : Cx) (e : Expr) (C : Addr) (t : TX) : Prop :=
  ∀ (pins : List (Addr × Obj)) (s : Shared) (σ : St) (H : Hp) (R : Option Addr → Hp → Prop), Inv X pins σ H s → t σ H R → wpAny (model X.prog X.w) X.A (eval e X.env)
    (fun u s' => ∃ ea dd tt H', u = .ref ea ∧ Inv X pins σ H' s' ∧ s'.heap.get? ea = some (excObj C tt dd) ∧ X.s₀.heap.get? ea = none ∧ H' ea = none ∧ (∀ p ∈ X.pn ++ pins, p.1 ≠ ea) ∧ R dd H') X.xe s
theorem HOk.at {P : Program} {w : World} {H : Hp} {h : Heap} {a : Addr} {o : HO} (x : HOk P w H h) (e : H a = some o) : ∃ ob, h.get? a = some ob := by
  have q := x a o e
  have all : ∀ o, ObjOk P w H h a o → ∃ ob, h.get? a = some ob := by
    intro o
    induction o with
    | lst xs => intro ⟨_, its, n, _, e⟩; exact ⟨_, e⟩
    | tup xs => intro ⟨_, its, _, ob, e, _⟩; exact ⟨_, e⟩
    | dK kvs => intro ⟨_, _, vs, _, q⟩; obtain ⟨o, es, ep, e, _⟩ := q; exact ⟨_, e⟩
    | dT kvs => intro ⟨_, _, xs, _, o, es, ep, e, _⟩; exact ⟨_, e⟩
    | set S n => intro q; obtain ⟨o, _, _, _, e, _⟩ := q; exact ⟨_, e⟩
    | ins C dx fs => intro ⟨_, _, _, e, _⟩; exact ⟨_, e⟩
    | own x => intro ⟨o, e⟩; exact ⟨_, e⟩
    | xd fs => intro ⟨mA, ⟨o, es, ep, e, _⟩, _⟩; exact ⟨_, e⟩
    | rng lo hi => intro ⟨_, _, _, e⟩; exact ⟨_, e⟩
    | frz o u ih => intro ⟨e, _⟩; exact ⟨_, e⟩
    | tbl ps => intro e; exact ⟨_, e⟩
    | met f x => intro e; exact ⟨_, e⟩
    | ext φ => intro ⟨_, e, _⟩; exact e
  exact all o q
theorem HOk.none_of {P : Program} {w : World} {H : Hp} {h : Heap} {a : Addr} (x : HOk P w H h) (e : h.get? a = none) : H a = none := by
  cases q : H a with
  | none => rfl
  | some o =>
    obtain ⟨ob, z⟩ := x.at q
    rw [e] at z; cases z
/-- no longer tracked -/
noncomputable def del (H : Hp) (a : Addr) : Hp := fun b => if b = a then none else H b
theorem del_same {H : Hp} {a : Addr} : del H a a = none := if_pos rfl
theorem del_ne {H : Hp} {a b : Addr} (h : b ≠ a) : del H a b = H b := if_neg h
theorem Inv.drop {X : Cx} {pins : List (Addr × Obj)} {σ : St} {H : Hp} {s : Shared} {a : Addr} {φ : Heap → Prop} (I : Inv X pins σ H s) (e : H a = some (.ext φ)) : Inv X pins σ (del H a) s := by
  have nx : ∀ b u, H b = some u → (∀ φ, u ≠ .ext φ) → b ≠ a := fun b u q n z => by rw [z, e] at q; cases q; exact n φ rfl
  have nn : ∀ b, H b = none → del H a b = none := fun b q => by unfold del; split <;> first | rfl | exact q
  refine ⟨I.ok, I.os, I.bare, ⟨I.base.keep, I.base.slot, fun b o h1 h2 h3 => nn b (I.base.free b o h1 h2 h3), I.base.there, fun b xs q => ?_, fun b o u q => ?_, fun b ps q => ?_⟩, I.loc, I.cell, nn _ I.free, fun x c h => nn _ (I.freeC x c h), fun p hp => ?_, fun b u q => ?_, I.len⟩
  · have z := I.base.tups b xs q
    rw [del_ne (nx b _ z fun φ h => by cases h)]; exact z
  · have z := I.base.frzs b o u q
    rw [del_ne (nx b _ z fun φ h => by cases h)]; exact z
  · obtain ⟨more, z⟩ := I.base.tbls b ps q
    exact ⟨more, by rw [del_ne (nx b _ z fun φ h => by cases h)]; exact z⟩
  · obtain ⟨h1, h2, h3⟩ := I.pin p hp
    exact ⟨h1, nn _ h2, h3⟩
  · have hb : b ≠ a := fun z => by rw [z, del_same] at q; cases q
    rw [del_ne hb] at q
    refine (I.hok b u q).stay (fun c v _ z => z) (fun c z => ?_) fun c xs z => ?_
    · rw [del_ne (nx c _ z fun φ h => by cases h)]; exact z
    · rw [del_ne (nx c _ z fun φ h => by cases h)]; exact z

section
variable {X : Cx} {C f : Addr} {x : Str} {p pos apos : Pos} {e : Expr} {es : List Expr} {t : TA}
/-- C(..) of a class without an __init__ of its own -/
noncomputable def tXmake (t : TA) : TX := fun σ H R => t σ H fun vs H1 => vs.length ≤ sizeLine ∧ R none H1
theorem px_plain (hq : excInI X.K C none = true) (kp : PySem.W.keepIn X.K (.ref C) = true) (hex : X.ex = []) (hg : Gl X x) (hm : X.mg x = some (.ref C)) (ha : PA X (e :: es) t)
    (hdb : (x == ("__debug__" : Str)) = false := by decide) (he : starEach (e :: es) X.env = (false, eval e X.env) :: starEach es X.env := by rfl) (hpl : (backTo pos (starEach es X.env)).any (·.1) = false := by rfl) :
    PX X (.Call (.Name x p) (e :: es) [] pos) C (tXmake t) := by
  intro pins s σ H R I h
  refine wpAny_Call_Name_kw (ld_glob I hg hm ?_ hdb)
  refine PySem.W.callWith_K (h₀ := X.base) I.ok.mod.kin kp (thn (ha pos pins s σ H _ I h) fun us s1 ⟨vs, H1, I1, r, hl, q⟩ => ⟨I1.kIn, ?_⟩) he hpl
  obtain ⟨bm, N, nm, qn, bs, hdct, sn, sub, ab, col, dd, k0, k1, k2, k3, k5, mN, hC, hn, hni, T⟩ := excI_of I1.kIn hq
  obtain ⟨hp, g, d, tk, os⟩ := s1
  refine wpAny_call_exc_subT (hrest := by show us.length ≤ _; rw [← r.length]; exact hl) PySem.F.excBase_ValueError T hC hn hni fun h' ea hmade => ?_
  obtain ⟨tt, ht, _, _⟩ := hmade.there
  refine ⟨ea, none, tt, H1, rfl, I1.kept (t' := tk) hmade.keeps, ht, I1.new_of hex hmade.new, I1.hok.none_of hmade.new, fun p hp z => ?_, q⟩
  have := (I1.pin p hp).1
  rw [z] at this
  have h2 := hmade.new
  rw [this] at h2
  cases h2
noncomputable def ExcAt (e C t : Addr) (dd : Option Addr) : HO := .ext fun h => h.get? e = some (excObj C t dd)
theorem excAt_ok {P : Program} {w : World} {H : Hp} {h : Heap} {e C t : Addr} {dd : Option Addr} (q : h.get? e = some (excObj C t dd)) : ObjOk P w H h e (ExcAt e C t dd) :=
  ⟨q, ⟨_, q⟩, fun h1 h2 a b => b _ a⟩
/-- C(..) of a class with an __init__ of its own: e is tracked while it runs -/
noncomputable def tXinit (C : Addr) (sp : Sp) (t : TA) : TX := fun σ H R => t σ H fun vs H1 => vs.length ≤ sizeLine ∧ ∀ e tt, H1 e = none → sp (.ref e :: vs) (upd H1 e (ExcAt e C tt none)) (fun v H2 => v = .non ∧ ∃ dd, H2 e = some (ExcAt e C tt dd) ∧ R dd (del H2 e)) E0
theorem px_init {k : Nat} {fd : FuncData} {ps : List Str} {sp : Sp} (hq : excInI X.K C (some (.ref f)) = true) (hf : PySem.W.isFn X.K (.ref f) = true) (kp : PySem.W.keepIn X.K (.ref C) = true) (F : FnOk X.prog X.w X.K X.mg X.base CX0 k f fd ps sp) (hr : Room (k + 1) X.A) (hb : Binds X.K fd ps [])
    (hg : Gl X x) (hm : X.mg x = some (.ref C)) (ha : PA X (e :: es) t)
    (hdb : (x == ("__debug__" : Str)) = false := by decide) (he : starEach (e :: es) X.env = (false, eval e X.env) :: starEach es X.env := by rfl) (hpl : (backTo pos (starEach es X.env)).any (·.1) = false := by rfl) :
    PX X (.Call (.Name x p) (e :: es) [] pos) C (tXinit C sp t) := by
  intro pins s σ H R I h
  refine wpAny_Call_Name_kw (ld_glob I hg hm ?_ hdb)
  refine PySem.W.callWith_K (h₀ := X.base) I.ok.mod.kin kp (thn (ha pos pins s σ H _ I h) fun us s1 ⟨vs, H1, I1, r, hl, q⟩ => ⟨I1.kIn, ?_⟩) he hpl
  obtain ⟨bm, N, nm, qn, bs, hdct, sn, sub, ab, col, dd, k0, k1, k2, k3, k5, mN, hC, hn, hni, T⟩ := excI_of I1.kIn hq
  obtain ⟨oI, hoI, hcI⟩ : ∃ oI, s1.heap.get? f = some oI ∧ oI.cls = .type "function" := by
    have z := beq_iff_eq.mp hf
    obtain ⟨o, ho, z⟩ := Option.map_eq_some_iff.mp (show (X.K.lookup f).map (·.cls) = some (.type "function") from z)
    exact ⟨o, I1.kIn _ _ ho, z⟩
  obtain ⟨hp, g, d, tk, os⟩ := s1
  dsimp only at hC hn T hoI
  refine y_call_initT (hrest := by show us.length ≤ _; rw [← r.length]; exact hl) PySem.F.excBase_ValueError T hC hn hni hoI hcI ?_
  have nE : hp.objs.size ≤ hp.objs.size + 1 := Nat.le_succ _
  have hq2 := q (hp.objs.size + 1) hp.objs.size (I1.hok.fresh nE)
  have hget : ((hp.push { cls := .type "tuple", data := .seq us.toArray }).push (excObj C hp.objs.size none)).get? (hp.objs.size + 1) = some (excObj C hp.objs.size none) := by
    have := Heap.get?_push_size (hp.push { cls := .type "tuple", data := .seq us.toArray }) (o := excObj C hp.objs.size none) rfl
    rwa [Heap.size_push] at this
  have I2 : Inv X pins σ (upd H1 (hp.objs.size + 1) (ExcAt (hp.objs.size + 1) C hp.objs.size none)) ⟨(hp.push { cls := .type "tuple", data := .seq us.toArray }).push (excObj C hp.objs.size none), g, d, tk, os⟩ :=
    I1.laid (t' := tk) (fun b u z => Heap.get?_push_of_some _ (Heap.get?_push_of_some _ z)) nE (excAt_ok hget)
  have r2 : Vals (V.ref (hp.objs.size + 1) :: vs) (Value.ref (hp.objs.size + 1) :: us) := .cons rfl r
  have hl2 : (Value.ref (hp.objs.size + 1) :: us ++ []).length = ps.length := by
    have e := r2.length
    rw [F.len _ _ _ _ hq2] at e
    rw [List.append_nil]; exact e.symm
  have hb2 := hb ⟨(hp.push { cls := .type "tuple", data := .seq us.toArray }).push (excObj C hp.objs.size none), g, d, tk, os⟩ (Value.ref (hp.objs.size + 1) :: us) I2.kIn hl2
  rw [List.append_nil] at hb2
  refine wpAny_call (codeAny_mono (F.run _ X.stack _ _ ⟨Value.ref (hp.objs.size + 1) :: us, []⟩ (Value.ref (hp.objs.size + 1) :: us) _ _ E0 (hr.make C us []) (I2.env0.make C us []) hb2 r2 hq2) fun rr s' hq' => ?_)
  cases rr with
  | error e => exact hq'.elim
  | ok fl =>
    cases fl with
    | ret u =>
      obtain ⟨v, H', I3, rv, ev, de, hde, q3⟩ := I2.after hq'
      subst ev
      refine ⟨rv, hp.objs.size + 1, de, hp.objs.size, del H' (hp.objs.size + 1), rfl, I3.drop hde, (I3.hok _ _ hde).1, Heap.get?_none_of_le (Nat.le_trans I1.sz nE), del_same, fun p hp' z => ?_, q3⟩
      have := Heap.lt_size (I1.pin p hp').1
      rw [z] at this
      exact absurd this (Nat.not_lt.mpr nE)
    | next => exact False.elim hq'
    | brk => exact False.elim hq'
    | cont => exact False.elim hq'
/-- raise C(..) -/
noncomputable def tRaise (C : Addr) (E : XK) (t : TX) : TS := fun _ σ H => t σ H fun dd H1 => E (.ref C) dd H1
theorem ps_raise {E : XK} {tx : TX} {init : Option Value} (hc : X.calm = true) (hq : excInI X.K C init = true) (hx : PassX X E) (h : PX X e C tx) : PS X (.Raise (some e) none pos) (tRaise C E tx) := by
  intro pins s σ H D I hw
  rw [arm_exec_Raise]
  have key : wpAny (model X.prog X.w) X.A (eval e X.env) (fun v s₁ => ∃ ea t de nm q N bs bm hdct sn sub ab col dd k0 k1 k2 k3 k5 newId, v = .ref ea ∧ bm.contains (.type "BaseException") = true ∧ s₁.heap.get? C = some (excClassObj nm q C N bs bm hdct sn sub ab col dd k0 k1 k2 k3 k5 newId) ∧
      s₁.heap.get? ea = some { cls := .ref C, dict := de, data := .fields #[.ref t, .none, .none, .none, .bool false, .none] } ∧ X.xe (.ref ea) s₁) X.xe s := by
    refine thn (h pins s σ H _ I hw) fun u s1 ⟨ea, dd, tt, H', eu, I1, ho, hn, hh, hp, q⟩ => ?_
    obtain ⟨bm, N, nm, qn, bs, hdct, sn, sub, ab, col, ddc, k0, k1, k2, k3, k5, mN, hC, hns, hni, T⟩ := excI_of I1.kIn hq
    refine ⟨ea, tt, dd, nm, qn, N, bs, bm, hdct, sn, sub, ab, col, ddc, k0, k1, k2, k3, k5, _, eu, vErr_base T, hC, ho, hx pins σ _ _ ⟨ea, .ref C, dd, [ea], H', rfl, I1, ⟨_, _, ho, rfl, rfl, rfl, .inl ⟨rfl, rfl⟩⟩, fun b hb => ?_, q⟩⟩
    simp only [List.mem_singleton] at hb
    subst hb
    exact ⟨hn, hh, hp⟩
  first
    | refine wpAny_bind (wpAny_standAt (y_raise_made (C := C) (I.ok.hd hc) (wpAny_bind (wpAny_mono key (fun v s₃ h₃ => wpAny_bind (wpAny_standAt (wpAny_pure h₃))) fun _ _ x => x))))
    | (simp only [evalOpt, Option.map]; refine wpAny_bind (wpAny_standAt (y_raise_made (C := C) (I.ok.hd hc) (wpAny_bind (wpAny_mono key (fun v s₃ h₃ => wpAny_bind (wpAny_standAt (wpAny_pure h₃))) fun _ _ x => x)))))
end
end L2
namespace L2
open PySem PySem.Spec PyProof.Rows
section
variable {prog : Program} {w : World} {A : Around} {E : Value → Shared → Prop} {s : Shared} {K : PySem.W.Frag} {x C : Addr} {ox : Obj} {od : Option Obj} {name : Str} {v : Value}
open PySem.W in
theorem class_exc {Q : Option Value → Shared → Prop} (X : K.In s.heap) (I : PySem.W.InstAt s.heap x ox C od) (c : XCls K C) (ha : findIn K (.ref C) "__class__" = some (some (.builtin "object.__class__")))
    (hn : specialIn K (.builtin "object.__class__") "__get__" = some (some (.builtin "getset_descriptor.__get__"))) (htk : takesIn K (.builtin "object.__class__") = some true)
    (h : Q (some (.ref C)) { s with toks := s.toks + 1 }) : wpAny (model prog w) A (getAttr? (.ref x) "__class__") Q E s := by
  obtain ⟨cd, hc, ho⟩ := any_some c.mro
  obtain ⟨h1, h2, ne⟩ := excMro_has ho
  have hm : mroIn K C (.type "object") = some true := by unfold mroIn; rw [hc, Option.bind_some, if_neg (by rw [ne]; decide), h1]
  have hf : findObj K C od "__class__" = some (.bind (.builtin "getset_descriptor.__get__") (.builtin "object.__class__")) := by
    unfold findObj
    rw [hc, Option.bind_some, ha, Option.bind_some]
    dsimp only
    rw [hn, Option.bind_some]
    dsimp only
    rw [htk, Option.bind_some]
  have sub : Looks (model prog w) s.heap (isInstance (.ref x) (.type "BaseException")) true := I.type.andThen (looks_mroIn X (by unfold mroIn; rw [hc, Option.bind_some, if_neg (by rw [ne]; decide), h2]))
  have GA := F.attr_ValueError.ga
  have hk : builtinKind "BaseException.__getattribute__" = some .slot := by decide +kernel
  have hsplit : splitId "BaseException.__getattribute__" = some ("BaseException", "__getattribute__") := by decide +kernel
  have hx2 : (Value.builtin "BaseException.__getattribute__" == Value.builtin "object.__getattribute__") = false := by decide +kernel
  have hx1 : (onTheHeap (Value.ref C) && Value.builtin "BaseException.__getattribute__" == Value.builtin "object.__getattribute__") = false := by rw [hx2]; rfl
  have L0 := I.type (M := model prog w)
  have L1 := looks_findIn (M := model prog w) X c.ga
  have L2 := looks_findIn (M := model prog w) X c.gn
  have L3 := looks_find (M := model prog w) X I hf
  obtain ⟨hp, g, dr, t, os⟩ := s
  unfold getAttr? getAttrBy? getAttrBy
  refine wpAny_bind (wpAny_mkText (wpAny_bind (wpAny_attempt (wpAny_holding (wpAny_bind (L0.at (wpAny_bind (L1.at ?_))))))))
  dsimp only
  rw [hx1, if_neg Bool.false_ne_true]
  unfold getAttrByItsOwn
  refine wpAny_bind (L2.at ?_)
  refine wpAny_bind (wpAny_attempt (wpAny_holding ?_))
  unfold callGetattribute
  rw [show (false && onTheHeap (Value.builtin "BaseException.__getattribute__")) = false from rfl, if_neg Bool.false_ne_true]
  unfold boundAndCalled
  rw [GA.bind]
  refine wpAny_bind (wpAny_pure (wpAny_call ?_))
  refine codeAny_call_builtin GA.plain F.entry_bexc_ga (@check_slot (model prog w) _ _ ⟨hp, g, dr, t + 1, os⟩ "BaseException.__getattribute__" "BaseException" "__getattribute__" (.ref x) [.str "__class__" t] [] _ hk hsplit sub (F.args_bexc_ga (.ref x) (.str "__class__" t)) ?_)
  unfold Builtin.«object.__getattribute__»
  refine wpAny_bind (wpAny_pure ?_)
  dsimp only
  refine wpAny_bind (wpAny_pure (wpAny_bind (L0.at (wpAny_bind (L3.at ?_)))))
  show wpAny _ _ (holding [Value.builtin "object.__class__"] (call (.builtin "getset_descriptor.__get__") [.builtin "object.__class__", .ref x, .ref C]) >>= ret) _ _ _
  refine wpAny_bind (wpAny_holding (wpAny_call (class_get (s := ⟨hp, g, dr, t + 1, os⟩) (ox := ox) (od := od) X I hm ?_)))
  refine wpAny_pure ?_
  show wpAny _ _ (handedOut (.ref C)) _ _ _
  exact handed_on rfl (wpAny_pure h)
/-- what is asked of a class of exceptions for isinstance -/
structure XIsi (K : PySem.W.Frag) (C : Addr) : Prop where
  at_ : PySem.W.findIn K (.ref C) "__class__" = some (some (.builtin "object.__class__"))
  get : PySem.W.specialIn K (.builtin "object.__class__") "__get__" = some (some (.builtin "getset_descriptor.__get__"))
  tak : PySem.W.takesIn K (.builtin "object.__class__") = some true
open PySem.W in
theorem kitx_exc (c : XCls K C) (i : XIsi K C) : KitX K (.ref x) (.ref C) (fun h => ∃ od, PySem.W.InstAt h x ox C od) where
  ty := fun _ _ _ ⟨_, I⟩ => I.type
  it := fun _ _ X _ => by
    obtain ⟨cdD, hcD, _⟩ := any_some c.hd
    unfold clsIn at hcD
    split at hcD
    · rename_i c' d' cd' sl' ho
      intro A' Q' E' s' k q
      unfold isType loadHead
      exact wpAny_bind (wpAny_loadPart (k _ _ (X _ _ ho)) (wpAny_pure q))
    · cases hcD
  ne := fun h tp dd its n sl X htp => by
    obtain ⟨cdD, hcD, _⟩ := any_some c.hd
    refine Bool.eq_false_iff.mpr fun q => ?_
    have e : C = tp := Value.ref.inj (beq_iff_eq.mp q)
    subst e
    unfold clsIn at hcD
    split at hcD
    · rename_i c' d' cd' sl' ho
      have z := (X _ _ ho).symm.trans htp
      cases z
    · cases hcD
  ca := fun X ⟨_, I⟩ k => class_exc X I c i.at_ i.get i.tak k
end

/-! ### in an except suite -/
/-- the context of an except suite: the exception is pinned -/
noncomputable abbrev Cx.hand (X : Cx) (ea : Addr) (oe : Obj) : Cx := { X with A := X.A.mark (some (.ref ea)), calm := false, pn := (ea, oe) :: X.pn, xe := fun _ _ => False }
section
variable {X : Cx} {pins : List (Addr × Obj)} {σ : St} {H : Hp} {s : Shared} {ea : Addr} {oe : Obj}
theorem Inv.hand (I : Inv X pins σ H s) {vs : Array Value} (h1 : s.heap.get? ea = some oe) (hd : oe.data = .fields vs) (h2 : H ea = none) : Inv (X.hand ea oe) pins σ H s := by
  have ok := I.ok
  refine ⟨⟨ok.mod, ok.kind, ok.glob, ok.blt, ok.above, ok.inj, ok.has, ok.cab, (fun z => by cases z), ok.frames, ok.stk, ok.exf, ok.bs, ok.bsz, ok.noex, ok.exfs, ok.funs, ok.frf⟩, I.os, I.bare, I.base, I.loc, I.cell, I.free, I.freeC, fun p hp => ?_, I.hok, I.len⟩
  rcases List.mem_cons.mp hp with rfl | hp
  · refine ⟨h1, h2, fun z => ?_, fun z => ?_, fun v q => by rw [hd] at q; cases q⟩
    · obtain ⟨m, ⟨o, es, ep, ho, hdo, _⟩, _⟩ := I.loc
      have z' : ea = X.env.locals := z
      rw [← z', h1] at ho
      cases ho
      rw [hd] at hdo
      cases hdo
    · obtain ⟨_, o, ho, hn⟩ := I.funs.mem z
      rw [show (ea, oe).1 = ea from rfl, h1] at ho
      cases ho
      exact hn vs hd
  · exact I.pin p hp
theorem Inv.unhand (J : Inv (X.hand ea oe) pins σ H s) (ok : X.Ok) : Inv X pins σ H s :=
  ⟨ok, J.os, J.bare, J.base, J.loc, J.cell, J.free, J.freeC, fun p hp => J.pin p (List.mem_cons_of_mem _ hp), J.hok, J.len⟩
/-- isinstance(e, C) of a pinned exception; a class as a value -/
noncomputable def ValC : V → Value → Prop
  | .ref a, u => u = .ref a
  | .ty n, u => u = .type n
  | _, _ => False
theorem valC_rel {c : V} {u cv : Value} (r : RelV c u) (h : ValC c cv) : u = cv := by
  cases c with
  | ref a => exact (show u = .ref a from r).trans (show cv = .ref a from h).symm
  | ty n => exact (show u = .type n from r).trans (show cv = .type n from h).symm
  | _ => exact h.elim
noncomputable def DictAt (H : Hp) : Option Addr → Prop
  | none => True
  | some d => ∃ fs, H d = some (.xd fs)
theorem Inv.instX (I : Inv X pins σ H s) (hp : (ea, oe) ∈ X.pn) {C : Addr} (hc : oe.cls = .ref C) {vs : Array Value} (hd : oe.data = .fields vs) (hdd : DictAt H oe.dict) : ∃ od, PySem.W.InstAt s.heap ea oe C od := by
  have h1 := (I.pin (ea, oe) (List.mem_append_left _ hp)).1
  have hn : PySem.W.notCls oe = true := by
    obtain ⟨c, d, dt, sl⟩ := oe
    dsimp only at hd
    subst hd
    rfl
  cases hq : oe.dict with
  | none => exact ⟨none, h1, hc, hn, by rw [hq]; trivial⟩
  | some d =>
    rw [hq] at hdd
    obtain ⟨fs, hf⟩ := hdd
    obtain ⟨ob, ho⟩ := I.hok.at hf
    exact ⟨some ob, h1, hc, hn, by rw [hq]; exact ho⟩
noncomputable def rIsX (X : Cx) : List V → Hp → VK → Prop := fun xs H Q => ∃ ea oe c cv C vs b, xs = [.ref ea, c] ∧ ValC c cv ∧ (ea, oe) ∈ X.pn ∧ oe.cls = .ref C ∧ oe.data = .fields vs ∧ DictAt H oe.dict ∧ XCls X.K C ∧ XIsi X.K C ∧ PySem.W.kitOne X.K (.ref C) cv = some b ∧ Q (.bl b) H
theorem call_isX : CallR X (.builtin "isinstance") (rIsX X) := by
  intro pins s σ H xs us Q I r h
  obtain ⟨ea, oe, c, cv, C, vs, b, rfl, rc, hp, hc, hd, hdd, xc, xi, hk, q⟩ := h
  cases r with
  | cons r1 r2 =>
    cases r2 with
    | cons r2 r3 =>
      cases r3
      cases r1
      have e := valC_rel r2 rc
      subst e
      obtain ⟨od, J⟩ := I.instX hp hc hd hdd
      exact PySem.W.kia_one (kitx_exc (ox := oe) xc xi) I.kIn ⟨od, J⟩ hk (by intro z; cases z) fun tk => ⟨.bl b, H, I.tok _, rfl, q⟩
/-- e.f of a pinned exception -/
noncomputable def tXFld (X : Cx) (ta : TE) (f : Str) : TE := fun σ H Q => ta σ H fun x H1 => ∃ ea oe C vs d fs v, x = .ref ea ∧ (ea, oe) ∈ X.pn ∧ oe.cls = .ref C ∧ oe.data = .fields vs ∧ oe.dict = some d ∧ H1 d = some (.xd fs) ∧ XCls X.K C ∧ PySem.W.findIn X.K (.ref C) f = some none ∧ fs.lookup f = some v ∧ Q v H1
theorem pe_xfld {e : Expr} {f : Str} {pos : Pos} {ta : TE} (he : PE X e ta) (hb : attributeBase e f X.env (eval e X.env) = eval e X.env) : PE X (.Attribute e f pos) (tXFld X ta f) := by
  intro pins s σ H Q I h
  refine attr_of hb (thn (he pins s σ H _ I h) fun u s1 ⟨x, H1, I1, rx, ea, oe, C, vs, d, fs, v, ex, hp, hc, hd, hdd, hf, xc, hn, hl, q⟩ => ?_)
  subst ex
  obtain rfl : u = Value.ref ea := rx
  obtain ⟨mA, n, r⟩ := I1.hok d _ hf
  obtain ⟨uv, hu, ru⟩ := RelO.some_of (v := v) (o := mA f) (by rw [← hl]; exact r f)
  have h1 := (I1.pin (ea, oe) (List.mem_append_left _ hp)).1
  obtain ⟨oc, od, odt, osl⟩ := oe
  dsimp only at hc hd hdd
  subst hc hd hdd
  exact get_exc F.attr_ValueError I1.kIn h1 n xc hn hu (handed_of ru) ⟨v, H1, I1.tok _, ru, q⟩
end
end L2
namespace L2
open PySem PySem.Spec PyProof.Rows
/-! ### self.f = v in the __init__ of an exception: the first one -/
noncomputable def sFldX (K : PySem.W.Frag) (ta tv : TE) (f : Str) : TS := fun D σ H => tv σ H fun y H1 => ta σ H1 fun x H2 => ∃ a C tt, x = .ref a ∧ H2 a = some (ExcAt a C tt none) ∧ XCls K C ∧ PySem.W.findIn K (.ref C) f = some none ∧
  ∀ d, H2 d = none → D.nx σ (upd (upd H2 d (.xd [(f, y)])) a (ExcAt a C tt (some d)))
section
variable {X : Cx} {o e value : Expr} {f : Str} {pos pos' : Pos} {ta tv : TE}
theorem ps_fldX (ha : PE X o ta) (hv : PE X value tv) (hs : swapsWith value (some (.Attribute o f pos')) pos.line X.env = pure false) : PS X (.Assign [.Attribute o f pos'] value pos) (sFldX X.K ta tv f) := by
  intro pins s σ H D I h
  refine plainObj_wpAny_Assign_Attribute (thn (hv pins s σ H _ I h) fun u s1 ⟨y, H1, I1, ry, q⟩ => thn (ha pins s1 σ H1 _ I1 q) fun ov s2 ⟨x, H2, I2, rx, a, C, tt, ex, ea, c, n, q2⟩ => ?_) hs
  subst ex
  obtain rfl : ov = Value.ref a := rx
  have ho : s2.heap.get? a = some (excObj C tt none) := (I2.hok a _ ea).1
  have hlt : a < s2.heap.objs.size := Heap.lt_size ho
  refine set_exc0 I2.kIn ho c n fun h' t' hx' hn' hk => ⟨σ, _, ?_, q2 s2.heap.objs.size (I2.hok.fresh (Nat.le_refl _))⟩
  obtain ⟨od, es, ep, hod, r⟩ := id hn'
  have hfr : od.isFreed = false := (Heap.get?_some_iff.mp hod).2
  have hpush : (s2.heap.push od).get? s2.heap.objs.size = some od := Heap.get?_push_size s2.heap hfr
  have I3 := I2.laid (a := s2.heap.objs.size) (o := .xd [(f, y)]) (h' := s2.heap.push od) (t' := s2.toks) (fun b u z => Heap.get?_push_of_some _ z) (Nat.le_refl _)
    ⟨_, hn'.at (fun o z => by rw [hod] at z; cases z; exact hpush), fun g => by
      by_cases hg : g = f
      · have hb : (g == f) = true := beq_iff_eq.mpr hg
        simp only [List.lookup, hb, if_pos hg]
        exact ry
      · have hb : (g == f) = false := beq_eq_false_iff_ne.mpr hg
        simp only [List.lookup, hb, if_neg hg]
        trivial⟩
  have hne : a ≠ s2.heap.objs.size := Nat.ne_of_lt hlt
  refine I3.write (x := a) (e := a) (h' := h') (t' := t') (by rw [upd_ne hne, ea]; exact True.intro) (.inl rfl) (fun b u hb z => ?_) ⟨_, hx'⟩ (excAt_ok hx')
  by_cases hbs : b = s2.heap.objs.size
  · subst hbs
    have z' : (s2.heap.push od).get? s2.heap.objs.size = some u := z
    rw [hpush] at z'
    cases z'
    exact hod
  · have z' : s2.heap.get? b = some u := by
      have z0 : (s2.heap.push od).get? b = some u := z
      exact (Heap.get?_push_cases z0).elim (fun w => absurd w.1 hbs) fun w => w
    exact hk b u hb z'
end

/-! ### a def that may raise -/
section
variable {P : Program} {w : World} {K : PySem.W.Frag} {mg : Str → Option Value} {base : Heap}
theorem Fun.okX {x qual : Str} {st : Stmt} {f : Addr} {fd : FuncData} {N ps : List Str} {k : Nat} {sp : Sp} (F : Fun K x qual st f fd) (S : FnScope N ps (defScope st)) (len : ∀ vs H Q E, sp vs H Q E → vs.length = ps.length)
    (hbody : ∀ (cdv : Value) (A : Around) (outer : List Env) (s : Shared) (H : Hp) (vs : List V) (Q : VK) (E : XK), Room k (A.deeper (envOfC qual (defScope st) s.heap.objs.size f cdv)) → sp vs H Q E →
      ∃ t, PSs (cxOf (CXe P w) P w K mg base N qual (defScope st) f cdv A outer s H E) (defBody st) t ∧ t { nx := fun _ H' => Q .non H', rt := Q } (start N vs) H) : FnOk P w K mg base (CXe P w) (k + 1) f fd ps sp := by
  obtain ⟨oc, od, kV, doc, pm, an, cdv, ct, osl, rfl, lk, hcd⟩ := F.ex
  exact fn_of lk hcd S len fun A outer s H vs Q E hr hsp => hbody cdv A outer s H vs Q E hr hsp
end
theorem passE0 {P : Program} {w : World} {X : Cx} : Passes (CXe P w) X E0 := fun _ _ _ _ _ _ _ ⟨_, _, _, _, _, _, _, _, _, _, _, _, h⟩ => h.elim

/-! ### expressions whose exceptions are caught here -/
noncomputable def PEx (X : Cx) (e : Expr) (t : St → Hp → VK → XK → Prop) : Prop :=
  ∀ (pins : List (Addr × Obj)) (s : Shared) (σ : St) (H : Hp) (Q : VK) (E : XK), Inv X pins σ H s → t σ H Q E → wpAny (model X.prog X.w) X.A (eval e X.env) (EP X pins σ Q) (XP X pins σ E) s
section
variable {X : Cx} {k : Nat} {f C : Addr} {fd : FuncData} {ps : List Str} {sp : Sp} {dvs : List V} {ds : List Value} {x m : Str} {p pos apos : Pos} {e o : Expr} {es : List Expr} {ta : TE} {t : TA}
theorem run_makex {pins : List (Addr × Obj)} {σ : St} {H : Hp} {s : Shared} {Q : VK} {E : XK} {us : List Value} {vs : List V} (M : Mk X.K C f) (F : FnOk X.prog X.w X.K X.mg X.base (CXe X.prog X.w) k f fd ps sp) (hr : Room (k + 1) X.A) (hb : Binds X.K fd ps ds) (hd : Vals dvs ds)
    (hex : X.ex = []) (I : Inv X pins σ H s) (r : Vals vs us)
    (h : ∀ x dx, H x = none → H dx = none → dx ≠ x → sp (.ref x :: (vs ++ dvs)) (upd (upd H dx (.own x)) x (.ins C dx [])) (fun v H2 => v = .non ∧ Q (.ref x) H2) E) :
    wpAny (model X.prog X.w) X.A (call (.ref C) us) (EP X pins σ Q) (XP X pins σ E) s := by
  have hq := h (s.heap.objs.size + 1) s.heap.objs.size (I.hok.fresh (Nat.le_succ _)) (I.hok.fresh (Nat.le_refl _)) (Nat.ne_of_lt (Nat.lt_succ_self _))
  have I2 := Inv.made (C := C) I
  have r2 : Vals (V.ref (s.heap.objs.size + 1) :: (vs ++ dvs)) (Value.ref (s.heap.objs.size + 1) :: (us ++ ds)) := .cons rfl (r.append hd)
  have hl : (Value.ref (s.heap.objs.size + 1) :: us ++ ds).length = ps.length := by
    have e := r2.length
    rw [F.len _ _ _ _ hq] at e
    exact e.symm
  refine wpAny_call (make_map (f := f) I.kIn M.makes M.init (beq_iff_eq.mp M.fn) (codeAny_mono (F.run _ X.stack _ _ ⟨Value.ref (s.heap.objs.size + 1) :: us, []⟩ (Value.ref (s.heap.objs.size + 1) :: (us ++ ds)) _ _ E (hr.make C us [])
    (I2.env0.make C us []) (hb _ (Value.ref (s.heap.objs.size + 1) :: us) I2.kIn hl) r2 hq) fun r s' hq' => ?_))
  cases r with
  | error e => exact XP.of_cx I2 hex hq'
  | ok fl =>
    cases fl with
    | ret u =>
      obtain ⟨v, H', I3, rv, ev, q3⟩ := I2.after hq'
      subst ev
      exact ⟨rv, ⟨V.ref (s.heap.objs.size + 1), H', I3, rfl, q3⟩⟩
    | next => exact False.elim hq'
    | brk => exact False.elim hq'
    | cont => exact False.elim hq'
theorem PA.at {E : Value → Shared → Prop} {pins : List (Addr × Obj)} {s : Shared} {σ : St} {H : Hp} {Q : List V → Hp → Prop} (ha : PA X.nox es t) (I : Inv X pins σ H s) (h : t σ H Q) :
    wpAny (model X.prog X.w) X.A (spliced (backTo pos (starEach es X.env))) (AP X pins σ Q) E s :=
  wpAny_mono (ha pos pins s σ H Q (I.wish _) h) (fun _ _ ⟨vs, H', I', r, q⟩ => ⟨vs, H', I'.unwish, r, q⟩) fun _ _ z => False.elim z
theorem pex_make (M : Mk X.K C f) (F : FnOk X.prog X.w X.K X.mg X.base (CXe X.prog X.w) k f fd ps sp) (hr : Room (k + 1) X.A) (hg : Gl X x) (hm : X.mg x = some (.ref C)) (hb : Binds X.K fd ps ds) (hd : Vals dvs ds) (hex : X.ex = [])
    (ha : PA X.nox (e :: es) t) (hdb : (x == ("__debug__" : Str)) = false := by decide) (he : starEach (e :: es) X.env = (false, eval e X.env) :: starEach es X.env := by rfl) (hpl : (backTo pos (starEach es X.env)).any (·.1) = false := by rfl) :
    PEx X (.Call (.Name x p) (e :: es) [] pos) (fun σ H Q E => tMake C sp dvs E t σ H Q) := by
  intro pins s σ H Q E I h
  refine wpAny_Call_Name_kw (ld_glob I hg hm ?_ hdb)
  refine PySem.W.callWith_K (h₀ := X.base) I.ok.mod.kin M.kp (thn (ha.at I h) fun us s1 ⟨vs, H1, I1, r, q⟩ => ⟨I1.kIn, ?_⟩) he hpl
  exact run_makex M F hr hb hd hex I1 r q
end
/-- a block whose exceptions are caught here -/
noncomputable def PBx (X : Cx) (body : List Stmt) (t : Ends → St → Hp → (St → XK) → Prop) : Prop :=
  ∀ (pins : List (Addr × Obj)) (s : Shared) (σ : St) (H : Hp) (D : Ends) (E : St → XK), Inv X pins σ H s → t D σ H E → wpAny (model X.prog X.w) X.A (execs body X.env) (SP X pins D) (fun ev s' => ∃ σ', XP X pins σ' (E σ') ev s') s
section
variable {X : Cx} {e : Expr} {t : St → Hp → VK → XK → Prop} {pos tpos : Pos} {n : Str} {i : Nat}
theorem bx_expr (he : PEx X e t) (hs : swapsWith e none pos.line X.env = pure false := by rfl) : PBx X [.Expr e pos] (fun D σ H E => t σ H (fun _ H1 => D.nx σ H1) (E σ)) := by
  intro pins s σ H D E I h
  refine wpAny_execs_cons (wpAny_mono (wpAny_Expr_any (Q := SP X pins D) (wpAny_mono (he pins s σ H _ _ I h) (fun v s1 ⟨x, H1, I1, r1, q1⟩ => ⟨σ, H1, I1, q1⟩) (fun _ _ z => ⟨σ, z⟩)) I.quiet hs) (fun f s1 q => ?_) fun _ _ z => z)
  cases f with
  | next => exact wpAny_execs_nil q
  | ret v => exact q
  | brk => exact q
  | cont => exact q
end

/-! ### try, with one except clause -/
section
variable {M : Model} {A : Around} {E : Value → Shared → Prop} {s : Shared}
theorem land_step {e : Addr} {cls : Value} {dd : Option Addr} {ch : List Addr} {fs : List Addr} {Q : Unit → Shared → Prop} (x : Fly s.heap e cls dd ch)
    (h : ∀ h', Fly h' e cls dd ch → Moved fs ch s.heap h' → Q () { s with heap := h' }) : wpAny M A (setFlight (.ref e) none) Q E s := by
  obtain ⟨oe, vs, he, rfl, rfl, hd, ⟨h1, rfl⟩ | ⟨T, oT, ts, h1, hTe, hT, hdT, h3, rfl⟩⟩ := x
  · unfold setFlight
    refine wpAny_bind (wpAny_field he hd h1 ?_)
    rw [if_neg (by decide)]
    exact wpAny_pure (h s.heap ⟨oe, vs, he, rfl, rfl, hd, .inl ⟨h1, rfl⟩⟩ ⟨fun _ _ z _ _ => z, fun _ o z _ => ⟨o.slots, z⟩, fun _ o z => ⟨o, z⟩⟩)
  · unfold setFlight
    refine wpAny_bind (wpAny_field he hd h1 ?_)
    rw [if_pos (show (Value.ref T != Value.none) = true from by simp)]
    have hsz3 : 3 < ts.size := (Array.getElem?_eq_some_iff.mp h3).1
    have other : ∀ b, b ≠ T → (s.heap.update T (Obj.mapFields (·.setIfInBounds 3 ((none : Option Addr).elim Value.none fun f => rawInt f)))).get? b = s.heap.get? b := fun b hb => Heap.get?_update_other _ _ (Ne.symm hb)
    have selfT := Heap.get?_update_self (Obj.mapFields (·.setIfInBounds 3 ((none : Option Addr).elim Value.none fun f => rawInt f))) hT (Obj.isFreed_of_fields (Obj.data_mapFields hdT _))
    refine wpAny_setField hT hdT hsz3 (h _ ⟨oe, vs, (other e (Ne.symm hTe)).trans he, rfl, rfl, hd, .inr ⟨T, _, _, h1, hTe, selfT, Obj.data_mapFields hdT _, by simp [hsz3], rfl⟩⟩ ⟨fun b o z hc _ => ?_, fun b o z hc => ?_, fun b o z => ?_⟩)
    · simp only [List.mem_cons, List.not_mem_nil, or_false, not_or] at hc
      exact (other b hc.2).trans z
    · simp only [List.mem_cons, List.not_mem_nil, or_false, not_or] at hc
      exact ⟨o.slots, (other b hc.2).trans z⟩
    · by_cases hb : b = T
      · subst hb; exact ⟨_, selfT⟩
      · exact ⟨o, (other b hb).trans z⟩
end
/-- a name goes behind an except suite -/
theorem gone_ok {X : Cx} {pins : List (Addr × Obj)} {σ : St} {H : Hp} {s : Shared} {M : Model} {A : Around} {E : Value → Shared → Prop} {i : Nat} {x : Str} {pos : Pos} {Q : Unit → Shared → Prop} (I : Inv X pins σ H s) (hN : X.N.Nodup) (hi : X.N[i]? = some x) (hk : X.env.kindOf x = some .local)
    (h : ∀ s', Inv X pins (σ.set i none) H s' → Q () s') : wpAny M A (do bindName X.env x .none; unbindBehindTheSuite X.env x pos) Q E s := by
  obtain ⟨m, hn, hl⟩ := id I.loc
  have hcls : (X.env.scope.kind == .class || (X.env.scope.kind == .module && X.env.locals != X.env.globals)) = false := by rw [I.ok.kind]; rfl
  have cne := I.cne
  refine wpAny_nameGoes_keeps hk hn hcls fun h' v hn' hs => ?_
  obtain ⟨oL, _, _, hoL, _⟩ := id hn
  have above : ∀ b o, X.s₀.heap.get? b = some o → b ≠ X.env.locals := fun b o e => Nat.ne_of_lt (Nat.lt_of_lt_of_le (Heap.lt_size e) I.ok.above)
  refine h _ ⟨I.ok, I.os, I.bare, ⟨fun b o e n hb hx => (hs.2 b (above b o e)).trans (I.base.keep b o e n hb hx), fun b o e n hb hx => ?_, I.base.free, fun b o e hx => ?_, I.base.tups, I.base.frzs, I.base.tbls⟩, ⟨_, hn', fun j y v' e1 e2 e3 => ?_⟩, fun y c e => ?_, I.free, I.freeC, fun p hp => ?_, fun b ob e => ?_, by simpa using I.len⟩
  · obtain ⟨sl, e1⟩ := I.base.slot b o e n hb hx
    exact ⟨sl, (hs.2 b (above b o e)).trans e1⟩
  · obtain ⟨o', e1⟩ := I.base.there b o e hx
    exact ⟨o', (hs.2 b (above b o e)).trans e1⟩
  · have hj : j ≠ i := fun z => by
      subst z
      have hlt : j < σ.length := by rw [I.len]; exact (List.getElem?_eq_some_iff.mp hi).1
      rw [List.getElem?_set_self hlt] at e2
      cases e2
    rw [List.getElem?_set_ne (Ne.symm hj)] at e2
    obtain ⟨u', r', q⟩ := hl j y v' e1 e2 e3
    refine ⟨u', r', ?_⟩
    rcases q with ⟨k, e⟩ | ⟨k, c, e, z⟩
    · refine .inl ⟨k, ?_⟩
      have : y ≠ x := fun e => hj (nodup_ix hN e1 (e ▸ hi))
      simp [this, e]
    · exact .inr ⟨k, c, e, z.sameBut hs (cne y c e)⟩
  · obtain ⟨w', z⟩ := I.cell y c e
    exact ⟨w', z.sameBut hs (cne y c e)⟩
  · obtain ⟨e, n, ne, nf, d⟩ := I.pin p hp
    exact ⟨(hs.2 p.1 ne).trans e, n, ne, nf, d⟩
  · refine (I.hok b ob e).stay (fun c w' hc q => (hs.2 c ?_).trans q) (fun _ q => q) fun _ _ q => q
    rintro rfl
    rcases hc with z | hc
    · rw [← z, I.free] at e; cases e
    · rw [I.free] at hc; cases hc
/-- try: body; except y as n: suite. The suite raises nothing -/
noncomputable def tTryAs (K : PySem.W.Frag) (c : Value) (i : Nat) (tb : Ends → St → Hp → (St → XK) → Prop) (th : Addr → Obj → TS) : TS := fun D σ H =>
  tb D σ H fun σ' cls dd H' => PySem.W.exmOne K cls c = some true ∧ ∀ ea oe vs, oe.cls = cls → oe.dict = dd → oe.data = .fields vs → H' ea = none →
    th ea oe { nx := fun σ2 H2 => D.nx (σ2.set i none) H2, rt := D.rt, bk := fun σ2 H2 => D.bk (σ2.set i none) H2, ct := fun σ2 H2 => D.ct (σ2.set i none) H2 } (σ'.set i (some (.ref ea))) H'
theorem ps_tryAs {X : Cx} {body : List Stmt} {b₀ : Stmt} {suite : List Stmt} {y n : Str} {c : Value} {np hpos pos : Pos} {i : Nat} {tb : Ends → St → Hp → (St → XK) → Prop} {th : Addr → Obj → TS} (hst : X.stack = X.env :: X.outer) (hfm : X.env.frame = some X.env.locals)
    (hN : X.N.Nodup) (hi : X.N[i]? = some n) (hk : X.env.kindOf n = some .local) (hg : Gl X y) (hm : X.mg y = some c) (hb : PBx X body tb) (hh : ∀ ea oe, PSs (X.hand ea oe) (b₀ :: suite) (th ea oe))
    (hdb : (y == ("__debug__" : Str)) = false := by decide) :
    PS X (.Try body [.ExceptHandler (some (.Name y np)) (some n) (b₀ :: suite) hpos] [] [] pos) (tTryAs X.K c i tb th) := by
  intro pins s σ H D I h
  refine wpAny_Try_except (wpAny_mono (hb pins s σ H D _ I h) (fun f s1 q => ?_) fun ev s1 ⟨σ1, e, cls, dd, ch, H1, ee, I1, fly, hch, hmt, q⟩ => ?_)
  · cases f with
    | next => exact wpAny_execs_nil q
    | ret v => exact q
    | brk => exact q
    | cont => exact q
  subst ee
  have I1s : s1.heap.FunFrames X.base (X.env :: X.outer) := hst ▸ I1.stack
  refine note_step (base := X.base) (hst ▸ I1.ok.frames) I1s hfm fly fun h2 ch2 fly2 mv2 new2 => ?_
  have I2 := I1.excStep (h' := h2) (hst ▸ mv2) fun b hb => ⟨(hch b hb).1, (hch b hb).2.1, (hch b hb).2.2, fly.rec b hb⟩
  have hch2 : ∀ b ∈ ch2, X.s₀.heap.get? b = none ∧ H1 b = none ∧ ∀ p ∈ X.pn ++ pins, p.1 ≠ b := fun b hb => by
    rcases new2 b hb with z | z
    · exact hch b z
    · refine ⟨Heap.get?_none_of_le (Nat.le_trans I1.sz z), I1.hok.fresh z, fun p hp z2 => ?_⟩
      have := Heap.lt_size (I1.pin p hp).1
      rw [z2] at this
      exact absurd this (Nat.not_lt.mpr z)
  have ty : PySem.W.Looks (model X.prog X.w) h2 (typeOf (.ref e)) cls := by
    obtain ⟨oe, vs, he, hc, _⟩ := fly2
    exact hc ▸ (PySem.W.Looks.ld he).andThen .now
  refine wpAny_handleBy_cons (codeAny_handlers_test ?_) (by intro z; cases z)
  have eH : H1 e = none := (hch2 e fly2.mem).2.1
  obtain ⟨oe2, vs2, he2, hc2, hd2, hf2, _⟩ := id fly2
  have J2 := I2.hand (ea := e) (oe := oe2) he2 hf2 eH
  refine ld_glob J2 hg hm ?_ hdb
  refine PySem.W.exm_one I2.kIn ty hmt (X.A.mark (some (.ref e))) _ _ ⟨h2, s1.gens, s1.drawn, s1.toks, s1.os⟩ (fun _ _ z => z) ?_
  refine codeAny_handlers_suite_as ?_
  refine land_step (fs := frs X.stack) fly2 fun h3 fly3 mv3 => ?_
  have I3 := I2.excStep (h' := h3) mv3 fun b hb => ⟨(hch2 b hb).1, (hch2 b hb).2.1, (hch2 b hb).2.2, fly2.rec b hb⟩
  obtain ⟨oe, vs, he, hc, hd, hf, _⟩ := id fly3
  have J3 := I3.hand (ea := e) (oe := oe) he hf eH
  refine store_ok (X := X.hand e oe) J3 hN hi (.inl hk) (v := .ref e) rfl (fun s4 J4 => ?_) (.inr hk)
  refine wpAny_mono (hh e oe pins s4 _ H1 _ J4 (q e oe vs hc hd hf eH)) (fun f s5 q5 => ?_) fun _ _ z => False.elim z
  dsimp only
  cases f with
  | next =>
    obtain ⟨σ5, H5, J5, q5⟩ := q5
    exact gone_ok (J5.unhand I.ok) hN hi hk fun s6 I6 => ⟨_, H5, I6, q5⟩
  | brk =>
    obtain ⟨σ5, H5, J5, q5⟩ := q5
    exact gone_ok (J5.unhand I.ok) hN hi hk fun s6 I6 => ⟨_, H5, I6, q5⟩
  | cont =>
    obtain ⟨σ5, H5, J5, q5⟩ := q5
    exact gone_ok (J5.unhand I.ok) hN hi hk fun s6 I6 => ⟨_, H5, I6, q5⟩
  | ret u =>
    obtain ⟨v, σ5, H5, J5, rv, q5⟩ := q5
    exact gone_ok (J5.unhand I.ok) hN hi hk fun s6 I6 => ⟨v, _, H5, I6, rv, q5⟩
end L2
namespace PySem
open Sem (wp)
open AutoSeq1 (wpAny_loadPart')
theorem y_meets_enumerate_newT (l : Addr) (items : Array Value) (n : Nat) (dct : Option Addr) (sl : Array (Option Value)) :
    Meets (Builtin.«enumerate.__new__» ⟨[.type "enumerate", .ref l], []⟩) (fun _ R s => s.heap.get? l = some { cls := .type "tuple", dict := dct, data := .seq items n, slots := sl } ∧
      R (.ok (.ret (.ref (s.heap.push { cls := .type "tuple_iterator", data := .fields #[.ref l, .int 0 0] }).objs.size)))
        { s with heap := (s.heap.push { cls := .type "tuple_iterator", data := .fields #[.ref l, .int 0 0] }).push { cls := .type "enumerate", data := .fields #[.none, .bool false, .ref s.heap.objs.size, rawInt 0, .none, .none] } }) :=
  .of_wp fun prog w A R s h => by
    obtain ⟨hp, g, d, tk, os⟩ := s; obtain ⟨hl, h⟩ := h
    have hsub := sub_enumerate
    have hL : Heap.IsTuple (Shared.heap ⟨hp, g, d, tk, os⟩) l items := ⟨_, hl, rfl, n, rfl⟩
    wp_walk using wpAny_loadPart' hl
    refine wpAny_stack_any fun st => wpAny_pure ?_
    split
    · rename_i c _ _ _ _ _
      cases (c == Value.type "enumerate")
      · wp_walk using wpAny_loadPart' hl, wpAny_pyIter_tuple hL
        exact ⟨_, rfl, h⟩
      · wp_walk using wpAny_loadPart' hl, wpAny_pyIter_tuple hL
        exact ⟨_, rfl, h⟩
    · wp_walk using wpAny_loadPart' hl, wpAny_pyIter_tuple hL
      exact ⟨_, rfl, h⟩
section
variable {prog : Program} {w : World} {A : Around} {E : Value → Shared → Prop} {s : Shared}
theorem y_call_enumerate_tuple {l : Addr} {items : Array Value} {Q : Value → Shared → Prop} (hL : s.heap.IsTuple l items)
    (h : ∀ h', IsEnum h' (s.heap.objs.size + 1) s.heap.objs.size 0 .none → h'.IsTupleIter s.heap.objs.size l 0 → h'.objs.size = s.heap.objs.size + 2 →
      (∀ b o, s.heap.get? b = some o → h'.get? b = some o) → Q (.ref (s.heap.objs.size + 1)) { s with heap := h' }) :
    wpAny (model prog w) A (call (.type "enumerate") [.ref l]) Q E s := by
  obtain ⟨⟨c, dct, dt, sl⟩, hl, hc, n, hd⟩ := hL
  replace hc : c = .type "tuple" := hc
  replace hd : dt = .seq items n := hd
  subst hc hd
  refine callType_new F.called_enumerate (by decide) (F.typeCall_enumerate_1 _) (F.newCall_enumerate_1 _) (fun obj => F.args_object_init_2 obj _) F.entry_enumerate_new
    (y_meets_enumerate_newT l items n dct sl) ⟨hl, ?_⟩
  have hz : (s.heap.push { cls := .type "tuple_iterator", data := .fields #[.ref l, .int 0 0] }).objs.size = s.heap.objs.size + 1 := Heap.size_push ..
  show _ ∧ _
  rw [hz]
  have he : IsEnum ((s.heap.push { cls := .type "tuple_iterator", data := .fields #[.ref l, .int 0 0] }).push
      { cls := .type "enumerate", data := .fields #[.none, .bool false, .ref s.heap.objs.size, rawInt 0, .none, .none] }) (s.heap.objs.size + 1) s.heap.objs.size 0 .none := by
    have := Heap.get?_push_size (s.heap.push { cls := .type "tuple_iterator", data := .fields #[.ref l, .int 0 0] })
      (o := { cls := .type "enumerate", data := .fields #[.none, .bool false, .ref s.heap.objs.size, rawInt 0, .none, .none] }) rfl
    rw [hz] at this; exact this
  refine ⟨⟨_, he, rfl⟩, h _ he ⟨_, Heap.get?_push_of_some _ (Heap.get?_push_size _ rfl), rfl, rfl⟩ (by rw [Heap.size_push, hz]) fun b o x => Heap.get?_push_of_some _ (Heap.get?_push_of_some _ x)⟩
theorem y_nextOf_tuple_item {it l : Addr} {i : Nat} {items} {x : Value} {Q : Value → Shared → Prop} (hit : s.heap.IsTupleIter it l i)
    (hl : s.heap.IsTuple l items) (hx : items[i]? = some x)
    (hQ : ∀ h', h'.IsTupleIter it l (i + 1) → Heap.SameBut it s.heap h' → Q x { s with heap := h' }) :
    wpAny (model prog w) A (Builtin.SmallTypes.nextOf (.ref it)) Q E s := by
  obtain ⟨o, ho, hc, hd⟩ := id hit
  obtain ⟨ol, hol, _, nl, hdl⟩ := hl
  unfold Builtin.SmallTypes.nextOf
  refine wpAny_bind (wpAny_callSpecial?_slot (name := Str.ofString "__next__") hit.typeIs F.slot_tuple_iterator_next
    (wpAny_call_entry F.slot_tuple_iterator_next hit.typeIs F.entry_tuple_iterator_next ?_ (F.args_tuple_iterator_next_1 _)))
  show wpAny _ _ (field (.ref it) 0 >>= _) _ _ s
  refine wpAny_bind (wpAny_field ho hd (x := .ref l) rfl ?_)
  show wpAny _ _ (if (Value.ref l == Value.none) = true then _ else _) _ _ s
  rw [if_neg (show ¬ ((Value.ref l == Value.none) = true) from Bool.false_ne_true)]
  show wpAny _ _ (field (.ref it) 1 >>= _) _ _ s
  refine wpAny_bind (wpAny_field ho hd (x := .int i 0) rfl ?_)
  show wpAny _ _ (seqItems? (.ref l) >>= _) _ _ s
  refine wpAny_bind (wpAny_seqItems hol hdl ?_)
  simp only [Int.toNat_natCast, hx]
  refine wpAny_bind (wpAny_setField ho hd (by simp) (wpAny_pure ⟨x, rfl, wpAny_pure (hQ _ ?_ (Heap.SameBut.update ..))⟩))
  exact ⟨_, Heap.get?_update_self _ ho (Obj.isFreed_of_fields (Obj.data_mapFields hd _)), (Obj.cls_mapFields ..).trans hc, by
    rw [Obj.data_mapFields hd]; simp [rawInt]⟩
theorem y_nextOf_tuple_end {it l : Addr} {i : Nat} {items} {Q : Value → Shared → Prop} (hh : A.handled = none)
    (hit : s.heap.IsTupleIter it l i) (hl : s.heap.IsTuple l items) (hx : items[i]? = none)
    (hE : ∀ h' e, Heap.ExtBut it s.heap h' → (∃ o, h'.get? e = some o ∧ o.cls = .type "StopIteration") → E (.ref e) { s with heap := h' }) :
    wpAny (model prog w) A (Builtin.SmallTypes.nextOf (.ref it)) Q E s := by
  obtain ⟨o, ho, hc, hd⟩ := id hit
  obtain ⟨ol, hol, _, nl, hdl⟩ := hl
  unfold Builtin.SmallTypes.nextOf
  refine wpAny_bind (wpAny_callSpecial?_slot (name := Str.ofString "__next__") hit.typeIs F.slot_tuple_iterator_next
    (wpAny_call_entry F.slot_tuple_iterator_next hit.typeIs F.entry_tuple_iterator_next ?_ (F.args_tuple_iterator_next_1 _)))
  show wpAny _ _ (field (.ref it) 0 >>= _) _ _ s
  refine wpAny_bind (wpAny_field ho hd (x := .ref l) rfl ?_)
  show wpAny _ _ (if (Value.ref l == Value.none) = true then _ else _) _ _ s
  rw [if_neg (show ¬ ((Value.ref l == Value.none) = true) from Bool.false_ne_true)]
  show wpAny _ _ (field (.ref it) 1 >>= _) _ _ s
  refine wpAny_bind (wpAny_field ho hd (x := .int i 0) rfl ?_)
  show wpAny _ _ (seqItems? (.ref l) >>= _) _ _ s
  refine wpAny_bind (wpAny_seqItems hol hdl ?_)
  simp only [Int.toNat_natCast, hx]
  refine wpAny_bind (wpAny_rule (wpAny_bind (wpAny_setField ho hd (by simp) ?_)))
  show wpAny _ _ (newExc (.type "StopIteration") [] >>= _) _ _ _
  refine wpAny_bind ?_
  simp only [newExc, newTuple]
  refine wpAny_bind (wpAny_newObj_type ?_ (by size_fits))
  refine wpAny_bind (m := firstArgMember _ _) (wpAny_of_eq (a := Value.none) (by first | rfl | (simp only [firstArgMember]; rfl)) ?_)
  refine wpAny_newObj_type ?_ (by size_fits)
  simp only [raiseNew]
  refine wpAny_bind (wpAny_handled ?_)
  first | rw [show A.in1.handled = none from hh] | rw [hh]
  refine wpAny_bind (wpAny_pure (wpAny_throw ?_))
  exact hE _ _ (((Heap.SameBut.update ..).extBut.push _).push _) ⟨_, Heap.get?_push_size _ rfl, rfl⟩
end
theorem y_Draws_tuple {prog : Program} {w : World} {A : Around} (hh : A.handled = none) (it l : Addr) (hne : l ≠ it) (items : Array Value) :
    Draws prog w A it [it, l] items.size (fun i v => items[i]? = some v) (fun i h => h.IsTupleIter it l i ∧ h.IsTuple l items) where
  live := fun _ _ st => let ⟨o, ho, _⟩ := st.1; ⟨o, ho⟩
  frame := fun _ _ _ st hk => ⟨st.1.at fun o e => hk it (by simp) o e, let ⟨o, ho, r⟩ := st.2; ⟨o, hk l (by simp) o ho, r⟩⟩
  item := fun i s Q E hi st hQ => by
    refine y_nextOf_tuple_item st.1 st.2 (x := items[i]) (by simp [hi]) fun h' hit' hs' => ?_
    exact hQ _ h' s.toks (by simp [hi]) ⟨hit', let ⟨o, ho, r⟩ := st.2; ⟨o, hs'.extBut l o hne ho, r⟩⟩ hs'
  done := fun s Q E st hE => y_nextOf_tuple_end hh st.1 st.2 (by simp) hE
end PySem
namespace L2
open PySem PySem.Spec PyProof.Rows
section
variable {X : Cx} {pins : List (Addr × Obj)} {σ : St} {H : Hp} {s : Shared}
/-- two records turn, a tuple is laid -/
theorem Inv.drawn2 {h' : Heap} {t' : Nat} {a b p : Addr} {xs : List V} {us : List Value} (I : Inv X pins σ H s) (fa : FpOk X pins H a) (fb : FpOk X pins H b) (hp : s.heap.objs.size ≤ p)
    (k : ∀ c o, c ≠ a → c ≠ b → s.heap.get? c = some o → h'.get? c = some o) (ka : ∃ o, h'.get? a = some o) (kb : ∃ o, h'.get? b = some o) (hl : xs.length ≤ sizeLine) (r : Vals xs us) (ht : IsTup h' p us.toArray) :
    Inv X pins σ (upd H p (.tup xs)) { s with heap := h', toks := t' } := by
  have hf : H p = none := I.hok.fresh hp
  have nt : ∀ c u, H c = some u → c ≠ p := fun c u q z => by rw [z, hf] at q; cases q
  have lt : ∀ c o, s.heap.get? c = some o → c ≠ p := fun c o q => Nat.ne_of_lt (Nat.lt_of_lt_of_le (Heap.lt_size q) hp)
  have ne : ∀ c, c ∉ [a, b] → c ≠ a ∧ c ≠ b := fun c hc => by simpa using hc
  refine I.call (g' := s.gens) (d' := s.drawn) (ch := [a, b]) ⟨fun c o e n h1 h2 => k c o (ne c h2).1 (ne c h2).2 e, fun c o e n h1 h2 => ⟨o.slots, k c o (ne c h2).1 (ne c h2).2 e⟩, fun c o e n h2 => by rw [upd_ne (lt c o e)]; exact n,
    fun c o e h2 => ⟨o, k c o (ne c h2).1 (ne c h2).2 e⟩, fun c ys q => by rw [upd_ne (nt c _ q)]; exact q, fun c o u q => by rw [upd_ne (nt c _ q)]; exact q, fun c ps q => ⟨#[], by rw [upd_ne (nt c _ q), q]; simp⟩⟩ (fun c u q => ?_) I.bare fun c hc => ?_
  · by_cases hc : c = p
    · subst hc
      rw [upd_same] at q
      cases q
      exact ⟨hl, us, r, ht⟩
    · rw [upd_ne hc] at q
      refine (I.hok c u q).stay (fun d v hd z => ?_) (fun d z => by rw [upd_ne (nt d _ z)]; exact z) fun d ys z => by rw [upd_ne (nt d _ z)]; exact z
      have nd : ∀ e, H e = none → d ≠ e := fun e he w => by
        rcases hd with rfl | hd
        · rw [w, he] at q; cases q
        · rw [w, he] at hd; cases hd
      exact k d v (nd a fa.1) (nd b fb.1) z
  · have hc' : c = a ∨ c = b := by simpa using hc
    rcases hc' with rfl | rfl
    · obtain ⟨_, f1, _, f3, f4, f5⟩ := fa; exact ⟨f3, f1, f4, f5⟩
    · obtain ⟨_, f1, _, f3, f4, f5⟩ := fb; exact ⟨f3, f1, f4, f5⟩
theorem Inv.turned2 {h' : Heap} {t' : Nat} {a b : Addr} (I : Inv X pins σ H s) (fa : FpOk X pins H a) (fb : FpOk X pins H b)
    (k : ∀ c o, c ≠ a → c ≠ b → s.heap.get? c = some o → h'.get? c = some o) : Inv X pins σ H { s with heap := h', toks := t' } := by
  have ne : ∀ c, c ∉ [a, b] → c ≠ a ∧ c ≠ b := fun c hc => by simpa using hc
  refine I.call (g' := s.gens) (d' := s.drawn) (ch := [a, b]) ⟨fun c o e n h1 h2 => k c o (ne c h2).1 (ne c h2).2 e, fun c o e n h1 h2 => ⟨o.slots, k c o (ne c h2).1 (ne c h2).2 e⟩, fun c o e n h2 => n,
    fun c o e h2 => ⟨o, k c o (ne c h2).1 (ne c h2).2 e⟩, fun c ys q => q, fun c o u q => q, fun c ps q => ⟨#[], by rw [q]; simp⟩⟩ (fun c u q => ?_) I.bare fun c hc => ?_
  · refine (I.hok c u q).stay (fun d v hd z => ?_) (fun d z => z) fun d ys z => z
    have nd : ∀ e, H e = none → d ≠ e := fun e he w => by
      rcases hd with rfl | hd
      · rw [w, he] at q; cases q
      · rw [w, he] at hd; cases hd
    exact k d v (nd a fa.1) (nd b fb.1) z
  · have hc' : c = a ∨ c = b := by simpa using hc
    rcases hc' with rfl | rfl
    · obtain ⟨_, f1, _, f3, f4, f5⟩ := fa; exact ⟨f3, f1, f4, f5⟩
    · obtain ⟨_, f1, _, f3, f4, f5⟩ := fb; exact ⟨f3, f1, f4, f5⟩
/-- one turn of enumerate -/
theorem enum_item {e it : Addr} {fp : List Addr} {n i : Nat} {P : Nat → Value → Prop} {Sx : Nat → Heap → Prop} {old : Value} {xs : List V} {E : Value → Shared → Prop} {elts : List Expr} {kk : Nat} {pos : Pos}
    (D : Draws X.prog X.w X.A.in1 it fp n P Sx) (I : Inv X pins σ H s) (he : IsEnum s.heap e it i old) (hst : Sx i s.heap) (hlt : i < n) (hne : e ≠ it) (hef : e ∉ fp) (fe : FpOk X pins H e) (fi : FpOk X pins H it)
    (hP : ∀ v, P i v → ∃ x, xs[i]? = some x ∧ RelV x v) :
    wpAny (model X.prog X.w) X.A (pyNext (.ref e)) (fun r s1 => ∃ u, r = some u ∧ wpAny (model X.prog X.w) X.A (letOwnedTupleGo (.Tuple elts kk pos) (.ref e) u) (fun _ s2 => ∃ p x, xs[i]? = some x ∧ H p = none ∧ u = .ref p ∧
      Inv X pins σ (upd H p (.tup [.int i, x])) s2 ∧ (∃ old, IsEnum s2.heap e it ((i + 1 : Nat) : Int) old) ∧ Sx (i + 1) s2.heap ∧ p ≠ e ∧ p ≠ it) E s1) E s := by
  refine wpAny_pyNext_enum_itemD D he hst hlt hne hef fun x h' tk hx ho hs' hT hsz hk => ⟨_, rfl, ?_⟩
  refine wpAny_letOwnedTupleGo_enum ho fun h2 he2 hs2 => ?_
  obtain ⟨y, hy, ry⟩ := hP x hx
  have hee : e < s.heap.objs.size := Heap.lt_size he
  have hie : it < s.heap.objs.size := by obtain ⟨_, z⟩ := D.live _ _ hst; exact Heap.lt_size z
  have hst2 : Sx (i + 1) h2 := D.frame _ _ _ hs' fun b hb o z => (hs2.2 b fun q => hef (q ▸ hb)).trans z
  refine ⟨s.heap.objs.size, y, hy, I.hok.fresh (Nat.le_refl _), rfl, ?_, ⟨x, by simpa using he2⟩, hst2, Nat.ne_of_gt hee, Nat.ne_of_gt hie⟩
  refine Inv.drawn2 (s := s) (h' := h2) (t' := tk + 1) I fe fi (Nat.le_refl _) (fun c o h1 h2' z => (hs2.2 c h1).trans (hk c o h1 h2' z)) ⟨_, he2⟩ (let ⟨o, z⟩ := D.live _ _ hst2; ⟨o, z⟩) (by show 2 ≤ sizeLine; decide) (us := [.int i tk, x]) (.cons ⟨tk, rfl⟩ (.cons ry .nil)) ?_
  exact ⟨_, (hs2.2 _ (Nat.ne_of_gt hee)).trans hT, rfl, _, rfl⟩
end
/-- enumerate of the list (tuple) at a: a new tuple at each turn -/
noncomputable def Ite (sq : Hp → List V → Prop) : It :=
  ⟨fun i H => ∃ xs x, sq H xs ∧ xs[i]? = some x, fun i H v H' => ∃ p, H p = none ∧ v = .ref p ∧ ∀ xs, sq H xs → ∃ x, xs[i]? = some x ∧ H' = upd H p (.tup [.int i, x]), fun i H => ∃ xs, sq H xs ∧ xs.length = i⟩
theorem turn_enumL {P : Program} {w : World} {K : PySem.W.Frag} {elts : List Expr} {kk : Nat} {pos : Pos} (a e it : Addr) (hne : e ≠ it) : Turn P w K (.Tuple elts kk pos) (Ite fun H => SqL K H a) [e, it] e (fun i h => (∃ old, IsEnum h e it (i : Int) old) ∧ h.IsListIter it a i) where
  mem := by simp
  obj := fun i h st b hb => by
    obtain ⟨⟨old, he⟩, o, ho, c, d⟩ := st
    have hb' : b = e ∨ b = it := by simpa using hb
    rcases hb' with rfl | rfl
    · exact ⟨_, he, fun v z => by have z' : Data.fields _ = Data.cell v := z; cases z'⟩
    · exact ⟨o, ho, fun v z => by rw [d] at z; cases z⟩
  keep := fun i h h' st k => by
    obtain ⟨⟨old, he⟩, hi⟩ := st
    exact ⟨⟨old, k e (by simp) _ he⟩, hi.at fun o z => k it (by simp) o z⟩
  item := by
    intro X hP hw hK hc i pins s σ H E I hf st hg
    subst hP hw hK
    obtain ⟨xs, x, hq, hx⟩ := hg
    obtain ⟨its, rv, p, hz⟩ := I.list hq
    obtain ⟨⟨old, he⟩, hi⟩ := st
    have hl : i < its.toArray.size := by
      have := (List.getElem?_eq_some_iff.mp hx).1
      have l2 := rv.length
      simp; omega
    have hae : e ≠ a := by
      rintro rfl
      obtain ⟨o, ho, hcl, _⟩ := p.isList
      rw [he] at ho; cases ho
      injection hcl with z; exact absurd z (by decide)
    have hai : a ≠ it := by
      rintro rfl
      obtain ⟨o, ho, hcl, _⟩ := p.isList
      obtain ⟨o2, ho2, hc2, _⟩ := hi
      rw [ho] at ho2; cases ho2; rw [hcl] at hc2
      injection hc2 with z; exact absurd z (by decide)
    refine thn (enum_item (xs := xs) (Draws.list (A := X.A.in1) (I.ok.hd hc) it a hai its.toArray) I he ⟨hi, p.isList⟩ hl hne (by simp only [List.mem_cons, List.not_mem_nil, or_false, not_or]; exact ⟨hne, hae⟩) (hf e (by simp)) (hf it (by simp)) fun v hv => ?_) fun r s1 ⟨u, hr, h1⟩ => ⟨u, hr, thn h1 fun _ s2 ⟨q, y, hy, hqn, hu, I2, he2, hs2, n1, n2⟩ => ?_⟩
    · obtain ⟨u, hu, ru⟩ := rv.get hx
      have e1 : its[i]? = some v := by simpa using hv
      rw [hu] at e1; cases e1
      exact ⟨x, hx, ru⟩
    · refine ⟨.ref q, _, I2, hu, ⟨q, hqn, rfl, fun zs hz' => ⟨y, by rw [I.list_inj hz' hq]; exact hy, rfl⟩⟩, ⟨he2, hs2.1⟩, fun b hb => ?_⟩
      have hb' : b = e ∨ b = it := by simpa using hb
      rcases hb' with rfl | rfl
      · rw [upd_ne (Ne.symm n1)]; exact (hf b (by simp)).1
      · rw [upd_ne (Ne.symm n2)]; exact (hf b (by simp)).1
  done := by
    intro X hP hw hK hc i pins s σ H E I hf st hg
    subst hP hw hK
    obtain ⟨xs, hq, hx⟩ := hg
    obtain ⟨its, rv, p, hz⟩ := I.list hq
    obtain ⟨⟨old, he⟩, hi⟩ := st
    have hl : i = its.toArray.size := by have l2 := rv.length; simp; omega
    have hai : a ≠ it := by
      rintro rfl
      obtain ⟨o, ho, hcl, _⟩ := p.isList
      obtain ⟨o2, ho2, hc2, _⟩ := hi
      rw [ho] at ho2; cases ho2; rw [hcl] at hc2
      injection hc2 with z; exact absurd z (by decide)
    refine wpAny_pyNext_enum_endD (Draws.list (A := X.A.in1) (I.ok.hd hc) it a hai its.toArray) he (by rw [← hl]; exact ⟨hi, p.isList⟩) fun h' hx' => ⟨rfl, ?_⟩
    exact I.turned2 (t' := s.toks) (hf e (by simp)) (hf it (by simp)) fun c o h1 h2 z => hx' c o h2 z
  self := fun _ _ _ _ _ st h => by
    obtain ⟨⟨old, he⟩, _⟩ := st
    exact wpAny_pyIter_enum he h
theorem turn_enumT {P : Program} {w : World} {K : PySem.W.Frag} {elts : List Expr} {kk : Nat} {pos : Pos} (a e it : Addr) (hne : e ≠ it) : Turn P w K (.Tuple elts kk pos) (Ite fun H => SqT K H a) [e, it] e (fun i h => (∃ old, IsEnum h e it (i : Int) old) ∧ h.IsTupleIter it a i) where
  mem := by simp
  obj := fun i h st b hb => by
    obtain ⟨⟨old, he⟩, o, ho, c, d⟩ := st
    have hb' : b = e ∨ b = it := by simpa using hb
    rcases hb' with rfl | rfl
    · exact ⟨_, he, fun v z => by have z' : Data.fields _ = Data.cell v := z; cases z'⟩
    · exact ⟨o, ho, fun v z => by rw [d] at z; cases z⟩
  keep := fun i h h' st k => by
    obtain ⟨⟨old, he⟩, hi⟩ := st
    exact ⟨⟨old, k e (by simp) _ he⟩, hi.at fun o z => k it (by simp) o z⟩
  item := by
    intro X hP hw hK hc i pins s σ H E I hf st hg
    subst hP hw hK
    obtain ⟨xs, x, hq, hx⟩ := hg
    obtain ⟨its, rv, p, hz⟩ := I.tuple hq
    have pt : s.heap.IsTuple a its.toArray := p
    obtain ⟨⟨old, he⟩, hi⟩ := st
    have hl : i < its.toArray.size := by
      have := (List.getElem?_eq_some_iff.mp hx).1
      have l2 := rv.length
      simp; omega
    have hae : e ≠ a := by
      rintro rfl
      obtain ⟨o, ho, hcl, _⟩ := pt
      rw [he] at ho; cases ho
      injection hcl with z; exact absurd z (by decide)
    have hai : a ≠ it := by
      rintro rfl
      obtain ⟨o, ho, hcl, _⟩ := pt
      obtain ⟨o2, ho2, hc2, _⟩ := hi
      rw [ho] at ho2; cases ho2; rw [hcl] at hc2
      injection hc2 with z; exact absurd z (by decide)
    refine thn (enum_item (xs := xs) (y_Draws_tuple (A := X.A.in1) (I.ok.hd hc) it a hai its.toArray) I he ⟨hi, pt⟩ hl hne (by simp only [List.mem_cons, List.not_mem_nil, or_false, not_or]; exact ⟨hne, hae⟩) (hf e (by simp)) (hf it (by simp)) fun v hv => ?_) fun r s1 ⟨u, hr, h1⟩ => ⟨u, hr, thn h1 fun _ s2 ⟨q, y, hy, hqn, hu, I2, he2, hs2, n1, n2⟩ => ?_⟩
    · obtain ⟨u, hu, ru⟩ := rv.get hx
      have e1 : its[i]? = some v := by simpa using hv
      rw [hu] at e1; cases e1
      exact ⟨x, hx, ru⟩
    · refine ⟨.ref q, _, I2, hu, ⟨q, hqn, rfl, fun zs hz' => ⟨y, by rw [I.tuple_inj hz' hq]; exact hy, rfl⟩⟩, ⟨he2, hs2.1⟩, fun b hb => ?_⟩
      have hb' : b = e ∨ b = it := by simpa using hb
      rcases hb' with rfl | rfl
      · rw [upd_ne (Ne.symm n1)]; exact (hf b (by simp)).1
      · rw [upd_ne (Ne.symm n2)]; exact (hf b (by simp)).1
  done := by
    intro X hP hw hK hc i pins s σ H E I hf st hg
    subst hP hw hK
    obtain ⟨xs, hq, hx⟩ := hg
    obtain ⟨its, rv, p, hz⟩ := I.tuple hq
    have pt : s.heap.IsTuple a its.toArray := p
    obtain ⟨⟨old, he⟩, hi⟩ := st
    have hl : i = its.toArray.size := by have l2 := rv.length; simp; omega
    have hai : a ≠ it := by
      rintro rfl
      obtain ⟨o, ho, hcl, _⟩ := pt
      obtain ⟨o2, ho2, hc2, _⟩ := hi
      rw [ho] at ho2; cases ho2; rw [hcl] at hc2
      injection hc2 with z; exact absurd z (by decide)
    refine wpAny_pyNext_enum_endD (y_Draws_tuple (A := X.A.in1) (I.ok.hd hc) it a hai its.toArray) he (by rw [← hl]; exact ⟨hi, pt⟩) fun h' hx' => ⟨rfl, ?_⟩
    exact I.turned2 (t' := s.toks) (hf e (by simp)) (hf it (by simp)) fun c o h1 h2 z => hx' c o h2 z
  self := fun _ _ _ _ _ st h => by
    obtain ⟨⟨old, he⟩, _⟩ := st
    exact wpAny_pyIter_enum he h
section
variable {X : Cx} {elts : List Expr} {kk : Nat} {tpos p pos : Pos} {a : Expr} {ta : TE}
noncomputable def iEnL (K : PySem.W.Frag) (t : TA) : TI := fun σ H R => t σ H fun vs H1 => ∃ a, vs = [.ref a] ∧ (∃ xs, SqL K H1 a xs) ∧ R (Ite fun H => SqL K H a) H1
noncomputable def iEnT (K : PySem.W.Frag) (t : TA) : TI := fun σ H R => t σ H fun vs H1 => ∃ a, vs = [.ref a] ∧ (∃ xs, SqT K H1 a xs) ∧ R (Ite fun H => SqT K H a) H1
theorem pi_enumL {t : TA} (hg : Gl X "enumerate") (hm : X.mg "enumerate" = none) (ha : PA X [a] t) (hs : starEach [a] X.env = [(false, eval a X.env)] := by rfl) : PI X (.Tuple elts kk tpos) (.Call (.Name "enumerate" p) [a] [] pos) (iEnL X.K t) := by
  intro pins s σ H R I h
  refine Call_ (ld_blt I hg hm boot_enumerate (PyProof.Rows.callWith_type1 (thn (ha pos pins s σ H _ I h) fun us s1 ⟨vs, H1, I1, r1, q1⟩ => ?_) hs rfl))
  obtain ⟨l, e, ⟨xs, hq⟩, q⟩ := q1
  subst e
  cases r1 with
  | cons r rr =>
    cases rr
    cases r
    obtain ⟨its, rv, pp, hz⟩ := I1.list hq
    refine call_enumerate_list pp.isList fun h' he hit hsz hk => ?_
    have I2 : Inv X pins σ H1 { s1 with heap := h' } := I1.kept (t' := s1.toks) hk
    refine wpAny_pyIter_enum (s := { s1 with heap := h' }) he ?_
    refine ⟨_, _, _, _, H1, rfl, I2, turn_enumL l _ s1.heap.objs.size (Nat.succ_ne_self _), ⟨⟨_, he⟩, hit⟩, fun b hb => ?_, q⟩
    have hb' : b = s1.heap.objs.size + 1 ∨ b = s1.heap.objs.size := by simpa using hb
    have hle : s1.heap.objs.size ≤ b := by
      rcases hb' with e | e
      · rw [e]; exact Nat.le_succ _
      · rw [e]; exact Nat.le_refl _
    exact I1.fpOk hle (I1.hok.fresh hle)
theorem pi_enumT {t : TA} (hg : Gl X "enumerate") (hm : X.mg "enumerate" = none) (ha : PA X [a] t) (hs : starEach [a] X.env = [(false, eval a X.env)] := by rfl) : PI X (.Tuple elts kk tpos) (.Call (.Name "enumerate" p) [a] [] pos) (iEnT X.K t) := by
  intro pins s σ H R I h
  refine Call_ (ld_blt I hg hm boot_enumerate (PyProof.Rows.callWith_type1 (thn (ha pos pins s σ H _ I h) fun us s1 ⟨vs, H1, I1, r1, q1⟩ => ?_) hs rfl))
  obtain ⟨l, e, ⟨xs, hq⟩, q⟩ := q1
  subst e
  cases r1 with
  | cons r rr =>
    cases rr
    cases r
    obtain ⟨its, rv, pp, hz⟩ := I1.tuple hq
    refine y_call_enumerate_tuple (show s1.heap.IsTuple l its.toArray from pp) fun h' he hit hsz hk => ?_
    have I2 : Inv X pins σ H1 { s1 with heap := h' } := I1.kept (t' := s1.toks) hk
    refine wpAny_pyIter_enum (s := { s1 with heap := h' }) he ?_
    refine ⟨_, _, _, _, H1, rfl, I2, turn_enumT l _ s1.heap.objs.size (Nat.succ_ne_self _), ⟨⟨_, he⟩, hit⟩, fun b hb => ?_, q⟩
    have hb' : b = s1.heap.objs.size + 1 ∨ b = s1.heap.objs.size := by simpa using hb
    have hle : s1.heap.objs.size ≤ b := by
      rcases hb' with e | e
      · rw [e]; exact Nat.le_succ _
      · rw [e]; exact Nat.le_refl _
    exact I1.fpOk hle (I1.hok.fresh hle)
end
/-- over enumerate of what the body leaves as it is -/
theorem for_enum {sq : Hp → List V → Prop} {xs : List V} {g : TG} {tb : TS} {D : Ends} {σ : St} {H : Hp} (Pv : Nat → St → Hp → Prop) (h0 : Pv 0 σ H) (hl : ∀ i σ H, i ≤ xs.length → Pv i σ H → sq H xs)
    (hs : ∀ i x p σ H, xs[i]? = some x → Pv i σ H → H p = none → g (.ref p) σ (upd H p (.tup [.int i, x])) fun σ2 H2 => tb { D with nx := Pv (i + 1), ct := Pv (i + 1), bk := D.nx } σ2 H2) (hd : ∀ σ H, Pv xs.length σ H → D.nx σ H) :
    ∃ W : Nat → Nat → St → Hp → Prop, (∃ m, W 0 m σ H) ∧ ∀ i m σ H, W i m σ H →
      ((Ite sq).stop i H ∧ D.nx σ H) ∨ ((Ite sq).go i H ∧ ∃ N : St → Hp → Prop, (∀ σ' H', N σ' H' → ∃ m', m' < m ∧ W (i + 1) m' σ' H') ∧ ∀ x H', (Ite sq).yld i H x H' → g x σ H' fun σ2 H2 => tb { D with nx := N, ct := N, bk := D.nx } σ2 H2) := by
  refine ⟨fun i m σ H => m = xs.length - i ∧ i ≤ xs.length ∧ Pv i σ H, ⟨xs.length, by simp, Nat.zero_le _, h0⟩, ?_⟩
  rintro i m σ H ⟨rfl, hi, p⟩
  have q := hl i σ H hi p
  by_cases hlt : i < xs.length
  · refine .inr ⟨⟨xs, xs[i], q, by simp [hlt]⟩, Pv (i + 1), fun σ' H' p' => ⟨xs.length - (i + 1), by omega, rfl, hlt, p'⟩, fun x H' y => ?_⟩
    obtain ⟨pp, hn, rfl, hx⟩ := y
    obtain ⟨x', hx', e⟩ := hx xs q
    subst e
    exact hs i x' pp σ H hx' p hn
  · have e : i = xs.length := by omega
    subst e
    exact .inl ⟨⟨xs, q, rfl⟩, hd σ H p⟩
end L2
namespace L2
open PySem PySem.Spec PyProof.Rows
/-! ### == of deep things that are the same -/
noncomputable def Shp (d : PyData) (m : Nat) : Prop := d.canLay0 = true ∧ d.depth ≤ m
theorem Shp.shaped {d : PyData} {m : Nat} (h : Shp d m) (hm : m ≤ 64) : SeqAt.shaped d = true := by
  unfold SeqAt.shaped
  rw [h.1, decide_eq_true (Nat.le_trans h.2 hm)]; rfl
theorem shp_int (i : Int) : Shp (.int i) 0 := ⟨by simp [PyData.canLay0], by simp [PyData.depth]⟩
theorem shpAll {m : Nat} : ∀ {ds : List PyData}, (∀ d ∈ ds, Shp d m) → PyData.canLayAll0 ds = true ∧ PyData.depthAll ds ≤ m
  | [], _ => ⟨by simp [PyData.canLayAll0], by simp [PyData.depthAll]⟩
  | d :: r, h => by
    obtain ⟨a, b⟩ := shpAll (ds := r) fun z hz => h z (List.mem_cons_of_mem _ hz)
    obtain ⟨c, e⟩ := h d List.mem_cons_self
    exact ⟨by simp [PyData.canLayAll0, c, a], by simp only [PyData.depthAll]; omega⟩
theorem shp_list {m : Nat} {ds : List PyData} (h : ∀ d ∈ ds, Shp d m) : Shp (.list ds) (m + 1) := by
  obtain ⟨a, b⟩ := shpAll h
  exact ⟨by simp [PyData.canLay0, a], by simp only [PyData.depth]; omega⟩
theorem shp_tuple {m : Nat} {ds : List PyData} (h : ∀ d ∈ ds, Shp d m) : Shp (.tuple ds) (m + 1) := by
  obtain ⟨a, b⟩ := shpAll h
  exact ⟨by simp [PyData.canLay0, a], by simp only [PyData.depth]; omega⟩
theorem neS {K : PySem.W.Frag} {x y : V} {H : Hp} {Q : VK} {d : PyData} (h1 : Den K H x d) (h2 : Den K H y d) (s : Shp d 64) (q : Q (.bl false) H) : rNeD K x y H Q :=
  ⟨d, d, h1, h2, s.shaped (Nat.le_refl _), s.shaped (Nat.le_refl _), by rw [SeqAt.eqv_refl d s.1]; exact q⟩
theorem eqS {K : PySem.W.Frag} {x y : V} {H : Hp} {Q : VK} {d : PyData} (h1 : Den K H x d) (h2 : Den K H y d) (s : Shp d 64) (q : Q (.bl true) H) : rEqD K x y H Q :=
  ⟨d, d, h1, h2, s.shaped (Nat.le_refl _), s.shaped (Nat.le_refl _), by rw [SeqAt.eqv_refl d s.1]; exact q⟩
theorem Shp.le {d : PyData} {m n : Nat} (h : Shp d m) (l : m ≤ n) : Shp d n := ⟨h.1, Nat.le_trans h.2 l⟩
end L2
namespace L2
open PySem
/-! comprehensions whose test and element leave the heap as it is -/
theorem comp_rng {n : Nat} {lo : Int} {g : TG} {tt : TT} {te : TE} {σ0 : St} {H : Hp} {Q : VK} (p : Nat → Bool) (f : Nat → V) (hn : n < sizeLine)
    (hs : ∀ (i : Nat) (acc : List V) (N : List V → Hp → Prop), i < n → N (if p i then acc ++ [f i] else acc) H → g (.int (lo + i)) σ0 H fun σ2 H2 => tt σ2 H2 fun b H3 => if b = true then te σ2 H3 fun y H4 => N (acc ++ [y]) H4 else N acc H3)
    (hq : ∀ D, H D = none → Q (.ref D) (upd H D (.lst (((List.range n).filter p).map f)))) :
    CompR (Itr lo n) g tt te σ0 Q H := by
  refine ⟨fun i m acc H' => m = n - i ∧ i ≤ n ∧ H' = H ∧ acc = ((List.range i).filter p).map f, ⟨n, by simp, Nat.zero_le _, rfl, rfl⟩, ?_⟩
  rintro i m acc H' ⟨rfl, hi, rfl, rfl⟩
  have hl : (((List.range i).filter p).map f).length < sizeLine := by
    rw [List.length_map]
    have := List.length_filter_le p (List.range i)
    rw [List.length_range] at this
    omega
  refine ⟨hl, ?_⟩
  by_cases hlt : i < n
  · refine .inr ⟨hlt, fun acc' H2 => H2 = H' ∧ acc' = ((List.range (i + 1)).filter p).map f, fun acc' H2 ⟨h1, h2⟩ => ⟨n - (i + 1), by omega, rfl, hlt, h1, h2⟩, fun x H2 y => ?_⟩
    obtain ⟨e, y⟩ := y
    subst e y
    refine hs i _ (fun acc' H3 => H3 = H2 ∧ acc' = ((List.range (i + 1)).filter p).map f) hlt ⟨rfl, ?_⟩
    rw [List.range_succ, List.filter_append]
    cases hp : p i with
    | true => simp [hp]
    | false => simp [hp]
  · have e : i = n := by omega
    subst e
    exact .inl ⟨Nat.le_refl _, hq⟩
theorem comp_lst {K : PySem.W.Frag} {a : Addr} {xs : List V} {g : TG} {tt : TT} {te : TE} {σ0 : St} {H : Hp} {Q : VK} (p : V → Bool) (f : V → V) (hn : xs.length < sizeLine) (ha : SqL K H a xs)
    (hs : ∀ (x : V) (acc : List V) (N : List V → Hp → Prop), x ∈ xs → N (if p x then acc ++ [f x] else acc) H → g x σ0 H fun σ2 H2 => tt σ2 H2 fun b H3 => if b = true then te σ2 H3 fun y H4 => N (acc ++ [y]) H4 else N acc H3)
    (hq : ∀ D, H D = none → Q (.ref D) (upd H D (.lst ((xs.filter p).map f)))) :
    CompR (Itl K a) g tt te σ0 Q H := by
  refine ⟨fun i m acc H' => m = xs.length - i ∧ i ≤ xs.length ∧ H' = H ∧ acc = ((xs.take i).filter p).map f, ⟨xs.length, by simp, Nat.zero_le _, rfl, rfl⟩, ?_⟩
  rintro i m acc H' ⟨rfl, hi, rfl, rfl⟩
  have hl : (((xs.take i).filter p).map f).length < sizeLine := by
    rw [List.length_map]
    have h1 := List.length_filter_le p (xs.take i)
    have h2 := List.length_take_le i xs
    omega
  refine ⟨hl, ?_⟩
  by_cases hlt : i < xs.length
  · refine .inr ⟨⟨xs, xs[i], ha, by simp [hlt]⟩, fun acc' H2 => H2 = H' ∧ acc' = ((xs.take (i + 1)).filter p).map f, fun acc' H2 ⟨h1, h2⟩ => ⟨xs.length - (i + 1), by omega, rfl, hlt, h1, h2⟩, fun x H2 y => ?_⟩
    obtain ⟨e, y⟩ := y
    subst e
    have hx := y xs ha
    refine hs x _ (fun acc' H3 => H3 = H2 ∧ acc' = ((xs.take (i + 1)).filter p).map f) (List.mem_of_getElem? hx) ⟨rfl, ?_⟩
    rw [List.take_succ, hx, List.filter_append]
    cases hp : p x with
    | true => simp [hp]
    | false => simp [hp]
  · have e : i = xs.length := by omega
    subst e
    rw [List.take_length]
    exact .inl ⟨⟨xs, ha, Nat.le_refl _⟩, hq⟩
theorem inV_int (k : Int) : ∀ ns : List Int, inV (.int k) (ns.map V.int) = decide (k ∈ ns)
  | [] => by simp [inV]
  | n :: r => by
    have ih := inV_int k r
    unfold inV at ih ⊢
    rw [List.map_cons, List.any_cons, ih]
    show ((n == k) || decide (k ∈ r)) = decide (k ∈ n :: r)
    by_cases h : k = n
    · subst h; simp
    · have h' : ¬ n = k := fun z => h z.symm
      simp [h, h']
theorem flat_ints : ∀ ns : List Int, (ns.map V.int).all flatV = true
  | [] => rfl
  | n :: r => by rw [List.map_cons, List.all_cons, flat_ints r]; rfl
end L2
namespace L2
open PySem
/-! ### None or a whole number, as a part of a key -/
noncomputable def isOpt : Option Int → Value → Bool
  | none, v => v == .none
  | some k, v => Value.isInt k v
noncomputable def optHash : Option Int → Int
  | none => 4238894112
  | some k => hashInt k
theorem isOpt_shape {k : Option Int} {v : Value} (h : isOpt k v = true) : (k = none ∧ v = .none) ∨ ∃ i t, k = some i ∧ v = .int i t := by
  cases k with
  | none => exact .inl ⟨rfl, eq_of_beq h⟩
  | some i => obtain ⟨t, e⟩ := Value.isInt_shape h; exact .inr ⟨i, t, rfl, e⟩
section
variable {prog : Program} {w : World} {A : Around} {E : Value → Shared → Prop} {s : Shared}
theorem hash_none {Q : Int → Shared → Prop} (h : Q 4238894112 { s with toks := s.toks + 1 }) : wpAny (model prog w) A (pyHash .none) Q E s := by
  have hT : s.TypeIs .none "NoneType" := rfl
  unfold pyHash
  have hv : [Value.none].any Value.onHeap = false := rfl
  refine wpAny_bind ?_
  rw [cRoomFor, if_neg (by rw [hv]; exact Bool.false_ne_true)]; refine wpAny_pure ?_
  refine wpAny_bind (wpAny_specialOf hT F.slot_NoneType_hash.lookup ?_)
  show wpAny _ _ (if (some (Value.builtin "NoneType.__hash__") == some Value.none) = true then _ else _) Q E s
  rw [if_neg (by rw [beq_builtin_none]; exact Bool.false_ne_true)]
  refine wpAny_bind (wpAny_specialOf hT F.slot_NoneType_hash.lookup ?_)
  show wpAny _ _ (callSpecialIfBoundUnlessNone? .none "__hash__" _ >>= _) Q E s
  refine wpAny_bind (wpAny_callSpecialIfBoundUnlessNone?_slot hT F.slot_NoneType_hash (wpAny_call_entry F.slot_NoneType_hash hT F.entry_NoneType_hash
    (show wpAny _ _ (do ret (← mkInt 4238894112)) _ _ s from wpAny_ret_mkInt ?_) (F.args_NoneType_hash_1 _)))
  exact wpAny_pure h
theorem eq_opt {a b : Option Int} {u v : Value} {Q : Bool → Shared → Prop} (hu : isOpt a u = true) (hv : isOpt b v = true) (h : Q (decide (a = b)) s) : wpAny (model prog w) A (PySem.eqBool u v) Q E s := by
  rcases isOpt_shape hu with ⟨rfl, rfl⟩ | ⟨i, t, rfl, rfl⟩ <;> rcases isOpt_shape hv with ⟨rfl, rfl⟩ | ⟨j, t', rfl, rfl⟩
  · unfold eqBool
    refine wpAny_holding ?_
    refine wpAny_ite_split (fun _ => wpAny_bind (wpAny_rule (wpAny_pure (by simpa using h)))) (fun n => absurd rfl n)
  · exact PySem.SeqAt.EqAt.none_int j t' prog w E Q (by simpa using h)
  · exact PySem.SeqAt.EqAt.int_none i t prog w E Q (by simpa using h)
  · refine wpAny_eqBool_int ?_
    have e : (i == j) = decide (some i = some j) := by
      by_cases q : i = j
      · simp [q]
      · simp [q]
    rw [e]; exact h
end
noncomputable def optKind (prog : Program) (w : World) : KeyKind prog w (Option Int) where
  is := isOpt
  hash := optHash
  inj := fun v a b ha hb => by
    rcases isOpt_shape ha with ⟨rfl, rfl⟩ | ⟨i, t, rfl, rfl⟩ <;> rcases isOpt_shape hb with ⟨rfl, e⟩ | ⟨j, t', rfl, e⟩
    · rfl
    · cases e
    · cases e
    · cases e; rfl
  byValue := fun k v h => by
    rcases isOpt_shape h with ⟨_, rfl⟩ | ⟨i, t, _, rfl⟩ <;> rfl
  pyHash := fun {A E s k v Q} hv h => by
    rcases isOpt_shape hv with ⟨rfl, rfl⟩ | ⟨i, t, rfl, rfl⟩
    · exact hash_none h
    · exact wpAny_pyHash_int h
  eqBool := fun hu hv h => eq_opt hu hv h
  «strs» := fun k x t v h => by
    rcases isOpt_shape h with ⟨_, e⟩ | ⟨i, t, _, e⟩ <;> cases e
end L2
namespace L2
open PySem PySem.Spec PyProof.Rows
/-! ### a dict whose keys are tuples of whole numbers and None -/
noncomputable abbrev Oks := List (Option Int)
noncomputable def okV : Option Int → V
  | none => .non
  | some i => .int i
noncomputable abbrev Ent := Oks × Addr × V
noncomputable abbrev EntR (p : Ent) (q : Oks × Addr × Value) : Prop := p.1 = q.1 ∧ p.2.1 = q.2.1 ∧ RelV p.2.2 q.2.2
noncomputable def DicP (P : Program) (w : World) (a : Addr) (kvs : List Ent) : Heap → Prop := fun h => kvs.length ≤ sizeLine ∧ (a == sysModules) = false ∧ ∃ xs, Paired EntR kvs xs ∧
  ∃ o es ep, h.get? a = some o ∧ o.ExactDict ∧ o.data = .dict es ep ∧ es.toList = xs.map (entryOfKey (tupleKind (optKind P w))) ∧ (xs.map (·.1)).Nodup
noncomputable def DicO (P : Program) (w : World) (a : Addr) (kvs : List Ent) : HO := .ext (DicP P w a kvs)
/-- the dict at a, and the tuples of its keys -/
noncomputable def DicAt (P : Program) (w : World) (H : Hp) (a : Addr) (kvs : List Ent) : Prop := H a = some (DicO P w a kvs) ∧ ∀ x ∈ kvs, H x.2.1 = some (.tup (x.1.map okV))
theorem DicAt.same {P : Program} {w : World} {H H' : Hp} {a : Addr} {kvs : List Ent} (h : DicAt P w H a kvs) (s : Same H H') : DicAt P w H' a kvs := ⟨s _ _ h.1, fun x hx => s _ _ (h.2 x hx)⟩
noncomputable def valO (kvs : List Ent) (k : Oks) : Option V := (kvs.find? fun x => decide (x.1 = k)).map (·.2.2)
noncomputable def putE (k : Oks) (v : V) (x : Ent) : Ent := if x.1 = k then (x.1, x.2.1, v) else x
noncomputable def putO (kvs : List Ent) (k : Oks) (b : Addr) (v : V) : List Ent := if (valO kvs k).isSome then kvs.map (putE k v) else kvs ++ [(k, b, v)]
theorem valO_nil {k : Oks} : valO [] k = none := rfl
theorem valO_cons {x : Ent} {kvs : List Ent} {k : Oks} : valO (x :: kvs) k = if x.1 = k then some x.2.2 else valO kvs k := by
  unfold valO
  rw [List.find?_cons]
  by_cases h : x.1 = k
  · rw [decide_eq_true h, if_pos h]; rfl
  · rw [decide_eq_false h, if_neg h]
theorem valO_map {kvs : List Ent} {k k' : Oks} {v : V} : valO (kvs.map (putE k v)) k' = if k' = k then (valO kvs k).map (fun _ => v) else valO kvs k' := by
  induction kvs with
  | nil => rw [List.map_nil, valO_nil, valO_nil]; split <;> rfl
  | cons x kvs ih =>
    rw [List.map_cons, valO_cons, ih, valO_cons, valO_cons]
    unfold putE
    by_cases h : x.1 = k <;> by_cases h' : k' = k
    · have : x.1 = k' := h.trans h'.symm
      simp [h, h']
    · have : ¬ x.1 = k' := fun z => h' (z.symm.trans h)
      rw [if_pos h, if_neg h', if_neg this, if_neg this, if_neg h']
    · subst h'
      simp [h]
    · simp [h, h']
theorem valO_append {kvs : List Ent} {k k' : Oks} {b : Addr} {v : V} (h : valO kvs k = none) : valO (kvs ++ [(k, b, v)]) k' = if k' = k then some v else valO kvs k' := by
  induction kvs with
  | nil =>
    rw [List.nil_append, valO_cons, valO_nil]
    by_cases e : k' = k
    · rw [if_pos e, if_pos e.symm]
    · rw [if_neg e, if_neg (Ne.symm e)]
  | cons x kvs ih =>
    rw [valO_cons] at h
    by_cases hx : x.1 = k
    · rw [if_pos hx] at h; cases h
    · rw [if_neg hx] at h
      rw [List.cons_append, valO_cons, ih h, valO_cons]
      by_cases e : k' = k
      · subst e; rw [if_neg hx, if_pos rfl, if_pos rfl]
      · rw [if_neg e, if_neg e]
theorem valO_put {kvs : List Ent} {k k' : Oks} {b : Addr} {v : V} : valO (putO kvs k b v) k' = if k' = k then some v else valO kvs k' := by
  unfold putO
  cases h : valO kvs k with
  | none => rw [if_neg (by simp)]; exact valO_append h
  | some u =>
    rw [if_pos (by simp), valO_map, h]; rfl
theorem putO_length {kvs : List Ent} {k : Oks} {b : Addr} {v : V} : (putO kvs k b v).length ≤ kvs.length + 1 := by
  unfold putO
  split
  · rw [List.length_map]; omega
  · rw [List.length_append]; exact Nat.le_refl _
theorem putO_keys {kvs : List Ent} {k : Oks} {b : Addr} {v : V} {F : Oks → Addr → Prop} (h : ∀ x ∈ kvs, F x.1 x.2.1) (hk : F k b) : ∀ x ∈ putO kvs k b v, F x.1 x.2.1 := by
  intro x hx
  unfold putO at hx
  split at hx
  · obtain ⟨y, hy, rfl⟩ := List.mem_map.mp hx
    unfold putE
    split
    · exact h y hy
    · exact h y hy
  · rcases List.mem_append.mp hx with q | q
    · exact h x q
    · rw [List.mem_singleton.mp q]; exact hk
/-! how the entries stand to the object's -/
theorem ent_val {kvs : List Ent} {xs : List (Oks × Addr × Value)} (r : Paired EntR kvs xs) (k : Oks) : RelO (valO kvs k) ((atKey xs k).map (·.2)) := by
  induction r with
  | nil => exact True.intro
  | @cons p q _ _ h1 _ ih =>
    rw [valO_cons]
    unfold atKey at ih ⊢
    rw [List.find?_cons]
    by_cases e : p.1 = k
    · rw [if_pos e, decide_eq_true (h1.1.symm.trans e)]; exact h1.2.2
    · rw [if_neg e, decide_eq_false (fun z => e (h1.1.trans z))]; exact ih
theorem relO_isSome {o : Option V} {u : Option Value} (r : RelO o u) : o.isSome = u.isSome := by
  cases o <;> cases u <;> first | rfl | exact r.elim
theorem relO_getD {o : Option V} {u : Option Value} {d : V} {r : Value} (h : RelO o u) (hd : RelV d r) : RelV (o.getD d) (u.getD r) := by
  cases o <;> cases u <;> first | exact hd | exact h | exact h.elim
theorem ent_map {kvs : List Ent} {xs : List (Oks × Addr × Value)} {k : Oks} {v : V} {u : Value} (r : Paired EntR kvs xs) (hv : RelV v u) : Paired EntR (kvs.map (putE k v)) (xs.map (putAt k u)) := by
  induction r with
  | nil => exact .nil
  | @cons p q _ _ h1 _ ih =>
    refine .cons ?_ ih
    unfold putE putAt
    by_cases e : p.1 = k
    · rw [if_pos e, if_pos (h1.1.symm.trans e)]; exact ⟨h1.1, h1.2.1, hv⟩
    · rw [if_neg e, if_neg (fun z => e (h1.1.trans z))]; exact h1
theorem ent_snoc {kvs : List Ent} {xs : List (Oks × Addr × Value)} {p : Ent} {q : Oks × Addr × Value} (r : Paired EntR kvs xs) (h : EntR p q) : Paired EntR (kvs ++ [p]) (xs ++ [q]) := by
  induction r with
  | nil => exact .cons h .nil
  | cons h1 _ ih => exact .cons h1 ih
theorem ent_put {kvs : List Ent} {xs : List (Oks × Addr × Value)} {k : Oks} {b : Addr} {v : V} {u : Value} (r : Paired EntR kvs xs) (hv : RelV v u) : Paired EntR (putO kvs k b v) (storedH xs k b u) := by
  have h := relO_isSome (ent_val r k)
  rw [Option.isSome_map] at h
  unfold putO storedH
  rw [h]
  split
  · exact ent_map r hv
  · exact ent_snoc r ⟨rfl, rfl, hv⟩
section
variable {P : Program} {w : World} {H : Hp} {h : Heap} {a b : Addr} {kvs : List Ent} {k : Oks}
theorem opt_items : ∀ {k : Oks} {us : List Value}, Vals (k.map okV) us → ItemsAre (optKind P w) k us
  | [], _, .nil => .nil
  | none :: _, _, .cons r t => .cons (by have e : _ = Value.none := r; subst e; rfl) (opt_items t)
  | some i :: _, _, .cons r t => .cons (by obtain ⟨tk, e⟩ := (show ∃ t, _ = Value.int i t from r); subst e; exact beq_self_eq_true i) (opt_items t)
theorem opt_key (ok : HOk P w H h) (e : H b = some (.tup (k.map okV))) : (tupleKind (optKind P w)).is h k b := by
  obtain ⟨_, its, r, o, ho, hc, n, hd⟩ := ok _ _ e
  exact ⟨o, its.toArray, n, ho, hc, hd, opt_items r⟩
theorem dicO_of (ok : HOk P w H h) (e : DicAt P w H a kvs) : kvs.length ≤ sizeLine ∧ (a == sysModules) = false ∧ ∃ xs, Paired EntR kvs xs ∧ h.DictOfH (tupleKind (optKind P w)) a xs := by
  obtain ⟨e, ek⟩ := e
  obtain ⟨⟨z, hs, xs, r, o, es, ep, h1, h2, h3, h4, h5⟩, _⟩ := ok _ _ e
  refine ⟨z, hs, xs, r, o, es, ep, h1, h2, h3, h4, ?_, h5⟩
  have all : ∀ {kvs : List Ent} {xs : List (Oks × Addr × Value)}, Paired EntR kvs xs → (∀ x ∈ kvs, H x.2.1 = some (.tup (x.1.map okV))) → ∀ x ∈ xs, (tupleKind (optKind P w)).is h x.1 x.2.1 := by
    intro kvs xs r
    induction r with
    | nil => intro _ x hx; cases hx
    | @cons p q _ _ h1 _ ih =>
      intro hk x hx
      rcases List.mem_cons.mp hx with rfl | hx
      · have := hk p List.mem_cons_self
        rw [h1.1, h1.2.1] at this
        exact opt_key ok this
      · exact ih (fun y hy => hk y (List.mem_cons_of_mem _ hy)) x hx
  exact all r ek
theorem dicO_stab (h1 h2 : Heap) (p : DicP P w a kvs h1) (st : ∀ o, h1.get? a = some o → h2.get? a = some o) : DicP P w a kvs h2 := by
  obtain ⟨z, hs, xs, r, o, es, ep, q, c⟩ := p
  exact ⟨z, hs, xs, r, o, es, ep, st _ q, c⟩
theorem dicO_new (hb : sysModules < h.objs.size) : ObjOk P w H (h.push { cls := .type "dict", data := .dict #[] }) h.objs.size (DicO P w h.objs.size []) :=
  ⟨⟨Nat.zero_le _, beq_eq_false_iff_ne.mpr (Ne.symm (Nat.ne_of_lt hb)), [], .nil, _, #[], 0, Heap.get?_push_size _ rfl, ⟨rfl, rfl, rfl⟩, rfl, rfl, List.nodup_nil⟩, ⟨_, Heap.get?_push_size _ rfl⟩, fun _ _ => dicO_stab _ _⟩
end
/-- what is found at a tuple -/
noncomputable def OGet (P : Program) (w : World) (H : Hp) (a : Addr) (y : V) (r : Option V) : Prop := ∃ kvs k b, DicAt P w H a kvs ∧ y = .ref b ∧ H b = some (.tup (k.map okV)) ∧ r = valO kvs k
section
variable {X : Cx} {pins : List (Addr × Obj)} {σ : St} {H : Hp} {s : Shared} {a b : Addr} {y v d : V} {u r : Value} {o : Option V} {A : Around} {E : Value → Shared → Prop}
theorem big_of (I : Inv X pins σ H s) : sysModules < s.heap.objs.size :=
  Nat.lt_trans (by decide) (show mainGlobals < s.heap.objs.size from (I.mod.glob.keeps I.bk).lt)
theorem o_in {Q : Value → Shared → Prop} (hu : A.units + 1 < cLine) (I : Inv X pins σ H s) (g : OGet X.prog X.w H a y o) (ry : RelV y u) (h : ∀ s', Inv X pins σ H s' → Q (.bool o.isSome) s') :
    wpAny (model X.prog X.w) A (compareOp .In u (.ref a)) Q E s := by
  obtain ⟨kvs, k, b, e, rfl, eb, rfl⟩ := g
  cases (show u = Value.ref b from ry)
  obtain ⟨_, hd, xs, rel, dd⟩ := dicO_of I.hok e
  refine wpAny_in_heap (tupleKind_room_in1 hu) (opt_key I.hok eb) hd dd ?_
  have q := relO_isSome (ent_val rel k)
  rw [Option.isSome_map] at q
  rw [← q]
  exact h _ (I.tok _)
theorem o_notIn {Q : Value → Shared → Prop} (hu : A.units + 1 < cLine) (I : Inv X pins σ H s) (g : OGet X.prog X.w H a y o) (ry : RelV y u) (h : ∀ s', Inv X pins σ H s' → Q (.bool (!o.isSome)) s') :
    wpAny (model X.prog X.w) A (compareOp .NotIn u (.ref a)) Q E s := by
  obtain ⟨kvs, k, b, e, rfl, eb, rfl⟩ := g
  cases (show u = Value.ref b from ry)
  obtain ⟨_, hd, xs, rel, dd⟩ := dicO_of I.hok e
  refine wpAny_notIn_heap (tupleKind_room_in1 hu) (opt_key I.hok eb) hd dd ?_
  have q := relO_isSome (ent_val rel k)
  rw [Option.isSome_map] at q
  rw [← q]
  exact h _ (I.tok _)
theorem o_get2 {Q : Value → Shared → Prop} (hu : A.units + 1 < cLine) (I : Inv X pins σ H s) (g : OGet X.prog X.w H a y o) (ry : RelV y u) (rd : RelV d r) (h : ∀ w' s', Inv X pins σ H s' → RelV (o.getD d) w' → Q w' s') :
    wpAny (model X.prog X.w) A (call (.builtin "dict.get") [.ref a, u, r]) Q E s := by
  obtain ⟨kvs, k, b, e, rfl, eb, rfl⟩ := g
  cases (show u = Value.ref b from ry)
  obtain ⟨_, hd, xs, rel, dd⟩ := dicO_of I.hok e
  exact call_meetsIn PySem.F.slot_dict_get dd.typeIs PySem.F.entry_dict_get (PySem.F.args_dict_get_3 _ _ _) (meetsH_dict_get_default (tupleKind (optKind X.prog X.w)) a b hd r)
    ⟨tupleKind_room_in1 hu, k, xs, opt_key I.hok eb, dd, h _ _ (I.tok _) (relO_getD (ent_val rel k) rd)⟩
theorem o_set {kvs : List Ent} {k : Oks} {Q : Unit → Shared → Prop} (hu : A.units + 1 < cLine) (I : Inv X pins σ H s) (e : DicAt X.prog X.w H a kvs) (eb : H b = some (.tup (k.map okV))) (hl : kvs.length < sizeLine) (rv : RelV v r)
    (h : ∀ s', Inv X pins σ (upd H a (DicO X.prog X.w a (putO kvs k b v))) s' → Q () s') : wpAny (model X.prog X.w) A (setItem (.ref a) (.ref b) r) Q E s := by
  obtain ⟨z, hd, xs, rel, dd⟩ := dicO_of I.hok e
  have hz : xs.length ≤ sizeLine := by rw [← Paired.length rel]; exact z
  have hl' : (putO kvs k b v).length ≤ sizeLine := Nat.le_trans putO_length hl
  refine wpAny_setItem_heap (hsz := hz) (tupleKind_room_in1 hu) (opt_key I.hok eb) dd fun h' dd' hs => h _ ?_
  obtain ⟨q, es, ep, hq, h2, h3, h4, _, h5⟩ := dd'
  exact I.write (x := a) (e := a) (by rw [e.1]; exact True.intro) (.inl rfl) (fun c q hc z => (hs.2 c hc).trans z) ⟨q, hq⟩
    ⟨⟨hl', hd, _, ent_put rel rv, q, es, ep, hq, h2, h3, h4, h5⟩, ⟨q, hq⟩, fun _ _ => dicO_stab _ _⟩
theorem dicO_type {kvs : List Ent} (I : Inv X pins σ H s) (e : DicAt X.prog X.w H a kvs) : s.TypeIs (.ref a) "dict" ∧ ∀ b, Value.ref a = .ref b → ∃ ob, s.heap.get? b = some ob ∧ ob.dict = none := by
  obtain ⟨_, _, xs, _, dd⟩ := dicO_of I.hok e
  refine ⟨dd.typeIs, fun b q => ?_⟩
  cases q
  obtain ⟨ob, _, _, h1, h2, _⟩ := dd
  exact ⟨ob, h1, h2.2.1⟩
end
/-! the readings and the rules -/
noncomputable def tONew (P : Program) (w : World) : TE := fun _ H Q => ∀ p, H p = none → Q (.ref p) (upd H p (DicO P w p []))
noncomputable def tOIn (P : Program) (w : World) (ty td : TE) : TE := fun σ H Q => ty σ H fun y H1 => td σ H1 fun x H2 => ∃ a o, x = .ref a ∧ OGet P w H2 a y o ∧ Q (.bl o.isSome) H2
noncomputable def tONotIn (P : Program) (w : World) (ty td : TE) : TE := fun σ H Q => ty σ H fun y H1 => td σ H1 fun x H2 => ∃ a o, x = .ref a ∧ OGet P w H2 a y o ∧ Q (.bl (!o.isSome)) H2
noncomputable def sOPut (P : Program) (w : World) (td ty tv : TE) : TS := fun D σ H => tv σ H fun v H1 => td σ H1 fun x H2 => ty σ H2 fun y H3 => ∃ a kvs k b, x = .ref a ∧ DicAt P w H3 a kvs ∧ y = .ref b ∧ H3 b = some (.tup (k.map okV)) ∧ kvs.length < sizeLine ∧ D.nx σ (upd H3 a (DicO P w a (putO kvs k b v)))
noncomputable def tOGet2 (P : Program) (w : World) (td : TE) (t : TA) : TE := fun σ H Q => td σ H fun x H1 => ∃ a kvs, x = .ref a ∧ DicAt P w H1 a kvs ∧ t σ H1 fun xs H2 => ∃ y z o, xs = [y, z] ∧ OGet P w H2 a y o ∧ Q (o.getD z) H2
section
variable {X : Cx} {o i e f value : Expr} {pos pos' apos cpos : Pos} {td ty tv tx : TE}
theorem pe_onew : PE X (.Dict [] [] pos) (tONew X.prog X.w) := fun pins s σ H Q I h =>
  wpAny_Dict_empty ⟨.ref s.heap.objs.size, _, I.laid (a := s.heap.objs.size) (o := DicO X.prog X.w s.heap.objs.size []) (t' := s.toks) (fun _ _ q => Heap.get?_push_of_some _ q) (Nat.le_refl _) (dicO_new (big_of I)), rfl, h _ (I.hok.fresh (Nat.le_refl _))⟩
theorem pc_oin (hu : X.A.units + 1 < cLine) (hi : PE X i ty) (ho : PE X o td) : PC X .In i o (tOIn X.prog X.w ty td) := by
  intro pins s σ H Q I h
  refine thn (hi pins s σ H _ I h) fun iv s1 ⟨y, H1, I1, ry, q1⟩ => thn (ho pins s1 σ H1 _ I1 q1) fun u s2 ⟨x, H2, I2, rx, a, ov, ex, g, q2⟩ => ?_
  subst ex
  obtain rfl : u = Value.ref a := rx
  exact o_in hu I2 g ry fun s3 I3 => ⟨.bl ov.isSome, H2, I3, rfl, q2⟩
theorem pc_onotin (hu : X.A.units + 1 < cLine) (hi : PE X i ty) (ho : PE X o td) : PC X .NotIn i o (tONotIn X.prog X.w ty td) := by
  intro pins s σ H Q I h
  refine thn (hi pins s σ H _ I h) fun iv s1 ⟨y, H1, I1, ry, q1⟩ => thn (ho pins s1 σ H1 _ I1 q1) fun u s2 ⟨x, H2, I2, rx, a, ov, ex, g, q2⟩ => ?_
  subst ex
  obtain rfl : u = Value.ref a := rx
  exact o_notIn hu I2 g ry fun s3 I3 => ⟨.bl (!ov.isSome), H2, I3, rfl, q2⟩
theorem ps_oput (hu : X.A.units + 1 < cLine) (ho : PE X o td) (hi : PE X i ty) (hv : PE X value tv) (hs : swapsWith value (some (.Subscript o i pos')) pos.line X.env = pure false) :
    PS X (.Assign [.Subscript o i pos'] value pos) (sOPut X.prog X.w td ty tv) := by
  intro pins s σ H D I h
  refine wpAny_Assign_Subscript (thn (hv pins s σ H _ I h) fun r s1 ⟨v, H1, I1, rv, q1⟩ => thn (ho pins s1 σ H1 _ I1 q1) fun u s2 ⟨x, H2, I2, rx, q2⟩ => thn (hi pins s2 σ H2 _ I2 q2) fun iv s3 ⟨y, H3, I3, ry, a, kvs, k, b, ex, e, ey, eb, hl, q3⟩ => ?_) hs
  subst ex ey
  obtain rfl : u = Value.ref a := rx
  obtain rfl : iv = Value.ref b := ry
  exact o_set hu I3 e eb hl rv fun s4 I4 => ⟨σ, _, I4, q3⟩
theorem pe_oget2 {es : List Expr} {t : TA} (hu : X.A.units + 1 < cLine) (ho : PE X o td) (ha : PA X (e :: es) t)
    (h1 : attributeBase o "get" X.env (eval o X.env) = eval o X.env := by rfl)
    (h2 : ((backTo cpos (starEach (e :: es) X.env)).all (fun x => !x.1) && (backToKw cpos (keywordEach [] X.env)).all (fun x => x.1.isSome) && decide ((e :: es).length + ([] : List Keyword).length + (if ([] : List Keyword).isEmpty then 0 else 1) < 30)) = true := by rfl)
    (h3 : (apos.endLine == cpos.line) = true := by rfl) (h4 : starEach (e :: es) X.env = (false, eval e X.env) :: starEach es X.env := by rfl) (h5 : (backTo cpos (starEach es X.env)).any (·.1) = false := by rfl) :
    PE X (.Call (.Attribute o "get" apos) (e :: es) [] cpos) (tOGet2 X.prog X.w td t) := by
  intro pins s σ H Q I h
  refine wpAny_Call_method_late h1 h2 h3 rfl (thn (ho pins s σ H _ I h) fun v s1 ⟨x, H1, I1, r1, a, kvs, ex, e1, q1⟩ => ?_)
  subst ex
  obtain rfl : v = Value.ref a := r1
  obtain ⟨t1, t2⟩ := dicO_type I1 e1
  refine ⟨"dict", "dict.get", PySem.F.plainAttrs_dict, PySem.F.slot_dict_get, PySem.F.type_dict_get, t1, t2, ?_⟩
  have hA := ha cpos pins s1 σ H1 _ I1 q1
  rw [h4] at hA ⊢
  refine Calls.callWith_builtin (by show (false || (backTo cpos (starEach es X.env)).any (·.1)) = false; rw [h5] <;> rfl) (Calls.evalArgs_plain ?_)
  refine thn hA fun us s2 ⟨vs, H2, I2, r2, y, z, ov, evs, g, q2⟩ => ?_
  subst evs
  cases r2 with
  | cons ry r2 => cases r2 with
    | cons rz r2 => cases r2 with
      | nil => exact o_get2 hu I2 g ry rz fun w' s4 I4 rw' => ⟨_, H2, I4, rw', q2⟩
end
end L2
namespace L2
open PySem PySem.Spec PyProof.Rows
/-! ### a def of a class, called by the class: C.m(self, ..) -/
structure CMeth (K : PySem.W.Frag) (C : Addr) (m : Str) (f : Addr) : Prop where
  reads : PySem.W.readsIn K C (.type "type") = true
  found : PySem.W.findCls K (.ref C) (.type "type") m = some (.val (.ref f))
  spec : PySem.W.specialIn K (.ref C) "__getattribute__" = some (some (.builtin "type.__getattribute__"))
  kp : PySem.W.keepIn K (.ref f) = true
noncomputable def tCMeth (C : Addr) (sp : Sp) (dvs : List V) (E : XK) (ta : TE) (t : TA) : TE := fun σ H Q => ta σ H fun x H1 => x = .ref C ∧ t σ H1 fun vs H2 => sp (vs ++ dvs) H2 Q E
section
variable {X : Cx} {CX : CXT} {k : Nat} {f C : Addr} {fd : FuncData} {ps : List Str} {sp : Sp} {dvs : List V} {ds : List Value} {E : XK} {x m : Str} {p pos apos : Pos} {e o : Expr} {es : List Expr} {ta : TE} {t : TA}
theorem pe_cmeth {pl : Sem Bool} (he : PE X o ta) (hm : CMeth X.K C m f) (F : FnOk X.prog X.w X.K X.mg X.base CX k f fd ps sp) (hr : Room k X.A) (hb : Binds X.K fd ps ds) (hd : Vals dvs ds) (hx : Passes CX X E) (ha : PA X (e :: es) t)
    (h1 : starEach (e :: es) X.env = (false, eval e X.env) :: starEach es X.env := by rfl) (h2 : (backTo pos (starEach es X.env)).any (·.1) = false := by rfl)
    (ht : eval (.Call (.Attribute o m apos) (e :: es) [] pos) X.env = (do
      let ov ← eval o X.env
      standAt apos.atName
      let (f, first) ← holding [ov] (getMethod ov m pl)
      callWith pos f first (backTo pos (starEach (e :: es) X.env)) (backToKw pos (keywordEach [] X.env))) := by rfl) :
    PE X (.Call (.Attribute o m apos) (e :: es) [] pos) (tCMeth C sp dvs E ta t) := by
  intro pins s σ H Q I h
  refine PySem.W.methodCall_KW (pl := pl) (thn (he pins s σ H _ I h) fun u s1 ⟨x, H1, I1, rx, ex, q⟩ => ?_) ht
  subst ex
  obtain rfl : u = Value.ref C := rx
  refine PySem.W.method_cls I1.kIn hm.spec (PySem.W.cls_value I1.kIn hm.reads hm.found rfl ?_)
  refine PySem.W.callWith_K (first := []) (h₀ := X.base) I.ok.mod.kin hm.kp (thn (ha pos pins _ σ H1 _ (I1.tok _) q) fun us s2 ⟨vs, H2, I2, r, q2⟩ => ⟨I2.kIn, ?_⟩) h1 h2
  exact run_fn F hr hb hd hx I2 r q2
end
/-! ### isinstance of what was caught, by a tuple of classes -/
section
variable {X : Cx}
noncomputable def rIsXs (X : Cx) : List V → Hp → VK → Prop := fun xs H Q => ∃ ea oe tp cs cvs C vs b, xs = [.ref ea, .ref tp] ∧ H tp = some (.tup cs) ∧ Paired ValC cs cvs ∧ (ea, oe) ∈ X.pn ∧ oe.cls = .ref C ∧ oe.data = .fields vs ∧ DictAt H oe.dict ∧ XCls X.K C ∧ XIsi X.K C ∧ PySem.W.kitAny X.K (.ref C) cvs = some b ∧ Q (.bl b) H
theorem valC_all : ∀ {cs : List V} {us cvs : List Value}, Vals cs us → Paired ValC cs cvs → us = cvs
  | _, _, _, .nil, .nil => rfl
  | _, _, _, .cons r t, .cons h u => by rw [valC_rel r h, valC_all t u]
theorem call_isXs : CallR X (.builtin "isinstance") (rIsXs X) := by
  intro pins s σ H xs us Q I r h
  obtain ⟨ea, oe, tp, cs, cvs, C, vs, b, rfl, ht, rc, hp, hc, hd, hdd, xc, xi, hk, q⟩ := h
  cases r with
  | cons r1 r2 =>
    cases r2 with
    | cons r2 r3 =>
      cases r3
      cases r1
      cases r2
      obtain ⟨od, J⟩ := I.instX hp hc hd hdd
      obtain ⟨_, its, rv, o, ho, hcl, n, hdt⟩ := I.hok _ _ ht
      have e := valC_all rv rc
      subst e
      obtain ⟨oc, odd, odt, osl⟩ := o
      dsimp only at hcl hdt
      subst hcl hdt
      exact PySem.W.kia_tup (kitx_exc (ox := oe) xc xi) I.kIn ⟨od, J⟩ ho hk (by intro z; cases z) fun tk => ⟨.bl b, H, I.tok _, rfl, q⟩
end
end L2
namespace L2
open PySem
/-- a comprehension by an invariant -/
theorem comp_gen {J : It} {g : TG} {tt : TT} {te : TE} {σ0 : St} {H : Hp} {Q : VK} (n : Nat) (hn : n < sizeLine) (W : Nat → List V → Hp → Prop) (h0 : W 0 [] H) (hlen : ∀ i acc H', W i acc H' → acc.length ≤ i)
    (turn : ∀ i acc H', i < n → W i acc H' → J.go i H' ∧ ∀ x H2, J.yld i H' x H2 → g x σ0 H2 fun σ2 H3 => tt σ2 H3 fun b H4 => if b = true then te σ2 H4 fun y H5 => W (i + 1) (acc ++ [y]) H5 else W (i + 1) acc H4)
    (stop : ∀ acc H', W n acc H' → J.stop n H' ∧ ∀ D, H' D = none → Q (.ref D) (upd H' D (.lst acc))) : CompR J g tt te σ0 Q H := by
  refine ⟨fun i m acc H' => m = n - i ∧ i ≤ n ∧ W i acc H', ⟨n, by simp, Nat.zero_le _, h0⟩, ?_⟩
  rintro i m acc H' ⟨rfl, hi, w⟩
  refine ⟨by have := hlen i acc H' w; omega, ?_⟩
  by_cases hlt : i < n
  · obtain ⟨go, q⟩ := turn i acc H' hlt w
    exact .inr ⟨go, fun acc' H2 => W (i + 1) acc' H2, fun acc' H2 w2 => ⟨n - (i + 1), by omega, rfl, hlt, w2⟩, q⟩
  · have e : i = n := by omega
    subst e
    exact .inl (stop acc H' w)
theorem Same.new {H H' : Hp} {a : Addr} {o : HO} (h : Same H H') (n : H' a = none) : Same H (upd H' a o) := fun b u e => by rw [upd_ne (ne_of_none (h _ _ e) n)]; exact h _ _ e
end L2
namespace K11
open PySem L2
noncomputable def top (i : Nat) : Stmt := PySem.Challenge.pw_wormyard_k11_told_tables.main.body.getD i (.Pass ⟨0, 0, 0, 0⟩)
noncomputable abbrev sHas : Stmt := top 2
noncomputable abbrev sMem : Stmt := top 3
noncomputable abbrev sSet : Stmt := top 4
noncomputable abbrev sTM : Stmt := inClass (top 8) 0
noncomputable abbrev sNR : Stmt := inClass (top 9) 0
noncomputable abbrev sNE : Stmt := inClass (top 10) 0
noncomputable abbrev sWhole : Stmt := top 13
noncomputable abbrev sWithin : Stmt := top 14
noncomputable abbrev sOne : Stmt := top 15
noncomputable abbrev sTwo : Stmt := top 19
noncomputable abbrev sInit : Stmt := inClass (top 20) 0
noncomputable abbrev sOut : Stmt := inClass (top 20) 3
noncomputable abbrev sInto : Stmt := inClass (top 20) 4
noncomputable abbrev sFits : Stmt := top 22
noncomputable abbrev sTab : Stmt := inClass (top 23) 0
noncomputable abbrev sTabW : Stmt := inClass (top 23) 1
noncomputable abbrev sTold : Stmt := inClass (top 24) 0
noncomputable abbrev sToldW : Stmt := inClass (top 24) 1
noncomputable abbrev sDraw : Stmt := top 26
noncomputable abbrev sLand : Stmt := top 27
noncomputable abbrev sRow : Stmt := top 28
noncomputable abbrev sSpoil : Stmt := top 29
noncomputable abbrev sRows : Stmt := top 30
noncomputable abbrev sBad : Stmt := top 31
noncomputable abbrev sFirst : Stmt := top 32
noncomputable abbrev sRef : Stmt := top 33
noncomputable abbrev sRight : Stmt := top 34
noncomputable abbrev sLaw : Stmt := top 35
structure Txt (mg : Str → Option Value) : Prop where
  isi : mg "isinstance" = none
  int : mg "int" = none
  bool : mg "bool" = none
  len : mg "len" = none
  enum : mg "enumerate" = none
  tuple : mg "tuple" = none
  max : mg "max" = none
  min : mg "min" = none
  range : mg "range" = none
  list : mg "list" = none
  set : mg "set" = none
  sorted : mg "sorted" = none
  all : mg "all" = none
/-! lanes in the heap -/
noncomputable def LnV (H : Hp) (v : V) (p : Int × Int) : Prop := ∃ t, v = .ref t ∧ H t = some (.tup [.int p.1, .int p.2])
noncomputable abbrev Lns (H : Hp) : List V → List (Int × Int) → Prop := Paired (LnV H)
theorem Lns.same {H H' : Hp} (h : Same H H') : ∀ {vs : List V} {ps : List (Int × Int)}, Lns H vs ps → Lns H' vs ps
  | _, _, .nil => .nil
  | _, _, .cons ⟨t, e, q⟩ r => .cons ⟨t, e, h _ _ q⟩ (Lns.same h r)
theorem Lns.get {H : Hp} : ∀ {vs : List V} {ps : List (Int × Int)} {i : Nat} {v : V}, Lns H vs ps → vs[i]? = some v → ∃ p, ps[i]? = some p ∧ LnV H v p
  | _, _, _, _, .nil, e => by simp at e
  | _, _, 0, _, .cons h _, e => by simp at e; subst e; exact ⟨_, rfl, h⟩
  | _, _, i + 1, _, .cons _ r, e => by
    obtain ⟨p, e1, h⟩ := Lns.get (i := i) r (by simpa using e)
    exact ⟨p, by simpa using e1, h⟩
theorem Lns.get2 {H : Hp} : ∀ {vs : List V} {ps : List (Int × Int)} {i : Nat} {p : Int × Int}, Lns H vs ps → ps[i]? = some p → ∃ v, vs[i]? = some v ∧ LnV H v p
  | _, _, _, _, .nil, e => by simp at e
  | _, _, 0, _, .cons h _, e => by simp at e; subst e; exact ⟨_, rfl, h⟩
  | _, _, i + 1, _, .cons _ r, e => by
    obtain ⟨p, e1, h⟩ := Lns.get2 (i := i) r (by simpa using e)
    exact ⟨p, by simpa using e1, h⟩
theorem Lns.snoc {H : Hp} {v : V} {p : Int × Int} (h : LnV H v p) : ∀ {vs : List V} {ps : List (Int × Int)}, Lns H vs ps → Lns H (vs ++ [v]) (ps ++ [p])
  | _, _, .nil => .cons h .nil
  | _, _, .cons q r => .cons q (Lns.snoc h r)
noncomputable def okP (n : Int) (p : Int × Int) : Bool := decide (0 ≤ p.1 ∧ p.1 ≤ n - 1) && (decide (0 ≤ p.2 ∧ p.2 ≤ n - 1) && !decide (p.1 = p.2))
/-! the promises -/
noncomputable def spWhole : Sp := fun vs H Q _ => ∃ i : Int, vs = [.int i] ∧ Q (.bl true) H
noncomputable def spWithin : Sp := fun vs H Q _ => ∃ i a b : Int, vs = [.int i, .int a, .int b] ∧ Q (.bl (decide (a ≤ i ∧ i ≤ b))) H
noncomputable def spTwo : Sp := fun vs H Q _ => ∃ n a b : Int, vs = [.int n, .int a, .int b] ∧ Q (.bl (okP n (a, b))) H
section
variable {P : Program} {w : World} {K : PySem.W.Frag} {mg : Str → Option Value} {base : Heap}
theorem scWhole : FnScope ["value"] ["value"] (defScope sWhole) := ⟨rfl, rfl, rfl, by decide +kernel, rfl, by decide +kernel, by decide +kernel⟩
theorem ok_whole {f : Addr} {fd : FuncData} (F : Fun K "is_whole" "is_whole" sWhole f fd) (T : Txt mg) : FnOk P w K mg base CX0 1 f fd ["value"] spWhole := by
  refine F.ok scWhole (fun vs H Q E h => ?_) (fun cdv A outer s H vs Q E hr h => ?_)
  · obtain ⟨m, rfl, _⟩ := h
    rfl
  · obtain ⟨i, rfl, q⟩ := h
    refine ⟨_, pss_one (ps_ret (pe_and (pe_callB call_isi rfl T.isi PyProof.Rows.boot_isinstance (pa_cons (pv 0) (pa_cons (pe_bltn (v := .ty "int") rfl T.int PySem.Pv.boot_int rfl) pa_nil)))
      (pe_one (pe_not (pe_callB call_isi rfl T.isi PyProof.Rows.boot_isinstance (pa_cons (pv 0) (pa_cons (pe_bltn (v := .ty "bool") rfl T.bool PySem.Pv.boot_bool rfl) pa_nil))))))), ?_⟩
    refine ⟨_, rfl, .inl ⟨i, rfl, true, rfl, ?_⟩⟩
    refine iteT ?_
    exact ⟨_, rfl, .inr (.inl ⟨i, rfl, false, rfl, q⟩)⟩
theorem scWithin : FnScope ["value", "least", "most"] ["value", "least", "most"] (defScope sWithin) := ⟨rfl, rfl, rfl, by decide +kernel, rfl, by decide +kernel, by decide +kernel⟩
theorem ok_within {f fh : Addr} {fd fdh : FuncData} (F : Fun K "is_within" "is_within" sWithin f fd) (T : Txt mg) (mh : mg "is_whole" = some (.ref fh)) (Fh : Fun K "is_whole" "is_whole" sWhole fh fdh) (bh : Binds K fdh ["value"] []) :
    FnOk P w K mg base CX0 2 f fd ["value", "least", "most"] spWithin := by
  have G : FnOk P w K mg base CX0 1 fh fdh ["value"] spWhole := ok_whole Fh T
  refine F.ok scWithin (fun vs H Q E h => ?_) (fun cdv A outer s H vs Q E hr h => ?_)
  · obtain ⟨i, a, b, rfl, _⟩ := h
    rfl
  · obtain ⟨i, a, b, rfl, q⟩ := h
    refine ⟨_, pss_one (ps_ret (pe_and (pe_call G hr rfl mh Fh.kp bh .nil pass0 (pa_cons (pv 0) pa_nil)) (pe_one (pe_chain op_le op_le (pv 1) (pv 0) (pv 2))))), ?_⟩
    refine ⟨_, rfl, i, rfl, true, rfl, iteT ?_⟩
    refine ⟨_, rfl, _, rfl, _, _, rfl, rfl, _, rfl, ?_⟩
    by_cases h1 : a ≤ i
    · rw [decide_eq_true h1]
      refine iteT ⟨_, rfl, _, _, rfl, rfl, ?_⟩
      show Q (V.bl (decide (i ≤ b))) H
      by_cases h2 : i ≤ b
      · rw [decide_eq_true h2]; rw [decide_eq_true ⟨h1, h2⟩] at q; exact q
      · rw [decide_eq_false h2]; rw [decide_eq_false fun z => h2 z.2] at q; exact q
    · rw [decide_eq_false h1]
      refine iteF ?_
      rw [decide_eq_false fun z => h1 z.1] at q; exact q
theorem scTwo : FnScope ["places", "one", "other", "last"] ["places", "one", "other"] (defScope sTwo) := ⟨rfl, rfl, rfl, by decide +kernel, rfl, by decide +kernel, by decide +kernel⟩
theorem ok_two {f fh : Addr} {fd fdh : FuncData} (F : Fun K "are_two_places" "are_two_places" sTwo f fd) (mh : mg "is_within" = some (.ref fh)) (kh : PySem.W.keepIn K (.ref fh) = true) (bh : Binds K fdh ["value", "least", "most"] [])
    (G : FnOk P w K mg base CX0 2 fh fdh ["value", "least", "most"] spWithin) :
    FnOk P w K mg base CX0 3 f fd ["places", "one", "other"] spTwo := by
  refine F.ok scTwo (fun vs H Q E h => ?_) (fun cdv A outer s H vs Q E hr h => ?_)
  · obtain ⟨i, a, b, rfl, _⟩ := h
    rfl
  · obtain ⟨n, a, b, rfl, q⟩ := h
    refine ⟨_, pss_cons (ps_set (i := 3) scTwo.nd rfl (Or.inl rfl) (pe_op op_sub (pv 0) pe_int))
      (pss_one (ps_ret (pe_and (pe_call G hr rfl mh kh bh .nil pass0 (pa_cons (pv 1) (pa_cons pe_int (pa_cons (pv 3) pa_nil))))
        (pe_and (pe_call G hr rfl mh kh bh .nil pass0 (pa_cons (pv 2) (pa_cons pe_int (pa_cons (pv 3) pa_nil)))) (pe_one (pe_cmpR op_ne (pv 1) (pv 2) (nomark _))))))), ?_⟩
    refine ⟨_, rfl, _, _, rfl, rfl, ?_⟩
    refine ⟨_, rfl, _, rfl, a, 0, n - 1, rfl, _, rfl, ?_⟩
    unfold okP at q
    dsimp only at q
    by_cases h1 : 0 ≤ a ∧ a ≤ n - 1
    · rw [decide_eq_true h1] at q ⊢
      rw [Bool.true_and] at q
      refine iteT ⟨_, rfl, _, rfl, b, 0, n - 1, rfl, _, rfl, ?_⟩
      by_cases h2 : 0 ≤ b ∧ b ≤ n - 1
      · rw [decide_eq_true h2] at q ⊢
        rw [Bool.true_and] at q
        refine iteT ⟨_, rfl, _, rfl, rfl, ?_⟩
        have e : decide (V.int a = V.int b) = decide (a = b) := by
          by_cases h : a = b
          · rw [h]; simp
          · rw [decide_eq_false h, decide_eq_false fun z => h (by injection z)]
        show Q (V.bl (!decide (V.int a = V.int b))) H
        rw [e]; exact q
      · rw [decide_eq_false h2] at q ⊢
        exact iteF q
    · rw [decide_eq_false h1] at q ⊢
      exact iteF q
end
end K11
namespace L2
open PySem
theorem made_heap {H1 : Hp} {e d : Addr} {o o' x : HO} (he : H1 e = none) (hd : upd H1 e o d = none) :
    Same H1 (del (upd (upd (upd H1 e o) d x) e o') e) ∧ (del (upd (upd (upd H1 e o) d x) e o') e) d = some x ∧ (upd (upd (upd H1 e o) d x) e o') e = some o' := by
  have hde : d ≠ e := fun z => by rw [z, upd_same] at hd; cases hd
  have hd1 : H1 d = none := by rw [upd_ne hde] at hd; exact hd
  refine ⟨fun b u q => ?_, ?_, upd_same⟩
  · have hbe : b ≠ e := ne_of_none q he
    have hbd : b ≠ d := ne_of_none q hd1
    rw [del_ne hbe, upd_ne hbe, upd_ne hbd, upd_ne hbe]; exact q
  · rw [del_ne hde, upd_ne hde, upd_same]
end L2
namespace K11
open PySem L2
inductive Due | places | many (k : Nat) | lane (k : Nat) | good
noncomputable def badIx (n : Int) (ps : List (Int × Int)) : Option Nat := ps.findIdx? fun p => !okP n p
noncomputable def dueOf (n : Int) (ps : List (Int × Int)) : Due := if decide (1 ≤ n ∧ n ≤ 12) = false then .places else if 40 < ps.length then .many ps.length else match badIx n ps with | some k => .lane k | none => .good
structure Cs where
  np : Addr
  tm : Addr
  nr : Addr
  land : Addr
noncomputable def spXi (K : PySem.W.Frag) (fld : Str) : Sp := fun vs H Q _ => ∃ e C tt v, vs = [.ref e, v] ∧ H e = some (ExcAt e C tt none) ∧ XCls K C ∧ PySem.W.findIn K (.ref C) fld = some none ∧ ∀ d, H d = none → Q .non (upd (upd H d (.xd [(fld, v)])) e (ExcAt e C tt (some d)))
noncomputable def LandAt (H : Hp) (c : Cs) (x dx t : Addr) (n : Int) (tvs : List V) (ps : List (Int × Int)) : Prop := H x = some (.ins c.land dx [("places", .int n), ("lanes", .ref t)]) ∧ H t = some (.tup tvs) ∧ Lns H tvs ps
noncomputable def spInit (K : PySem.W.Frag) (c : Cs) : Sp := fun vs H Q E => ∃ x dx n p lvs ps, vs = [.ref x, .int n, .ref p] ∧ H x = some (.ins c.land dx []) ∧ SqL K H p lvs ∧ Lns H lvs ps ∧ lvs.length ≤ 1000 ∧
  (dueOf n ps = .places → ∀ H', Same H H' → E (.ref c.np) none H') ∧
  (∀ k, dueOf n ps = .many k → ∀ H' d, Same H H' → H' d = some (.xd [("many", .int k)]) → E (.ref c.tm) (some d) H') ∧
  (∀ k, dueOf n ps = .lane k → ∀ H' d, Same H H' → H' d = some (.xd [("lane", .int k)]) → E (.ref c.nr) (some d) H') ∧
  (dueOf n ps = .good → ∀ H' t tvs, (∀ b o, b ≠ x → H b = some o → H' b = some o) → LandAt H' c x dx t n tvs ps → Q .non H')
noncomputable def tupScope (s : Stmt) : Scope := match s with
  | .Assign _ (.Call _ [.ListComp _ _ sc _] _ _) _ => sc
  | _ => { kind := .function, names := [], isGenerator := false, isCoroutine := false }
noncomputable def retScope (s : Stmt) : Scope := match defBody s with
  | .Return (some (.ListComp _ _ sc _)) _ :: _ => sc
  | _ => { kind := .function, names := [], isGenerator := false, isCoroutine := false }
noncomputable abbrev NI : List Str := ["self", "places", "lanes", "lane", "pair"]
structure Exc (K : PySem.W.Frag) (mg : Str → Option Value) (c : Cs) (f1 f2 : Addr) (d1 d2 : FuncData) : Prop where
  mnp : mg "NoPlaces" = some (.ref c.np)
  xnp : excInI K c.np none = true
  knp : PySem.W.keepIn K (.ref c.np) = true
  mtm : mg "TooMany" = some (.ref c.tm)
  xtm : excInI K c.tm (some (.ref f1)) = true
  ktm : PySem.W.keepIn K (.ref c.tm) = true
  ctm : XCls K c.tm
  ntm : PySem.W.findIn K (.ref c.tm) "many" = some none
  itm : PySem.W.isFn K (.ref f1) = true
  Ftm : Fun K "__init__" "TooMany.__init__" sTM f1 d1
  btm : Binds K d1 ["self", "many"] []
  mnr : mg "NoRoad" = some (.ref c.nr)
  xnr : excInI K c.nr (some (.ref f2)) = true
  knr : PySem.W.keepIn K (.ref c.nr) = true
  cnr : XCls K c.nr
  nnr : PySem.W.findIn K (.ref c.nr) "lane" = some none
  inr : PySem.W.isFn K (.ref f2) = true
  Fnr : Fun K "__init__" "NoRoad.__init__" sNR f2 d2
  bnr : Binds K d2 ["self", "lane"] []
structure Lnd (K : PySem.W.Frag) (c : Cs) : Prop where
  cl : Cls K c.land
  np : NoAttr K c.land "places"
  nl : NoAttr K c.land "lanes"
theorem badIx_none {n : Int} {ps : List (Int × Int)} (h : ∀ p ∈ ps, okP n p = true) : badIx n ps = none := by
  unfold badIx
  rw [List.findIdx?_eq_none_iff]
  intro p hp
  rw [h p hp]; rfl
theorem badIx_some {n : Int} {ps : List (Int × Int)} {i : Nat} {p : Int × Int} (h : ∀ q ∈ ps.take i, okP n q = true) (hi : ps[i]? = some p) (hb : okP n p = false) : badIx n ps = some i := by
  unfold badIx
  rw [List.findIdx?_eq_some_iff_getElem]
  obtain ⟨hlt, e⟩ := List.getElem?_eq_some_iff.mp hi
  refine ⟨hlt, by rw [e, hb]; rfl, fun j hj => ?_⟩
  have hm : ps[j]'(Nat.lt_trans hj hlt) ∈ ps.take i := List.mem_take_iff_getElem.mpr ⟨j, by omega, rfl⟩
  rw [h _ hm]; simp
/-- all but the instance at x is as it was -/
noncomputable def Off (x : Addr) (H H' : Hp) : Prop := ∀ b o, b ≠ x → H b = some o → H' b = some o
theorem Off.sq {K : PySem.W.Frag} {H H' : Hp} {x p C dx : Addr} {fs : List (Str × V)} {xs : List V} (o : Off x H H') (hx : H x = some (.ins C dx fs)) (h : SqL K H p xs) : SqL K H' p xs := by
  rcases h with (h | ⟨ob, h⟩) | h
  · exact .inl (.inl (o _ _ (ne_of h hx (by intro z; cases z)) h))
  · exact .inl (.inr ⟨ob, o _ _ (ne_of h hx (by intro z; cases z)) h⟩)
  · exact .inr h
theorem Off.lns {H H' : Hp} {x C dx : Addr} {fs : List (Str × V)} (o : Off x H H') (hx : H x = some (.ins C dx fs)) : ∀ {vs : List V} {ps : List (Int × Int)}, Lns H vs ps → Lns H' vs ps
  | _, _, .nil => .nil
  | _, _, .cons ⟨t, e, q⟩ r => .cons ⟨t, e, o _ _ (ne_of q hx (by intro z; cases z)) q⟩ (Off.lns o hx r)
theorem Off.same {H H1 H2 : Hp} {x : Addr} (a : Off x H H1) (b : Same H1 H2) : Off x H H2 := fun c o n e => b _ _ (a c o n e)
section
variable {P : Program} {w : World} {K : PySem.W.Frag} {mg : Str → Option Value} {base : Heap}
theorem scTM : FnScope ["self", "many"] ["self", "many"] (defScope sTM) := ⟨rfl, rfl, rfl, by decide +kernel, rfl, by decide +kernel, by decide +kernel⟩
theorem scNR : FnScope ["self", "lane"] ["self", "lane"] (defScope sNR) := ⟨rfl, rfl, rfl, by decide +kernel, rfl, by decide +kernel, by decide +kernel⟩
theorem ok_tm {f : Addr} {fd : FuncData} (F : Fun K "__init__" "TooMany.__init__" sTM f fd) : FnOk P w K mg base CX0 1 f fd ["self", "many"] (spXi K "many") := by
  refine F.ok scTM (fun vs H Q E h => ?_) (fun cdv A outer s H vs Q E hr h => ?_)
  · obtain ⟨e, C, tt, v, rfl, _⟩ := h
    rfl
  · obtain ⟨e, C, tt, v, rfl, h1, h2, h3, q⟩ := h
    refine ⟨_, pss_one (ps_fldX (pv 0) (pv 1) rfl), ?_⟩
    exact ⟨_, rfl, _, rfl, e, C, tt, rfl, h1, h2, h3, q⟩
theorem ok_nr {f : Addr} {fd : FuncData} (F : Fun K "__init__" "NoRoad.__init__" sNR f fd) : FnOk P w K mg base CX0 1 f fd ["self", "lane"] (spXi K "lane") := by
  refine F.ok scNR (fun vs H Q E h => ?_) (fun cdv A outer s H vs Q E hr h => ?_)
  · obtain ⟨e, C, tt, v, rfl, _⟩ := h
    rfl
  · obtain ⟨e, C, tt, v, rfl, h1, h2, h3, q⟩ := h
    refine ⟨_, pss_one (ps_fldX (pv 0) (pv 1) rfl), ?_⟩
    exact ⟨_, rfl, _, rfl, e, C, tt, rfl, h1, h2, h3, q⟩
theorem scInit : FnScope NI ["self", "places", "lanes"] (defScope sInit) := ⟨rfl, rfl, rfl, by decide +kernel, rfl, by decide +kernel, by decide +kernel⟩
theorem bkInit : Blk NI (defScope sInit) (tupScope ((defBody sInit).getD 4 (.Pass ⟨0, 0, 0, 0⟩))) [] [] := ⟨rfl, by decide +kernel, by decide +kernel, by decide +kernel, rfl, by decide +kernel⟩
theorem ndPair : (["pair"] : List Str).Nodup := by decide +kernel
theorem ok_init {c : Cs} {f fw ft f1 f2 : Addr} {fd dw dt d1 d2 : FuncData} {t1 t2 : Tok} (F : Fun K "__init__" "Land.__init__" sInit f fd) (T : Txt mg) (L : Lnd K c) (X : Exc K mg c f1 f2 d1 d2)
    (mw : mg "is_within" = some (.ref fw)) (kw : PySem.W.keepIn K (.ref fw) = true) (bw : Binds K dw ["value", "least", "most"] []) (Gw : FnOk P w K mg base CX0 2 fw dw ["value", "least", "most"] spWithin)
    (mt : mg "are_two_places" = some (.ref ft)) (kt : PySem.W.keepIn K (.ref ft) = true) (bt : Binds K dt ["places", "one", "other"] []) (Gt : FnOk P w K mg base CX0 3 ft dt ["places", "one", "other"] spTwo)
    (mp : mg "MOST_PLACES" = some (.int 12 t1)) (ml : mg "MOST_LANES" = some (.int 40 t2)) :
    FnOk P w K mg base (CXe P w) 4 f fd ["self", "places", "lanes"] (spInit K c) := by
  have Gm : FnOk P w K mg base CX0 1 f1 d1 ["self", "many"] (spXi K "many") := ok_tm X.Ftm
  have Gr : FnOk P w K mg base CX0 1 f2 d2 ["self", "lane"] (spXi K "lane") := ok_nr X.Fnr
  refine F.okX scInit (fun vs H Q E h => ?_) (fun cdv A outer s H vs Q E hr h => ?_)
  · obtain ⟨x, dx, n, p, lvs, ps, rfl, _⟩ := h
    rfl
  · obtain ⟨x, dx, n, p, lvs, ps, rfl, hx, hp, hl, hlen, h1, h2, h3, h4⟩ := h
    have hr2 : Room 2 _ := hr.mono (by decide)
    refine ⟨_, pss_cons (ps_if (pt_not (pt_val (pe_call Gw hr2 rfl mw kw bw .nil pass0 (pa_cons (pv 1) (pa_cons pe_int (pa_cons (pe_glob (v := .int 12) rfl mp ⟨_, rfl⟩) pa_nil))))))
        (pss_one (ps_raise rfl X.xnp passX_def (px_plain X.xnp X.knp rfl rfl X.mnp (pa_cons pe_str pa_nil)))) pss_nil)
      (pss_cons (ps_if (pt_cmpR op_gt (pe_callB call_len_seq rfl T.len PySem.boot_len (pa_cons (pv 2) pa_nil)) (pe_glob (v := .int 40) rfl ml ⟨_, rfl⟩) (nomark _))
        (pss_one (ps_raise rfl X.xtm passX_def (px_init X.xtm X.itm X.ktm Gm hr2 X.btm rfl X.mtm (pa_cons (pe_callB call_len_seq rfl T.len PySem.boot_len (pa_cons (pv 2) pa_nil)) pa_nil)))) pss_nil)
      (pss_cons (ps_for own_def rfl (pi_enumL rfl T.enum (pa_cons (pv 2) pa_nil)) (pg_tup rfl (pgs_cons (pg_name (i := 3) scInit.nd rfl (Or.inl rfl)) (pgs_cons (pg_name (i := 4) scInit.nd rfl (Or.inl rfl)) pgs_nil)))
        (pss_one (ps_if (pt_not (pt_val (pe_call Gt hr rfl mt kt bt .nil pass0 (pa_cons (pv 1) (pa_cons (pe_ix ix_tup (pv 4) pe_int (fun _ _ => rfl)) (pa_cons (pe_ix ix_tup (pv 4) pe_int (fun _ _ => rfl)) pa_nil))))))
          (pss_one (ps_raise rfl X.xnr passX_def (px_init X.xnr X.inr X.knr Gr hr2 X.bnr rfl X.mnr (pa_cons (pv 3) pa_nil)))) pss_nil)))
      (pss_cons (ps_fld (pv 0) (pv 1) rfl)
      (pss_one (ps_fld (pv 0) (pe_callTy call_tuple_of rfl T.tuple PySem.Pv.boot_tuple (pa_cons (pe_comp (own := ["pair"]) (capN := []) (cap := []) bkInit rfl (pi_list (pv 2))
        (fun C s' H' fp => ⟨pg_name (i := 0) ndPair rfl (Or.inl rfl), pts_nil, pe_tup (pa_cons (pe_ix (show IxR _ (rIxT K) from ix_tup) (pv 0) pe_int (fun _ _ => rfl)) (pa_cons (pe_ix (show IxR _ (rIxT K) from ix_tup) (pv 0) pe_int (fun _ _ => rfl)) pa_nil))⟩)) pa_nil)) rfl))))), ?_⟩
    -- 1. the places
    refine ⟨_, rfl, n, 1, 12, rfl, _, rfl, ?_⟩
    by_cases hn : 1 ≤ n ∧ n ≤ 12
    rotate_left
    · rw [decide_eq_false hn]
      refine iteT ⟨by show 1 ≤ sizeLine; decide, ?_⟩
      exact h1 (by unfold dueOf; rw [if_pos (decide_eq_false hn)]) H (Same.refl H)
    rw [decide_eq_true hn]
    refine iteF ?_
    have hps : lvs.length = ps.length := Paired.length hl
    -- 2. how many
    refine ⟨_, rfl, p, _, rfl, .inl hp, _, _, rfl, rfl, _, rfl, ?_⟩
    by_cases hm : 40 < ps.length
    · rw [decide_eq_true (show (40 : Int) < (lvs.length : Nat) by omega)]
      refine iteT ⟨_, rfl, p, _, rfl, .inl hp, by show 1 ≤ sizeLine; decide, fun e tt he => ⟨e, _, tt, _, rfl, upd_same, X.ctm, X.ntm, fun d hd => ⟨rfl, ?_⟩⟩⟩
      obtain ⟨m1, m2, m3⟩ := made_heap (o := ExcAt e c.tm tt none) (o' := ExcAt e c.tm tt (some d)) (x := .xd [("many", .int (lvs.length : Nat))]) he hd
      refine ⟨some d, m3, h2 ps.length ?_ _ d m1 (by rw [m2, hps])⟩
      unfold dueOf
      rw [decide_eq_true hn, if_neg (by decide), if_pos hm]
    rw [decide_eq_false (show ¬ (40 : Int) < (lvs.length : Nat) by omega)]
    refine iteF ?_
    -- 3. each lane
    refine ⟨_, rfl, p, rfl, ⟨_, hp⟩, for_enum (sq := fun H => SqL K H p) (xs := lvs) (fun i σ H2 => ∃ a b : Option V, Same H H2 ∧ σ = [some (.ref x), some (.int n), some (.ref p), a, b] ∧ ∀ q ∈ ps.take i, okP n q = true)
      ⟨none, none, Same.refl H, rfl, fun q hq => by simp at hq⟩ (fun i σ H2 _ ⟨a, b, s2, _⟩ => s2.seq hp) ?_ ?_⟩
    · rintro i v q σ H2 hv ⟨a, b, s2, rfl, hall⟩ hq
      obtain ⟨pr, hpr, t, rfl, ht⟩ := Lns.get hl hv
      have s3 : Same H (upd H2 q (.tup [.int i, .ref t])) := s2.new hq
      refine ⟨q, _, rfl, SqT.of upd_same, rfl, _, _, rfl, _, _, rfl, rfl, ?_⟩
      have htt : SqT K (upd H2 q (.tup [.int i, .ref t])) t [.int pr.1, .int pr.2] := SqT.of (s3 _ _ ht)
      refine ⟨_, rfl, _, rfl, t, _, 0, _, rfl, rfl, htt, atI_nat (j := 0) rfl, ?_⟩
      refine ⟨_, rfl, t, _, 1, _, rfl, rfl, htt, atI_nat (j := 1) rfl, n, pr.1, pr.2, rfl, _, rfl, ?_⟩
      cases ho : okP n (pr.1, pr.2) with
      | true =>
        refine iteF ⟨some (.int i), some (.ref t), s3, rfl, fun z hz => ?_⟩
        rw [List.take_succ, hpr] at hz
        rcases List.mem_append.mp hz with hz | hz
        · exact hall z hz
        · have : z = pr := by simpa using hz
          rw [this]; exact ho
      | false =>
        refine iteT ⟨_, rfl, by show 1 ≤ sizeLine; decide, fun e tt he => ⟨e, _, tt, _, rfl, upd_same, X.cnr, X.nnr, fun d hd => ⟨rfl, ?_⟩⟩⟩
        obtain ⟨m1, m2, m3⟩ := made_heap (o := ExcAt e c.nr tt none) (o' := ExcAt e c.nr tt (some d)) (x := .xd [("lane", .int i)]) he hd
        refine ⟨some d, m3, h3 i ?_ _ d (s3.trans m1) m2⟩
        unfold dueOf
        rw [decide_eq_true hn, if_neg (by decide), if_neg hm, badIx_some hall hpr ho]
    · rintro σ H2 ⟨a, b, s2, rfl, hall⟩
      have hgood : dueOf n ps = .good := by
        unfold dueOf
        rw [decide_eq_true hn, if_neg (by decide), if_neg hm, badIx_none (fun z hz => hall z (by rw [hps, List.take_length]; exact hz))]
      -- 4. the places are stored
      have hx2 := s2 _ _ hx
      refine ⟨_, rfl, _, rfl, x, c.land, dx, _, rfl, hx2, L.cl, L.np, by show 0 < 1000; decide, ?_⟩
      -- 5. the lanes
      generalize hH3 : upd H2 x (.ins c.land dx (putF "places" (.int n) [])) = H3
      have o3 : Off x H H3 := fun b o hb e => by rw [← hH3, upd_ne hb]; exact s2 _ _ e
      have x3 : H3 x = some (.ins c.land dx [("places", .int n)]) := by rw [← hH3, upd_same]; rfl
      have l3 : Lns H3 lvs ps := o3.lns hx hl
      have p3 : SqL K H3 p lvs := o3.sq hx hp
      refine ⟨_, rfl, p, rfl, ⟨_, p3⟩, comp_gen lvs.length (by rw [PySem.sizeLine_eq]; omega) (fun i acc H4 => Same H3 H4 ∧ acc.length = i ∧ Lns H4 acc (ps.take i)) ⟨Same.refl _, rfl, .nil⟩ (fun i acc H4 h => Nat.le_of_eq h.2.1) ?_ ?_⟩
      · rintro i acc H4 hi ⟨s4, ha, hA⟩
        have q4 := s4.seq p3
        refine ⟨⟨lvs, lvs[i], q4, by simp [hi]⟩, fun y H5 ⟨e5, hy⟩ => ?_⟩
        subst e5
        have hy := hy lvs q4
        obtain ⟨pr, hpr, t, rfl, ht⟩ := Lns.get l3 hy
        have htt : SqT K H5 t [.int pr.1, .int pr.2] := SqT.of (s4 _ _ ht)
        refine ⟨_, rfl, t, _, 0, _, rfl, rfl, htt, atI_nat (j := 0) rfl, ?_⟩
        refine ⟨_, rfl, t, _, 1, _, rfl, rfl, htt, atI_nat (j := 1) rfl, by show 2 ≤ sizeLine; decide, fun r hr' => ?_⟩
        refine ⟨s4.new hr', by rw [List.length_append, ha]; rfl, ?_⟩
        rw [List.take_succ, hpr]
        exact Lns.snoc ⟨r, rfl, upd_same⟩ (Lns.same (Same.new (Same.refl _) hr') hA)
      · rintro acc H4 ⟨s4, ha, hA⟩
        have q4 := s4.seq p3
        refine ⟨⟨lvs, q4, Nat.le_refl _⟩, fun D hD => ?_⟩
        have s5 : Same H3 (upd H4 D (.lst acc)) := s4.new hD
        refine ⟨D, acc, rfl, .inl ⟨SqL.of upd_same, fun t ht => ?_⟩⟩
        have s6 : Same H3 (upd (upd H4 D (.lst acc)) t (.tup acc)) := s5.new ht
        have x6 := s6 _ _ x3
        refine ⟨_, rfl, x, c.land, dx, _, rfl, x6, L.cl, L.nl, by show 1 < 1000; decide, ?_⟩
        have htx : t ≠ x := fun z => by rw [z, s5 _ _ x3] at ht; cases ht
        refine h4 hgood _ t acc (fun b o hb e => ?_) ⟨by rw [upd_same]; rfl, by rw [upd_ne htx, upd_same], ?_⟩
        · rw [upd_ne hb]; exact s6 _ _ (o3 b o hb e)
        · have hA' : Lns H4 acc ps := by rw [hps, List.take_length] at hA; exact hA
          have x4 := s4 _ _ x3
          have hA6 : Lns (upd (upd H4 D (.lst acc)) t (.tup acc)) acc ps := Lns.same (Same.new (Same.new (Same.refl _) hD) ht) hA'
          exact Off.lns (x := x) (fun b o hb e => by rw [upd_ne hb]; exact e) x6 hA6
end
end K11
namespace K11
open PySem L2
noncomputable def ixV (sel : Int × Int → Int) (ps : List (Int × Int)) (pl : Int) (m : Nat) : List V := ((List.range m).filter fun k => decide (sel (ps.getD k (0, 0)) = pl)).map fun k : Nat => V.int k
noncomputable def spIx (c : Cs) (sel : Int × Int → Int) : Sp := fun vs H Q _ => ∃ (x dx t : Addr) (n : Int) (tvs : List V) (ps : List (Int × Int)) (pl : Int), vs = [.ref x, .int pl] ∧ LandAt H c x dx t n tvs ps ∧ ps.length ≤ 1000 ∧
  ∀ H' D, Same H H' → H' D = none → Q (.ref D) (upd H' D (.lst (ixV sel ps pl ps.length)))
theorem ixV_succ {sel : Int × Int → Int} {ps : List (Int × Int)} {pl : Int} {i : Nat} {pr : Int × Int} (h : ps[i]? = some pr) : ixV sel ps pl (i + 1) = if decide (sel pr = pl) then ixV sel ps pl i ++ [V.int i] else ixV sel ps pl i := by
  have e : ps.getD i (0, 0) = pr := by rw [List.getD_eq_getElem?_getD, h]; rfl
  unfold ixV
  rw [List.range_succ, List.filter_append]
  by_cases hs : sel pr = pl
  · rw [if_pos (decide_eq_true hs), List.filter_cons_of_pos (by rw [e]; exact decide_eq_true hs)]; simp
  · rw [if_neg (by rw [decide_eq_false hs]; decide), List.filter_cons_of_neg (by rw [e, decide_eq_false hs]; decide)]; simp
theorem ixV_len {sel : Int × Int → Int} {ps : List (Int × Int)} {pl : Int} {i : Nat} : (ixV sel ps pl i).length ≤ i := by
  unfold ixV
  rw [List.length_map]
  have := List.length_filter_le (fun k => decide (sel (ps.getD k (0, 0)) = pl)) (List.range i)
  rwa [List.length_range] at this
section
variable {P : Program} {w : World} {K : PySem.W.Frag} {mg : Str → Option Value} {base : Heap}
theorem scOut : FnScope ["self", "place"] ["self", "place"] (defScope sOut) := ⟨rfl, rfl, rfl, by decide +kernel, rfl, by decide +kernel, by decide +kernel⟩
theorem bkOut : Blk ["self", "place"] (defScope sOut) (retScope sOut) ["place"] [1] := ⟨rfl, by decide +kernel, by decide +kernel, by decide +kernel, rfl, by decide +kernel⟩
theorem scInto : FnScope ["self", "place"] ["self", "place"] (defScope sInto) := ⟨rfl, rfl, rfl, by decide +kernel, rfl, by decide +kernel, by decide +kernel⟩
theorem bkInto : Blk ["self", "place"] (defScope sInto) (retScope sInto) ["place"] [1] := ⟨rfl, by decide +kernel, by decide +kernel, by decide +kernel, rfl, by decide +kernel⟩
theorem ndOut : (["lane", "pair", "place"] : List Str).Nodup := by decide +kernel
theorem int_eq (a b : Int) : decide (V.int a = V.int b) = decide (a = b) := by
  by_cases h : a = b
  · rw [h]; simp
  · rw [decide_eq_false h, decide_eq_false fun z => h (by injection z)]
theorem ok_out {c : Cs} {f : Addr} {fd : FuncData} (F : Fun K "out_of" "Land.out_of" sOut f fd) (T : Txt mg) (L : Lnd K c) : FnOk P w K mg base CX0 1 f fd ["self", "place"] (spIx c Prod.fst) := by
  refine F.ok scOut (fun vs H Q E h => ?_) (fun cdv A outer s H vs Q E hr h => ?_)
  · obtain ⟨x, dx, t, n, tvs, ps, pl, rfl, _⟩ := h
    rfl
  · obtain ⟨x, dx, t, n, tvs, ps, pl, rfl, ⟨hx, ht, hl⟩, hlen, q⟩ := h
    refine ⟨_, pss_one (ps_ret (pe_comp (own := ["lane", "pair"]) (capN := ["place"]) (cap := [1]) bkOut rfl (pi_enumT rfl T.enum (pa_cons (pe_fld (pv 0) rfl) pa_nil))
      (fun C s' H' fp => ⟨(show PG _ _ (gTup K 2 _) from pg_tup rfl (pgs_cons (pg_name (i := 0) ndOut rfl (Or.inl rfl)) (pgs_cons (pg_name (i := 1) ndOut rfl (Or.inl rfl)) pgs_nil))),
        pts_one (pt_cmpR op_eq (pe_ix (show IxR _ (rIxT K) from ix_tup) (pv 1) pe_int (fun _ _ => rfl)) (pv 2) (nomark _)), pv 0⟩))), ?_⟩
    have hps : tvs.length = ps.length := Paired.length hl
    refine ⟨_, rfl, x, c.land, dx, _, _, rfl, hx, L.cl, L.nl, rfl, t, rfl, ⟨_, SqT.of ht⟩, comp_gen ps.length (by rw [PySem.sizeLine_eq]; omega) (fun i acc H4 => Same H H4 ∧ acc = ixV Prod.fst ps pl i) ⟨Same.refl _, rfl⟩ (fun i acc H4 h => by rw [h.2]; exact ixV_len) ?_ ?_⟩
    · rintro i acc H4 hi ⟨s4, rfl⟩
      have q4 : SqT K H4 t tvs := SqT.of (s4 _ _ ht)
      refine ⟨⟨tvs, tvs[i]'(by omega), q4, by simp [hps, hi]⟩, fun y H5 ⟨r, hr4, ey, h5⟩ => ?_⟩
      obtain ⟨v, hv, rfl⟩ := h5 tvs q4
      subst ey
      obtain ⟨pr, hpr, u, rfl, hu⟩ := Lns.get hl hv
      have s5 : Same H (upd H4 r (.tup [.int i, .ref u])) := s4.new hr4
      refine ⟨r, _, rfl, SqT.of upd_same, rfl, _, _, rfl, _, _, rfl, rfl, ?_⟩
      refine ⟨_, rfl, u, _, 0, _, rfl, rfl, SqT.of (s5 _ _ hu), atI_nat (j := 0) rfl, _, rfl, rfl, _, rfl, ?_⟩
      rw [int_eq, ixV_succ hpr]
      cases hd : decide (pr.1 = pl) with
      | true => exact iteT ⟨_, rfl, s5, by simp [hd]⟩
      | false => exact iteF ⟨s5, by simp [hd]⟩
    · rintro acc H4 ⟨s4, rfl⟩
      exact ⟨⟨tvs, SqT.of (s4 _ _ ht), hps⟩, fun D hD => q H4 D s4 hD⟩
theorem ok_into {c : Cs} {f : Addr} {fd : FuncData} (F : Fun K "into" "Land.into" sInto f fd) (T : Txt mg) (L : Lnd K c) : FnOk P w K mg base CX0 1 f fd ["self", "place"] (spIx c Prod.snd) := by
  refine F.ok scInto (fun vs H Q E h => ?_) (fun cdv A outer s H vs Q E hr h => ?_)
  · obtain ⟨x, dx, t, n, tvs, ps, pl, rfl, _⟩ := h
    rfl
  · obtain ⟨x, dx, t, n, tvs, ps, pl, rfl, ⟨hx, ht, hl⟩, hlen, q⟩ := h
    refine ⟨_, pss_one (ps_ret (pe_comp (own := ["lane", "pair"]) (capN := ["place"]) (cap := [1]) bkInto rfl (pi_enumT rfl T.enum (pa_cons (pe_fld (pv 0) rfl) pa_nil))
      (fun C s' H' fp => ⟨(show PG _ _ (gTup K 2 _) from pg_tup rfl (pgs_cons (pg_name (i := 0) ndOut rfl (Or.inl rfl)) (pgs_cons (pg_name (i := 1) ndOut rfl (Or.inl rfl)) pgs_nil))),
        pts_one (pt_cmpR op_eq (pe_ix (show IxR _ (rIxT K) from ix_tup) (pv 1) pe_int (fun _ _ => rfl)) (pv 2) (nomark _)), pv 0⟩))), ?_⟩
    have hps : tvs.length = ps.length := Paired.length hl
    refine ⟨_, rfl, x, c.land, dx, _, _, rfl, hx, L.cl, L.nl, rfl, t, rfl, ⟨_, SqT.of ht⟩, comp_gen ps.length (by rw [PySem.sizeLine_eq]; omega) (fun i acc H4 => Same H H4 ∧ acc = ixV Prod.snd ps pl i) ⟨Same.refl _, rfl⟩ (fun i acc H4 h => by rw [h.2]; exact ixV_len) ?_ ?_⟩
    · rintro i acc H4 hi ⟨s4, rfl⟩
      have q4 : SqT K H4 t tvs := SqT.of (s4 _ _ ht)
      refine ⟨⟨tvs, tvs[i]'(by omega), q4, by simp [hps, hi]⟩, fun y H5 ⟨r, hr4, ey, h5⟩ => ?_⟩
      obtain ⟨v, hv, rfl⟩ := h5 tvs q4
      subst ey
      obtain ⟨pr, hpr, u, rfl, hu⟩ := Lns.get hl hv
      have s5 : Same H (upd H4 r (.tup [.int i, .ref u])) := s4.new hr4
      refine ⟨r, _, rfl, SqT.of upd_same, rfl, _, _, rfl, _, _, rfl, rfl, ?_⟩
      refine ⟨_, rfl, u, _, 1, _, rfl, rfl, SqT.of (s5 _ _ hu), atI_nat (j := 1) rfl, _, rfl, rfl, _, rfl, ?_⟩
      rw [int_eq, ixV_succ hpr]
      cases hd : decide (pr.2 = pl) with
      | true => exact iteT ⟨_, rfl, s5, by simp [hd]⟩
      | false => exact iteF ⟨s5, by simp [hd]⟩
    · rintro acc H4 ⟨s4, rfl⟩
      exact ⟨⟨tvs, SqT.of (s4 _ _ ht), hps⟩, fun D hD => q H4 D s4 hD⟩
end
end K11
namespace K11
open PySem L2
noncomputable def spDraw (K : PySem.W.Frag) : Sp := fun vs H Q _ => ∃ (a : Addr) (ns : List Int) (k : Int), vs = [.ref a, .int k] ∧ SqL K H a (ns.map V.int) ∧ 0 ≤ k ∧ k ≤ 1000 ∧ ∀ d H', Same H H' → Q (.int d) H'
noncomputable abbrev ND : List Str := ["_law_script", "_law_k", "_law_cell", "_law_number"]
theorem small_mod {i j : Int} (h : 0 < j ∧ j < 2 ^ 64) : -(2 ^ 64) < i % j ∧ i % j < 2 ^ 64 := by
  have h0 := Int.emod_nonneg i (show j ≠ 0 by omega)
  have h1 := Int.emod_lt_of_pos i h.1
  omega
section
variable {P : Program} {w : World} {K : PySem.W.Frag} {mg : Str → Option Value} {base : Heap}
theorem scDraw : FnScope ND ["_law_script", "_law_k"] (defScope sDraw) := ⟨rfl, rfl, rfl, by decide +kernel, rfl, by decide +kernel, by decide +kernel⟩
theorem ints_at {ns : List Int} {i : Int} (h0 : 0 ≤ i) (h1 : i < (ns.length : Nat)) : ∃ m, atI (ns.map V.int) i = some (.int m) := by
  obtain ⟨j, rfl⟩ := Int.eq_ofNat_of_zero_le h0
  have hj : j < ns.length := by omega
  exact ⟨ns[j], atI_nat (j := j) (by simp [hj])⟩
theorem ok_draw {f : Addr} {fd : FuncData} (F : Fun K "_law_draw" "_law_draw" sDraw f fd) (T : Txt mg) : FnOk P w K mg base CX0 1 f fd ["_law_script", "_law_k"] (spDraw K) := by
  refine F.ok scDraw (fun vs H Q E h => ?_) (fun cdv A outer s H vs Q E hr h => ?_)
  · obtain ⟨a, ns, k, rfl, _⟩ := h
    rfl
  · obtain ⟨a, ns, k, rfl, hS, k0, k1, q⟩ := h
    have hu := hr.units
    refine ⟨_, pss_cons (ps_set (i := 2) scDraw.nd rfl (Or.inl rfl) pe_int)
      (pss_cons (ps_if (PW.pt (pw_and (pt_cmpR (op_neI hu) (pv 0) (pe_lst pa_nil) (nomark _)) (pw_and1 (pt_cmpR op_eq (pe_op op_mod (pe_ix ix_list (pv 0) pe_int (fun _ _ => rfl)) pe_int) pe_int (nomark _)))))
        (pss_cons (ps_if (pt_cmpR op_lt (pe_op op_add pe_int (pe_op op_fdiv (pv 1) pe_int)) (pe_callB call_len_seq rfl T.len PySem.boot_len (pa_cons (pv 0) pa_nil)) (nomark _))
            (pss_one (ps_set (i := 2) scDraw.nd rfl (Or.inl rfl) (pe_ix ix_list (pv 0) (pe_op op_add pe_int (pe_op op_fdiv (pv 1) pe_int)) (fun _ _ => rfl)))) pss_nil)
          (pss_one (ps_ret (pe_op op_mod (pe_op op_shr (pv 2) (pe_op op_mul pe_int (pe_op op_mod (pv 1) pe_int))) (pe_op op_pow pe_int pe_int))))) pss_nil)
      (pss_cons (ps_if (pt_cmpR (op_neI hu) (pv 0) (pe_lst pa_nil) (nomark _)) (pss_one (ps_set (i := 2) scDraw.nd rfl (Or.inl rfl) (pe_ix ix_list (pv 0) (pe_op op_mod (pv 1) (pe_callB call_len_seq rfl T.len PySem.boot_len (pa_cons (pv 0) pa_nil))) (fun _ _ => rfl)))) pss_nil)
      (pss_cons (ps_set (i := 3) scDraw.nd rfl (Or.inl rfl) (pe_op op_mod (pe_op op_mul (pe_op op_add (pe_op op_add (pv 2) (pe_op op_mul pe_int (pv 1))) pe_int) pe_int) pe_int))
      (pss_cons (ps_set (i := 3) scDraw.nd rfl (Or.inl rfl) (pe_op op_mod (pe_op op_mul (pv 3) (pe_op op_add (pe_op op_fdiv (pv 3) pe_int) pe_int)) pe_int))
      (pss_one (ps_ret (pe_op op_mod (pe_op op_mul (pv 3) (pe_op op_add (pe_op op_fdiv (pv 3) pe_int) pe_int)) pe_int))))))), ?_⟩
    have m30a : 0 ≤ k % 30 := Int.emod_nonneg _ (by decide)
    have d30 : 0 ≤ k / 30 := Int.ediv_nonneg k0 (by decide)
    have L0 : ∀ {H' : Hp}, Same H H' → ∀ l, SqL K (upd H' l (.lst [])) l (([] : List Int).map V.int) := fun _ l => SqL.of upd_same
    refine ⟨_, rfl, by show 0 ≤ sizeLine; exact Nat.zero_le _, fun l hl => ⟨a, l, ns, [], rfl, rfl, (Same.new (Same.refl H) hl).seq hS, SqL.of upd_same, _, rfl, ?_⟩⟩
    have s1 : Same H (upd H l (.lst [])) := Same.new (Same.refl H) hl
    generalize upd H l (.lst []) = H1 at s1 ⊢
    by_cases hne : ns = []
    · refine iteNS hne (iteF ?_)
      refine ⟨_, rfl, by show 0 ≤ sizeLine; exact Nat.zero_le _, fun l2 hl2 => ⟨a, l2, ns, [], rfl, rfl, (Same.new s1 hl2).seq hS, SqL.of upd_same, _, rfl, iteNS hne ?_⟩⟩
      have s2 : Same H (upd H1 l2 (.lst [])) := Same.new s1 hl2
      generalize upd H1 l2 (.lst []) = H2 at s2 ⊢
      refine ⟨_, rfl, _, rfl, _, _, rfl, rfl, .inl ⟨by decide, by decide⟩, _, _, rfl, rfl, _, _, rfl, rfl, _, _, rfl, rfl, .inr ⟨by decide, by decide⟩, _, _, rfl, rfl, (by show (0 : Int) < 2147483647; decide), ?_⟩
      refine ⟨_, rfl, _, rfl, _, _, rfl, rfl, ⟨by decide, by decide⟩, _, _, rfl, rfl, _, _, rfl, rfl, .inl (small_mod (by decide)), _, _, rfl, rfl, (by show (0 : Int) < 2147483647; decide), ?_⟩
      exact ⟨_, rfl, _, rfl, _, _, rfl, rfl, ⟨by decide, by decide⟩, _, _, rfl, rfl, _, _, rfl, rfl, .inl (small_mod (by decide)), _, _, rfl, rfl, (by show (0 : Int) < 2147483399; decide), q _ _ s2⟩
    · have hlen : 0 < ns.length := List.length_pos_iff.mpr hne
      rw [decide_eq_false hne]
      refine iteT ?_
      obtain ⟨m0, hm0⟩ := ints_at (ns := ns) (i := 0) (by decide) (by omega)
      refine ⟨_, rfl, a, _, 0, _, rfl, rfl, s1.seq hS, hm0, _, _, rfl, rfl, (by show (0 : Int) < 2; decide), rfl, _, rfl, ?_⟩
      rw [int_eq]
      cases hodd : decide (m0 % 2 = 1) with
      | true =>
        refine iteT ?_
        have hin : ∀ cell : Int, Q (.int (cell / 2 ^ (32 * (k % 30)).toNat % 2 ^ (32 : Int).toNat)) H1 := fun cell => q _ _ s1
        have fin : ∀ cell : Int, 0 ≤ 32 * (k % 30) := fun _ => by omega
        refine ⟨_, rfl, _, _, rfl, rfl, ⟨by decide, by decide⟩, _, _, rfl, rfl, _, rfl, a, _, rfl, .inl (s1.seq hS), _, _, rfl, rfl, _, rfl, ?_⟩
        refine ite2 (fun hlt => ?_) fun _ => ?_
        · have hlt' : 1 + k / 30 < ((ns.map V.int).length : Nat) := of_decide_eq_true hlt
          rw [List.length_map] at hlt'
          obtain ⟨m1, hm1⟩ := ints_at (ns := ns) (i := 1 + k / 30) (by omega) hlt'
          refine ⟨_, rfl, _, rfl, _, _, rfl, rfl, ⟨by decide, by decide⟩, _, _, rfl, rfl, a, _, _, _, rfl, rfl, s1.seq hS, hm1, ?_⟩
          exact ⟨_, rfl, _, rfl, _, _, rfl, rfl, (by show (0 : Int) < 30; decide), _, _, rfl, rfl, .inl ⟨by decide, by decide⟩, _, _, rfl, rfl, fin 0, _, _, rfl, rfl, ⟨by decide, by decide, by decide⟩, _, _, rfl, rfl, (by show (0 : Int) < 2 ^ (32 : Int).toNat; decide), hin _⟩
        · exact ⟨_, rfl, _, rfl, _, _, rfl, rfl, (by show (0 : Int) < 30; decide), _, _, rfl, rfl, .inl ⟨by decide, by decide⟩, _, _, rfl, rfl, fin 0, _, _, rfl, rfl, ⟨by decide, by decide, by decide⟩, _, _, rfl, rfl, (by show (0 : Int) < 2 ^ (32 : Int).toNat; decide), hin _⟩
      | false =>
        refine iteF ?_
        refine ⟨_, rfl, by show 0 ≤ sizeLine; exact Nat.zero_le _, fun l2 hl2 => ⟨a, l2, ns, [], rfl, rfl, (Same.new s1 hl2).seq hS, SqL.of upd_same, _, rfl, ?_⟩⟩
        have s2 : Same H (upd H1 l2 (.lst [])) := Same.new s1 hl2
        generalize upd H1 l2 (.lst []) = H2 at s2 ⊢
        rw [decide_eq_false hne]
        refine iteT ?_
        have hl' : 0 < ((ns.map V.int).length : Int) := by rw [List.length_map]; omega
        obtain ⟨m2, hm2⟩ := ints_at (ns := ns) (i := k % ((ns.map V.int).length : Nat)) (Int.emod_nonneg _ (by omega)) (by have := Int.emod_lt_of_pos k hl'; rw [List.length_map] at this ⊢; exact this)
        refine ⟨_, rfl, _, rfl, _, rfl, a, _, rfl, .inl (s2.seq hS), _, _, rfl, rfl, hl', a, _, _, _, rfl, rfl, s2.seq hS, hm2, ?_⟩
        refine ⟨_, rfl, _, rfl, _, _, rfl, rfl, .inl ⟨by decide, by decide⟩, _, _, rfl, rfl, _, _, rfl, rfl, _, _, rfl, rfl, .inr ⟨by decide, by decide⟩, _, _, rfl, rfl, (by show (0 : Int) < 2147483647; decide), ?_⟩
        refine ⟨_, rfl, _, rfl, _, _, rfl, rfl, ⟨by decide, by decide⟩, _, _, rfl, rfl, _, _, rfl, rfl, .inl (small_mod (by decide)), _, _, rfl, rfl, (by show (0 : Int) < 2147483647; decide), ?_⟩
        exact ⟨_, rfl, _, rfl, _, _, rfl, rfl, ⟨by decide, by decide⟩, _, _, rfl, rfl, _, _, rfl, rfl, .inl (small_mod (by decide)), _, _, rfl, rfl, (by show (0 : Int) < 2147483399; decide), q _ _ s2⟩
end
end K11
namespace K11
open PySem L2
noncomputable def spHas : Sp := fun vs H Q _ => ∃ m k : Nat, vs = [.int m, .int k] ∧ Q (.bl (m.testBit k)) H
noncomputable def memV (m : Nat) : List V := (Yd.memN m (Builtin.Int.intBits (m : Int))).map fun k : Nat => V.int k
noncomputable def spMem : Sp := fun vs H Q _ => ∃ m : Nat, vs = [.int m] ∧ m < 2 ^ 400 ∧ ∀ p, H p = none → Q (.ref p) (upd H p (.lst (memV m)))
noncomputable def spSet (K : PySem.W.Frag) : Sp := fun vs H Q _ => ∃ (a : Addr) (ks : List Nat), vs = [.ref a] ∧ SqL K H a (ks.map fun k : Nat => V.int k) ∧ (∀ k ∈ ks, k ≤ 1000) ∧ Q (.int (Yd.setN ks 0 : Nat)) H
section
variable {P : Program} {w : World} {K : PySem.W.Frag} {mg : Str → Option Value} {base : Heap}
theorem scHas : FnScope ["some", "number"] ["some", "number"] (defScope sHas) := ⟨rfl, rfl, rfl, by decide +kernel, rfl, by decide +kernel, by decide +kernel⟩
theorem ok_has {f : Addr} {fd : FuncData} (F : Fun K "has" "has" sHas f fd) : FnOk P w K mg base CX0 1 f fd ["some", "number"] spHas := by
  refine F.ok scHas (fun vs H Q E h => ?_) (fun cdv A outer s H vs Q E hr h => ?_)
  · obtain ⟨m, k, rfl, _⟩ := h
    rfl
  · obtain ⟨m, k, rfl, q⟩ := h
    refine ⟨_, pss_one (ps_ret (pe_and (pe_cmpR op_ge (pv 1) pe_int (nomark _)) (pe_one (pe_cmpR op_eq (pe_op op_and (pe_op op_shr (pv 0) (pv 1)) pe_int) pe_int (nomark _))))), ?_⟩
    refine ⟨_, rfl, _, _, rfl, rfl, _, rfl, ?_⟩
    rw [decide_eq_true (show (0 : Int) ≤ (k : Int) by omega)]
    refine iteT ?_
    refine ⟨_, rfl, _, rfl, _, _, rfl, rfl, (show (0 : Int) ≤ (k : Int) by omega), _, _, rfl, rfl, rfl, ?_⟩
    have e : decide (V.int (Builtin.bitAnd ((m : Int) / 2 ^ (k : Int).toNat) 1) = V.int 1) = m.testBit k := by
      rw [Int.toNat_natCast, ← Yd.has_bit m k]
      by_cases h : Builtin.bitAnd ((m : Int) / 2 ^ k) 1 = 1
      · rw [h]; simp
      · rw [decide_eq_false h, decide_eq_false fun z => h (by injection z)]
    rw [e]
    exact q
theorem natV_get {ks : List Nat} {i : Nat} {x : V} (h : (ks.map fun k : Nat => V.int k)[i]? = some x) : ∃ k, ks[i]? = some k ∧ x = V.int k := by
  rw [List.getElem?_map] at h
  cases e : ks[i]? with
  | none => rw [e] at h; cases h
  | some k => rw [e] at h; exact ⟨k, rfl, (Option.some.inj h).symm⟩
theorem scSet : FnScope ["numbers", "some", "number"] ["numbers"] (defScope sSet) := ⟨rfl, rfl, rfl, by decide +kernel, rfl, by decide +kernel, by decide +kernel⟩
theorem ok_set {f : Addr} {fd : FuncData} (F : Fun K "set_of" "set_of" sSet f fd) : FnOk P w K mg base CX0 1 f fd ["numbers"] (spSet K) := by
  refine F.ok scSet (fun vs H Q E h => ?_) (fun cdv A outer s H vs Q E hr h => ?_)
  · obtain ⟨a, ks, rfl, _⟩ := h
    rfl
  · obtain ⟨a, ks, rfl, hS, hk, q⟩ := h
    refine ⟨_, pss_cons (ps_set (i := 1) scSet.nd rfl (Or.inl rfl) pe_int)
      (pss_cons (ps_for PassesOwn.never rfl (pi_list (pv 0)) (pg_name (i := 2) scSet.nd rfl (Or.inl rfl))
        (pss_one (ps_set (i := 1) scSet.nd rfl (Or.inl rfl) (pe_op op_or (pv 1) (pe_op op_shl pe_int (pv 2))))))
      (pss_one (ps_ret (pv 1)))), ?_⟩
    refine ⟨_, rfl, a, rfl, ⟨_, hS⟩, for_list (K := K) (a := a) (xs := ks.map fun k : Nat => V.int k) (fun i σ H2 => ∃ v : Option V, H2 = H ∧ σ = [some (.ref a), some (.int (Yd.setN (ks.take i) 0 : Nat)), v])
      ⟨none, rfl, rfl⟩ (fun i σ H2 _ ⟨_, e, _⟩ => by rw [e]; exact hS) ?_ ?_⟩
    · rintro i x σ H2 hx ⟨v, rfl, rfl⟩
      obtain ⟨k, ek, rfl⟩ := natV_get hx
      have hk' := hk k (List.mem_of_getElem? ek)
      refine ⟨_, rfl, _, rfl, _, _, rfl, rfl, ⟨(show (0 : Int) ≤ (k : Int) by omega), (show (k : Int) ≤ 1000000 by omega), (by decide)⟩, _, _, rfl, rfl, some (.int k), rfl, ?_⟩
      have e : Builtin.bitOr ((Yd.setN (ks.take i) 0 : Nat) : Int) (1 * 2 ^ (k : Int).toNat) = ((Yd.setN (ks.take (i + 1)) 0 : Nat) : Int) := by
        rw [List.take_succ, ek, Int.toNat_natCast, Int.one_mul, show (2 : Int) ^ k = ((2 ^ k : Nat) : Int) by rw [Int.natCast_pow]; rfl, Yd.bitOr_nat, Yd.setN_app]
        rfl
      show [some (V.ref a), some (V.int _), some (V.int k)] = _
      rw [e]
    · rintro σ H2 ⟨v, rfl, rfl⟩
      refine ⟨_, rfl, ?_⟩
      rw [List.length_map, List.take_length]
      exact q
theorem scMem : FnScope ["some"] ["some"] (defScope sMem) := ⟨rfl, rfl, rfl, by decide +kernel, rfl, by decide +kernel, by decide +kernel⟩
theorem ndMem : (["number", "some"] : List Str).Nodup := by decide +kernel
theorem bkMem : Blk ["some"] (defScope sMem) (retScope sMem) ["some"] [0] := ⟨rfl, by decide +kernel, by decide +kernel, by decide +kernel, rfl, by decide +kernel⟩
theorem ok_mem {f fh : Addr} {fd fdh : FuncData} (F : Fun K "members" "members" sMem f fd) (T : Txt mg) (mh : mg "has" = some (.ref fh)) (Fh : Fun K "has" "has" sHas fh fdh) (bh : Binds K fdh ["some", "number"] []) : FnOk P w K mg base CX0 2 f fd ["some"] spMem := by
  have G : FnOk P w K mg base CX0 1 fh fdh ["some", "number"] spHas := ok_has Fh
  refine F.ok scMem (fun vs H Q E h => ?_) (fun cdv A outer s H vs Q E hr h => ?_)
  · obtain ⟨m, rfl, _⟩ := h
    rfl
  · obtain ⟨m, rfl, hm, q⟩ := h
    refine ⟨_, pss_one (ps_ret (pe_comp (own := ["number"]) (capN := ["some"]) (cap := [0]) bkMem rfl
      (pi_range1 rfl T.range (pa_cons (pe_bm0 PySem.F.plainAttrs_int PySem.F.slot_int_bit_length PySem.F.type_int_bit_length mt_bits (pv 0)) pa_nil))
      (fun C s' H' fp => ⟨pg_name (i := 0) ndMem rfl (Or.inl rfl), pts_one (pt_val (pe_call G hr rfl mh Fh.kp bh .nil pass0 (pa_cons (pv 1) (pa_cons (pv 0) pa_nil)))), pv 0⟩))), ?_⟩
    have hb : Builtin.Int.intBits (m : Int) ≤ 400 := Yd.bits_le hm
    refine ⟨_, rfl, rfl, _, rfl, rfl, (Builtin.Int.intBits (m : Int) : Nat), rfl, by omega, by omega, ?_⟩
    rw [Int.toNat_natCast]
    refine comp_rng (fun k => m.testBit k) (fun k => V.int k) (by rw [PySem.sizeLine_eq]; omega) (fun i acc N hi h => ?_) q
    refine ⟨_, rfl, _, rfl, m, i, by simp, _, rfl, ?_⟩
    cases e : m.testBit i with
    | true =>
      rw [e] at h
      refine iteT ⟨_, rfl, ?_⟩
      simpa using h
    | false =>
      rw [e] at h
      exact iteF (by simpa using h)
end
/-- the ints of a list of numbers -/
noncomputable def iz (ks : List Nat) : List Int := ks.map fun k : Nat => (k : Int)
theorem iz_V (ks : List Nat) : (iz ks).map V.int = ks.map fun k : Nat => V.int k := by rw [iz, List.map_map]; rfl
theorem memV_iz (m : Nat) : memV m = (iz (Yd.memN m (Builtin.Int.intBits (m : Int)))).map V.int := by rw [iz_V]; rfl
theorem iz_rise {ks : List Nat} (h : ks.Pairwise (· < ·)) : (iz ks).Pairwise (· < ·) := by
  unfold iz
  rw [List.pairwise_map]
  exact h.imp fun z => by omega
theorem iz_mem {ks : List Nat} {k : Int} : k ∈ iz ks ↔ ∃ n ∈ ks, (n : Int) = k := List.mem_map
/-- the numbers told are the sorted ones -/
theorem mem_sorted {ks : List Nat} {ms : List Int} (h1 : ms.Pairwise (· < ·)) (h2 : ∀ k, k ∈ ms ↔ k ∈ iz ks) : iz (Yd.memN (Yd.setN ks 0) (Builtin.Int.intBits ((Yd.setN ks 0 : Nat) : Int))) = ms := by
  refine Yd.rise_ext (iz_rise (Yd.memN_rise _ _)) h1 fun k => ?_
  rw [h2 k, iz_mem, iz_mem]
  constructor
  · rintro ⟨n, hn, e⟩
    rw [Yd.memN_mem (Yd.bits_lt _), Yd.setN_bit] at hn
    exact ⟨n, by simpa using hn, e⟩
  · rintro ⟨n, hn, e⟩
    refine ⟨n, ?_, e⟩
    rw [Yd.memN_mem (Yd.bits_lt _), Yd.setN_bit]
    simpa using hn
theorem set_lt {ks : List Nat} {b : Nat} (h : ∀ k ∈ ks, k < b) : Yd.setN ks 0 < 2 ^ b := by
  rw [← Yd.due_set h]
  exact Yd.dueN_lt ks b
theorem memN_len (m b : Nat) : (Yd.memN m b).length ≤ b := by
  have := List.length_filter_le (fun k => m.testBit k) (List.range b)
  rw [List.length_range] at this
  exact this
end K11
namespace K11
open PySem L2
/-! ### rows, and which of them is bad -/
/-- a row: place, goal, came, lanes -/
structure Rw where
  p : Int
  g : Int
  c : Option Nat
  s : List Nat
noncomputable def keyOf (r : Rw) : Oks := [some r.p, some r.g, r.c.map fun k : Nat => (k : Int)]
noncomputable def ixM (sel : Int × Int → Int) (ps : List (Int × Int)) (pl : Int) : List Nat := (List.range ps.length).filter fun k => decide (sel (ps.getD k (0, 0)) = pl)
noncomputable def fits (n : Int) (ps : List (Int × Int)) (r : Rw) : Bool :=
  okP n (r.p, r.g) && ((match r.c with | none => true | some k => decide (k ∈ ixM Prod.snd ps r.p)) && r.s.all fun k => decide (k ∈ ixM Prod.fst ps r.p))
/-- a lane that is none, or another place's, by the law -/
noncomputable def offL (sel : Int × Int → Int) (ps : List (Int × Int)) (pl : Int) (k : Nat) : Bool := decide (ps.length ≤ k) || !decide (sel (ps.getD k (0, 0)) = pl)
noncomputable def badL (n : Int) (ps : List (Int × Int)) (ahead : List Rw) (r : Rw) : Bool :=
  !okP n (r.p, r.g) || ((match r.c with | none => false | some k => offL Prod.snd ps r.p k) || ((r.s.any fun k => offL Prod.fst ps r.p k) || ahead.any fun a => decide (keyOf a = keyOf r)))
theorem ixM_mem {sel : Int × Int → Int} {ps : List (Int × Int)} {pl : Int} {k : Nat} : decide (k ∈ ixM sel ps pl) = !offL sel ps pl k := by
  unfold ixM offL
  by_cases h1 : ps.length ≤ k
  · rw [decide_eq_true h1, decide_eq_false]
    · rfl
    · intro z
      have := List.mem_range.mp (List.mem_filter.mp z).1
      omega
  · rw [decide_eq_false h1]
    by_cases h2 : sel (ps.getD k (0, 0)) = pl
    · rw [decide_eq_true h2, decide_eq_true]
      · rfl
      · exact List.mem_filter.mpr ⟨List.mem_range.mpr (by omega), decide_eq_true h2⟩
    · rw [decide_eq_false h2, decide_eq_false]
      · rfl
      · intro z
        exact h2 (of_decide_eq_true (List.mem_filter.mp z).2)
theorem all_any {l : List Nat} {f : Nat → Bool} : (l.all fun k => !f k) = !(l.any f) := by
  induction l with
  | nil => rfl
  | cons a l ih => rw [List.all_cons, List.any_cons, ih, Bool.not_or]
theorem bad_fits (n : Int) (ps : List (Int × Int)) (ahead : List Rw) (r : Rw) : badL n ps ahead r = (!fits n ps r || ahead.any fun a => decide (keyOf a = keyOf r)) := by
  unfold badL fits
  have e : (r.s.all fun k => decide (k ∈ ixM Prod.fst ps r.p)) = !(r.s.any fun k => offL Prod.fst ps r.p k) := by
    rw [← all_any]
    congr 1
    funext k
    exact ixM_mem
  rw [e]
  cases hc : r.c with
  | none =>
    dsimp only
    cases okP n (r.p, r.g) <;> cases (r.s.any fun k => offL Prod.fst ps r.p k) <;> cases (ahead.any fun a => decide (keyOf a = keyOf r)) <;> rfl
  | some k =>
    dsimp only
    rw [ixM_mem]
    cases okP n (r.p, r.g) <;> cases (offL Prod.snd ps r.p k) <;> cases (r.s.any fun k => offL Prod.fst ps r.p k) <;> cases (ahead.any fun a => decide (keyOf a = keyOf r)) <;> rfl
theorem law_two (n p g : Int) : (decide ((if g < p then g else p) < 0) || (decide (n ≤ (if g > p then g else p)) || decide (p = g))) = !okP n (p, g) := by
  unfold okP
  dsimp only
  rw [Bool.eq_iff_iff]
  simp only [Bool.or_eq_true, decide_eq_true_eq, Bool.not_eq_true', Bool.and_eq_false_iff, decide_eq_false_iff_not, Bool.not_eq_false']
  split <;> split <;> omega
/-- the number of the first bad row -/
noncomputable def firstBad (n : Int) (ps : List (Int × Int)) (rs : List Rw) (m : Nat) : Option Nat := (List.range m).find? fun k => badL n ps (rs.take k) (rs.getD k ⟨0, 0, none, []⟩)
theorem firstBad_none {n : Int} {ps : List (Int × Int)} {rs : List Rw} : ∀ {m : Nat}, (∀ k, k < m → badL n ps (rs.take k) (rs.getD k ⟨0, 0, none, []⟩) = false) → firstBad n ps rs m = none := by
  intro m h
  unfold firstBad
  rw [List.find?_eq_none]
  intro k hk
  rw [h k (List.mem_range.mp hk)]
  decide
theorem firstBad_some {n : Int} {ps : List (Int × Int)} {rs : List Rw} {m i : Nat} (hi : i < m) (h : ∀ k, k < i → badL n ps (rs.take k) (rs.getD k ⟨0, 0, none, []⟩) = false) (hb : badL n ps (rs.take i) (rs.getD i ⟨0, 0, none, []⟩) = true) : firstBad n ps rs m = some i := by
  unfold firstBad
  rw [List.find?_range_eq_some]
  refine ⟨hb, List.mem_range.mpr hi, fun j hj => ?_⟩
  rw [h j hj]
  rfl
/-- the last row of a key -/
noncomputable def lastR (rs : List Rw) (k : Oks) : Option Rw := rs.reverse.find? fun r => decide (keyOf r = k)
theorem lastR_snoc {rs : List Rw} {r : Rw} {k : Oks} : lastR (rs ++ [r]) k = if k = keyOf r then some r else lastR rs k := by
  unfold lastR
  rw [List.reverse_append, List.reverse_singleton, List.singleton_append, List.find?_cons]
  by_cases h : keyOf r = k
  · rw [decide_eq_true h, if_pos h.symm]
  · rw [decide_eq_false h, if_neg (Ne.symm h)]
theorem lastR_isSome {rs : List Rw} {k : Oks} : (lastR rs k).isSome = rs.any fun r => decide (keyOf r = k) := by
  unfold lastR
  rw [Bool.eq_iff_iff, List.find?_isSome, List.any_eq_true]
  exact ⟨fun ⟨x, hx, h⟩ => ⟨x, List.mem_reverse.mp hx, h⟩, fun ⟨x, hx, h⟩ => ⟨x, List.mem_reverse.mpr hx, h⟩⟩

/-! rows in the heap -/
noncomputable def cV : Option Nat → V
  | none => .non
  | some k => .int k
noncomputable def natV (ks : List Nat) : List V := ks.map fun k : Nat => V.int k
theorem natV_iz (ks : List Nat) : natV ks = (iz ks).map V.int := (iz_V ks).symm
noncomputable def RwT (H : Hp) (t l : Addr) (r : Rw) : Prop := H t = some (.tup [.int r.p, .int r.g, cV r.c, .ref l]) ∧ H l = some (.lst (natV r.s))
noncomputable def RwV (H : Hp) (v : V) (r : Rw) : Prop := ∃ t l, v = .ref t ∧ RwT H t l r
noncomputable abbrev Rws (H : Hp) : List V → List Rw → Prop := Paired (RwV H)
theorem RwT.same {H H' : Hp} {t l : Addr} {r : Rw} (h : Same H H') (x : RwT H t l r) : RwT H' t l r := ⟨h _ _ x.1, h _ _ x.2⟩
theorem RwV.same {H H' : Hp} {v : V} {r : Rw} (h : Same H H') : RwV H v r → RwV H' v r := fun ⟨t, l, e, x⟩ => ⟨t, l, e, x.same h⟩
theorem Rws.imp {H H' : Hp} (h : ∀ v r, RwV H v r → RwV H' v r) : ∀ {vs : List V} {rs : List Rw}, Rws H vs rs → Rws H' vs rs
  | _, _, .nil => .nil
  | _, _, .cons x r => .cons (h _ _ x) (Rws.imp h r)
theorem Rws.same {H H' : Hp} (h : Same H H') {vs : List V} {rs : List Rw} (x : Rws H vs rs) : Rws H' vs rs := Rws.imp (fun _ _ z => z.same h) x
theorem Rws.get {H : Hp} : ∀ {vs : List V} {rs : List Rw} {i : Nat} {v : V}, Rws H vs rs → vs[i]? = some v → ∃ r, rs[i]? = some r ∧ RwV H v r
  | _, _, _, _, .nil, e => by simp at e
  | _, _, 0, _, .cons x _, e => by simp at e; subst e; exact ⟨_, rfl, x⟩
  | _, _, i + 1, v, .cons _ t, e => by
    obtain ⟨r, h1, h2⟩ := Rws.get (i := i) (v := v) t (by simpa using e)
    exact ⟨r, by simpa using h1, h2⟩
theorem Rws.snoc {H : Hp} {v : V} {r : Rw} (h : RwV H v r) : ∀ {vs : List V} {rs : List Rw}, Rws H vs rs → Rws H (vs ++ [v]) (rs ++ [r])
  | _, _, .nil => .cons h .nil
  | _, _, .cons x t => .cons x (Rws.snoc h t)
theorem Rws.take {H : Hp} : ∀ {vs : List V} {rs : List Rw} (n : Nat), Rws H vs rs → Rws H (vs.take n) (rs.take n)
  | _, _, 0, _ => .nil
  | _, _, _ + 1, .nil => .nil
  | _, _, n + 1, .cons x t => .cons x (Rws.take n t)
theorem key_tup (r : Rw) : (keyOf r).map okV = [.int r.p, .int r.g, cV r.c] := by
  cases r with
  | mk p g c s => cases c <;> rfl
theorem ixV_iz {sel : Int × Int → Int} {ps : List (Int × Int)} {pl : Int} : ixV sel ps pl ps.length = (iz (ixM sel ps pl)).map V.int := by rw [iz_V]; rfl
theorem iz_dec {k : Nat} {l : List Nat} : decide ((k : Int) ∈ iz l) = decide (k ∈ l) := by
  congr 1
  refine propext ⟨fun h => ?_, fun h => iz_mem.mpr ⟨k, h, rfl⟩⟩
  obtain ⟨n, hn, e⟩ := iz_mem.mp h
  have : n = k := by omega
  rw [← this]
  exact hn
theorem all_bls (ks l : List Nat) : ((natV ks).filter fun _ => true).map (fun v => match v with | .int i => V.bl (decide (i ∈ iz l)) | _ => .non) = (ks.map fun k => decide (k ∈ l)).map V.bl := by
  rw [List.filter_eq_self.mpr (fun _ _ => rfl)]
  unfold natV
  rw [List.map_map, List.map_map]
  refine List.map_congr_left fun k _ => ?_
  show V.bl (decide ((k : Int) ∈ iz l)) = V.bl (decide (k ∈ l))
  rw [iz_dec]
theorem all_id (ks : List Nat) (p : Nat → Bool) : (ks.map p).all id = ks.all p := by rw [List.all_map]; rfl
/-! ### the promises -/
noncomputable def spOne (K : PySem.W.Frag) : Sp := fun vs H Q _ => ∃ (i : Int) (p : Addr) (ns : List Int), vs = [.int i, .ref p] ∧ SqL K H p (ns.map V.int) ∧ Q (.bl (decide (i ∈ ns))) H
noncomputable def spFits (c : Cs) : Sp := fun vs H Q _ => ∃ (x dx lt t l : Addr) (n : Int) (tvs : List V) (ps : List (Int × Int)) (r : Rw), vs = [.ref x, .ref t] ∧ LandAt H c x dx lt n tvs ps ∧ RwT H t l r ∧ ps.length ≤ 1000 ∧ r.s.length ≤ 1000 ∧ ∀ H', Same H H' → Q (.bl (fits n ps r)) H'
structure Mths (K : PySem.W.Frag) (c : Cs) (f3 f4 : Addr) (d3 d4 : FuncData) : Prop where
  m3 : Meth K c.land "out_of" f3
  m4 : Meth K c.land "into" f4
  b3 : Binds K d3 ["self", "place"] []
  b4 : Binds K d4 ["self", "place"] []
noncomputable abbrev NF : List Str := ["land", "row", "place", "came", "begin_here"]
noncomputable def allScope (s : Stmt) : Scope := match s with
  | .Return (some (.Call _ [.ListComp _ _ sc _] _ _)) _ => sc
  | _ => { kind := .function, names := [], isGenerator := false, isCoroutine := false }
section
variable {P : Program} {w : World} {K : PySem.W.Frag} {mg : Str → Option Value} {base : Heap}
theorem scOne : FnScope ["value", "numbers"] ["value", "numbers"] (defScope sOne) := ⟨rfl, rfl, rfl, by decide +kernel, rfl, by decide +kernel, by decide +kernel⟩
theorem ok_one {f fh : Addr} {fd fdh : FuncData} (F : Fun K "is_one_of" "is_one_of" sOne f fd) (T : Txt mg) (mh : mg "is_whole" = some (.ref fh)) (Fh : Fun K "is_whole" "is_whole" sWhole fh fdh) (bh : Binds K fdh ["value"] []) :
    FnOk P w K mg base CX0 2 f fd ["value", "numbers"] (spOne K) := by
  have G : FnOk P w K mg base CX0 1 fh fdh ["value"] spWhole := ok_whole Fh T
  refine F.ok scOne (fun vs H Q E h => ?_) (fun cdv A outer s H vs Q E hr h => ?_)
  · obtain ⟨i, p, ns, rfl, _⟩ := h
    rfl
  · obtain ⟨i, p, ns, rfl, hS, q⟩ := h
    refine ⟨_, pss_one (ps_ret (pe_and (pe_call G hr rfl mh Fh.kp bh .nil pass0 (pa_cons (pv 0) pa_nil)) (pe_one (pe_cmpR op_in_seq (pv 0) (pv 1) (by with_unfolding_all rfl))))), ?_⟩
    refine ⟨_, rfl, i, rfl, true, rfl, iteT ?_⟩
    refine ⟨_, rfl, _, rfl, p, _, rfl, .inl hS, rfl, flat_ints _, ?_⟩
    show Q (V.bl (inV (V.int i) (ns.map V.int))) H
    rw [inV_int]
    exact q
theorem scFits : FnScope NF ["land", "row"] (defScope sFits) := ⟨rfl, rfl, rfl, by decide +kernel, rfl, by decide +kernel, by decide +kernel⟩
theorem bkFits : Blk NF (defScope sFits) (allScope ((defBody sFits).getD 5 (.Pass ⟨0, 0, 0, 0⟩))) ["begin_here"] [4] := ⟨rfl, by decide +kernel, by decide +kernel, by decide +kernel, rfl, by decide +kernel⟩
theorem ndFits : (["lane", "begin_here"] : List Str).Nodup := by decide +kernel
theorem ok_fits {c : Cs} {f ft fo f3 f4 : Addr} {fd dt d1 d3 d4 : FuncData} (F : Fun K "row_fits" "row_fits" sFits f fd) (T : Txt mg) (L : Lnd K c) (M : Mths K c f3 f4 d3 d4)
    (mt : mg "are_two_places" = some (.ref ft)) (kt : PySem.W.keepIn K (.ref ft) = true) (bt : Binds K dt ["places", "one", "other"] []) (Gt : FnOk P w K mg base CX0 3 ft dt ["places", "one", "other"] spTwo)
    (mo : mg "is_one_of" = some (.ref fo)) (ko : PySem.W.keepIn K (.ref fo) = true) (bo : Binds K d1 ["value", "numbers"] []) (Go : FnOk P w K mg base CX0 2 fo d1 ["value", "numbers"] (spOne K))
    (G3 : FnOk P w K mg base CX0 1 f3 d3 ["self", "place"] (spIx c Prod.fst)) (G4 : FnOk P w K mg base CX0 1 f4 d4 ["self", "place"] (spIx c Prod.snd)) :
    FnOk P w K mg base CX0 4 f fd ["land", "row"] (spFits c) := by
  refine F.ok scFits (fun vs H Q E h => ?_) (fun cdv A outer s H vs Q E hr h => ?_)
  · obtain ⟨x, dx, lt, t, l, n, tvs, ps, r, rfl, _⟩ := h
    rfl
  · obtain ⟨x, dx, lt, t, l, n, tvs, ps, r, rfl, hL, hR, hlen, hsl, q⟩ := h
    have hr1 : Room 1 _ := hr.mono (by decide)
    have hr2 : Room 2 _ := hr.mono (by decide)
    refine ⟨_, pss_cons (ps_set (i := 2) scFits.nd rfl (Or.inl rfl) (pe_ix ix_tup (pv 1) pe_int (fun _ _ => rfl)))
      (pss_cons (ps_set (i := 3) scFits.nd rfl (Or.inl rfl) (pe_ix ix_tup (pv 1) pe_int (fun _ _ => rfl)))
      (pss_cons (ps_if (pt_not (pt_val (pe_call Gt hr rfl mt kt bt .nil pass0 (pa_cons (pe_fld (pv 0) rfl) (pa_cons (pv 2) (pa_cons (pe_ix ix_tup (pv 1) pe_int (fun _ _ => rfl)) pa_nil)))))) (pss_one (ps_ret pe_bl)) pss_nil)
      (pss_cons (ps_if (PW.pt (pw_and (pt_cmpR op_notN (pv 3) pe_non (nomark _)) (pw_and1 (pt_not (pt_val (pe_call Go hr2 rfl mo ko bo .nil pass0 (pa_cons (pv 3) (pa_cons (pe_meth (pv 0) L.cl M.m4 G4 hr1 M.b4 .nil pass0 (pa_cons (pv 2) pa_nil)) pa_nil)))))))) (pss_one (ps_ret pe_bl)) pss_nil)
      (pss_cons (ps_set (i := 4) scFits.nd rfl (Or.inr rfl) (pe_meth (pv 0) L.cl M.m3 G3 hr1 M.b3 .nil pass0 (pa_cons (pv 2) pa_nil)))
      (pss_one (ps_ret (pe_callB (call_all rfl) rfl T.all PyProof.Rows.boot_all (pa_cons (pe_comp (own := ["lane"]) (capN := ["begin_here"]) (cap := [4]) bkFits rfl (pi_list (pe_ix ix_tup (pv 1) pe_int (fun _ _ => rfl)))
        (fun C s' H' fp => ⟨pg_name (i := 0) ndFits rfl (Or.inl rfl), pts_nil, pe_call Go hr2 rfl mo ko bo .nil pass0 (pa_cons (pv 0) (pa_cons (pv 1) pa_nil))⟩)) pa_nil)))))))), ?_⟩
    obtain ⟨hT, hl⟩ := hR
    have hTT : SqT K H t [.int r.p, .int r.g, cV r.c, .ref l] := SqT.of hT
    refine ⟨_, rfl, t, _, 0, _, rfl, rfl, hTT, atI_nat (j := 0) rfl, ?_⟩
    refine ⟨_, rfl, t, _, 2, _, rfl, rfl, hTT, atI_nat (j := 2) rfl, ?_⟩
    refine ⟨_, rfl, x, c.land, dx, _, _, rfl, hL.1, L.cl, L.np, rfl, _, rfl, _, rfl, t, _, 1, _, rfl, rfl, hTT, atI_nat (j := 1) rfl, n, r.p, r.g, rfl, _, rfl, ?_⟩
    cases ho : okP n (r.p, r.g) with
    | false =>
      have e : fits n ps r = false := by unfold fits; rw [ho]; rfl
      refine iteT ?_
      have := q H (Same.refl H)
      rw [e] at this
      exact this
    | true =>
      refine iteF ?_
      cases hc : r.c with
      | none =>
        refine ⟨_, rfl, rfl, _, rfl, iteF (iteF ?_)⟩
        have s1 := Same.refl H
        have e1 : fits n ps r = r.s.all fun k => decide (k ∈ ixM Prod.fst ps r.p) := by unfold fits; rw [ho, hc]; rfl
        refine ⟨_, rfl, x, dx, _, rfl, s1 _ _ hL.1, rfl, _, rfl, x, dx, lt, n, tvs, ps, r.p, rfl, ⟨s1 _ _ hL.1, s1 _ _ hL.2.1, Lns.same s1 hL.2.2⟩, hlen, fun H2 D2 s2 hD2 => ?_⟩
        have s3 := (s1.trans s2).new (o := .lst (ixV Prod.fst ps r.p ps.length)) hD2
        have g2 : (upd H2 D2 (.lst (ixV Prod.fst ps r.p ps.length))) D2 = some (.lst (ixV Prod.fst ps r.p ps.length)) := upd_same
        generalize upd H2 D2 (.lst (ixV Prod.fst ps r.p ps.length)) = H3 at s3 g2 ⊢
        refine ⟨_, rfl, t, _, 3, _, rfl, rfl, SqT.of (s3 _ _ hT), atI_nat (j := 3) rfl, l, rfl, ⟨_, SqL.of (s3 _ _ hl)⟩, ?_⟩
        refine comp_lst (xs := natV r.s) (fun _ => true) (fun v => match v with | .int i => .bl (decide (i ∈ iz (ixM Prod.fst ps r.p))) | _ => .non) (by rw [PySem.sizeLine_eq]; simp only [natV, List.length_map]; omega) (SqL.of (s3 _ _ hl)) (fun y acc N hy h => ?_) (fun D hD => ?_)
        · obtain ⟨k', _, rfl⟩ := List.mem_map.mp hy
          exact ⟨_, rfl, _, rfl, (k' : Int), D2, iz (ixM Prod.fst ps r.p), rfl, by rw [← ixV_iz]; exact SqL.of g2, by simpa using h⟩
        · rw [all_bls]
          refine ⟨D, r.s.map fun k => decide (k ∈ ixM Prod.fst ps r.p), rfl, SqL.of upd_same, ?_⟩
          have := q _ (s3.new (o := .lst ((r.s.map fun k => decide (k ∈ ixM Prod.fst ps r.p)).map V.bl)) hD)
          rw [e1] at this
          rw [all_id]
          exact this
      | some k =>
        refine ⟨_, rfl, rfl, _, rfl, iteT ?_⟩
        refine ⟨_, rfl, _, rfl, x, dx, _, rfl, hL.1, rfl, _, rfl, x, dx, lt, n, tvs, ps, r.p, rfl, hL, hlen, fun H' D s' hD => ?_⟩
        have s1 := s'.new (o := .lst (ixV Prod.snd ps r.p ps.length)) hD
        refine ⟨(k : Int), D, iz (ixM Prod.snd ps r.p), rfl, by rw [← ixV_iz]; exact SqL.of upd_same, _, rfl, ?_⟩
        rw [iz_dec]
        cases hk : decide (k ∈ ixM Prod.snd ps r.p) with
        | false =>
          refine iteT ?_
          have e : fits n ps r = false := by unfold fits; rw [ho, hc]; dsimp only; rw [hk]; rfl
          have := q _ s1
          rw [e] at this
          exact this
        | true =>
          have e1 : fits n ps r = r.s.all fun k => decide (k ∈ ixM Prod.fst ps r.p) := by unfold fits; rw [ho, hc]; dsimp only; rw [hk]; rfl
          refine iteF ?_
          refine ⟨_, rfl, x, dx, _, rfl, s1 _ _ hL.1, rfl, _, rfl, x, dx, lt, n, tvs, ps, r.p, rfl, ⟨s1 _ _ hL.1, s1 _ _ hL.2.1, Lns.same s1 hL.2.2⟩, hlen, fun H2 D2 s2 hD2 => ?_⟩
          have s3 := (s1.trans s2).new (o := .lst (ixV Prod.fst ps r.p ps.length)) hD2
          have g2 : (upd H2 D2 (.lst (ixV Prod.fst ps r.p ps.length))) D2 = some (.lst (ixV Prod.fst ps r.p ps.length)) := upd_same
          generalize upd H2 D2 (.lst (ixV Prod.fst ps r.p ps.length)) = H3 at s3 g2 ⊢
          refine ⟨_, rfl, t, _, 3, _, rfl, rfl, SqT.of (s3 _ _ hT), atI_nat (j := 3) rfl, l, rfl, ⟨_, SqL.of (s3 _ _ hl)⟩, ?_⟩
          refine comp_lst (xs := natV r.s) (fun _ => true) (fun v => match v with | .int i => .bl (decide (i ∈ iz (ixM Prod.fst ps r.p))) | _ => .non) (by rw [PySem.sizeLine_eq]; simp only [natV, List.length_map]; omega) (SqL.of (s3 _ _ hl)) (fun y acc N hy h => ?_) (fun D hD => ?_)
          · obtain ⟨k', _, rfl⟩ := List.mem_map.mp hy
            exact ⟨_, rfl, _, rfl, (k' : Int), D2, iz (ixM Prod.fst ps r.p), rfl, by rw [← ixV_iz]; exact SqL.of g2, by simpa using h⟩
          · rw [all_bls]
            refine ⟨D, r.s.map fun k => decide (k ∈ ixM Prod.fst ps r.p), rfl, SqL.of upd_same, ?_⟩
            have := q _ (s3.new (o := .lst ((r.s.map fun k => decide (k ∈ ixM Prod.fst ps r.p)).map V.bl)) hD)
            rw [e1] at this
            rw [all_id]
            exact this
end
end K11
namespace K11
open PySem L2
/-! ### tables -/
structure Ts where
  tab : Addr
  told : Addr
  ne : Addr
noncomputable def spTab (K : PySem.W.Frag) : Sp := fun vs H Q _ => ∃ (x C dx : Addr) (lv : V), vs = [.ref x, lv] ∧ H x = some (.ins C dx []) ∧ Cls K C ∧ NoAttr K C "land" ∧ Q .non (upd H x (.ins C dx [("land", lv)]))
noncomputable def spTabW : Sp := fun vs H Q _ => ∃ a b c d : V, vs = [a, b, c, d] ∧ ∀ p, H p = none → Q (.ref p) (upd H p (.lst []))
noncomputable def setV (r : Rw) : V := .int (Yd.setN r.s 0 : Nat)
noncomputable def spTold (P : Program) (w : World) (K : PySem.W.Frag) (c : Cs) (ts : Ts) : Sp := fun vs H Q E => ∃ (x dx lx ldx lt p : Addr) (n : Int) (tvs rvs : List V) (ps : List (Int × Int)) (rs : List Rw),
  vs = [.ref x, .ref lx, .ref p] ∧ H x = some (.ins ts.told dx []) ∧ LandAt H c lx ldx lt n tvs ps ∧ SqL K H p rvs ∧ Rws H rvs rs ∧ rvs.length ≤ 1000 ∧ ps.length ≤ 1000 ∧ (∀ r ∈ rs, (∀ k ∈ r.s, k ≤ 1000) ∧ r.s.length ≤ 1000) ∧
  (∀ i, firstBad n ps rs rs.length = some i → ∀ H' d, Off x H H' → H' d = some (.xd [("row", .int i)]) → E (.ref ts.ne) (some d) H') ∧
  (firstBad n ps rs rs.length = none → ∀ H' de kvs, Off x H H' → H' x = some (.ins ts.told dx [("land", .ref lx), ("entries", .ref de)]) → DicAt P w H' de kvs → (∀ k, valO kvs k = (lastR rs k).map setV) → Q .non H')
noncomputable def spToldW (P : Program) (w : World) (ts : Ts) : Sp := fun vs H Q _ => ∃ (x dx de : Addr) (lv : V) (kvs : List Ent) (r : Rw) (m : Nat), vs = [.ref x, .int r.p, .int r.g, cV r.c] ∧ H x = some (.ins ts.told dx [("land", lv), ("entries", .ref de)]) ∧ DicAt P w H de kvs ∧
  (valO kvs (keyOf r)).getD (.int 0) = .int m ∧ m < 2 ^ 400 ∧ ∀ H' D, Same H H' → H' D = none → Q (.ref D) (upd H' D (.lst (memV m)))
structure Tbl (K : PySem.W.Frag) (mg : Str → Option Value) (ts : Ts) (f1 f2 : Addr) (d1 d2 : FuncData) : Prop where
  ct : Cls K ts.tab
  nt : NoAttr K ts.tab "land"
  cd : Cls K ts.told
  nd1 : NoAttr K ts.told "land"
  nd2 : NoAttr K ts.told "entries"
  mt : mg "Table" = some (.ref ts.tab)
  cm : CMeth K ts.tab "__init__" f1
  bt : Binds K d1 ["self", "land"] []
  mne : mg "NoEntry" = some (.ref ts.ne)
  xne : excInI K ts.ne (some (.ref f2)) = true
  kne : PySem.W.keepIn K (.ref ts.ne) = true
  cne : XCls K ts.ne
  nne : PySem.W.findIn K (.ref ts.ne) "row" = some none
  ine : PySem.W.isFn K (.ref f2) = true
  Fne : Fun K "__init__" "NoEntry.__init__" sNE f2 d2
  bne : Binds K d2 ["self", "row"] []
noncomputable abbrev NT : List Str := ["self", "land", "rows", "number", "row", "key"]
theorem Off.land {H H' : Hp} {x C dx : Addr} (o : Off x H H') (hx : H x = some (.ins C dx [])) {c : Cs} {lx ldx lt : Addr} {n : Int} {tvs : List V} {ps : List (Int × Int)} (h : LandAt H c lx ldx lt n tvs ps) : LandAt H' c lx ldx lt n tvs ps :=
  ⟨o _ _ (ne_of h.1 hx (by intro z; cases z)) h.1, o _ _ (ne_of h.2.1 hx (by intro z; cases z)) h.2.1, o.lns hx h.2.2⟩
section
variable {P : Program} {w : World} {K : PySem.W.Frag} {mg : Str → Option Value} {base : Heap}
theorem scNE : FnScope ["self", "row"] ["self", "row"] (defScope sNE) := ⟨rfl, rfl, rfl, by decide +kernel, rfl, by decide +kernel, by decide +kernel⟩
theorem ok_ne {f : Addr} {fd : FuncData} (F : Fun K "__init__" "NoEntry.__init__" sNE f fd) : FnOk P w K mg base CX0 1 f fd ["self", "row"] (spXi K "row") := by
  refine F.ok scNE (fun vs H Q E h => ?_) (fun cdv A outer s H vs Q E hr h => ?_)
  · obtain ⟨e, C, tt, v, rfl, _⟩ := h
    rfl
  · obtain ⟨e, C, tt, v, rfl, h1, h2, h3, q⟩ := h
    refine ⟨_, pss_one (ps_fldX (pv 0) (pv 1) rfl), ?_⟩
    exact ⟨_, rfl, _, rfl, e, C, tt, rfl, h1, h2, h3, q⟩
theorem scTab : FnScope ["self", "land"] ["self", "land"] (defScope sTab) := ⟨rfl, rfl, rfl, by decide +kernel, rfl, by decide +kernel, by decide +kernel⟩
theorem ok_tab {f : Addr} {fd : FuncData} (F : Fun K "__init__" "Table.__init__" sTab f fd) : FnOk P w K mg base CX0 1 f fd ["self", "land"] (spTab K) := by
  refine F.ok scTab (fun vs H Q E h => ?_) (fun cdv A outer s H vs Q E hr h => ?_)
  · obtain ⟨x, C, dx, lv, rfl, _⟩ := h
    rfl
  · obtain ⟨x, C, dx, lv, rfl, hx, hc, hn, q⟩ := h
    refine ⟨_, pss_one (ps_fld (pv 0) (pv 1) rfl), ?_⟩
    exact ⟨_, rfl, _, rfl, x, C, dx, _, rfl, hx, hc, hn, by show 0 < 1000; decide, q⟩
theorem scTabW : FnScope ["self", "place", "goal", "came"] ["self", "place", "goal", "came"] (defScope sTabW) := ⟨rfl, rfl, rfl, by decide +kernel, rfl, by decide +kernel, by decide +kernel⟩
theorem ok_tabW {f : Addr} {fd : FuncData} (F : Fun K "ways" "Table.ways" sTabW f fd) : FnOk P w K mg base CX0 1 f fd ["self", "place", "goal", "came"] spTabW := by
  refine F.ok scTabW (fun vs H Q E h => ?_) (fun cdv A outer s H vs Q E hr h => ?_)
  · obtain ⟨a, b, c, d, rfl, _⟩ := h
    rfl
  · obtain ⟨a, b, c, d, rfl, q⟩ := h
    refine ⟨_, pss_one (ps_ret (pe_lst pa_nil)), ?_⟩
    exact ⟨Nat.zero_le _, fun p hp => q p hp⟩
theorem scToldW : FnScope ["self", "place", "goal", "came"] ["self", "place", "goal", "came"] (defScope sToldW) := ⟨rfl, rfl, rfl, by decide +kernel, rfl, by decide +kernel, by decide +kernel⟩
theorem ok_toldW {ts : Ts} {f fm f1 f2 : Addr} {fd dm d1 d2 : FuncData} (F : Fun K "ways" "Told.ways" sToldW f fd) (B : Tbl K mg ts f1 f2 d1 d2) (mm : mg "members" = some (.ref fm)) (km : PySem.W.keepIn K (.ref fm) = true) (bm : Binds K dm ["some"] [])
    (Gm : FnOk P w K mg base CX0 2 fm dm ["some"] spMem) : FnOk P w K mg base CX0 3 f fd ["self", "place", "goal", "came"] (spToldW P w ts) := by
  refine F.ok scToldW (fun vs H Q E h => ?_) (fun cdv A outer s H vs Q E hr h => ?_)
  · obtain ⟨x, dx, de, lv, kvs, r, m, rfl, _⟩ := h
    rfl
  · obtain ⟨x, dx, de, lv, kvs, r, m, rfl, hx, hd, hv, hm, q⟩ := h
    have hu := hu_of hr
    refine ⟨_, pss_one (ps_ret (pe_call Gm hr rfl mm km bm .nil pass0 (pa_cons (pe_oget2 hu (pe_fld (pv 0) rfl) (pa_cons (pe_tup (pa_cons (pv 1) (pa_cons (pv 2) (pa_cons (pv 3) pa_nil)))) (pa_cons pe_int pa_nil))) pa_nil))), ?_⟩
    refine ⟨_, rfl, x, ts.told, dx, _, _, rfl, hx, B.cd, B.nd2, rfl, de, kvs, rfl, hd, ?_⟩
    refine ⟨_, rfl, _, rfl, _, rfl, by show 3 ≤ sizeLine; decide, fun t ht => ?_⟩
    have s1 : Same H (upd H t (.tup [.int r.p, .int r.g, cV r.c])) := (Same.refl H).new ht
    refine ⟨_, _, valO kvs (keyOf r), rfl, ⟨kvs, keyOf r, t, hd.same s1, rfl, by rw [key_tup]; exact upd_same, rfl⟩, ?_⟩
    rw [hv]
    exact ⟨m, rfl, hm, fun D hD => q _ D s1 hD⟩
theorem scTold : FnScope NT ["self", "land", "rows"] (defScope sTold) := ⟨rfl, rfl, rfl, by decide +kernel, rfl, by decide +kernel, by decide +kernel⟩
theorem ok_told {c : Cs} {ts : Ts} {f ff fs f1 f2 : Addr} {fd df ds d1 d2 : FuncData} (F : Fun K "__init__" "Told.__init__" sTold f fd) (T : Txt mg) (B : Tbl K mg ts f1 f2 d1 d2) (G1 : FnOk P w K mg base CX0 1 f1 d1 ["self", "land"] (spTab K))
    (mf : mg "row_fits" = some (.ref ff)) (kf : PySem.W.keepIn K (.ref ff) = true) (bf : Binds K df ["land", "row"] []) (Gf : FnOk P w K mg base CX0 4 ff df ["land", "row"] (spFits c))
    (ms : mg "set_of" = some (.ref fs)) (ks : PySem.W.keepIn K (.ref fs) = true) (bs : Binds K ds ["numbers"] []) (Gs : FnOk P w K mg base CX0 1 fs ds ["numbers"] (spSet K)) :
    FnOk P w K mg base (CXe P w) 5 f fd ["self", "land", "rows"] (spTold P w K c ts) := by
  have Gn : FnOk P w K mg base CX0 1 f2 d2 ["self", "row"] (spXi K "row") := ok_ne B.Fne
  refine F.okX scTold (fun vs H Q E h => ?_) (fun cdv A outer s H vs Q E hr h => ?_)
  · obtain ⟨x, dx, lx, ldx, lt, p, n, tvs, rvs, ps, rs, rfl, _⟩ := h
    rfl
  · obtain ⟨x, dx, lx, ldx, lt, p, n, tvs, rvs, ps, rs, rfl, hx, hL, hp, hR, hlen, hps, hsm, hE, hQ⟩ := h
    have hr1 : Room 1 _ := hr.mono (by decide)
    have hr2 : Room 2 _ := hr.mono (by decide)
    have hu := hu_of hr
    refine ⟨_, pss_cons (ps_expr (pe_cmeth (pe_glob (v := .ref ts.tab) rfl B.mt rfl) B.cm G1 hr1 B.bt .nil pass0 (pa_cons (pv 0) (pa_cons (pv 1) pa_nil))))
      (pss_cons (ps_fld (pv 0) (show PE _ _ (tONew P w) from pe_onew) rfl)
      (pss_one (ps_for own_def rfl (pi_enumL rfl T.enum (pa_cons (pv 2) pa_nil)) (pg_tup rfl (pgs_cons (pg_name (i := 3) scTold.nd rfl (Or.inl rfl)) (pgs_cons (pg_name (i := 4) scTold.nd rfl (Or.inl rfl)) pgs_nil)))
        (pss_cons (ps_set (i := 5) scTold.nd rfl (Or.inl rfl) (pe_tup (pa_cons (pe_ix ix_tup (pv 4) pe_int (fun _ _ => rfl)) (pa_cons (pe_ix ix_tup (pv 4) pe_int (fun _ _ => rfl)) (pa_cons (pe_ix ix_tup (pv 4) pe_int (fun _ _ => rfl)) pa_nil)))))
        (pss_cons (ps_if (PW.pt (pw_or (pt_not (pt_val (pe_call Gf hr rfl mf kf bf .nil pass0 (pa_cons (pv 1) (pa_cons (pv 4) pa_nil))))) (pw_or1 (pt_cmp (pc_oin hu (pv 5) (pe_fld (pv 0) rfl))))))
          (pss_one (ps_raise rfl B.xne passX_def (px_init B.xne B.ine B.kne Gn hr2 B.bne rfl B.mne (pa_cons (pv 3) pa_nil)))) pss_nil)
        (pss_one (ps_oput hu (pe_fld (pv 0) rfl) (pv 5) (pe_call Gs hr1 rfl ms ks bs .nil pass0 (pa_cons (pe_ix ix_tup (pv 4) pe_int (fun _ _ => rfl)) pa_nil)) rfl))))))), ?_⟩
    -- the land is stored
    refine ⟨rfl, _, rfl, _, rfl, x, ts.told, dx, _, rfl, hx, B.cd, B.nd1, ?_⟩
    -- an empty dict is stored
    refine fun de hde => ⟨_, rfl, x, ts.told, dx, [("land", .ref lx)], rfl, by rw [upd_ne (ne_of_none upd_same hde)]; exact upd_same, B.cd, B.nd2, by show 1 < 1000; decide, ?_⟩
    have nde : x ≠ de := ne_of_none upd_same hde
    have hde0 : H de = none := by rw [upd_ne (Ne.symm nde)] at hde; exact hde
    generalize hH2 : upd (upd (upd H x (.ins ts.told dx [("land", .ref lx)])) de (DicO P w de [])) x (.ins ts.told dx (putF "entries" (.ref de) [("land", .ref lx)])) = H2
    have o2 : Off x H H2 := fun b o hb e => by rw [← hH2, upd_ne hb, upd_ne (ne_of_none e hde0), upd_ne hb]; exact e
    have x2 : H2 x = some (.ins ts.told dx [("land", .ref lx), ("entries", .ref de)]) := by rw [← hH2, upd_same]; rfl
    have d2 : DicAt P w H2 de [] := ⟨by rw [← hH2, upd_ne (Ne.symm nde), upd_same], fun y hy => by cases hy⟩
    have hrs : rvs.length = rs.length := Paired.length hR
    refine ⟨_, rfl, p, rfl, ⟨_, o2.sq hx hp⟩, for_enum (sq := fun H => SqL K H p) (xs := rvs) (fun i σ H3 => ∃ (a b k : Option V) (kvs : List Ent), Off x H H3 ∧ H3 x = some (.ins ts.told dx [("land", .ref lx), ("entries", .ref de)]) ∧ DicAt P w H3 de kvs ∧ kvs.length ≤ i ∧
        (∀ k, valO kvs k = (lastR (rs.take i) k).map setV) ∧ (∀ j, j < i → badL n ps (rs.take j) (rs.getD j ⟨0, 0, none, []⟩) = false) ∧ σ = [some (.ref x), some (.ref lx), some (.ref p), a, b, k])
      ⟨none, none, none, [], o2, x2, d2, Nat.le_refl _, fun k => rfl, fun j hj => absurd hj (Nat.not_lt_zero _), rfl⟩ (fun i σ H3 _ ⟨_, _, _, _, o3, _⟩ => o3.sq hx hp) ?_ ?_⟩
    · rintro i v q σ H3 hv ⟨a, b, k, kvs, o3, x3, d3, l3, v3, g3, rfl⟩ hq
      obtain ⟨r, hri, t, l, rfl, hT⟩ := Rws.get hR hv
      have hi : i < rs.length := (List.getElem?_eq_some_iff.mp hri).1
      have egd : rs.getD i ⟨0, 0, none, []⟩ = r := by rw [List.getD_eq_getElem?_getD, hri]; rfl
      have hT3 : RwT H3 t l r := ⟨o3 _ _ (ne_of hT.1 hx (by intro z; cases z)) hT.1, o3 _ _ (ne_of hT.2 hx (by intro z; cases z)) hT.2⟩
      have hL3 := o3.land hx hL
      have s4 : Same H3 (upd H3 q (.tup [.int i, .ref t])) := (Same.refl H3).new hq
      refine ⟨q, _, rfl, SqT.of upd_same, rfl, _, _, rfl, _, _, rfl, rfl, ?_⟩
      generalize upd H3 q (.tup [.int i, .ref t]) = H4 at s4 ⊢
      have hT4 : SqT K H4 t [.int r.p, .int r.g, cV r.c, .ref l] := SqT.of (s4 _ _ hT3.1)
      refine ⟨_, rfl, t, _, 0, _, rfl, rfl, hT4, atI_nat (j := 0) rfl, _, rfl, t, _, 1, _, rfl, rfl, hT4, atI_nat (j := 1) rfl, _, rfl, t, _, 2, _, rfl, rfl, hT4, atI_nat (j := 2) rfl, by show 3 ≤ sizeLine; decide, fun kt hkt => ?_⟩
      have s5 : Same H3 (upd H4 kt (.tup [.int r.p, .int r.g, cV r.c])) := s4.new hkt
      have k5 : (upd H4 kt (.tup [.int r.p, .int r.g, cV r.c])) kt = some (.tup ((keyOf r).map okV)) := by rw [key_tup]; exact upd_same
      generalize upd H4 kt (.tup [.int r.p, .int r.g, cV r.c]) = H5 at s5 k5 ⊢
      refine ⟨_, rfl, _, rfl, lx, ldx, lt, t, l, n, tvs, ps, r, rfl, ⟨s5 _ _ hL3.1, s5 _ _ hL3.2.1, Lns.same s5 hL3.2.2⟩, hT3.same s5, hps, (hsm r (List.mem_of_getElem? hri)).2, fun H6 s56 => ⟨_, rfl, ?_⟩⟩
      have s6 := s5.trans s56
      have k6 := s56 _ _ k5
      have x6 := s6 _ _ x3
      have d6 := d3.same s6
      have flown : badL n ps (rs.take i) r = true → ∀ e tt, H6 e = none → ∀ d, upd H6 e (ExcAt e ts.ne tt none) d = none →
          ∃ dd, (upd (upd (upd H6 e (ExcAt e ts.ne tt none)) d (.xd [("row", .int i)])) e (ExcAt e ts.ne tt (some d))) e = some (ExcAt e ts.ne tt dd) ∧ E (.ref ts.ne) dd (del (upd (upd (upd H6 e (ExcAt e ts.ne tt none)) d (.xd [("row", .int i)])) e (ExcAt e ts.ne tt (some d))) e) := by
        intro hb e tt he d hd
        obtain ⟨m1, m2, m3⟩ := made_heap (o := ExcAt e ts.ne tt none) (o' := ExcAt e ts.ne tt (some d)) (x := .xd [("row", .int i)]) he hd
        exact ⟨some d, m3, hE i (firstBad_some hi g3 (by rw [egd]; exact hb)) _ d (o3.same (s6.trans m1)) m2⟩
      cases hf : fits n ps r with
      | false =>
        refine iteT (iteT ⟨_, rfl, by show 1 ≤ sizeLine; decide, fun e tt he => ⟨e, _, tt, _, rfl, upd_same, B.cne, B.nne, fun d hd => ⟨rfl, ?_⟩⟩⟩)
        exact flown (by rw [bad_fits, hf]; rfl) e tt he d hd
      | true =>
        refine iteF ⟨_, rfl, _, rfl, x, ts.told, dx, _, _, rfl, x6, B.cd, B.nd2, rfl, de, _, rfl, ⟨kvs, keyOf r, kt, d6, rfl, k6, rfl⟩, _, rfl, ?_⟩
        have eS : (valO kvs (keyOf r)).isSome = (rs.take i).any fun a => decide (keyOf a = keyOf r) := by rw [v3, Option.isSome_map, lastR_isSome]
        cases hS : (valO kvs (keyOf r)).isSome with
        | true =>
          refine iteT ⟨_, rfl, by show 1 ≤ sizeLine; decide, fun e tt he => ⟨e, _, tt, _, rfl, upd_same, B.cne, B.nne, fun d hd => ⟨rfl, ?_⟩⟩⟩
          exact flown (by rw [bad_fits, hf, ← eS, hS]; rfl) e tt he d hd
        | false =>
          refine iteF ?_
          have hT6 := hT3.same s6
          refine ⟨_, rfl, t, _, 3, _, rfl, rfl, SqT.of hT6.1, atI_nat (j := 3) rfl, l, r.s, rfl, SqL.of hT6.2, (hsm r (List.mem_of_getElem? hri)).1, ?_⟩
          refine ⟨_, rfl, x, ts.told, dx, _, _, rfl, x6, B.cd, B.nd2, rfl, _, rfl, de, kvs, keyOf r, kt, rfl, d6, rfl, k6, by rw [PySem.sizeLine_eq]; omega, ?_⟩
          have hx6 : x ≠ de := nde
          refine ⟨_, _, _, putO kvs (keyOf r) kt (setV r), fun b' o hb e => ?_, ?_, ⟨upd_same, putO_keys (F := fun k a => (upd H6 de (DicO P w de (putO kvs (keyOf r) kt (setV r)))) a = some (.tup (k.map okV))) (fun y hy => ?_) ?_⟩, ?_, fun k' => ?_, fun j hj => ?_, rfl⟩
          · rw [upd_ne (ne_of_none e hde0)]; exact s6 _ _ (o3 _ _ hb e)
          · rw [upd_ne nde]; exact x6
          · rw [upd_ne (ne_of (d6.2 y hy) d6.1 (by intro z; cases z))]; exact d6.2 y hy
          · rw [upd_ne (ne_of k6 d6.1 (by intro z; cases z))]; exact k6
          · exact Nat.le_trans putO_length (Nat.succ_le_succ l3)
          · rw [valO_put, List.take_succ, hri, Option.toList_some, lastR_snoc, v3]
            by_cases hk : k' = keyOf r
            · rw [if_pos hk, if_pos hk]; rfl
            · rw [if_neg hk, if_neg hk]
          · rcases Nat.lt_or_ge j i with h | h
            · exact g3 j h
            · have : j = i := by omega
              subst this
              rw [egd, bad_fits, hf, ← eS, hS]; rfl
    · rintro σ H3 ⟨a, b, k, kvs, o3, x3, d3, l3, v3, g3, rfl⟩
      rw [hrs] at g3 v3
      rw [List.take_length] at v3
      exact hQ (firstBad_none g3) H3 de kvs o3 x3 d3 v3
end
end K11
namespace K11
open PySem L2
/-! ### what the law draws: a land, a row -/
noncomputable def RowOk (m : Nat) (r : Rw) : Prop := (∀ k, r.c = some k → k ≤ 14) ∧ (∀ k ∈ r.s, k ≤ 16) ∧ r.s.length ≤ m
noncomputable def spLand (K : PySem.W.Frag) : Sp := fun vs H Q _ => ∃ (a : Addr) (ns : List Int), vs = [.ref a] ∧ SqL K H a (ns.map V.int) ∧
  ∀ (t l : Addr) (n : Nat) (lvs : List V) (ps : List (Int × Int)) (H' : Hp), Same H H' → H' t = some (.tup [.int n, .ref l]) → H' l = some (.lst lvs) → Lns H' lvs ps → ps.length ≤ 14 → (2 ≤ n ∧ n ≤ 12) → (∀ q ∈ ps, okP n q = true) → Q (.ref t) H'
noncomputable def spRow : Sp := fun vs H Q _ => ∃ (l : Addr) (n : Nat) (lvs : List V) (ps : List (Int × Int)) (d o : Int), vs = [.int n, .ref l, .int d, .int o] ∧ H l = some (.lst lvs) ∧ Lns H lvs ps ∧ ps.length ≤ 14 ∧ (2 ≤ n ∧ n ≤ 12) ∧
  ∀ (t l' : Addr) (r : Rw) (H' : Hp), Same H H' → RwT H' t l' r → H l' = none → RowOk 15 r → Q (.ref t) H'
noncomputable abbrev NLd : List Str := ["_law_script", "_law_places", "_law_lanes", "_law_k", "_law_draw_here", "_law_start"]
noncomputable abbrev NRo : List Str := ["_law_places", "_law_lanes", "_law_draw_here", "_law_other", "_law_place", "_law_goal", "_law_cames", "_law_came", "_law_begin", "_law_row_here"]
theorem place_at (c : Int) : ∃ n : Nat, (2 ≤ n ∧ n ≤ 12) ∧ atI [V.int 2, V.int 3, V.int 4, V.int 5, V.int 6, V.int 3, V.int 4, V.int 12] (c % 8) = some (V.int n) := by
  have h0 : 0 ≤ c % 8 := Int.emod_nonneg _ (by decide)
  have h1 : c % 8 < 8 := Int.emod_lt_of_pos _ (by decide)
  have e : c % 8 = (((c % 8).toNat : Nat) : Int) := (Int.toNat_of_nonneg h0).symm
  generalize (c % 8).toNat = j at e
  rw [e]
  have hj : j < 8 := by omega
  have key : ∀ j : Nat, j < 8 → ∃ n : Nat, (2 ≤ n ∧ n ≤ 12) ∧ ([V.int 2, V.int 3, V.int 4, V.int 5, V.int 6, V.int 3, V.int 4, V.int 12] : List V)[j]? = some (V.int n) := by
    intro j hj
    match j, hj with
    | 0, _ => exact ⟨2, by decide, rfl⟩
    | 1, _ => exact ⟨3, by decide, rfl⟩
    | 2, _ => exact ⟨4, by decide, rfl⟩
    | 3, _ => exact ⟨5, by decide, rfl⟩
    | 4, _ => exact ⟨6, by decide, rfl⟩
    | 5, _ => exact ⟨3, by decide, rfl⟩
    | 6, _ => exact ⟨4, by decide, rfl⟩
    | 7, _ => exact ⟨12, by decide, rfl⟩
    | n + 8, h => omega
  obtain ⟨n, a, h⟩ := key j hj
  exact ⟨n, a, atI_nat h⟩
theorem okP_next {n a e : Int} (h1 : 0 ≤ a) (h2 : a < n) (h3 : 0 ≤ e) (h4 : e < n - 1) : okP n (a, (a + 1 + e) % n) = true := by
  have hb : (a + 1 + e) % n = if a + 1 + e < n then a + 1 + e else a + 1 + e - n := by
    split
    · exact Int.emod_eq_of_lt (by omega) (by omega)
    · rw [← Int.sub_emod_right, Int.emod_eq_of_lt (by omega) (by omega)]
  unfold okP
  dsimp only
  rw [hb]
  simp only [Bool.and_eq_true, decide_eq_true_eq, Bool.not_eq_true', decide_eq_false_iff_not]
  split <;> omega
/-- a list is changed, the lanes stay -/
theorem lns_off {H : Hp} {l : Addr} {xs : List V} {o : HO} (hl : H l = some (.lst xs)) : ∀ {vs : List V} {ps : List (Int × Int)}, Lns H vs ps → Lns (upd H l o) vs ps
  | _, _, .nil => .nil
  | _, _, .cons ⟨t, e, q⟩ r => .cons ⟨t, e, by rw [upd_ne (ne_of q hl (by intro z; cases z))]; exact q⟩ (lns_off hl r)
theorem atI_some {α : Type} {xs : List α} {i : Int} (h0 : 0 ≤ i) (h1 : i < (xs.length : Nat)) : ∃ v, atI xs i = some v ∧ v ∈ xs := by
  obtain ⟨j, rfl⟩ := Int.eq_ofNat_of_zero_le h0
  have hj : j < xs.length := by omega
  exact ⟨xs[j], atI_nat (List.getElem?_eq_getElem hj), List.getElem_mem hj⟩
section
variable {P : Program} {w : World} {K : PySem.W.Frag} {mg : Str → Option Value} {base : Heap}
theorem scLd : FnScope NLd ["_law_script"] (defScope sLand) := ⟨rfl, rfl, rfl, by decide +kernel, rfl, by decide +kernel, by decide +kernel⟩
theorem ok_land {f fd : Addr} {df dd : FuncData} (F : Fun K "_law_land" "_law_land" sLand f df) (T : Txt mg) (md : mg "_law_draw" = some (.ref fd)) (kd : PySem.W.keepIn K (.ref fd) = true) (bd : Binds K dd ["_law_script", "_law_k"] [])
    (Gd : FnOk P w K mg base CX0 1 fd dd ["_law_script", "_law_k"] (spDraw K)) : FnOk P w K mg base CX0 2 f df ["_law_script"] (spLand K) := by
  refine F.ok scLd (fun vs H Q E h => ?_) (fun cdv A outer s H vs Q E hr h => ?_)
  · obtain ⟨a, ns, rfl, _⟩ := h
    rfl
  · obtain ⟨a, ns, rfl, hS, q⟩ := h
    have hr1 : Room 1 _ := hr.mono (by decide)
    refine ⟨_, pss_cons (ps_set (i := 1) scLd.nd rfl (Or.inl rfl) (pe_ix ix_list (pe_lst (pa_cons pe_int (pa_cons pe_int (pa_cons pe_int (pa_cons pe_int (pa_cons pe_int (pa_cons pe_int (pa_cons pe_int (pa_cons pe_int pa_nil)))))))))
        (pe_op op_mod (pe_call Gd hr1 rfl md kd bd .nil pass0 (pa_cons (pv 0) (pa_cons pe_int pa_nil))) pe_int) (fun _ _ => rfl)))
      (pss_cons (ps_set (i := 2) scLd.nd rfl (Or.inl rfl) (pe_lst pa_nil))
      (pss_cons (ps_for PassesOwn.never rfl (pi_range1 rfl T.range (pa_cons (pe_op op_mod (pe_call Gd hr1 rfl md kd bd .nil pass0 (pa_cons (pv 0) (pa_cons pe_int pa_nil))) pe_int) pa_nil)) (pg_name (i := 3) scLd.nd rfl (Or.inl rfl))
        (pss_cons (ps_set (i := 4) scLd.nd rfl (Or.inl rfl) (pe_call Gd hr1 rfl md kd bd .nil pass0 (pa_cons (pv 0) (pa_cons (pe_op op_add pe_int (pv 3)) pa_nil))))
        (pss_cons (ps_set (i := 5) scLd.nd rfl (Or.inl rfl) (pe_op op_mod (pv 4) (pv 1)))
        (pss_one (ps_expr (pe_bm PySem.F.plainAttrs_list PySem.F.slot_list_append PySem.F.type_list_append mt_append (pv 2) (pa_cons (pe_tup (pa_cons (pv 5)
          (pa_cons (pe_op op_mod (pe_op op_add (pe_op op_add (pv 5) pe_int) (pe_op op_mod (pe_op op_fdiv (pv 4) pe_int) (pe_op op_sub (pv 1) pe_int))) (pv 1)) pa_nil))) pa_nil)))))))
      (pss_one (ps_ret (pe_tup (pa_cons (pv 1) (pa_cons (pv 2) pa_nil))))))), ?_⟩
    refine ⟨by show 8 ≤ sizeLine; decide, fun l0 hl0 => ?_⟩
    have s0 := (Same.refl H).new (o := .lst [.int 2, .int 3, .int 4, .int 5, .int 6, .int 3, .int 4, .int 12]) hl0
    refine ⟨_, rfl, a, ns, 0, rfl, s0.seq hS, by decide, by decide, fun d1 H1 s1 => ?_⟩
    obtain ⟨n, hn, hat⟩ := place_at d1
    refine ⟨_, _, rfl, rfl, (by show (0 : Int) < 8; decide), l0, _, _, _, rfl, rfl, SqL.of (s1 _ _ upd_same), hat, ?_⟩
    have s01 := s0.trans s1
    refine ⟨Nat.zero_le _, fun l hl => ?_⟩
    have s2 := s01.new (o := .lst []) hl
    have hHl : H l = none := s01.free hl
    refine ⟨_, rfl, a, ns, 1, rfl, s2.seq hS, by decide, by decide, fun d2 H2 s3 => ?_⟩
    have s4 := s2.trans s3
    have g2 : H2 l = some (.lst []) := s3 _ _ upd_same
    have hd2 : 0 ≤ d2 % 15 ∧ d2 % 15 < 15 := ⟨Int.emod_nonneg _ (by decide), Int.emod_lt_of_pos _ (by decide)⟩
    refine ⟨_, _, rfl, rfl, (by show (0 : Int) < 15; decide), d2 % 15, rfl, by omega, by omega, ?_⟩
    refine for_range (n := (d2 % 15).toNat) (fun i σ H3 => ∃ (a1 a2 a3 : Option V) (lvs : List V) (ps : List (Int × Int)), Same H H3 ∧ H3 l = some (.lst lvs) ∧ Lns H3 lvs ps ∧ ps.length = i ∧ (∀ q ∈ ps, okP n q = true) ∧ σ = [some (.ref a), some (.int n), some (.ref l), a1, a2, a3])
      ⟨none, none, none, [], [], s4, g2, .nil, rfl, (fun q hq => by cases hq), rfl⟩ ?_ ?_
    · rintro i σ H3 hi ⟨a1, a2, a3, lvs, ps, s5, g3, hl3, hlen, hok, rfl⟩
      refine ⟨_, rfl, _, rfl, _, _, rfl, rfl, a, ns, _, rfl, s5.seq hS, by omega, by omega, fun d H4 s6 => ?_⟩
      have hmod : 0 ≤ d % (n : Int) ∧ d % (n : Int) < n := ⟨Int.emod_nonneg _ (by omega), Int.emod_lt_of_pos _ (by omega)⟩
      have hmod2 : 0 ≤ d / 16 % ((n : Int) - 1) ∧ d / 16 % ((n : Int) - 1) < (n : Int) - 1 := ⟨Int.emod_nonneg _ (by omega), Int.emod_lt_of_pos _ (by omega)⟩
      refine ⟨_, rfl, _, rfl, _, _, rfl, rfl, (by show (0 : Int) < (n : Int); omega), ?_⟩
      refine ⟨_, rfl, .inl ⟨rfl, _, SqL.of (s6 _ _ g3)⟩, _, rfl, _, rfl, _, _, rfl, rfl, _, rfl, _, _, rfl, rfl, ⟨by decide, by decide⟩, _, rfl, _, _, rfl, rfl, _, _, rfl, rfl, (by show (0 : Int) < (n : Int) - 1; omega), _, _, rfl, rfl, _, rfl, _, _, rfl, rfl, (by show (0 : Int) < (n : Int); omega), ?_⟩
      refine ⟨by show 2 ≤ sizeLine; decide, fun t ht => ?_⟩
      have s7 := s6.new (o := .tup [.int (d % (n : Int)), .int ((d % (n : Int) + 1 + d / 16 % ((n : Int) - 1)) % (n : Int))]) ht
      have hll : lvs.length = ps.length := Paired.length hl3
      refine ⟨l, lvs, _, rfl, rfl, s7 _ _ g3, by rw [PySem.sizeLine_eq]; omega, ?_⟩
      have nlt : l ≠ t := ne_of_none (s6 _ _ g3) ht
      refine ⟨_, _, _, lvs ++ [.ref t], ps ++ [(d % (n : Int), (d % (n : Int) + 1 + d / 16 % ((n : Int) - 1)) % (n : Int))], fun b o e => ?_, upd_same, ?_, by rw [List.length_append, hlen]; rfl, fun q hq => ?_, rfl⟩
      · rw [upd_ne (ne_of_none e hHl)]; exact s7 _ _ (s5 _ _ e)
      · refine Lns.snoc ⟨t, rfl, by rw [upd_ne (Ne.symm nlt)]; exact upd_same⟩ ?_
        have z : Lns _ lvs ps := Lns.same s7 hl3
        exact lns_off (s7 _ _ g3) z
      · rcases List.mem_append.mp hq with z | z
        · exact hok q z
        · rw [List.mem_singleton.mp z]; exact okP_next hmod.1 hmod.2 hmod2.1 hmod2.2
    · rintro σ H3 ⟨a1, a2, a3, lvs, ps, s5, g3, hl3, hlen, hok, rfl⟩
      refine ⟨_, rfl, _, rfl, by show 2 ≤ sizeLine; decide, fun t ht => ?_⟩
      have s6 := (Same.refl H3).new (o := .tup [.int n, .ref l]) ht
      exact q t l n lvs ps _ (s5.trans s6) upd_same (s6 _ _ g3) (Lns.same s6 hl3) (by omega) hn hok
end
end K11
namespace K11
open PySem L2
noncomputable def noScope : Scope := { kind := .function, names := [], isGenerator := false, isCoroutine := false }
noncomputable def asgScope (s : Stmt) : Scope := match s with
  | .Assign _ (.ListComp _ _ sc _) _ => sc
  | _ => noScope
noncomputable def catScope (s : Stmt) : Scope := match s with
  | .Assign _ (.BinOp _ _ (.ListComp _ _ sc _) _) _ => sc
  | _ => noScope
noncomputable def rowAt (i : Nat) : Stmt := (defBody sRow).getD i (.Pass ⟨0, 0, 0, 0⟩)
theorem cut_nat (ks : List Nat) (lo hi : Option Int) : cutV (natV ks) lo hi = natV ((ks.drop (HT.sIx ks.length 0 lo)).take (HT.sIx ks.length ks.length hi - HT.sIx ks.length 0 lo)) := by
  unfold cutV natV
  rw [List.length_map, List.map_take, List.map_drop]
theorem filter_nat (ks : List Nat) (p : V → Bool) : (natV ks).filter p = natV (ks.filter fun k : Nat => p (V.int k)) := by
  unfold natV
  rw [List.filter_map]
  rfl
theorem ixM_le {sel : Int × Int → Int} {ps : List (Int × Int)} {pl : Int} {k : Nat} (h : k ∈ ixM sel ps pl) : k < ps.length := List.mem_range.mp (List.mem_filter.mp h).1
theorem ixM_len (sel : Int × Int → Int) (ps : List (Int × Int)) (pl : Int) : (ixM sel ps pl).length ≤ ps.length := by
  have := List.length_filter_le (fun k => decide (sel (ps.getD k (0, 0)) = pl)) (List.range ps.length)
  rw [List.length_range] at this
  exact this
theorem came_of {ps : List (Int × Int)} {pl : Int} {v : V} (hl : ps.length ≤ 14) (h : v ∈ V.non :: V.non :: natV (ixM Prod.snd ps pl)) : ∃ c : Option Nat, v = cV c ∧ ∀ k, c = some k → k ≤ 14 := by
  rcases List.mem_cons.mp h with rfl | h
  · exact ⟨none, rfl, fun k e => by cases e⟩
  rcases List.mem_cons.mp h with rfl | h
  · exact ⟨none, rfl, fun k e => by cases e⟩
  obtain ⟨k, hk, rfl⟩ := List.mem_map.mp h
  exact ⟨some k, rfl, fun k' e => by cases e; have := ixM_le hk; omega⟩
/-- the numbers of the lanes with an end at a place -/
theorem comp_ix {sel : Int × Int → Int} {ps : List (Int × Int)} {pl : Int} {g : TG} {tt : TT} {te : TE} {σ0 : St} {H : Hp} {Q : VK} (hn : ps.length < sizeLine)
    (hs : ∀ (i : Nat) (acc : List V) (N : List V → Hp → Prop) (pr : Int × Int), ps[i]? = some pr → N (if decide (sel pr = pl) = true then acc ++ [V.int i] else acc) H → g (.int i) σ0 H fun σ2 H2 => tt σ2 H2 fun b H3 => if b = true then te σ2 H3 fun y H4 => N (acc ++ [y]) H4 else N acc H3)
    (hq : ∀ D, H D = none → Q (.ref D) (upd H D (.lst (natV (ixM sel ps pl))))) : CompR (Itr 0 ps.length) g tt te σ0 Q H := by
  refine comp_rng (lo := 0) (fun k => decide (sel (ps.getD k (0, 0)) = pl)) (fun k => V.int k) hn (fun i acc N hi h => ?_) hq
  obtain ⟨pr, hpr⟩ : ∃ pr, ps[i]? = some pr := ⟨ps[i], List.getElem?_eq_getElem hi⟩
  have eg : ps.getD i (0, 0) = pr := by rw [List.getD_eq_getElem?_getD, hpr]; rfl
  rw [Int.zero_add]
  rw [eg] at h
  exact hs i acc N pr hpr h
section
variable {P : Program} {w : World} {K : PySem.W.Frag} {mg : Str → Option Value} {base : Heap}
theorem scRo : FnScope NRo ["_law_places", "_law_lanes", "_law_draw_here", "_law_other"] (defScope sRow) := ⟨rfl, rfl, rfl, by decide +kernel, rfl, by decide +kernel, by decide +kernel⟩
theorem bkR1 : Blk NRo (defScope sRow) (catScope (rowAt 2)) ["_law_lanes", "_law_place"] [1, 4] := ⟨rfl, by decide +kernel, by decide +kernel, by decide +kernel, rfl, by decide +kernel⟩
theorem bkR2 : Blk NRo (defScope sRow) (asgScope (rowAt 4)) ["_law_lanes", "_law_place"] [1, 4] := ⟨rfl, by decide +kernel, by decide +kernel, by decide +kernel, rfl, by decide +kernel⟩
theorem bkR3 : Blk NRo (defScope sRow) (asgScope (rowAt 5)) ["_law_other"] [3] := ⟨rfl, by decide +kernel, by decide +kernel, by decide +kernel, rfl, by decide +kernel⟩
theorem ndR1 : (["_law_k", "_law_lanes", "_law_place"] : List Str).Nodup := by decide +kernel
theorem ndR3 : (["_law_k", "_law_other"] : List Str).Nodup := by decide +kernel
theorem ok_row {f : Addr} {fd : FuncData} (F : Fun K "_law_row" "_law_row" sRow f fd) (T : Txt mg) : FnOk P w K mg base CX0 1 f fd ["_law_places", "_law_lanes", "_law_draw_here", "_law_other"] spRow := by
  refine F.ok scRo (fun vs H Q E h => ?_) (fun cdv A outer s H vs Q E hr h => ?_)
  · obtain ⟨l, n, lvs, ps, d, o, rfl, _⟩ := h
    rfl
  · obtain ⟨l, n, lvs, ps, d, o, rfl, hl, hLn, hlen, hn, q⟩ := h
    refine ⟨_, pss_cons (ps_set (i := 4) scRo.nd rfl (Or.inr rfl) (pe_op op_mod (pv 2) (pv 0)))
      (pss_cons (ps_set (i := 5) scRo.nd rfl (Or.inl rfl) (pe_op op_mod (pe_op op_add (pe_op op_add (pv 4) pe_int) (pe_op op_mod (pe_op op_fdiv (pv 2) pe_int) (pe_op op_sub (pv 0) pe_int))) (pv 0)))
      (pss_cons (ps_set (i := 6) scRo.nd rfl (Or.inl rfl) (pe_op op_cat (pe_lst (pa_cons pe_non (pa_cons pe_non pa_nil))) (pe_comp (own := ["_law_k"]) (capN := ["_law_lanes", "_law_place"]) (cap := [1, 4]) bkR1 rfl
        (pi_range1 rfl T.range (pa_cons (pe_callB call_len_seq rfl T.len PySem.boot_len (pa_cons (pv 1) pa_nil)) pa_nil))
        (fun C s' H' fp => ⟨pg_name (i := 0) ndR1 rfl (Or.inl rfl), pts_one (pt_cmpR op_eq (pe_ix (show IxR _ (rIxT K) from ix_tup) (pe_ix (show IxR _ (rIxL K) from ix_list) (pv 1) (pv 0) (fun _ _ => rfl)) pe_int (fun _ _ => rfl)) (pv 2) (nomark _)), pv 0⟩))))
      (pss_cons (ps_set (i := 7) scRo.nd rfl (Or.inl rfl) (pe_ix ix_list (pv 6) (pe_op op_mod (pe_op op_fdiv (pv 2) pe_int) (pe_callB call_len_seq rfl T.len PySem.boot_len (pa_cons (pv 6) pa_nil))) (fun _ _ => rfl)))
      (pss_cons (ps_setComp (i := 8) (own := ["_law_k"]) (capN := ["_law_lanes", "_law_place"]) (cap := [1, 4]) bkR2 rfl scRo.nd rfl rfl
        (pi_range1 rfl T.range (pa_cons (pe_callB call_len_seq rfl T.len PySem.boot_len (pa_cons (pv 1) pa_nil)) pa_nil))
        (fun C s' H' fp => ⟨pg_name (i := 0) ndR1 rfl (Or.inl rfl), pts_one (pt_cmpR op_eq (pe_ix (show IxR _ (rIxT K) from ix_tup) (pe_ix (show IxR _ (rIxL K) from ix_list) (pv 1) (pv 0) (fun _ _ => rfl)) pe_int (fun _ _ => rfl)) (pv 2) (nomark _)), pv 0⟩))
      (pss_cons (ps_setComp (i := 9) (own := ["_law_k"]) (capN := ["_law_other"]) (cap := [3]) bkR3 rfl scRo.nd rfl rfl (pi_list (pv 8))
        (fun C s' H' fp => ⟨pg_name (i := 0) ndR3 rfl (Or.inl rfl), pts_one (pt_cmpR op_eq (pe_op op_and (pe_op op_shr (pv 1) (pv 0)) pe_int) pe_int (nomark _)), pv 0⟩))
      (pss_cons (ps_if (pt_cmpR op_eq (pe_op op_mod (pe_op op_fdiv (pv 3) pe_int) pe_int) pe_int (nomark _)) (pss_one (ps_set (i := 9) scRo.nd rfl (Or.inl rfl) (pe_rev (pv 9) (pe_un un_neg pe_int)))) pss_nil)
      (pss_one (ps_ret (pe_tup (pa_cons (pv 4) (pa_cons (pv 5) (pa_cons (pv 7) (pa_cons (pe_op op_cat (pv 9) (pe_slice sl_list (pv 9) po_none (po_some (pe_op op_mod (pe_op op_fdiv (pv 3) pe_int) pe_int)))) pa_nil))))))))))))), ?_⟩
    have hmod : 0 ≤ d % (n : Int) ∧ d % (n : Int) < n := ⟨Int.emod_nonneg _ (by omega), Int.emod_lt_of_pos _ (by omega)⟩
    have hll : lvs.length = ps.length := Paired.length hLn
    refine ⟨_, rfl, _, rfl, _, _, rfl, rfl, (by show (0 : Int) < (n : Int); omega), ?_⟩
    refine ⟨_, rfl, _, _, rfl, rfl, _, rfl, _, _, rfl, rfl, ⟨by decide, by decide⟩, _, rfl, _, _, rfl, rfl, _, _, rfl, rfl, (by show (0 : Int) < (n : Int) - 1; omega), _, _, rfl, rfl, _, rfl, _, _, rfl, rfl, (by show (0 : Int) < (n : Int); omega), ?_⟩
    -- the lanes that end here
    refine ⟨by show 2 ≤ sizeLine; decide, fun l1 hl1 => ?_⟩
    have s1 := (Same.refl H).new (o := .lst [.non, .non]) hl1
    have g1 : (upd H l1 (.lst [.non, .non])) l1 = some (.lst [.non, .non]) := upd_same
    generalize upd H l1 (.lst [.non, .non]) = H1 at s1 g1 ⊢
    refine ⟨_, rfl, l, _, rfl, .inl (SqL.of (s1 _ _ hl)), (lvs.length : Int), rfl, by omega, by omega, ?_⟩
    rw [Int.toNat_natCast, hll]
    refine comp_ix (sel := Prod.snd) (pl := d % (n : Int)) (by rw [PySem.sizeLine_eq]; omega) (fun i acc N pr hpr h => ?_) (fun D hD => ?_)
    · obtain ⟨v, hv, u, rfl, hu⟩ := Lns.get2 (Lns.same s1 hLn) hpr
      refine ⟨_, rfl, _, rfl, l, _, _, _, rfl, rfl, SqL.of (s1 _ _ hl), atI_nat hv, u, _, 1, _, rfl, rfl, SqT.of hu, atI_nat (j := 1) rfl, _, rfl, rfl, _, rfl, ?_⟩
      rw [int_eq]
      cases hd : decide (pr.2 = d % (n : Int)) with
      | true => rw [hd] at h; exact iteT ⟨_, rfl, by simpa using h⟩
      | false => rw [hd] at h; exact iteF (by simpa using h)
    have s2 := s1.new (o := .lst (natV (ixM Prod.snd ps (d % (n : Int))))) hD
    have g2 : (upd H1 D (.lst (natV (ixM Prod.snd ps (d % (n : Int)))))) D = some (.lst (natV (ixM Prod.snd ps (d % (n : Int))))) := upd_same
    have g12 : (upd H1 D (.lst (natV (ixM Prod.snd ps (d % (n : Int)))))) l1 = some (.lst [.non, .non]) := by rw [upd_ne (ne_of_none g1 hD)]; exact g1
    refine ⟨l1, D, _, _, rfl, rfl, g12, g2, by rw [PySem.sizeLine_eq]; have := ixM_len Prod.snd ps (d % (n : Int)); simp only [natV, List.length_map, List.length_cons, List.length_nil]; omega, fun p6 hp6 => ?_⟩
    generalize upd H1 D (.lst (natV (ixM Prod.snd ps (d % (n : Int))))) = H2 at s2 hp6 ⊢
    have s3 := s2.new (o := .lst ([V.non, V.non] ++ natV (ixM Prod.snd ps (d % (n : Int))))) hp6
    have g3 : (upd H2 p6 (.lst ([V.non, V.non] ++ natV (ixM Prod.snd ps (d % (n : Int)))))) p6 = some (.lst ([V.non, V.non] ++ natV (ixM Prod.snd ps (d % (n : Int))))) := upd_same
    generalize upd H2 p6 (.lst ([V.non, V.non] ++ natV (ixM Prod.snd ps (d % (n : Int))))) = H3 at s3 g3 ⊢
    -- one of them
    have hc : 0 < (([V.non, V.non] ++ natV (ixM Prod.snd ps (d % (n : Int)))).length : Int) := by rw [List.length_append]; simp only [List.length_cons, List.length_nil]; omega
    obtain ⟨v, hv, hmem⟩ := atI_some (xs := [V.non, V.non] ++ natV (ixM Prod.snd ps (d % (n : Int)))) (i := d / 256 % (([V.non, V.non] ++ natV (ixM Prod.snd ps (d % (n : Int)))).length : Nat)) (Int.emod_nonneg _ (by omega)) (Int.emod_lt_of_pos _ hc)
    obtain ⟨cm, rfl, hcm⟩ := came_of hlen hmem
    refine ⟨_, rfl, _, rfl, _, _, rfl, rfl, ⟨by decide, by decide⟩, _, rfl, p6, _, rfl, .inl (SqL.of g3), _, _, rfl, rfl, hc, p6, _, _, _, rfl, rfl, SqL.of g3, hv, ?_⟩
    -- the lanes that begin here
    refine ⟨_, rfl, l, _, rfl, .inl (SqL.of (s3 _ _ hl)), (lvs.length : Int), rfl, by omega, by omega, ?_⟩
    rw [Int.toNat_natCast, hll]
    refine comp_ix (sel := Prod.fst) (pl := d % (n : Int)) (by rw [PySem.sizeLine_eq]; omega) (fun i acc N pr hpr h => ?_) (fun D4 hD4 => ?_)
    · obtain ⟨v, hv, u, rfl, hu⟩ := Lns.get2 (Lns.same s3 hLn) hpr
      refine ⟨_, rfl, _, rfl, l, _, _, _, rfl, rfl, SqL.of (s3 _ _ hl), atI_nat hv, u, _, 0, _, rfl, rfl, SqT.of hu, atI_nat (j := 0) rfl, _, rfl, rfl, _, rfl, ?_⟩
      rw [int_eq]
      cases hd : decide (pr.1 = d % (n : Int)) with
      | true => rw [hd] at h; exact iteT ⟨_, rfl, by simpa using h⟩
      | false => rw [hd] at h; exact iteF (by simpa using h)
    generalize hB : ixM Prod.fst ps (d % (n : Int)) = B
    have s4 := s3.new (o := .lst (natV B)) hD4
    have g4 : (upd H3 D4 (.lst (natV B))) D4 = some (.lst (natV B)) := upd_same
    have hBk : (∀ k ∈ B, k ≤ 14) ∧ B.length ≤ 14 := by
      rw [← hB]
      exact ⟨fun k hk => by have := ixM_le hk; omega, Nat.le_trans (ixM_len _ _ _) hlen⟩
    generalize upd H3 D4 (.lst (natV B)) = H4 at s4 g4
    -- some of them
    refine ⟨_, rfl, D4, rfl, ⟨_, SqL.of g4⟩, ?_⟩
    refine comp_lst (xs := natV B) (fun v => match v with | .int i => decide (Builtin.bitAnd (o / 2 ^ i.toNat) 1 = 1) | _ => false) id (by rw [PySem.sizeLine_eq]; simp only [natV, List.length_map]; omega) (SqL.of g4) (fun y acc N hy h => ?_) (fun D5 hD5 => ?_)
    · obtain ⟨k, _, rfl⟩ := List.mem_map.mp hy
      refine ⟨_, rfl, _, rfl, _, _, rfl, rfl, (show (0 : Int) ≤ (k : Int) by omega), _, _, rfl, rfl, rfl, _, rfl, ?_⟩
      rw [int_eq]
      change N (if decide (Builtin.bitAnd (o / 2 ^ (k : Int).toNat) 1 = 1) = true then acc ++ [V.int k] else acc) H4 at h
      cases hd : decide (Builtin.bitAnd (o / 2 ^ (k : Int).toNat) 1 = 1) with
      | true => rw [hd] at h; exact iteT ⟨_, rfl, by simpa using h⟩
      | false => rw [hd] at h; exact iteF (by simpa using h)
    rw [List.map_id, filter_nat]
    generalize hR : (B.filter fun k : Nat => (match V.int k with | .int i => decide (Builtin.bitAnd (o / 2 ^ i.toNat) 1 = 1) | _ => false)) = R
    have hRk : (∀ k ∈ R, k ≤ 14) ∧ R.length ≤ 14 := by
      rw [← hR]
      exact ⟨fun k hk => hBk.1 k (List.mem_filter.mp hk).1, Nat.le_trans (List.length_filter_le _ _) hBk.2⟩
    have s5 := s4.new (o := .lst (natV R)) hD5
    have g5 : (upd H4 D5 (.lst (natV R))) D5 = some (.lst (natV R)) := upd_same
    generalize upd H4 D5 (.lst (natV R)) = H5 at s5 g5
    refine ⟨_, rfl, _, _, rfl, rfl, ⟨by decide, by decide⟩, _, _, rfl, rfl, (by show (0 : Int) < 3; decide), rfl, _, rfl, ite2 (fun _ => ⟨_, rfl, _, rfl, rfl, D5, natV R, rfl, SqL.of g5, fun p6 hp6 => ?_⟩) fun _ => ?_⟩
    all_goals
      first
      | (have s6 := s5.new (o := .lst (natV R.reverse)) hp6
         have e7 : (natV R).reverse = natV R.reverse := by unfold natV; rw [List.map_reverse]
         rw [e7]
         have g6 : (upd H5 p6 (.lst (natV R.reverse))) p6 = some (.lst (natV R.reverse)) := upd_same
         generalize upd H5 p6 (.lst (natV R.reverse)) = H6 at s6 g6 ⊢
         have hk6 : (∀ k ∈ R.reverse, k ≤ 14) ∧ R.reverse.length ≤ 14 := ⟨fun k hk => hRk.1 k (List.mem_reverse.mp hk), by rw [List.length_reverse]; exact hRk.2⟩
         generalize R.reverse = R6 at hk6 g6
         generalize p6 = p7 at g6 ⊢)
      | (have s6 := s5
         have g6 := g5
         have hk6 := hRk
         generalize R = R6 at hk6 g6
         generalize D5 = p7 at g6 ⊢)
      have he : 0 ≤ o / 262144 % 2 ∧ o / 262144 % 2 < 2 := ⟨Int.emod_nonneg _ (by decide), Int.emod_lt_of_pos _ (by decide)⟩
      refine ⟨_, rfl, _, rfl, _, rfl, _, rfl, _, rfl, _, rfl, _, _, rfl, rfl, ⟨by decide, by decide⟩, _, _, rfl, rfl, (by show (0 : Int) < 2; decide), _, rfl, p7, _, rfl, SqL.of g6, fun p8 hp8 => ?_⟩
      rw [cut_nat]
      generalize hC : (R6.drop (HT.sIx R6.length 0 none)).take (HT.sIx R6.length R6.length (some (o / 262144 % 2)) - HT.sIx R6.length 0 none) = C6
      have hCk : (∀ k ∈ C6, k ≤ 14) ∧ C6.length ≤ 1 := by
        rw [← hC]
        refine ⟨fun k hk => hk6.1 k (List.mem_of_mem_drop (List.mem_of_mem_take hk)), ?_⟩
        rw [List.length_take]
        obtain ⟨e, he'⟩ : ∃ e : Nat, o / 262144 % 2 = (e : Int) := ⟨(o / 262144 % 2).toNat, by omega⟩
        have h2 : HT.sIx R6.length R6.length (some (e : Int)) = min e R6.length := HT.sIx_nat _ _ _
        rw [he', h2]
        omega
      have s8 := s6.new (o := .lst (natV C6)) hp8
      have g68 := ((Same.refl _).new (o := .lst (natV C6)) hp8) _ _ g6
      refine ⟨p7, p8, _, _, rfl, rfl, g68, upd_same, by rw [PySem.sizeLine_eq]; simp only [natV, List.length_map]; omega, fun p9 hp9 => ?_⟩
      have s9 := s8.new (o := .lst (natV R6 ++ natV C6)) hp9
      refine ⟨by show 4 ≤ sizeLine; decide, fun t ht => ?_⟩
      have s10 := s9.new (o := .tup [.int (d % (n : Int)), .int ((d % (n : Int) + 1 + d / 16 % ((n : Int) - 1)) % (n : Int)), cV cm, .ref p9]) ht
      refine q t p9 ⟨d % (n : Int), (d % (n : Int) + 1 + d / 16 % ((n : Int) - 1)) % (n : Int), cm, R6 ++ C6⟩ _ s10 ⟨upd_same, ?_⟩ (s8.free hp9) ⟨hcm, fun k hk => ?_, ?_⟩
      · rw [upd_ne (ne_of_none upd_same ht), upd_same]
        unfold natV
        rw [List.map_append]
      · rcases List.mem_append.mp hk with z | z
        · have := hk6.1 k z; omega
        · have := hCk.1 k z; omega
      · rw [List.length_append]; omega
end
end K11
namespace K11
open PySem L2
/-! ### a row is spoiled -/
noncomputable def spSpoil : Sp := fun vs H Q _ => ∃ (m : Nat) (t l p ll : Addr) (r : Rw) (rvs lvs : List V) (rs : List Rw) (n : Nat) (d : Int), vs = [.ref t, .ref p, .int n, .ref ll, .int d] ∧ RwT H t l r ∧ RowOk m r ∧ H p = some (.lst rvs) ∧ Rws H rvs rs ∧ rs ≠ [] ∧ (∀ r ∈ rs, RowOk m r) ∧ m ≤ 20 ∧
  H ll = some (.lst lvs) ∧ lvs.length ≤ 14 ∧ ∀ (t' l' : Addr) (r' : Rw) (H' : Hp), Same H H' → RwT H' t' l' r' → (l' = l ∨ H l' = none) → RowOk (m + 1) r' → Q (.ref t') H'
noncomputable abbrev NSp : List Str := ["_law_row_here", "_law_rows_here", "_law_places", "_law_lanes", "_law_draw_here", "_law_place", "_law_goal", "_law_came", "_law_some", "_law_way"]
theorem RowOk.le {m m' : Nat} {r : Rw} (h : RowOk m r) (e : m ≤ m') : RowOk m' r := ⟨h.1, h.2.1, Nat.le_trans h.2.2 e⟩
theorem cut3 (a b c d : V) : cutV [a, b, c, d] none (some 3) = [a, b, c] := rfl
theorem part3 (a b c d : V) : ¬ (HT.sIx [a, b, c, d].length 0 none = 0 ∧ HT.sIx [a, b, c, d].length [a, b, c, d].length (some 3) = [a, b, c, d].length) := fun z =>
  absurd (show HT.sIx 4 4 (some 3) = 4 from z.2) (by decide)
theorem natV_snoc (ks : List Nat) (k : Nat) : natV (ks ++ [k]) = natV ks ++ [V.int k] := by unfold natV; rw [List.map_append]; rfl
theorem max1 (k : Nat) : ∃ m : Nat, (if (k : Int) > 1 then (k : Int) else 1) = (m : Int) ∧ 1 ≤ m ∧ m ≤ k + 1 := by
  by_cases h : (k : Int) > 1
  · exact ⟨k, by rw [if_pos h], by omega, by omega⟩
  · exact ⟨1, by rw [if_neg h]; rfl, by omega, by omega⟩
section
variable {P : Program} {w : World} {K : PySem.W.Frag} {mg : Str → Option Value} {base : Heap}
theorem scSp : FnScope NSp ["_law_row_here", "_law_rows_here", "_law_places", "_law_lanes", "_law_draw_here"] (defScope sSpoil) := ⟨rfl, rfl, rfl, by decide +kernel, rfl, by decide +kernel, by decide +kernel⟩
theorem ok_spoil {f : Addr} {fd : FuncData} (F : Fun K "_law_spoiled" "_law_spoiled" sSpoil f fd) (T : Txt mg) : FnOk P w K mg base CX0 1 f fd ["_law_row_here", "_law_rows_here", "_law_places", "_law_lanes", "_law_draw_here"] spSpoil := by
  refine F.ok scSp (fun vs H Q E h => ?_) (fun cdv A outer s H vs Q E hr h => ?_)
  · obtain ⟨m, t, l, p, ll, r, rvs, lvs, rs, n, d, rfl, _⟩ := h
    rfl
  · obtain ⟨m, t, l, p, ll, r, rvs, lvs, rs, n, d, rfl, hT, hok, hp, hR, hne, hall, hm, hl, hlen, q⟩ := h
    refine ⟨_, pss_cons (ps_asg (pv 0) (pg_tup rfl (pgs_cons (pg_name (i := 5) scSp.nd rfl (Or.inl rfl)) (pgs_cons (pg_name (i := 6) scSp.nd rfl (Or.inl rfl)) (pgs_cons (pg_name (i := 7) scSp.nd rfl (Or.inl rfl)) (pgs_cons (pg_name (i := 8) scSp.nd rfl (Or.inl rfl)) pgs_nil))))))
      (pss_cons (ps_set (i := 9) scSp.nd rfl (Or.inl rfl) (pe_op op_mod (pv 4) pe_int))
      (pss_cons (ps_if (pt_cmpR op_eq (pv 9) pe_int (nomark _)) (pss_one (ps_ret (pe_tup (pa_cons (pe_op op_add (pv 2) (pe_op op_mod (pe_op op_fdiv (pv 4) pe_int) pe_int)) (pa_cons (pv 6) (pa_cons (pv 7) (pa_cons (pv 8) pa_nil))))))) pss_nil)
      (pss_cons (ps_if (pt_cmpR op_eq (pv 9) pe_int (nomark _)) (pss_one (ps_ret (pe_tup (pa_cons (pv 5) (pa_cons (pe_op op_sub pe_int pe_int) (pa_cons (pv 7) (pa_cons (pv 8) pa_nil))))))) pss_nil)
      (pss_cons (ps_if (pt_cmpR op_eq (pv 9) pe_int (nomark _)) (pss_one (ps_ret (pe_tup (pa_cons (pv 5) (pa_cons (pv 5) (pa_cons (pv 7) (pa_cons (pv 8) pa_nil))))))) pss_nil)
      (pss_cons (ps_if (pt_cmpR op_eq (pv 9) pe_int (nomark _)) (pss_one (ps_ret (pe_tup (pa_cons (pv 5) (pa_cons (pv 6) (pa_cons (pe_callB call_len_seq rfl T.len PySem.boot_len (pa_cons (pv 3) pa_nil)) (pa_cons (pv 8) pa_nil))))))) pss_nil)
      (pss_cons (ps_if (pt_cmpR op_eq (pv 9) pe_int (nomark _)) (pss_one (ps_ret (pe_tup (pa_cons (pv 5) (pa_cons (pv 6) (pa_cons (pv 7) (pa_cons (pe_op op_cat (pv 8) (pe_lst (pa_cons (pe_op op_add (pe_callB call_len_seq rfl T.len PySem.boot_len (pa_cons (pv 3) pa_nil)) (pe_op op_mod (pe_op op_fdiv (pv 4) pe_int) pe_int)) pa_nil))) pa_nil))))))) pss_nil)
      (pss_cons (ps_if (pt_cmpR op_eq (pv 9) pe_int (nomark _)) (pss_one (ps_ret (pe_tup (pa_cons (pv 5) (pa_cons (pv 6) (pa_cons (pe_op op_mod (pe_op op_fdiv (pv 4) pe_int) (pe_callB (call_max2 rfl) rfl T.max PyProof.Rows.boot_max (pa_cons pe_int (pa_cons (pe_callB call_len_seq rfl T.len PySem.boot_len (pa_cons (pv 3) pa_nil)) pa_nil)))) (pa_cons (pv 8) pa_nil))))))) pss_nil)
      (pss_cons (ps_if (pt_cmpR op_eq (pv 9) pe_int (nomark _)) (pss_one (ps_ret (pe_tup (pa_cons (pv 5) (pa_cons (pv 6) (pa_cons (pv 7) (pa_cons (pe_op op_cat (pe_lst (pa_cons (pe_op op_mod (pe_op op_fdiv (pv 4) pe_int) (pe_callB (call_max2 rfl) rfl T.max PyProof.Rows.boot_max (pa_cons pe_int (pa_cons (pe_callB call_len_seq rfl T.len PySem.boot_len (pa_cons (pv 3) pa_nil)) pa_nil)))) pa_nil)) (pv 8)) pa_nil))))))) pss_nil)
      (pss_one (ps_ret (pe_op op_catT (pe_slice sl_tup (pe_ix ix_list (pv 1) (pe_op op_mod (pe_op op_fdiv (pv 4) pe_int) (pe_callB call_len_seq rfl T.len PySem.boot_len (pa_cons (pv 1) pa_nil))) (fun _ _ => rfl)) po_none (po_some pe_int)) (pe_tup (pa_cons (pe_lst pa_nil) pa_nil))))))))))))), ?_⟩
    have four : (4 : Nat) ≤ sizeLine := by decide
    obtain ⟨mm, hmm, hm1, hm2⟩ := max1 lvs.length
    have hmm' : 0 ≤ d / 8 % (mm : Int) ∧ d / 8 % (mm : Int) < mm := ⟨Int.emod_nonneg _ (by omega), Int.emod_lt_of_pos _ (by omega)⟩
    have h2 : 0 ≤ d / 8 % 2 ∧ d / 8 % 2 < 2 := ⟨Int.emod_nonneg _ (by decide), Int.emod_lt_of_pos _ (by decide)⟩
    have hsl : (natV r.s).length ≤ 20 := by unfold natV; rw [List.length_map]; exact Nat.le_trans hok.2.2 hm
    refine ⟨_, rfl, t, _, rfl, SqT.of hT.1, rfl, _, _, rfl, _, _, rfl, _, _, rfl, _, _, rfl, rfl, ?_⟩
    refine ⟨_, rfl, _, _, rfl, rfl, (by show (0 : Int) < 8; decide), ?_⟩
    -- the list stays
    have keep : ∀ (a b : Int) (c : Option Nat), (∀ k, c = some k → k ≤ 14) → ∀ t', H t' = none → Q (.ref t') (upd H t' (.tup [.int a, .int b, cV c, .ref l])) := fun a b c hc t' ht' =>
      q t' l ⟨a, b, c, r.s⟩ _ ((Same.refl H).new ht') ⟨upd_same, by rw [upd_ne (ne_of_none hT.2 ht')]; exact hT.2⟩ (.inl rfl) ⟨hc, hok.2.1, Nat.le_succ_of_le hok.2.2⟩
    refine ⟨_, rfl, rfl, _, rfl, ite2 (fun _ => ?_) fun _ => ?_⟩
    · exact ⟨_, rfl, _, rfl, _, _, rfl, rfl, ⟨by decide, by decide⟩, _, _, rfl, rfl, (by show (0 : Int) < 2; decide), _, _, rfl, rfl, _, rfl, _, rfl, _, rfl, four, fun t' ht' => keep _ _ r.c hok.1 t' ht'⟩
    refine ⟨_, rfl, rfl, _, rfl, ite2 (fun _ => ?_) fun _ => ?_⟩
    · exact ⟨_, rfl, _, _, rfl, rfl, _, rfl, _, rfl, four, fun t' ht' => keep _ _ r.c hok.1 t' ht'⟩
    refine ⟨_, rfl, rfl, _, rfl, ite2 (fun _ => ?_) fun _ => ?_⟩
    · exact ⟨_, rfl, _, rfl, _, rfl, _, rfl, four, fun t' ht' => keep _ _ r.c hok.1 t' ht'⟩
    refine ⟨_, rfl, rfl, _, rfl, ite2 (fun _ => ?_) fun _ => ?_⟩
    · exact ⟨_, rfl, _, rfl, _, rfl, ll, _, rfl, .inl (SqL.of hl), _, rfl, four, fun t' ht' => keep _ _ (some lvs.length) (fun k e => by cases e; exact hlen) t' ht'⟩
    refine ⟨_, rfl, rfl, _, rfl, ite2 (fun _ => ?_) fun _ => ?_⟩
    · obtain ⟨j, hj⟩ : ∃ j : Nat, (lvs.length : Int) + d / 8 % 2 = (j : Int) := ⟨(lvs.length + d / 8 % 2).toNat, by omega⟩
      refine ⟨_, rfl, _, rfl, _, rfl, _, rfl, _, rfl, ll, _, rfl, .inl (SqL.of hl), _, rfl, _, _, rfl, rfl, ⟨by decide, by decide⟩, _, _, rfl, rfl, (by show (0 : Int) < 2; decide), _, _, rfl, rfl, by show 1 ≤ sizeLine; decide, fun l1 hl1 => ?_⟩
      have s1 := (Same.refl H).new (o := .lst [.int ((lvs.length : Int) + d / 8 % 2)]) hl1
      refine ⟨l, l1, _, _, rfl, rfl, s1 _ _ hT.2, upd_same, by rw [PySem.sizeLine_eq]; simp only [List.length_cons, List.length_nil]; omega, fun l2 hl2 => ?_⟩
      have s2 := s1.new (o := .lst (natV (r.s ++ [j]))) hl2
      have e2 : natV r.s ++ [V.int ((lvs.length : Int) + d / 8 % 2)] = natV (r.s ++ [j]) := by rw [natV_snoc, hj]
      rw [e2]
      refine ⟨four, fun t' ht' => ?_⟩
      refine q t' l2 ⟨r.p, r.g, r.c, r.s ++ [j]⟩ _ (s2.new ht') ⟨upd_same, by rw [upd_ne (ne_of_none upd_same ht'), upd_same]⟩ (.inr (s1.free hl2)) ⟨hok.1, fun k hk => ?_, ?_⟩
      · rcases List.mem_append.mp hk with z | z
        · exact hok.2.1 k z
        · have := List.mem_singleton.mp z; omega
      · rw [List.length_append]; exact Nat.succ_le_succ hok.2.2
    refine ⟨_, rfl, rfl, _, rfl, ite2 (fun _ => ?_) fun _ => ?_⟩
    · refine ⟨_, rfl, _, rfl, _, rfl, _, _, rfl, rfl, ⟨by decide, by decide⟩, _, rfl, ll, _, rfl, .inl (SqL.of hl), _, _, rfl, ?_⟩
      show ∃ _ _, _
      rw [hmm]
      refine ⟨_, _, rfl, rfl, (by show (0 : Int) < (mm : Int); omega), _, rfl, four, fun t' ht' => ?_⟩
      obtain ⟨j, hj⟩ : ∃ j : Nat, d / 8 % (mm : Int) = (j : Int) := ⟨(d / 8 % (mm : Int)).toNat, by omega⟩
      have z := keep r.p r.g (some j) (fun k e => by cases e; omega) t' ht'
      rw [show cV (some j) = V.int (d / 8 % (mm : Int)) from by rw [hj]; rfl] at z
      exact z
    refine ⟨_, rfl, rfl, _, rfl, ite2 (fun _ => ?_) fun _ => ?_⟩
    · refine ⟨_, rfl, _, rfl, _, rfl, _, rfl, _, _, rfl, rfl, ⟨by decide, by decide⟩, _, rfl, ll, _, rfl, .inl (SqL.of hl), _, _, rfl, ?_⟩
      show ∃ _ _, _
      rw [hmm]
      refine ⟨_, _, rfl, rfl, (by show (0 : Int) < (mm : Int); omega), by show 1 ≤ sizeLine; decide, fun l1 hl1 => ?_⟩
      obtain ⟨j, hj⟩ : ∃ j : Nat, d / 8 % (mm : Int) = (j : Int) := ⟨(d / 8 % (mm : Int)).toNat, by omega⟩
      have s1 := (Same.refl H).new (o := .lst [.int (d / 8 % (mm : Int))]) hl1
      refine ⟨_, rfl, l1, l, _, _, rfl, rfl, upd_same, s1 _ _ hT.2, by rw [PySem.sizeLine_eq]; simp only [List.length_cons, List.length_nil]; omega, fun l2 hl2 => ?_⟩
      have s2 := s1.new (o := .lst ([.int (d / 8 % (mm : Int))] ++ natV r.s)) hl2
      refine ⟨four, fun t' ht' => ?_⟩
      refine q t' l2 ⟨r.p, r.g, r.c, j :: r.s⟩ _ (s2.new ht') ⟨upd_same, by rw [upd_ne (ne_of_none upd_same ht'), upd_same]; show some (HO.lst (V.int (d / 8 % (mm : Int)) :: natV r.s)) = _; rw [hj]; rfl⟩ (.inr (s1.free hl2)) ⟨hok.1, fun k hk => ?_, ?_⟩
      · rcases List.mem_cons.mp hk with z | z
        · omega
        · exact hok.2.1 k z
      · exact Nat.succ_le_succ hok.2.2
    have hrl : rvs.length = rs.length := Paired.length hR
    have hpos : 0 < (rvs.length : Int) := by have := List.length_pos_iff.mpr hne; omega
    obtain ⟨v, hv, hmem⟩ := atI_some (xs := rvs) (i := d / 8 % (rvs.length : Nat)) (Int.emod_nonneg _ (by omega)) (Int.emod_lt_of_pos _ hpos)
    obtain ⟨i, hi⟩ := List.mem_iff_getElem?.mp hmem
    obtain ⟨r1, hr1, t1, l1, rfl, hT1⟩ := Rws.get hR hi
    have hok1 := hall r1 (List.mem_of_getElem? hr1)
    refine ⟨_, rfl, _, rfl, _, _, rfl, rfl, ⟨by decide, by decide⟩, _, rfl, p, _, rfl, .inl (SqL.of hp), _, _, rfl, rfl, hpos, p, _, _, _, rfl, rfl, SqL.of hp, hv, _, rfl, t1, _, rfl, SqT.of hT1.1, part3 _ _ _ _, fun t2 ht2 => ?_⟩
    rw [cut3]
    have s1 := (Same.refl H).new (o := .tup [.int r1.p, .int r1.g, cV r1.c]) ht2
    refine ⟨Nat.zero_le _, fun e he => ?_⟩
    have s2 := s1.new (o := .lst []) he
    refine ⟨by show 1 ≤ sizeLine; decide, fun t3 ht3 => ?_⟩
    have s3 := s2.new (o := .tup [.ref e]) ht3
    refine ⟨t2, t3, _, _, rfl, rfl, SqT.of (by rw [upd_ne (ne_of_none (by rw [upd_ne (ne_of_none upd_same he)]; exact upd_same) ht3), upd_ne (ne_of_none upd_same he)]; exact upd_same), SqT.of upd_same, List.cons_ne_nil _ _, by show 4 ≤ sizeLine; decide, (fun z => absurd z (List.cons_ne_nil _ _)), fun _ t' ht' => ?_⟩
    refine q t' e ⟨r1.p, r1.g, r1.c, []⟩ _ (s3.new ht') ⟨upd_same, ?_⟩ (.inr (s1.free he)) ⟨hok1.1, (fun k hk => by cases hk), Nat.zero_le _⟩
    rw [upd_ne (ne_of_none (by rw [upd_ne (ne_of_none upd_same ht3)]; exact upd_same) ht'), upd_ne (ne_of_none upd_same ht3)]
    exact upd_same
end
end K11
namespace K11
open PySem L2
/-! ### the rows -/
/-- a row whose list is not the one at x -/
noncomputable def RwX (x : Addr) (H : Hp) (v : V) (r : Rw) : Prop := ∃ t l, v = .ref t ∧ RwT H t l r ∧ l ≠ x
noncomputable abbrev Rxs (x : Addr) (H : Hp) : List V → List Rw → Prop := Paired (RwX x H)
theorem Rxs.imp {x : Addr} {H H' : Hp} {G : V → Rw → Prop} (h : ∀ v r, RwX x H v r → G v r) : ∀ {vs : List V} {rs : List Rw}, Rxs x H vs rs → Paired G vs rs
  | _, _, .nil => .nil
  | _, _, .cons z r => .cons (h _ _ z) (Rxs.imp (H' := H') h r)
theorem Rxs.rws {x : Addr} {H : Hp} {vs : List V} {rs : List Rw} (h : Rxs x H vs rs) : Rws H vs rs := Rxs.imp (H' := H) (fun _ _ ⟨t, l, e, z, _⟩ => ⟨t, l, e, z⟩) h
theorem Rxs.same {x : Addr} {H H' : Hp} (s : Same H H') {vs : List V} {rs : List Rw} (h : Rxs x H vs rs) : Rxs x H' vs rs := Rxs.imp (H' := H) (fun _ _ ⟨t, l, e, z, n⟩ => ⟨t, l, e, z.same s, n⟩) h
/-- the list at x is changed -/
theorem Rxs.off {x : Addr} {H : Hp} {xs : List V} {o : HO} (hx : H x = some (.lst xs)) {vs : List V} {rs : List Rw} (h : Rxs x H vs rs) : Rxs x (upd H x o) vs rs :=
  Rxs.imp (H' := H) (fun _ _ ⟨t, l, e, z, n⟩ => ⟨t, l, e, ⟨by rw [upd_ne (ne_of z.1 hx (by intro z; cases z))]; exact z.1, by rw [upd_ne n]; exact z.2⟩, n⟩) h
/-- what is neither a tuple nor a list is changed -/
theorem Rxs.ext {x d : Addr} {H : Hp} {φ : Heap → Prop} {o : HO} (hd : H d = some (.ext φ)) {vs : List V} {rs : List Rw} (h : Rxs x H vs rs) : Rxs x (upd H d o) vs rs :=
  Rxs.imp (H' := H) (fun _ _ ⟨t, l, e, z, n⟩ => ⟨t, l, e, ⟨by rw [upd_ne (ne_of z.1 hd (by intro z; cases z))]; exact z.1, by rw [upd_ne (ne_of z.2 hd (by intro z; cases z))]; exact z.2⟩, n⟩) h
theorem Rxs.snoc {x : Addr} {H : Hp} {v : V} {r : Rw} (h : RwX x H v r) : ∀ {vs : List V} {rs : List Rw}, Rxs x H vs rs → Rxs x H (vs ++ [v]) (rs ++ [r])
  | _, _, .nil => .cons h .nil
  | _, _, .cons z t => .cons z (Rxs.snoc h t)
theorem Rxs.set {x : Addr} {H : Hp} {v : V} {r : Rw} (h : RwX x H v r) : ∀ {vs : List V} {rs : List Rw} (i : Nat), Rxs x H vs rs → Rxs x H (vs.set i v) (rs.set i r)
  | _, _, _, .nil => .nil
  | _, _, 0, .cons _ t => .cons h t
  | _, _, i + 1, .cons z t => .cons z (Rxs.set h i t)
theorem Rxs.get {x : Addr} {H : Hp} : ∀ {vs : List V} {rs : List Rw} {i : Nat} {v : V}, Rxs x H vs rs → vs[i]? = some v → ∃ r, rs[i]? = some r ∧ RwX x H v r
  | _, _, _, _, .nil, e => by simp at e
  | _, _, 0, _, .cons z _, e => by simp at e; subst e; exact ⟨_, rfl, z⟩
  | _, _, i + 1, v, .cons _ t, e => by
    obtain ⟨r, h1, h2⟩ := Rxs.get (i := i) (v := v) t (by simpa using e)
    exact ⟨r, by simpa using h1, h2⟩
theorem dic_off {P : Program} {w : World} {H : Hp} {a x : Addr} {kvs : List Ent} {xs : List V} {o : HO} (hd : DicAt P w H a kvs) (hx : H x = some (.lst xs)) : DicAt P w (upd H x o) a kvs :=
  ⟨by rw [upd_ne (ne_of hd.1 hx (by intro z; cases z))]; exact hd.1, fun y hy => by rw [upd_ne (ne_of (hd.2 y hy) hx (by intro z; cases z))]; exact hd.2 y hy⟩
theorem dic_put {P : Program} {w : World} {H : Hp} {a b : Addr} {k : Oks} {v : V} {kvs : List Ent} (hd : DicAt P w H a kvs) (hb : H b = some (.tup (k.map okV))) : DicAt P w (upd H a (DicO P w a (putO kvs k b v))) a (putO kvs k b v) :=
  ⟨upd_same, putO_keys (F := fun k' c => (upd H a (DicO P w a (putO kvs k b v))) c = some (.tup (k'.map okV))) (fun y hy => by rw [upd_ne (ne_of (hd.2 y hy) hd.1 (by intro z; cases z))]; exact hd.2 y hy)
    (by rw [upd_ne (ne_of hb hd.1 (by intro z; cases z))]; exact hb)⟩
/-! rows as data -/
noncomputable def cD : Option Nat → PyData
  | none => .none
  | some k => .int k
noncomputable def rowD (r : Rw) : PyData := .tuple [.int r.p, .int r.g, cD r.c, .list (r.s.map fun k : Nat => PyData.int k)]
theorem den_c {K : PySem.W.Frag} {H : Hp} (c : Option Nat) : Den K H (cV c) (cD c) := by
  cases c with
  | none => exact .non
  | some k => exact .int _
theorem dens_nat {K : PySem.W.Frag} {H : Hp} : ∀ ks : List Nat, Dens K H (natV ks) (ks.map fun k : Nat => PyData.int k)
  | [] => .nil
  | k :: ks => .cons (.int _) (dens_nat ks)
theorem den_row {K : PySem.W.Frag} {H : Hp} {v : V} {r : Rw} : RwV H v r → Den K H v (rowD r) := fun ⟨t, l, e, h1, h2⟩ => by
  subst e
  exact .tup (SqT.of h1) (.cons (.int _) (.cons (.int _) (.cons (den_c _) (.cons (.lst (SqL.of h2) (dens_nat _)) .nil))))
theorem dens_rws {K : PySem.W.Frag} {H : Hp} : ∀ {vs : List V} {rs : List Rw}, Rws H vs rs → Dens K H vs (rs.map rowD)
  | _, _, .nil => .nil
  | _, _, .cons h t => .cons (den_row h) (dens_rws t)
theorem shp_c (c : Option Nat) : Shp (cD c) 0 := by
  cases c with
  | none => exact ⟨by simp [cD, PyData.canLay0], by simp [cD, PyData.depth]⟩
  | some k => exact shp_int _
theorem shp_row (r : Rw) : Shp (rowD r) 2 := (shp_tuple (m := 1) fun z hz => by
  simp only [List.mem_cons, List.not_mem_nil, or_false] at hz
  rcases hz with rfl | rfl | rfl | rfl
  · exact (shp_int _).le (by decide)
  · exact (shp_int _).le (by decide)
  · exact (shp_c _).le (by decide)
  · exact shp_list (m := 0) fun z hz => by
      obtain ⟨p, _, rfl⟩ := List.mem_map.mp hz
      exact shp_int _)
theorem shp_rows (rs : List Rw) : Shp (.list (rs.map rowD)) 64 := (shp_list (m := 2) fun z hz => by
  obtain ⟨r, _, rfl⟩ := List.mem_map.mp hz
  exact shp_row r).le (by decide)
/-- xs != [] of rows -/
theorem rows_ne {K : PySem.W.Frag} {H : Hp} {a b : Addr} {vs : List V} {rs : List Rw} {Q : VK} (ha : H a = some (.lst vs)) (hr : Rws H vs rs) (hb : H b = some (.lst [])) (q : Q (.bl (decide (rs ≠ []))) H) : rNeD K (.ref a) (.ref b) H Q := by
  refine ⟨.list (rs.map rowD), .list [], .lst (SqL.of ha) (dens_rws hr), .lst (SqL.of hb) .nil, (shp_rows rs).shaped (Nat.le_refl _), (shp_rows []).shaped (Nat.le_refl _), ?_⟩
  have e : PyData.eqv (.list (rs.map rowD)) (.list []) = decide (rs = []) := by
    cases rs with
    | nil => simp [PyData.eqv, PyData.eqvAll]
    | cons r rs => simp [PyData.eqv, PyData.eqvAll]
  rw [e]
  have e2 : (!decide (rs = [])) = decide (rs ≠ []) := by simp
  rw [e2]
  exact q
noncomputable def spRows (K : PySem.W.Frag) : Sp := fun vs H Q _ => ∃ (a l : Addr) (ns : List Int) (n : Nat) (lvs : List V) (ps : List (Int × Int)), vs = [.ref a, .int n, .ref l] ∧ SqL K H a (ns.map V.int) ∧ H l = some (.lst lvs) ∧ Lns H lvs ps ∧ ps.length ≤ 14 ∧ (2 ≤ n ∧ n ≤ 12) ∧
  ∀ (p : Addr) (rvs : List V) (rs : List Rw) (H' : Hp), Same H H' → H' p = some (.lst rvs) → Rws H' rvs rs → rs.length ≤ 40 → (∀ r ∈ rs, RowOk 20 r) → Q (.ref p) H'
noncomputable abbrev NRs : List Str := ["_law_script", "_law_places", "_law_lanes", "_law_rows_here", "_law_known", "_law_k", "_law_row_here", "_law_at"]
theorem ixN_nat {n j : Nat} (h : j < n) : L2.ixN n (j : Int) = some j := by
  unfold L2.ixN
  rw [if_pos (by omega), if_pos (by omega)]
  rfl
section
variable {P : Program} {w : World} {K : PySem.W.Frag} {mg : Str → Option Value} {base : Heap}
theorem scRs : FnScope NRs ["_law_script", "_law_places", "_law_lanes"] (defScope sRows) := ⟨rfl, rfl, rfl, by decide +kernel, rfl, by decide +kernel, by decide +kernel⟩
theorem ok_rows {f fd fr fs : Addr} {df dd dr ds : FuncData} (F : Fun K "_law_rows" "_law_rows" sRows f df) (T : Txt mg)
    (md : mg "_law_draw" = some (.ref fd)) (kd : PySem.W.keepIn K (.ref fd) = true) (bd : Binds K dd ["_law_script", "_law_k"] []) (Gd : FnOk P w K mg base CX0 1 fd dd ["_law_script", "_law_k"] (spDraw K))
    (mr : mg "_law_row" = some (.ref fr)) (kr : PySem.W.keepIn K (.ref fr) = true) (br : Binds K dr ["_law_places", "_law_lanes", "_law_draw_here", "_law_other"] []) (Gr : FnOk P w K mg base CX0 1 fr dr ["_law_places", "_law_lanes", "_law_draw_here", "_law_other"] spRow)
    (ms : mg "_law_spoiled" = some (.ref fs)) (ks : PySem.W.keepIn K (.ref fs) = true) (bs : Binds K ds ["_law_row_here", "_law_rows_here", "_law_places", "_law_lanes", "_law_draw_here"] []) (Gs : FnOk P w K mg base CX0 1 fs ds ["_law_row_here", "_law_rows_here", "_law_places", "_law_lanes", "_law_draw_here"] spSpoil) :
    FnOk P w K mg base CX0 2 f df ["_law_script", "_law_places", "_law_lanes"] (spRows K) := by
  refine F.ok scRs (fun vs H Q E h => ?_) (fun cdv A outer s H vs Q E hr h => ?_)
  · obtain ⟨a, l, ns, n, lvs, ps, rfl, _⟩ := h
    rfl
  · obtain ⟨a, l, ns, n, lvs, ps, rfl, hS, hl, hLn, hlen, hn, q⟩ := h
    have hr1 : Room 1 _ := hr.mono (by decide)
    have hu := hu_of hr
    have hu64 := hr.units
    refine ⟨_, pss_cons (ps_set (i := 3) scRs.nd rfl (Or.inl rfl) (pe_lst pa_nil))
      (pss_cons (ps_set (i := 4) scRs.nd rfl (Or.inl rfl) (show PE _ _ (tONew P w) from pe_onew))
      (pss_cons (ps_for PassesOwn.never rfl (pi_range1 rfl T.range (pa_cons (pe_callB call_len_seq rfl T.len PySem.boot_len (pa_cons (pe_slice sl_list (pv 0) (po_some pe_int) (po_some pe_int)) pa_nil)) pa_nil)) (pg_name (i := 5) scRs.nd rfl (Or.inl rfl))
        (pss_cons (ps_set (i := 6) scRs.nd rfl (Or.inl rfl) (pe_call Gr hr1 rfl mr kr br .nil pass0 (pa_cons (pv 1) (pa_cons (pv 2)
          (pa_cons (pe_call Gd hr1 rfl md kd bd .nil pass0 (pa_cons (pv 0) (pa_cons (pe_op op_add pe_int (pe_op op_mul pe_int (pv 5))) pa_nil)))
          (pa_cons (pe_call Gd hr1 rfl md kd bd .nil pass0 (pa_cons (pv 0) (pa_cons (pe_op op_add pe_int (pe_op op_mul pe_int (pv 5))) pa_nil))) pa_nil))))))
        (pss_cons (ps_if (pt_cmp (pc_onotin hu (pe_slice sl_tup (pv 6) po_none (po_some pe_int)) (pv 4))) (pss_one (ps_expr (pe_bm PySem.F.plainAttrs_list PySem.F.slot_list_append PySem.F.type_list_append mt_append (pv 3) (pa_cons (pv 6) pa_nil)))) pss_nil)
        (pss_one (ps_oput hu (pv 4) (pe_slice sl_tup (pv 6) po_none (po_some pe_int)) pe_bl rfl)))))
      (pss_cons (ps_for PassesOwn.never rfl (pi_range1 rfl T.range (pa_cons (pe_op op_sub (pe_op op_mod (pe_call Gd hr1 rfl md kd bd .nil pass0 (pa_cons (pv 0) (pa_cons pe_int pa_nil))) pe_int) pe_int) pa_nil)) (pg_name (i := 5) scRs.nd rfl (Or.inl rfl))
        (pss_one (ps_if (pt_cmpR (op_neD hu64) (pv 3) (pe_lst pa_nil) (nomark _))
          (pss_cons (ps_set (i := 7) scRs.nd rfl (Or.inl rfl) (pe_op op_mod (pe_call Gd hr1 rfl md kd bd .nil pass0 (pa_cons (pv 0) (pa_cons (pe_op op_add pe_int (pv 5)) pa_nil))) (pe_callB call_len_seq rfl T.len PySem.boot_len (pa_cons (pv 3) pa_nil))))
          (pss_one (ps_asg (pe_call Gs hr1 rfl ms ks bs .nil pass0 (pa_cons (pe_ix ix_list (pv 3) (pv 7) (fun _ _ => rfl)) (pa_cons (pv 3) (pa_cons (pv 1) (pa_cons (pv 2)
            (pa_cons (pe_call Gd hr1 rfl md kd bd .nil pass0 (pa_cons (pv 0) (pa_cons (pe_op op_add pe_int (pv 5)) pa_nil))) pa_nil)))))) (pg_sub (pv 3) (pv 7) set_list)))) pss_nil)))
      (pss_one (ps_ret (pv 3)))))), ?_⟩
    refine ⟨Nat.zero_le _, fun p hp => ?_⟩
    have s0 := (Same.refl H).new (o := .lst []) hp
    refine fun d0 hd0 => ?_
    have s1 := s0.new (o := DicO P w d0 []) hd0
    have hd00 : H d0 = none := s0.free hd0
    have g1 : (upd (upd H p (.lst [])) d0 (DicO P w d0 [])) p = some (.lst []) := by rw [upd_ne (ne_of_none upd_same hd0)]; exact upd_same
    have dd1 : DicAt P w (upd (upd H p (.lst [])) d0 (DicO P w d0 [])) d0 [] := ⟨upd_same, fun y hy => by cases hy⟩
    generalize upd (upd H p (.lst [])) d0 (DicO P w d0 []) = H1 at s1 g1 dd1 ⊢
    refine ⟨_, rfl, _, rfl, _, rfl, a, _, rfl, s1.seq hS, fun p2 hp2 => ?_⟩
    have s2 := s1.new (o := .lst (cutV (ns.map V.int) (some 3) (some 43))) hp2
    have s12 := (Same.refl H1).new (o := .lst (cutV (ns.map V.int) (some 3) (some 43))) hp2
    have hcl : (cutV (ns.map V.int) (some 3) (some 43)).length ≤ 40 := by
      unfold cutV
      rw [List.length_take]
      have h2' : HT.sIx (ns.map V.int).length (ns.map V.int).length (some 43) = min 43 (ns.map V.int).length := HT.sIx_nat _ _ 43
      have h1' : HT.sIx (ns.map V.int).length 0 (some 3) = min 3 (ns.map V.int).length := HT.sIx_nat _ _ 3
      rw [h1', h2']
      omega
    refine ⟨p2, _, rfl, .inl (SqL.of upd_same), ((cutV (ns.map V.int) (some 3) (some 43)).length : Int), rfl, by omega, by omega, ?_⟩
    rw [Int.toNat_natCast]
    have g2 := s12 _ _ g1
    have dd2 := dd1.same s12
    generalize upd H1 p2 (.lst (cutV (ns.map V.int) (some 3) (some 43))) = H2 at s2 g2 dd2 ⊢
    refine for_range (n := (cutV (ns.map V.int) (some 3) (some 43)).length) (fun i σ H3 => ∃ (a1 a2 a3 : Option V) (rvs : List V) (rs : List Rw) (kvs : List Ent), Same H H3 ∧ H3 p = some (.lst rvs) ∧ Rxs p H3 rvs rs ∧ rs.length ≤ i ∧ (∀ r ∈ rs, RowOk 15 r) ∧ DicAt P w H3 d0 kvs ∧ kvs.length ≤ i ∧
        σ = [some (.ref a), some (.int n), some (.ref l), some (.ref p), some (.ref d0), a1, a2, a3]) ⟨none, none, none, [], [], [], s2, g2, .nil, Nat.zero_le _, (fun r hr => by cases hr), dd2, Nat.zero_le _, rfl⟩ ?_ ?_
    · rintro i σ H3 hi ⟨a1, a2, a3, rvs, rs, kvs, s3, g3, hx3, hl3, hok3, dd3, kl3, rfl⟩
      refine ⟨_, rfl, _, rfl, _, rfl, _, rfl, _, _, rfl, rfl, .inl ⟨by decide, by decide⟩, _, _, rfl, rfl, a, ns, _, rfl, s3.seq hS, by omega, by omega, fun d1 H4 s4 => ?_⟩
      refine ⟨_, rfl, _, rfl, _, _, rfl, rfl, .inl ⟨by decide, by decide⟩, _, _, rfl, rfl, a, ns, _, rfl, (s3.trans s4).seq hS, by omega, by omega, fun d2 H5 s5 => ?_⟩
      have s45 := s4.trans s5
      have s35 := s3.trans s45
      refine ⟨l, n, lvs, ps, d1, d2, rfl, s35 _ _ hl, Lns.same s35 hLn, hlen, hn, fun t l' r H6 s6 hT6 hl6 hok6 => ?_⟩
      have s36 := s45.trans s6
      have g6 := s36 _ _ g3
      have nlp : l' ≠ p := (ne_of_none (s45 _ _ g3) hl6).symm
      -- its key
      refine ⟨_, rfl, _, rfl, t, _, rfl, SqT.of hT6.1, part3 _ _ _ _, fun k1 hk1 => ?_⟩
      rw [cut3]
      have s7 := (Same.refl H6).new (o := .tup [.int r.p, .int r.g, cV r.c]) hk1
      have e7 : (upd H6 k1 (.tup [.int r.p, .int r.g, cV r.c])) k1 = some (.tup ((keyOf r).map okV)) := by rw [key_tup]; exact upd_same
      generalize upd H6 k1 (.tup [.int r.p, .int r.g, cV r.c]) = H7 at s7 e7 ⊢
      have s37 := s36.trans s7
      refine ⟨_, rfl, d0, _, rfl, ⟨kvs, keyOf r, k1, dd3.same s37, rfl, e7, rfl⟩, _, rfl, ite2 (fun _ => ?_) fun _ => ?_⟩
      · have g7 := s37 _ _ g3
        refine ⟨_, rfl, .inl ⟨rfl, _, SqL.of g7⟩, _, rfl, p, rvs, _, rfl, rfl, g7, by rw [PySem.sizeLine_eq]; have : rvs.length = rs.length := Paired.length hx3; omega, ?_⟩
        have hT7 := hT6.same s7
        have s8 : Same H (upd H7 p (.lst (rvs ++ [.ref t]))) := fun b o e => by rw [upd_ne (ne_of_none e hp)]; exact s37 _ _ (s3 _ _ e)
        have hT8 : RwT (upd H7 p (.lst (rvs ++ [.ref t]))) t l' r := ⟨by rw [upd_ne (ne_of hT7.1 g7 (by intro z; cases z))]; exact hT7.1, by rw [upd_ne nlp]; exact hT7.2⟩
        have x8 : Rxs p (upd H7 p (.lst (rvs ++ [.ref t]))) (rvs ++ [.ref t]) (rs ++ [r]) := Rxs.snoc ⟨t, l', rfl, hT8, nlp⟩ (Rxs.off g7 (hx3.same s37))
        have g8 : (upd H7 p (.lst (rvs ++ [.ref t]))) p = some (.lst (rvs ++ [.ref t])) := upd_same
        have dd8 := dic_off (o := .lst (rvs ++ [.ref t])) (dd3.same s37) g7
        have l8 : (rs ++ [r]).length ≤ i + 1 := by rw [List.length_append]; exact Nat.succ_le_succ hl3
        have ok8 : ∀ z ∈ rs ++ [r], RowOk 15 z := fun z hz => by
          rcases List.mem_append.mp hz with y | y
          · exact hok3 z y
          · rw [List.mem_singleton.mp y]; exact hok6
        generalize upd H7 p (.lst (rvs ++ [.ref t])) = H8 at s8 hT8 x8 g8 dd8 ⊢
        generalize rvs ++ [.ref t] = rvs8 at x8 g8
        generalize rs ++ [r] = rs8 at x8 l8 ok8
        refine ⟨_, rfl, _, rfl, _, rfl, t, _, rfl, SqT.of hT8.1, part3 _ _ _ _, fun k2 hk2 => ?_⟩
        rw [cut3]
        have s9 := (Same.refl H8).new (o := .tup [.int r.p, .int r.g, cV r.c]) hk2
        have e9 : (upd H8 k2 (.tup [.int r.p, .int r.g, cV r.c])) k2 = some (.tup ((keyOf r).map okV)) := by rw [key_tup]; exact upd_same
        generalize upd H8 k2 (.tup [.int r.p, .int r.g, cV r.c]) = H9 at s9 e9 ⊢
        have dd9 := dd8.same s9
        refine ⟨d0, kvs, keyOf r, k2, rfl, dd9, rfl, e9, by rw [PySem.sizeLine_eq]; omega, ?_⟩
        refine ⟨_, _, _, rvs8, rs8, putO kvs (keyOf r) k2 (.bl true), fun b o e => ?_, ?_, Rxs.ext dd9.1 (x8.same s9), l8, ok8, dic_put dd9 e9, Nat.le_trans putO_length (Nat.succ_le_succ kl3), rfl⟩
        · rw [upd_ne (ne_of_none e hd00)]; exact s9 _ _ (s8 _ _ e)
        · rw [upd_ne (ne_of (s9 _ _ g8) dd9.1 (by intro z; cases z))]; exact s9 _ _ g8
      · have hT8 := hT6.same s7
        have s8 := s3.trans s37
        have x8 := hx3.same s37
        have g8 := s37 _ _ g3
        have dd8 := dd3.same s37
        have l8 : rs.length ≤ i + 1 := Nat.le_succ_of_le hl3
        have ok8 := hok3
        generalize H7 = H8 at s8 hT8 x8 g8 dd8 ⊢
        generalize rvs = rvs8 at x8 g8
        generalize rs = rs8 at x8 l8 ok8
        refine ⟨_, rfl, _, rfl, _, rfl, t, _, rfl, SqT.of hT8.1, part3 _ _ _ _, fun k2 hk2 => ?_⟩
        rw [cut3]
        have s9 := (Same.refl H8).new (o := .tup [.int r.p, .int r.g, cV r.c]) hk2
        have e9 : (upd H8 k2 (.tup [.int r.p, .int r.g, cV r.c])) k2 = some (.tup ((keyOf r).map okV)) := by rw [key_tup]; exact upd_same
        generalize upd H8 k2 (.tup [.int r.p, .int r.g, cV r.c]) = H9 at s9 e9 ⊢
        have dd9 := dd8.same s9
        refine ⟨d0, kvs, keyOf r, k2, rfl, dd9, rfl, e9, by rw [PySem.sizeLine_eq]; omega, ?_⟩
        refine ⟨_, _, _, rvs8, rs8, putO kvs (keyOf r) k2 (.bl true), fun b o e => ?_, ?_, Rxs.ext dd9.1 (x8.same s9), l8, ok8, dic_put dd9 e9, Nat.le_trans putO_length (Nat.succ_le_succ kl3), rfl⟩
        · rw [upd_ne (ne_of_none e hd00)]; exact s9 _ _ (s8 _ _ e)
        · rw [upd_ne (ne_of (s9 _ _ g8) dd9.1 (by intro z; cases z))]; exact s9 _ _ g8
    · rintro σ H3 ⟨a1, a2, a3, rvs, rs, kvs, s3, g3, hx3, hl3, hok3, _, _, rfl⟩
      refine ⟨_, rfl, a, ns, 2, rfl, s3.seq hS, by decide, by decide, fun d1 H4 s4 => ?_⟩
      have hd4 : 0 ≤ d1 % 4 ∧ d1 % 4 < 4 := ⟨Int.emod_nonneg _ (by decide), Int.emod_lt_of_pos _ (by decide)⟩
      refine ⟨_, _, rfl, rfl, (by show (0 : Int) < 4; decide), _, _, rfl, rfl, d1 % 4 - 1, rfl, by omega, by omega, ?_⟩
      have hm2 : (d1 % 4 - 1).toNat ≤ 2 := by omega
      refine for_range (n := (d1 % 4 - 1).toNat) (fun i σ H3 => ∃ (a1 a2 a3 a4 : Option V) (rvs : List V) (rs : List Rw), Same H H3 ∧ H3 p = some (.lst rvs) ∧ Rxs p H3 rvs rs ∧ rs.length ≤ 40 ∧ (∀ r ∈ rs, RowOk (15 + i) r) ∧
          σ = [some (.ref a), some (.int n), some (.ref l), some (.ref p), a1, a2, a3, a4]) ⟨_, _, _, _, rvs, rs, s3.trans s4, s4 _ _ g3, hx3.same s4, by omega, hok3, rfl⟩ ?_ ?_
      · rintro i σ H5 hi ⟨b1, b2, b3, b4, rvs5, rs5, s5, g5, hx5, hl5, hok5, rfl⟩
        refine ⟨_, rfl, Nat.zero_le _, fun e0 he0 => ?_⟩
        have s6 := (Same.refl H5).new (o := .lst []) he0
        refine rows_ne (s6 _ _ g5) (hx5.same s6).rws upd_same ⟨_, rfl, ite2 (fun hne => ?_) fun _ => ?_⟩
        rotate_left
        · exact ⟨_, _, _, _, rvs5, rs5, s5.trans s6, s6 _ _ g5, hx5.same s6, hl5, fun r hr => (hok5 r hr).le (by omega), rfl⟩
        have hne' : rs5 ≠ [] := of_decide_eq_true hne
        have hrl : rvs5.length = rs5.length := Paired.length hx5
        have hpos : 0 < (rvs5.length : Int) := by have := List.length_pos_iff.mpr hne'; omega
        generalize upd H5 e0 (.lst []) = H6 at s6 ⊢
        have s56 := s5.trans s6
        refine ⟨_, rfl, _, rfl, _, _, rfl, rfl, a, ns, _, rfl, s56.seq hS, by omega, by omega, fun d2 H7 s7 => ?_⟩
        have s57 := s6.trans s7
        have s07 := s56.trans s7
        refine ⟨_, rfl, p, _, rfl, .inl (SqL.of (s57 _ _ g5)), _, _, rfl, rfl, hpos, ?_⟩
        obtain ⟨j, hj⟩ : ∃ j : Nat, d2 % (rvs5.length : Int) = (j : Int) := ⟨(d2 % (rvs5.length : Int)).toNat, by have := Int.emod_nonneg d2 (show (rvs5.length : Int) ≠ 0 by omega); omega⟩
        have hjl : j < rvs5.length := by have := Int.emod_lt_of_pos d2 hpos; omega
        show gName 7 (V.int (d2 % (rvs5.length : Int))) _ _ _
        rw [hj]
        obtain ⟨r, hrj, t, l1, e1, hT, hnl⟩ := Rxs.get (hx5.same s57) (List.getElem?_eq_getElem hjl)
        refine ⟨_, rfl, _, rfl, p, _, _, _, rfl, rfl, SqL.of (s57 _ _ g5), atI_nat (List.getElem?_eq_getElem hjl), _, rfl, _, rfl, _, rfl, _, rfl, _, rfl, _, _, rfl, rfl, a, ns, _, rfl, s07.seq hS, by omega, by omega, fun d3 H8 s8 => ?_⟩
        have s58 := s57.trans s8
        have s08 := s07.trans s8
        rw [e1]
        refine ⟨15 + i, t, l1, p, l, r, rvs5, lvs, rs5, n, d3, rfl, hT.same s8, hok5 r (List.mem_of_getElem? hrj), s58 _ _ g5, (hx5.same s58).rws, hne', hok5, by omega, s08 _ _ hl, by have : lvs.length = ps.length := Paired.length hLn; omega, fun t' l' r' H9 s9 hT9 hl9 hok9 => ?_⟩
        have g9 := s9 _ _ (s58 _ _ g5)
        have nl9 : l' ≠ p := by
          rcases hl9 with z | z
          · rw [z]; exact hnl
          · exact (ne_of_none (s58 _ _ g5) z).symm
        refine ⟨_, rfl, _, rfl, p, rvs5, _, j, rfl, rfl, g9, ixN_nat hjl, ?_⟩
        have hT10 : RwT (upd H9 p (.lst (rvs5.set j (.ref t')))) t' l' r' := ⟨by rw [upd_ne (ne_of hT9.1 g9 (by intro z; cases z))]; exact hT9.1, by rw [upd_ne nl9]; exact hT9.2⟩
        refine ⟨_, _, _, _, rvs5.set j (.ref t'), rs5.set j r', fun b o e => ?_, upd_same, Rxs.set ⟨t', l', rfl, hT10, nl9⟩ j (Rxs.off g9 ((hx5.same s58).same s9)), by rw [List.length_set]; exact hl5, fun z hz => ?_, rfl⟩
        · rw [upd_ne (ne_of_none e hp)]; exact s9 _ _ (s08 _ _ e)
        · rcases List.mem_or_eq_of_mem_set hz with y | y
          · exact (hok5 z y).le (by omega)
          · rw [y]; exact hok9
      · rintro σ H5 ⟨b1, b2, b3, b4, rvs5, rs5, s5, g5, hx5, hl5, hok5, rfl⟩
        exact ⟨_, rfl, q p rvs5 rs5 H5 s5 g5 hx5.rws hl5 fun r hr => (hok5 r hr).le (by omega)⟩
end
end K11
namespace K11
open PySem L2
/-! ### which row is bad, by the law -/
noncomputable def spBad : Sp := fun vs H Q _ => ∃ (t l p ll : Addr) (r : Rw) (avs lvs : List V) (ahead : List Rw) (n : Nat) (ps : List (Int × Int)), vs = [.ref t, .ref p, .int n, .ref ll] ∧ RwT H t l r ∧ RowOk 20 r ∧ H p = some (.lst avs) ∧ Rws H avs ahead ∧ ahead.length ≤ 40 ∧
  H ll = some (.lst lvs) ∧ Lns H lvs ps ∧ ps.length ≤ 14 ∧ ∀ H', Same H H' → Q (.bl (badL n ps ahead r)) H'
noncomputable abbrev NB : List Str := ["_law_row_here", "_law_ahead", "_law_places", "_law_lanes", "_law_place", "_law_goal", "_law_came", "_law_some"]
noncomputable def badAt (i : Nat) : Stmt := (defBody sBad).getD i (.Pass ⟨0, 0, 0, 0⟩)
noncomputable def cmpScope (s : Stmt) : Scope := match s with
  | .If (.Compare (.ListComp _ _ sc _) _ _ _) _ _ _ => sc
  | .Return (some (.Compare (.ListComp _ _ sc _) _ _ _)) _ => sc
  | _ => noScope
theorem any_iz (ks : List Nat) (p : Nat → Bool) : ks.any p = !decide (iz (ks.filter p) = []) := by
  have e : iz (ks.filter p) = [] ↔ ∀ k ∈ ks, ¬ p k = true := by unfold iz; rw [List.map_eq_nil_iff, List.filter_eq_nil_iff]
  cases ha : ks.any p with
  | true =>
    rw [List.any_eq_true] at ha
    obtain ⟨z, hz, hz'⟩ := ha
    rw [decide_eq_false (fun y => e.mp y z hz hz')]
    rfl
  | false =>
    rw [List.any_eq_false] at ha
    rw [decide_eq_true (e.mpr ha)]
    rfl
noncomputable def camL (ps : List (Int × Int)) (pl : Int) : Option Nat → Bool
  | none => false
  | some k => offL Prod.snd ps pl k
theorem badL_eq (n : Int) (ps : List (Int × Int)) (ahead : List Rw) (r : Rw) : badL n ps ahead r = (!okP n (r.p, r.g) || (camL ps r.p r.c || ((r.s.any fun k => offL Prod.fst ps r.p k) || ahead.any fun a => decide (keyOf a = keyOf r)))) := by
  unfold badL camL
  rfl
noncomputable def rLen (K : PySem.W.Frag) : List V → Hp → VK → Prop := fun xs H Q => ∃ p ys, xs = [.ref p] ∧ (SqL K H p ys ∨ SqT K H p ys) ∧ Q (.int ys.length) H
noncomputable def keyD (r : Rw) : PyData := .tuple [.int r.p, .int r.g, cD r.c]
theorem den_key {K : PySem.W.Frag} {H : Hp} {a : Addr} {r : Rw} (h : H a = some (.tup [.int r.p, .int r.g, cV r.c])) : Den K H (.ref a) (keyD r) := .tup (SqT.of h) (.cons (.int _) (.cons (.int _) (.cons (den_c _) .nil)))
theorem shp_key (r : Rw) : Shp (keyD r) 64 := (shp_tuple (m := 0) fun z hz => by
  simp only [List.mem_cons, List.not_mem_nil, or_false] at hz
  rcases hz with rfl | rfl | rfl
  · exact shp_int _
  · exact shp_int _
  · exact shp_c _).le (by decide)
theorem key_eqv (a b : Rw) : PyData.eqv (keyD a) (keyD b) = decide (keyOf a = keyOf b) := by
  obtain ⟨p, g, c, s⟩ := a
  obtain ⟨p', g', c', s'⟩ := b
  have e : (keyOf ⟨p, g, c, s⟩ = keyOf ⟨p', g', c', s'⟩) ↔ (p = p' ∧ g = g' ∧ c = c') := by
    unfold keyOf
    simp only [List.cons.injEq, Option.some.injEq, and_true]
    refine ⟨fun ⟨h1, h2, h3⟩ => ⟨h1, h2, ?_⟩, fun ⟨h1, h2, h3⟩ => ⟨h1, h2, by rw [h3]⟩⟩
    cases c with
    | none => cases c' with
      | none => rfl
      | some k' => cases h3
    | some k => cases c' with
      | none => cases h3
      | some k' =>
        have : (k : Int) = (k' : Int) := by simpa using h3
        rw [show k = k' by omega]
  rw [decide_eq_decide.mpr e, Bool.eq_iff_iff, decide_eq_true_iff]
  cases c with
  | none => cases c' with
    | none => simp [keyD, cD, PyData.eqv, PyData.eqvAll]
    | some k' => simp [keyD, cD, PyData.eqv, PyData.eqvAll]
  | some k => cases c' with
    | none => simp [keyD, cD, PyData.eqv, PyData.eqvAll]
    | some k' =>
      simp only [keyD, cD, PyData.eqv, PyData.eqvAll, Bool.and_eq_true, beq_iff_eq, and_true, Option.some.injEq]
      refine ⟨fun ⟨h1, h2, h3⟩ => ⟨h1, h2, by omega⟩, fun ⟨h1, h2, h3⟩ => ⟨h1, h2, by omega⟩⟩
section
variable {P : Program} {w : World} {K : PySem.W.Frag} {mg : Str → Option Value} {base : Heap}
theorem scB : FnScope NB ["_law_row_here", "_law_ahead", "_law_places", "_law_lanes"] (defScope sBad) := ⟨rfl, rfl, rfl, by decide +kernel, rfl, by decide +kernel, by decide +kernel⟩
theorem bkB1 : Blk NB (defScope sBad) (cmpScope (badAt 3)) ["_law_lanes", "_law_place"] [3, 4] := ⟨rfl, by decide +kernel, by decide +kernel, by decide +kernel, rfl, by decide +kernel⟩
theorem bkB2 : Blk NB (defScope sBad) (cmpScope (badAt 4)) ["_law_row_here"] [0] := ⟨rfl, by decide +kernel, by decide +kernel, by decide +kernel, rfl, by decide +kernel⟩
theorem ndB1 : (["_law_k", "_law_lanes", "_law_place"] : List Str).Nodup := by decide +kernel
theorem ndB2 : (["_law_one", "_law_row_here"] : List Str).Nodup := by decide +kernel
theorem ok_bad {f : Addr} {fd : FuncData} (F : Fun K "_law_is_bad" "_law_is_bad" sBad f fd) (T : Txt mg) : FnOk P w K mg base CX0 1 f fd ["_law_row_here", "_law_ahead", "_law_places", "_law_lanes"] spBad := by
  refine F.ok scB (fun vs H Q E h => ?_) (fun cdv A outer s H vs Q E hr h => ?_)
  · obtain ⟨t, l, p, ll, r, avs, lvs, ahead, n, ps, rfl, _⟩ := h
    rfl
  · obtain ⟨t, l, p, ll, r, avs, lvs, ahead, n, ps, rfl, hT, hok, hp, hR, hal, hl, hLn, hlen, q⟩ := h
    have hu := hr.units
    refine ⟨_, pss_cons (ps_asg (pv 0) (pg_tup rfl (pgs_cons (pg_name (i := 4) scB.nd rfl (Or.inr rfl)) (pgs_cons (pg_name (i := 5) scB.nd rfl (Or.inl rfl)) (pgs_cons (pg_name (i := 6) scB.nd rfl (Or.inl rfl)) (pgs_cons (pg_name (i := 7) scB.nd rfl (Or.inl rfl)) pgs_nil))))))
      (pss_cons (ps_if (PW.pt (pw_or (pt_cmpR op_lt (pe_callB (call_min2 rfl) rfl T.min PyProof.Rows.boot_min (pa_cons (pv 4) (pa_cons (pv 5) pa_nil))) pe_int (nomark _))
        (pw_or (pt_cmpR op_ge (pe_callB (call_max2 rfl) rfl T.max PyProof.Rows.boot_max (pa_cons (pv 4) (pa_cons (pv 5) pa_nil))) (pv 2) (nomark _)) (pw_or1 (pt_cmpR op_eq (pv 4) (pv 5) (nomark _)))))) (pss_one (ps_ret pe_bl)) pss_nil)
      (pss_cons (ps_if (PW.pt (pw_and (pt_cmpR op_notN (pv 6) pe_non (nomark _)) (pw_and1 (PW.pt (pw_or (pt_cmpR op_ge (pv 6) (pe_callB call_len_seq rfl T.len PySem.boot_len (pa_cons (pv 3) pa_nil)) (nomark _))
        (pw_or1 (pt_cmpR op_ne (pe_ix ix_tup (pe_ix ix_list (pv 3) (pv 6) (fun _ _ => rfl)) pe_int (fun _ _ => rfl)) (pv 4) (nomark _)))))))) (pss_one (ps_ret pe_bl)) pss_nil)
      (pss_cons (ps_if (pt_cmpR (op_neI hu) (pe_comp (own := ["_law_k"]) (capN := ["_law_lanes", "_law_place"]) (cap := [3, 4]) bkB1 rfl (pi_list (pv 7))
          (fun C s' H' fp => ⟨pg_name (i := 0) ndB1 rfl (Or.inl rfl), pts_one (PW.pt (pw_or (pt_cmpR op_ge (pv 0) (pe_callB (show CallR _ (.builtin "len") (rLen K) from call_len_seq) rfl T.len PySem.boot_len (pa_cons (pv 1) pa_nil)) (nomark _))
            (pw_or1 (pt_cmpR op_ne (pe_ix (show IxR _ (rIxT K) from ix_tup) (pe_ix (show IxR _ (rIxL K) from ix_list) (pv 1) (pv 0) (fun _ _ => rfl)) pe_int (fun _ _ => rfl)) (pv 2) (nomark _))))), pv 0⟩)) (pe_lst pa_nil) (nomark _)) (pss_one (ps_ret pe_bl)) pss_nil)
      (pss_one (ps_ret (pe_cmpR (op_neD hu) (pe_comp (own := ["_law_one"]) (capN := ["_law_row_here"]) (cap := [0]) bkB2 rfl (pi_list (pv 1))
          (fun C s' H' fp => ⟨pg_name (i := 0) ndB2 rfl (Or.inl rfl), pts_one (pt_cmpR (show OpR _ (compareOp .Eq) (rEqD K) from op_eqD hu) (pe_slice (show SlR _ (rSlT K) from sl_tup) (pv 0) po_none (po_some pe_int)) (pe_slice (show SlR _ (rSlT K) from sl_tup) (pv 1) po_none (po_some pe_int)) (nomark _)), pv 0⟩)) (pe_lst pa_nil) (nomark _))))))), ?_⟩
    have hll : lvs.length = ps.length := Paired.length hLn
    have ret : ∀ (b : Bool) (H' : Hp), badL n ps ahead r = b → Same H H' → Q (.bl b) H' := fun b H' e s => by rw [← e]; exact q H' s
    have two := law_two n r.p r.g
    refine ⟨_, rfl, t, _, rfl, SqT.of hT.1, rfl, _, _, rfl, _, _, rfl, _, _, rfl, _, _, rfl, rfl, ?_⟩
    -- 1. place and goal
    have b1 : okP n (r.p, r.g) = false → badL n ps ahead r = true := fun h => by unfold badL; rw [h]; rfl
    refine ⟨_, rfl, _, rfl, _, _, rfl, _, _, rfl, rfl, _, rfl, ?_⟩
    cases hA : decide ((if r.g < r.p then r.g else r.p) < 0) with
    | true => exact iteT (iteT (ret true H (b1 (by rw [hA] at two; simpa using two.symm)) (Same.refl H)))
    | false =>
      refine iteF ⟨_, rfl, _, rfl, _, _, rfl, _, rfl, _, _, rfl, rfl, _, rfl, ?_⟩
      cases hB : decide ((n : Int) ≤ (if r.g > r.p then r.g else r.p)) with
      | true => exact iteT (iteT (ret true H (b1 (by rw [hA, hB] at two; simpa using two.symm)) (Same.refl H)))
      | false =>
        refine iteF ⟨_, rfl, _, rfl, rfl, _, rfl, ?_⟩
        rw [int_eq]
        cases hC : decide (r.p = r.g) with
        | true => exact iteT (ret true H (b1 (by rw [hA, hB, hC] at two; simpa using two.symm)) (Same.refl H))
        | false =>
          refine iteF ?_
          have ho : okP n (r.p, r.g) = true := by rw [hA, hB, hC] at two; simpa using two.symm
          cases hc : r.c with
          | none =>
            refine ⟨_, rfl, rfl, _, rfl, iteF (iteF ?_)⟩
            have e2 : camL ps r.p r.c = false := by rw [hc]; rfl
            refine ⟨_, rfl, l, rfl, ⟨_, SqL.of hT.2⟩, ?_⟩
            refine comp_lst (xs := natV r.s) (fun v => match v with | .int i => offL Prod.fst ps r.p i.toNat | _ => false) id (by rw [PySem.sizeLine_eq]; have := hok.2.2; simp only [natV, List.length_map]; omega) (SqL.of hT.2) (fun y acc N hy h => ?_) (fun D hD => ?_)
            · obtain ⟨k', hk', rfl⟩ := List.mem_map.mp hy
              change N (if offL Prod.fst ps r.p k' = true then acc ++ [V.int k'] else acc) H at h
              refine ⟨_, rfl, _, rfl, ll, _, rfl, .inl (SqL.of hl), _, _, rfl, rfl, _, rfl, ?_⟩
              by_cases hk1 : ps.length ≤ k'
              · rw [decide_eq_true (show ((lvs.length : Nat) : Int) ≤ (k' : Int) by omega)]
                have e : offL Prod.fst ps r.p k' = true := by unfold offL; rw [decide_eq_true hk1]; rfl
                rw [e] at h
                exact iteT (iteT ⟨_, rfl, by simpa using h⟩)
              · rw [decide_eq_false (show ¬ ((lvs.length : Nat) : Int) ≤ (k' : Int) by omega)]
                obtain ⟨pr', hpr'⟩ : ∃ pr, ps[k']? = some pr := ⟨ps[k']'(by omega), List.getElem?_eq_getElem (by omega)⟩
                obtain ⟨v', hv', u', rfl, hu''⟩ := Lns.get2 hLn hpr'
                have eg' : ps.getD k' (0, 0) = pr' := by rw [List.getD_eq_getElem?_getD, hpr']; rfl
                have e : offL Prod.fst ps r.p k' = !decide (pr'.1 = r.p) := by unfold offL; rw [decide_eq_false hk1, eg']; rfl
                rw [e] at h
                refine iteF ⟨_, rfl, _, rfl, ll, _, _, _, rfl, rfl, SqL.of hl, atI_nat hv', u', _, 0, _, rfl, rfl, SqT.of hu'', atI_nat (j := 0) rfl, _, rfl, rfl, _, rfl, ?_⟩
                rw [int_eq]
                cases hd' : decide (pr'.1 = r.p) with
                | true => rw [hd'] at h; exact iteF (by simpa using h)
                | false => rw [hd'] at h; exact iteT ⟨_, rfl, by simpa using h⟩
            rw [List.map_id, filter_nat]
            have eF : (r.s.filter fun k : Nat => (match V.int k with | .int i => offL Prod.fst ps r.p i.toNat | _ => false)) = r.s.filter fun k => offL Prod.fst ps r.p k := rfl
            rw [eF]
            generalize hFe : (r.s.filter fun k => offL Prod.fst ps r.p k) = Fl
            have s1 := (Same.refl H).new (o := .lst (natV Fl)) hD
            have g1 : (upd H D (.lst (natV Fl))) D = some (.lst (natV Fl)) := upd_same
            generalize upd H D (.lst (natV Fl)) = H1 at s1 g1 ⊢
            refine ⟨Nat.zero_le _, fun e0 he0 => ?_⟩
            have s2 := s1.new (o := .lst []) he0
            have s12 := (Same.refl H1).new (o := .lst []) he0
            have g0 : (upd H1 e0 (.lst [])) e0 = some (.lst []) := upd_same
            generalize upd H1 e0 (.lst []) = H2 at s2 s12 g0 ⊢
            refine ⟨D, e0, iz Fl, [], rfl, rfl, by rw [← natV_iz]; exact SqL.of (s12 _ _ g1), SqL.of g0, _, rfl, ?_⟩
            have eAny : (r.s.any fun k => offL Prod.fst ps r.p k) = !decide (iz Fl = []) := by rw [← hFe]; exact any_iz _ _
            rw [← eAny]
            cases ha : (r.s.any fun k => offL Prod.fst ps r.p k) with
            | true =>
              refine iteT (ret true H2 ?_ s2)
              rw [badL_eq, ho, e2, ha]
              rfl
            | false =>
              refine iteF ?_
              have e3 : badL n ps ahead r = ahead.any fun a => decide (keyOf a = keyOf r) := by
                rw [badL_eq, ho, e2, ha]
                rfl
              refine ⟨_, rfl, p, rfl, ⟨_, SqL.of (s2 _ _ hp)⟩, ?_⟩
              have hav : avs.length = ahead.length := Paired.length hR
              refine comp_gen avs.length (by rw [PySem.sizeLine_eq]; omega) (fun i acc H3 => Same H H3 ∧ acc.length ≤ i ∧ Rws H3 acc ((ahead.take i).filter fun a => decide (keyOf a = keyOf r))) ⟨s2, Nat.le_refl _, .nil⟩ (fun i acc H3 h => h.2.1) ?_ ?_
              · rintro i acc H3 hi ⟨s3, ha3, hA⟩
                have q3 : SqL K H3 p avs := SqL.of (s3 _ _ hp)
                refine ⟨⟨avs, avs[i], q3, List.getElem?_eq_getElem hi⟩, fun y H4 ⟨e4, hy⟩ => ?_⟩
                subst e4
                have hy := hy avs q3
                obtain ⟨r', hr', t', l', rfl, hT'⟩ := Rws.get hR hy
                refine ⟨_, rfl, _, rfl, t', _, rfl, SqT.of (s3 _ _ hT'.1), part3 _ _ _ _, fun k1 hk1 => ?_⟩
                rw [cut3]
                have s4 := (Same.refl H4).new (o := .tup [.int r'.p, .int r'.g, cV r'.c]) hk1
                have g4 : (upd H4 k1 (.tup [.int r'.p, .int r'.g, cV r'.c])) k1 = some (.tup [.int r'.p, .int r'.g, cV r'.c]) := upd_same
                generalize upd H4 k1 (.tup [.int r'.p, .int r'.g, cV r'.c]) = H5 at s4 g4 ⊢
                have s5 := s3.trans s4
                refine ⟨_, rfl, _, rfl, t, _, rfl, SqT.of (s5 _ _ hT.1), part3 _ _ _ _, fun k2 hk2 => ?_⟩
                rw [cut3]
                have s56 := (Same.refl H5).new (o := .tup [.int r.p, .int r.g, cV r.c]) hk2
                have g6 : (upd H5 k2 (.tup [.int r.p, .int r.g, cV r.c])) k2 = some (.tup [.int r.p, .int r.g, cV r.c]) := upd_same
                generalize upd H5 k2 (.tup [.int r.p, .int r.g, cV r.c]) = H6 at s56 g6 ⊢
                have s46 := s4.trans s56
                refine ⟨_, _, den_key (s56 _ _ g4), den_key g6, (shp_key r').shaped (Nat.le_refl _), (shp_key r).shaped (Nat.le_refl _), ?_⟩
                rw [key_eqv]
                refine ⟨_, rfl, ?_⟩
                have et : (ahead.take (i + 1)).filter (fun a => decide (keyOf a = keyOf r)) = (ahead.take i).filter (fun a => decide (keyOf a = keyOf r)) ++ (if decide (keyOf r' = keyOf r) = true then [r'] else []) := by
                  rw [List.take_succ, hr', List.filter_append]
                  cases hd' : decide (keyOf r' = keyOf r) with
                  | true => simp [hd']
                  | false => simp [hd']
                cases hd' : decide (keyOf r' = keyOf r) with
                | true =>
                  refine iteT ⟨_, rfl, s3.trans s46, by rw [List.length_append]; exact Nat.succ_le_succ ha3, ?_⟩
                  rw [et, hd', if_pos rfl]
                  exact Rws.snoc ⟨t', l', rfl, hT'.same (s3.trans s46)⟩ (Rws.same s46 hA)
                | false =>
                  refine iteF ⟨s3.trans s46, Nat.le_succ_of_le ha3, ?_⟩
                  rw [et, hd', if_neg (by decide), List.append_nil]
                  exact Rws.same s46 hA
              · rintro acc H3 ⟨s3, ha3, hA⟩
                refine ⟨⟨avs, SqL.of (s3 _ _ hp), Nat.le_refl _⟩, fun D3 hD3 => ?_⟩
                have s4 := (Same.refl H3).new (o := .lst acc) hD3
                have g4 : (upd H3 D3 (.lst acc)) D3 = some (.lst acc) := upd_same
                generalize upd H3 D3 (.lst acc) = H4 at s4 g4 ⊢
                refine ⟨Nat.zero_le _, fun e1 he1 => ?_⟩
                have s5 := (Same.refl H4).new (o := .lst []) he1
                rw [hav, List.take_length] at hA
                refine rows_ne (s5 _ _ g4) (Rws.same (s4.trans s5) hA) upd_same ?_
                refine ret _ _ ?_ (s3.trans (s4.trans s5))
                rw [e3]
                cases hx : (ahead.any fun a => decide (keyOf a = keyOf r)) with
                | true =>
                  rw [List.any_eq_true] at hx
                  obtain ⟨z, hz, hz'⟩ := hx
                  rw [decide_eq_true]
                  intro y
                  have := List.filter_eq_nil_iff.mp y z hz
                  exact this hz'
                | false =>
                  rw [List.any_eq_false] at hx
                  rw [decide_eq_false]
                  intro y
                  exact y (List.filter_eq_nil_iff.mpr hx)
          | some k =>
            refine ⟨_, rfl, rfl, _, rfl, iteT ⟨_, rfl, _, rfl, ll, _, rfl, .inl (SqL.of hl), _, _, rfl, rfl, _, rfl, ?_⟩⟩
            by_cases hk : ps.length ≤ k
            · rw [decide_eq_true (show ((lvs.length : Nat) : Int) ≤ (k : Int) by omega)]
              have e : badL n ps ahead r = true := by
                have eo : offL Prod.snd ps r.p k = true := by unfold offL; rw [decide_eq_true hk]; rfl
                unfold badL
                rw [ho, hc]
                dsimp only
                rw [eo]
                rfl
              exact iteT (iteT (ret true H e (Same.refl H)))
            · rw [decide_eq_false (show ¬ ((lvs.length : Nat) : Int) ≤ (k : Int) by omega)]
              obtain ⟨pr, hpr⟩ : ∃ pr, ps[k]? = some pr := ⟨ps[k]'(by omega), List.getElem?_eq_getElem (by omega)⟩
              obtain ⟨v, hv, u, rfl, hu'⟩ := Lns.get2 hLn hpr
              have eg : ps.getD k (0, 0) = pr := by rw [List.getD_eq_getElem?_getD, hpr]; rfl
              have eo : offL Prod.snd ps r.p k = !decide (pr.2 = r.p) := by unfold offL; rw [decide_eq_false hk, eg]; rfl
              refine iteF ⟨_, rfl, _, rfl, ll, _, _, _, rfl, rfl, SqL.of hl, atI_nat hv, u, _, 1, _, rfl, rfl, SqT.of hu', atI_nat (j := 1) rfl, _, rfl, rfl, _, rfl, ?_⟩
              rw [int_eq]
              cases hd : decide (pr.2 = r.p) with
              | false =>
                refine iteT (ret true H ?_ (Same.refl H))
                rw [hd] at eo
                unfold badL
                rw [ho, hc]
                dsimp only
                rw [eo]
                rfl
              | true =>
                refine iteF ?_
                have e2 : camL ps r.p r.c = false := by rw [hc]; show offL Prod.snd ps r.p k = false; rw [eo, hd]; rfl
                refine ⟨_, rfl, l, rfl, ⟨_, SqL.of hT.2⟩, ?_⟩
                refine comp_lst (xs := natV r.s) (fun v => match v with | .int i => offL Prod.fst ps r.p i.toNat | _ => false) id (by rw [PySem.sizeLine_eq]; have := hok.2.2; simp only [natV, List.length_map]; omega) (SqL.of hT.2) (fun y acc N hy h => ?_) (fun D hD => ?_)
                · obtain ⟨k', hk', rfl⟩ := List.mem_map.mp hy
                  change N (if offL Prod.fst ps r.p k' = true then acc ++ [V.int k'] else acc) H at h
                  refine ⟨_, rfl, _, rfl, ll, _, rfl, .inl (SqL.of hl), _, _, rfl, rfl, _, rfl, ?_⟩
                  by_cases hk1 : ps.length ≤ k'
                  · rw [decide_eq_true (show ((lvs.length : Nat) : Int) ≤ (k' : Int) by omega)]
                    have e : offL Prod.fst ps r.p k' = true := by unfold offL; rw [decide_eq_true hk1]; rfl
                    rw [e] at h
                    exact iteT (iteT ⟨_, rfl, by simpa using h⟩)
                  · rw [decide_eq_false (show ¬ ((lvs.length : Nat) : Int) ≤ (k' : Int) by omega)]
                    obtain ⟨pr', hpr'⟩ : ∃ pr, ps[k']? = some pr := ⟨ps[k']'(by omega), List.getElem?_eq_getElem (by omega)⟩
                    obtain ⟨v', hv', u', rfl, hu''⟩ := Lns.get2 hLn hpr'
                    have eg' : ps.getD k' (0, 0) = pr' := by rw [List.getD_eq_getElem?_getD, hpr']; rfl
                    have e : offL Prod.fst ps r.p k' = !decide (pr'.1 = r.p) := by unfold offL; rw [decide_eq_false hk1, eg']; rfl
                    rw [e] at h
                    refine iteF ⟨_, rfl, _, rfl, ll, _, _, _, rfl, rfl, SqL.of hl, atI_nat hv', u', _, 0, _, rfl, rfl, SqT.of hu'', atI_nat (j := 0) rfl, _, rfl, rfl, _, rfl, ?_⟩
                    rw [int_eq]
                    cases hd' : decide (pr'.1 = r.p) with
                    | true => rw [hd'] at h; exact iteF (by simpa using h)
                    | false => rw [hd'] at h; exact iteT ⟨_, rfl, by simpa using h⟩
                rw [List.map_id, filter_nat]
                have eF : (r.s.filter fun k : Nat => (match V.int k with | .int i => offL Prod.fst ps r.p i.toNat | _ => false)) = r.s.filter fun k => offL Prod.fst ps r.p k := rfl
                rw [eF]
                generalize hFe : (r.s.filter fun k => offL Prod.fst ps r.p k) = Fl
                have s1 := (Same.refl H).new (o := .lst (natV Fl)) hD
                have g1 : (upd H D (.lst (natV Fl))) D = some (.lst (natV Fl)) := upd_same
                generalize upd H D (.lst (natV Fl)) = H1 at s1 g1 ⊢
                refine ⟨Nat.zero_le _, fun e0 he0 => ?_⟩
                have s2 := s1.new (o := .lst []) he0
                have s12 := (Same.refl H1).new (o := .lst []) he0
                have g0 : (upd H1 e0 (.lst [])) e0 = some (.lst []) := upd_same
                generalize upd H1 e0 (.lst []) = H2 at s2 s12 g0 ⊢
                refine ⟨D, e0, iz Fl, [], rfl, rfl, by rw [← natV_iz]; exact SqL.of (s12 _ _ g1), SqL.of g0, _, rfl, ?_⟩
                have eAny : (r.s.any fun k => offL Prod.fst ps r.p k) = !decide (iz Fl = []) := by rw [← hFe]; exact any_iz _ _
                rw [← eAny]
                cases ha : (r.s.any fun k => offL Prod.fst ps r.p k) with
                | true =>
                  refine iteT (ret true H2 ?_ s2)
                  rw [badL_eq, ho, e2, ha]
                  rfl
                | false =>
                  refine iteF ?_
                  have e3 : badL n ps ahead r = ahead.any fun a => decide (keyOf a = keyOf r) := by
                    rw [badL_eq, ho, e2, ha]
                    rfl
                  refine ⟨_, rfl, p, rfl, ⟨_, SqL.of (s2 _ _ hp)⟩, ?_⟩
                  have hav : avs.length = ahead.length := Paired.length hR
                  refine comp_gen avs.length (by rw [PySem.sizeLine_eq]; omega) (fun i acc H3 => Same H H3 ∧ acc.length ≤ i ∧ Rws H3 acc ((ahead.take i).filter fun a => decide (keyOf a = keyOf r))) ⟨s2, Nat.le_refl _, .nil⟩ (fun i acc H3 h => h.2.1) ?_ ?_
                  · rintro i acc H3 hi ⟨s3, ha3, hA⟩
                    have q3 : SqL K H3 p avs := SqL.of (s3 _ _ hp)
                    refine ⟨⟨avs, avs[i], q3, List.getElem?_eq_getElem hi⟩, fun y H4 ⟨e4, hy⟩ => ?_⟩
                    subst e4
                    have hy := hy avs q3
                    obtain ⟨r', hr', t', l', rfl, hT'⟩ := Rws.get hR hy
                    refine ⟨_, rfl, _, rfl, t', _, rfl, SqT.of (s3 _ _ hT'.1), part3 _ _ _ _, fun k1 hk1 => ?_⟩
                    rw [cut3]
                    have s4 := (Same.refl H4).new (o := .tup [.int r'.p, .int r'.g, cV r'.c]) hk1
                    have g4 : (upd H4 k1 (.tup [.int r'.p, .int r'.g, cV r'.c])) k1 = some (.tup [.int r'.p, .int r'.g, cV r'.c]) := upd_same
                    generalize upd H4 k1 (.tup [.int r'.p, .int r'.g, cV r'.c]) = H5 at s4 g4 ⊢
                    have s5 := s3.trans s4
                    refine ⟨_, rfl, _, rfl, t, _, rfl, SqT.of (s5 _ _ hT.1), part3 _ _ _ _, fun k2 hk2 => ?_⟩
                    rw [cut3]
                    have s56 := (Same.refl H5).new (o := .tup [.int r.p, .int r.g, cV r.c]) hk2
                    have g6 : (upd H5 k2 (.tup [.int r.p, .int r.g, cV r.c])) k2 = some (.tup [.int r.p, .int r.g, cV r.c]) := upd_same
                    generalize upd H5 k2 (.tup [.int r.p, .int r.g, cV r.c]) = H6 at s56 g6 ⊢
                    have s46 := s4.trans s56
                    refine ⟨_, _, den_key (s56 _ _ g4), den_key g6, (shp_key r').shaped (Nat.le_refl _), (shp_key r).shaped (Nat.le_refl _), ?_⟩
                    rw [key_eqv]
                    refine ⟨_, rfl, ?_⟩
                    have et : (ahead.take (i + 1)).filter (fun a => decide (keyOf a = keyOf r)) = (ahead.take i).filter (fun a => decide (keyOf a = keyOf r)) ++ (if decide (keyOf r' = keyOf r) = true then [r'] else []) := by
                      rw [List.take_succ, hr', List.filter_append]
                      cases hd' : decide (keyOf r' = keyOf r) with
                      | true => simp [hd']
                      | false => simp [hd']
                    cases hd' : decide (keyOf r' = keyOf r) with
                    | true =>
                      refine iteT ⟨_, rfl, s3.trans s46, by rw [List.length_append]; exact Nat.succ_le_succ ha3, ?_⟩
                      rw [et, hd', if_pos rfl]
                      exact Rws.snoc ⟨t', l', rfl, hT'.same (s3.trans s46)⟩ (Rws.same s46 hA)
                    | false =>
                      refine iteF ⟨s3.trans s46, Nat.le_succ_of_le ha3, ?_⟩
                      rw [et, hd', if_neg (by decide), List.append_nil]
                      exact Rws.same s46 hA
                  · rintro acc H3 ⟨s3, ha3, hA⟩
                    refine ⟨⟨avs, SqL.of (s3 _ _ hp), Nat.le_refl _⟩, fun D3 hD3 => ?_⟩
                    have s4 := (Same.refl H3).new (o := .lst acc) hD3
                    have g4 : (upd H3 D3 (.lst acc)) D3 = some (.lst acc) := upd_same
                    generalize upd H3 D3 (.lst acc) = H4 at s4 g4 ⊢
                    refine ⟨Nat.zero_le _, fun e1 he1 => ?_⟩
                    have s5 := (Same.refl H4).new (o := .lst []) he1
                    rw [hav, List.take_length] at hA
                    refine rows_ne (s5 _ _ g4) (Rws.same (s4.trans s5) hA) upd_same ?_
                    refine ret _ _ ?_ (s3.trans (s4.trans s5))
                    rw [e3]
                    cases hx : (ahead.any fun a => decide (keyOf a = keyOf r)) with
                    | true =>
                      rw [List.any_eq_true] at hx
                      obtain ⟨z, hz, hz'⟩ := hx
                      rw [decide_eq_true]
                      intro y
                      have := List.filter_eq_nil_iff.mp y z hz
                      exact this hz'
                    | false =>
                      rw [List.any_eq_false] at hx
                      rw [decide_eq_false]
                      intro y
                      exact y (List.filter_eq_nil_iff.mpr hx)
end
end K11
namespace K11
open PySem L2
/-! ### the first bad row; what is refused -/
noncomputable def spFirst : Sp := fun vs H Q _ => ∃ (p ll : Addr) (rvs lvs : List V) (rs : List Rw) (n : Nat) (ps : List (Int × Int)), vs = [.ref p, .int n, .ref ll] ∧ H p = some (.lst rvs) ∧ Rws H rvs rs ∧ rs.length ≤ 40 ∧ (∀ r ∈ rs, RowOk 20 r) ∧
  H ll = some (.lst lvs) ∧ Lns H lvs ps ∧ ps.length ≤ 14 ∧ ∀ H', Same H H' → Q (cV (firstBad n ps rs rs.length)) H'
noncomputable def spRef (K : PySem.W.Frag) (c : Cs) : Sp := fun vs H Q _ => ∃ (lx ldx lt p : Addr) (n : Int) (tvs rvs : List V) (ps : List (Int × Int)) (rs : List Rw), vs = [.ref lx, .ref p] ∧ LandAt H c lx ldx lt n tvs ps ∧ H p = some (.lst rvs) ∧ Rws H rvs rs ∧ rs.length ≤ 40 ∧ (∀ r ∈ rs, RowOk 20 r) ∧ ps.length ≤ 14 ∧
  ∀ H', Same H H' → Q (cV (firstBad n ps rs rs.length)) H'
noncomputable abbrev NFi : List Str := ["_law_rows_here", "_law_places", "_law_lanes", "_law_k"]
noncomputable abbrev NRe : List Str := ["_law_land_here", "_law_rows_here", "e"]
theorem cut_take (xs : List V) (i : Nat) : cutV xs none (some (i : Int)) = xs.take i := by
  unfold cutV
  have h2 : HT.sIx xs.length xs.length (some (i : Int)) = min i xs.length := HT.sIx_nat _ _ _
  have h1 : HT.sIx xs.length 0 none = 0 := rfl
  rw [h1, h2, List.drop_zero, Nat.sub_zero]
  by_cases h : i ≤ xs.length
  · rw [Nat.min_eq_left h]
  · rw [Nat.min_eq_right (by omega), List.take_of_length_le (Nat.le_refl _), List.take_of_length_le (by omega)]
structure Yds (K : PySem.W.Frag) (mg : Str → Option Value) (ts : Ts) (yd nr nm : Addr) : Prop where
  my : mg "YardError" = some (.ref yd)
  mr : mg "NoRoad" = some (.ref nr)
  mm : mg "NoMove" = some (.ref nm)
  ex : PySem.W.exmOne K (.ref ts.ne) (.ref yd) = some true
  is_ : XIsi K ts.ne
  k1 : PySem.W.kitOne K (.ref ts.ne) (.ref ts.ne) = some true
  k2 : PySem.W.kitAny K (.ref ts.ne) [.ref nr, .ref nm] = some false
section
variable {P : Program} {w : World} {K : PySem.W.Frag} {mg : Str → Option Value} {base : Heap}
theorem scFi : FnScope NFi ["_law_rows_here", "_law_places", "_law_lanes"] (defScope sFirst) := ⟨rfl, rfl, rfl, by decide +kernel, rfl, by decide +kernel, by decide +kernel⟩
theorem ok_first {f fb : Addr} {fd db : FuncData} (F : Fun K "_law_first_bad" "_law_first_bad" sFirst f fd) (T : Txt mg) (mb : mg "_law_is_bad" = some (.ref fb)) (kb : PySem.W.keepIn K (.ref fb) = true)
    (bb : Binds K db ["_law_row_here", "_law_ahead", "_law_places", "_law_lanes"] []) (Gb : FnOk P w K mg base CX0 1 fb db ["_law_row_here", "_law_ahead", "_law_places", "_law_lanes"] spBad) :
    FnOk P w K mg base CX0 2 f fd ["_law_rows_here", "_law_places", "_law_lanes"] spFirst := by
  refine F.ok scFi (fun vs H Q E h => ?_) (fun cdv A outer s H vs Q E hr h => ?_)
  · obtain ⟨p, ll, rvs, lvs, rs, n, ps, rfl, _⟩ := h
    rfl
  · obtain ⟨p, ll, rvs, lvs, rs, n, ps, rfl, hp, hR, hrl, hok, hl, hLn, hlen, q⟩ := h
    have hr1 : Room 1 _ := hr.mono (by decide)
    refine ⟨_, pss_cons (ps_for PassesOwn.never rfl (pi_range1 rfl T.range (pa_cons (pe_callB call_len_seq rfl T.len PySem.boot_len (pa_cons (pv 0) pa_nil)) pa_nil)) (pg_name (i := 3) scFi.nd rfl (Or.inl rfl))
        (pss_one (ps_if (pt_val (pe_call Gb hr1 rfl mb kb bb .nil pass0 (pa_cons (pe_ix ix_list (pv 0) (pv 3) (fun _ _ => rfl)) (pa_cons (pe_slice sl_list (pv 0) po_none (po_some (pv 3))) (pa_cons (pv 1) (pa_cons (pv 2) pa_nil)))))) (pss_one (ps_ret (pv 3))) pss_nil)))
      (pss_one (ps_ret pe_non)), ?_⟩
    have hrr : rvs.length = rs.length := Paired.length hR
    refine ⟨_, rfl, p, _, rfl, .inl (SqL.of hp), (rvs.length : Int), rfl, by omega, by omega, ?_⟩
    rw [Int.toNat_natCast]
    refine for_range (n := rvs.length) (fun i σ H2 => ∃ a1 : Option V, Same H H2 ∧ (∀ k, k < i → badL n ps (rs.take k) (rs.getD k ⟨0, 0, none, []⟩) = false) ∧ σ = [some (.ref p), some (.int n), some (.ref ll), a1])
      ⟨none, Same.refl H, fun k hk => absurd hk (Nat.not_lt_zero _), rfl⟩ ?_ ?_
    · rintro i σ H2 hi ⟨a1, s2, g2, rfl⟩
      rw [Int.zero_add]
      have hv : rvs[i]? = some rvs[i] := List.getElem?_eq_getElem hi
      obtain ⟨r, hri, t, l, e1, hT⟩ := Rws.get hR hv
      have egd : rs.getD i ⟨0, 0, none, []⟩ = r := by rw [List.getD_eq_getElem?_getD, hri]; rfl
      refine ⟨_, rfl, _, rfl, p, _, _, _, rfl, rfl, SqL.of (s2 _ _ hp), atI_nat hv, _, rfl, _, rfl, _, rfl, p, _, rfl, SqL.of (s2 _ _ hp), fun p2 hp2 => ?_⟩
      rw [cut_take]
      have s3 := (Same.refl H2).new (o := .lst (rvs.take i)) hp2
      have g3 : (upd H2 p2 (.lst (rvs.take i))) p2 = some (.lst (rvs.take i)) := upd_same
      generalize upd H2 p2 (.lst (rvs.take i)) = H3 at s3 g3 ⊢
      have s23 := s2.trans s3
      rw [e1]
      refine ⟨_, rfl, _, rfl, t, l, p2, ll, r, rvs.take i, lvs, rs.take i, n, ps, rfl, hT.same s23, hok r (List.mem_of_getElem? hri), g3, Rws.take i (Rws.same s23 hR), by have := List.length_take_le i rs; omega, s23 _ _ hl, Lns.same s23 hLn, hlen, fun H4 s4 => ⟨_, rfl, ?_⟩⟩
      cases hb : badL n ps (rs.take i) r with
      | true =>
        refine iteT ⟨_, rfl, ?_⟩
        have := q H4 (s23.trans s4)
        rw [firstBad_some (by omega) g2 (by rw [egd]; exact hb)] at this
        exact this
      | false =>
        refine iteF ⟨_, s23.trans s4, fun k hk => ?_, rfl⟩
        rcases Nat.lt_or_ge k i with h | h
        · exact g2 k h
        · have : k = i := by omega
          subst this
          rw [egd]; exact hb
    · rintro σ H2 ⟨a1, s2, g2, rfl⟩
      have := q H2 s2
      rw [firstBad_none (by rw [← hrr]; exact g2)] at this
      exact this
theorem scRe : FnScope NRe ["_law_land_here", "_law_rows_here"] (defScope sRef) := ⟨rfl, rfl, rfl, by decide +kernel, rfl, by decide +kernel, by decide +kernel⟩
theorem ok_ref {c : Cs} {ts : Ts} {f fi yd nr nm f1 f2 : Addr} {fd di d1 d2 : FuncData} (F : Fun K "_law_refused" "_law_refused" sRef f fd) (T : Txt mg) (B : Tbl K mg ts f1 f2 d1 d2) (Y : Yds K mg ts yd nr nm) (M : Mk K ts.told fi) (ml : mg "Told" = some (.ref ts.told))
    (bi : Binds K di ["self", "land", "rows"] []) (Gi : FnOk P w K mg base (CXe P w) 5 fi di ["self", "land", "rows"] (spTold P w K c ts)) : FnOk P w K mg base CX0 7 f fd ["_law_land_here", "_law_rows_here"] (spRef K c) := by
  refine F.ok scRe (fun vs H Q E h => ?_) (fun cdv A outer s H vs Q E hr h => ?_)
  · obtain ⟨lx, ldx, lt, p, n, tvs, rvs, ps, rs, rfl, _⟩ := h
    rfl
  · obtain ⟨lx, ldx, lt, p, n, tvs, rvs, ps, rs, rfl, hL, hp, hR, hrl, hok, hlen, q⟩ := h
    refine ⟨_, pss_cons (ps_tryAs (i := 2) rfl rfl scRe.nd rfl rfl rfl Y.my (bx_expr (pex_make M Gi hr rfl ml bi .nil rfl (pa_cons (pv 0) (pa_cons (pv 1) pa_nil))))
      (fun ea oe => pss_cons (ps_if (PW.pt (pw_and (pt_val (pe_callB call_isX rfl T.isi PyProof.Rows.boot_isinstance (pa_cons (pv 2) (pa_cons (pe_glob (v := .ref ts.ne) rfl B.mne rfl) pa_nil))))
          (pw_and1 (pt_not (pt_val (pe_callB call_isXs rfl T.isi PyProof.Rows.boot_isinstance (pa_cons (pv 2) (pa_cons (pe_tup (pa_cons (pe_glob (v := .ref nr) rfl Y.mr rfl) (pa_cons (pe_glob (v := .ref nm) rfl Y.mm rfl) pa_nil))) pa_nil))))))))
          (pss_one (ps_ret (pe_xfld (pv 2) rfl))) pss_nil)
        (pss_one (ps_ret pe_str))))
      (pss_one (ps_ret pe_non)), ?_⟩
    refine ⟨_, rfl, _, rfl, fun x dx nx ndx nex => ?_⟩
    have s0 : Same H (upd (upd H dx (.own x)) x (.ins ts.told dx [])) := Same.new (Same.new (Same.refl H) ndx) (by rw [upd_ne (Ne.symm nex)]; exact nx)
    generalize hH0 : upd (upd H dx (.own x)) x (.ins ts.told dx []) = H0 at s0 ⊢
    have hx0 : H0 x = some (.ins ts.told dx []) := by rw [← hH0, upd_same]
    have hrr : rvs.length = rs.length := Paired.length hR
    refine ⟨x, dx, lx, ldx, lt, p, n, tvs, rvs, ps, rs, rfl, hx0, ⟨s0 _ _ hL.1, s0 _ _ hL.2.1, Lns.same s0 hL.2.2⟩, SqL.of (s0 _ _ hp), Rws.same s0 hR, by omega, by omega, (fun r hr => ⟨fun k hk => by have := (hok r hr).2.1 k hk; omega, by have := (hok r hr).2.2; omega⟩), fun i hi H' d off hd' => ⟨Y.ex, fun ea oe vs hc hd hf hea => ?_⟩, fun hnone H' de kvs off hx' hdic hval => ⟨rfl, ?_⟩⟩
    · have dct : DictAt H' oe.dict := by rw [hd]; exact ⟨_, hd'⟩
      have s1 : Same H H' := fun b o e => off b o (ne_of_none e nx) (s0 b o e)
      refine ⟨_, rfl, ea, oe, _, .ref ts.ne, ts.ne, vs, true, rfl, rfl, .head _, hc, hf, dct, B.cne, Y.is_, Y.k1, _, rfl, iteT ?_⟩
      refine ⟨_, rfl, by show 2 ≤ sizeLine; decide, fun t ht => ?_⟩
      have s2 := (Same.refl H').new (o := .tup [.ref nr, .ref nm]) ht
      have dct2 : DictAt (upd H' t (.tup [.ref nr, .ref nm])) oe.dict := by rw [hd]; exact ⟨_, s2 _ _ hd'⟩
      refine ⟨ea, oe, t, _, [.ref nr, .ref nm], ts.ne, vs, false, rfl, upd_same, .cons rfl (.cons rfl .nil), .head _, hc, hf, dct2, B.cne, Y.is_, Y.k2, _, rfl, iteT ?_⟩
      refine ⟨_, rfl, ea, oe, ts.ne, vs, d, _, _, rfl, .head _, hc, hf, hd, s2 _ _ hd', B.cne, B.nne, rfl, ?_⟩
      have := q _ (s1.trans s2)
      rw [hi] at this
      exact this
    · have s1 : Same H H' := fun b o e => off b o (ne_of_none e nx) (s0 b o e)
      have := q _ s1
      rw [hnone] at this
      exact this
end
end K11
namespace K11
open PySem L2
/-! ### what a table tells is right -/
noncomputable abbrev TIn := Hp → Addr → (Oks → Nat) → Prop
noncomputable def spWays (J : TIn) : Sp := fun vs H Q _ => ∃ (x : Addr) (wy : Oks → Nat) (r : Rw), vs = [.ref x, .int r.p, .int r.g, cV r.c] ∧ J H x wy ∧ ∀ H' D, Same H H' → H' D = none → Q (.ref D) (upd H' D (.lst (memV (wy (keyOf r)))))
structure Way (K : PySem.W.Frag) (C fw : Addr) (dw : FuncData) (J : TIn) : Prop where
  cl : Cls K C
  m : Meth K C "ways" fw
  b : Binds K dw ["self", "place", "goal", "came"] []
  inst : ∀ H x wy, J H x wy → ∃ dx fs, H x = some (.ins C dx fs) ∧ fs.lookup ("ways" : Str) = none
  stay : ∀ H H' x wy, J H x wy → Same H H' → J H' x wy
noncomputable def wayOf (rs : List Rw) (k : Oks) : Nat := match lastR rs k with
  | some r => Yd.setN r.s 0
  | none => 0
noncomputable def spRight (J : TIn) : Sp := fun vs H Q _ => ∃ (x p ll : Addr) (wy : Oks → Nat) (rvs lvs : List V) (rs : List Rw) (n : Nat) (ps : List (Int × Int)), vs = [.ref x, .ref p, .int n, .ref ll] ∧ J H x wy ∧ H p = some (.lst rvs) ∧ Rws H rvs rs ∧ rs.length ≤ 40 ∧ (∀ r ∈ rs, RowOk 20 r) ∧ n ≤ 12 ∧
  H ll = some (.lst lvs) ∧ Lns H lvs ps ∧ ps.length ≤ 14 ∧ (∀ k, wy k = wayOf rs k) ∧ ∀ H', Same H H' → Q (.bl true) H'
noncomputable abbrev NRt : List Str := ["_law_table", "_law_rows_here", "_law_places", "_law_lanes", "_law_due", "_law_place", "_law_goal", "_law_came", "_law_some", "_law_found"]
noncomputable def forBody (s : Stmt) : List Stmt := match s with
  | .For _ _ b _ _ => b
  | _ => []
noncomputable def forScope (s : Stmt) : Scope := match s with
  | .For _ (.BinOp _ _ (.ListComp _ _ sc _) _) _ _ _ => sc
  | _ => noScope
noncomputable def rtIn : Stmt := (forBody ((forBody ((defBody sRight).getD 2 (.Pass ⟨0, 0, 0, 0⟩))).getD 0 (.Pass ⟨0, 0, 0, 0⟩))).getD 0 (.Pass ⟨0, 0, 0, 0⟩)
noncomputable def rSet (P : Program) (w : World) (K : PySem.W.Frag) : List V → Hp → VK → Prop := fun xs H Q => ∃ (p : Addr) (ns : List Int), xs = [.ref p] ∧ SqL K H p (ns.map V.int) ∧ ns.length < 64 ∧ ∀ q, H q = none → Q (.ref q) (upd H q (setO P w q ns))
noncomputable def rSrt (P : Program) (w : World) : List V → Hp → VK → Prop := fun xs H Q => ∃ (p : Addr) (ns : List Int), xs = [.ref p] ∧ H p = some (setO P w p ns) ∧ ns.length < 64 ∧
  ∀ (q : Addr) (ms : List Int), H q = none → ms.Pairwise (· < ·) → (∀ k, k ∈ ms ↔ k ∈ ns) → ms.length ≤ ns.length → Q (.ref q) (upd H q (.lst (ms.map V.int)))
/-- what the law has noted -/
noncomputable def DueOk (H : Hp) (kvs : List Ent) (rs : List Rw) : Prop := ∀ k, match lastR rs k with
  | none => valO kvs k = none
  | some r => ∃ q, valO kvs k = some (.ref q) ∧ H q = some (.lst (memV (Yd.setN r.s 0)))
theorem DueOk.same {H H' : Hp} {kvs : List Ent} {rs : List Rw} (h : DueOk H kvs rs) (s : Same H H') : DueOk H' kvs rs := fun k => by
  have := h k
  cases e : lastR rs k with
  | none => rw [e] at this; exact this
  | some r => rw [e] at this; obtain ⟨q, h1, h2⟩ := this; exact ⟨q, h1, s _ _ h2⟩
theorem last_mem {rs : List Rw} {k : Oks} {r : Rw} (h : lastR rs k = some r) : r ∈ rs := List.mem_reverse.mp (List.mem_of_find?_eq_some h)
theorem way_lt {rs : List Rw} (h : ∀ r ∈ rs, RowOk 20 r) (k : Oks) : wayOf rs k < 2 ^ 17 := by
  unfold wayOf
  cases e : lastR rs k with
  | none => show 0 < 2 ^ 17; decide
  | some r => exact set_lt fun z hz => by have := (h r (last_mem e)).2.1 z hz; omega
theorem memV_len {m : Nat} (h : m < 2 ^ 17) : (memV m).length ≤ 17 := by
  rw [memV_iz]
  unfold iz
  rw [List.length_map, List.length_map]
  exact Nat.le_trans (memN_len _ _) (Yd.bits_le h)
/-- what is noted of a key, or an empty list -/
theorem due_at {H : Hp} {kvs : List Ent} {rs : List Rw} (h : DueOk H kvs rs) {e0 : Addr} (he : H e0 = some (.lst [])) (k : Oks) : ∃ q, (valO kvs k).getD (.ref e0) = .ref q ∧ H q = some (.lst (memV (wayOf rs k))) := by
  have := h k
  unfold wayOf
  cases e : lastR rs k with
  | none => rw [e] at this; dsimp only at this ⊢; rw [this]; exact ⟨e0, rfl, he⟩
  | some r => rw [e] at this; dsimp only at this ⊢; obtain ⟨q, h1, h2⟩ := this; rw [h1]; exact ⟨q, rfl, h2⟩
theorem came_in {l : List Nat} {k : Nat} {v : V} (h : ([V.non] ++ natV l)[k]? = some v) : ∃ c : Option Nat, v = cV c := by
  rcases List.mem_append.mp (List.mem_of_getElem? h) with z | z
  · exact ⟨none, List.mem_singleton.mp z⟩
  · obtain ⟨k', _, rfl⟩ := List.mem_map.mp z
    exact ⟨some k', rfl⟩
section
variable {P : Program} {w : World} {K : PySem.W.Frag} {mg : Str → Option Value} {base : Heap}
theorem scRt : FnScope NRt ["_law_table", "_law_rows_here", "_law_places", "_law_lanes"] (defScope sRight) := ⟨rfl, rfl, rfl, by decide +kernel, rfl, by decide +kernel, by decide +kernel⟩
theorem bkRt : Blk NRt (defScope sRight) (forScope rtIn) ["_law_lanes", "_law_place"] [3, 5] := ⟨rfl, by decide +kernel, by decide +kernel, by decide +kernel, rfl, by decide +kernel⟩
theorem ok_right {J : TIn} {C f fw : Addr} {fd dw : FuncData} (F : Fun K "_law_right" "_law_right" sRight f fd) (T : Txt mg) (W : Way K C fw dw J) (Gw : FnOk P w K mg base CX0 3 fw dw ["self", "place", "goal", "came"] (spWays J)) :
    FnOk P w K mg base CX0 4 f fd ["_law_table", "_law_rows_here", "_law_places", "_law_lanes"] (spRight J) := by
  refine F.ok scRt (fun vs H Q E h => ?_) (fun cdv A outer s H vs Q E hr h => ?_)
  · obtain ⟨x, p, ll, wy, rvs, lvs, rs, n, ps, rfl, _⟩ := h
    rfl
  · obtain ⟨x, p, ll, wy, rvs, lvs, rs, n, ps, rfl, hJ, hp, hR, hrl, hok, hn, hl, hLn, hlen, hwy, q⟩ := h
    have hr3 : Room 3 _ := hr.mono (by decide)
    have hu := hu_of hr
    have hu64 := hr.units
    refine ⟨_, pss_cons (ps_set (i := 4) scRt.nd rfl (Or.inl rfl) (show PE _ _ (tONew P w) from pe_onew))
      (pss_cons (ps_for PassesOwn.never rfl (pi_list (pv 1)) (pg_tup rfl (pgs_cons (pg_name (i := 5) scRt.nd rfl (Or.inr rfl)) (pgs_cons (pg_name (i := 6) scRt.nd rfl (Or.inl rfl)) (pgs_cons (pg_name (i := 7) scRt.nd rfl (Or.inl rfl)) (pgs_cons (pg_name (i := 8) scRt.nd rfl (Or.inl rfl)) pgs_nil)))))
        (pss_one (ps_oput hu (pv 4) (pe_tup (pa_cons (pv 5) (pa_cons (pv 6) (pa_cons (pv 7) pa_nil)))) (pe_callB (show CallR _ (.builtin "sorted") (rSrt P w) from call_sorted rfl) rfl T.sorted PyProof.Rows.boot_sorted (pa_cons (pe_callTy (show CallR _ (.type "set") (rSet P w K) from call_set rfl) rfl T.set PySem.Pv.boot_set (pa_cons (pv 8) pa_nil)) pa_nil)) rfl)))
      (pss_cons (ps_for PassesOwn.never rfl (pi_range1 rfl T.range (pa_cons (pv 2) pa_nil)) (pg_name (i := 5) scRt.nd rfl (Or.inr rfl))
        (pss_one (ps_for PassesOwn.never rfl (pi_range1 rfl T.range (pa_cons (pv 2) pa_nil)) (pg_name (i := 6) scRt.nd rfl (Or.inl rfl))
          (pss_one (ps_for PassesOwn.never rfl (pi_list (pe_op op_cat (pe_lst (pa_cons pe_non pa_nil)) (pe_comp (own := ["_law_k"]) (capN := ["_law_lanes", "_law_place"]) (cap := [3, 5]) bkRt rfl
              (pi_range1 rfl T.range (pa_cons (pe_callB call_len_seq rfl T.len PySem.boot_len (pa_cons (pv 3) pa_nil)) pa_nil))
              (fun C s' H' fp => ⟨pg_name (i := 0) ndR1 rfl (Or.inl rfl), pts_one (pt_cmpR op_eq (pe_ix (show IxR _ (rIxT K) from ix_tup) (pe_ix (show IxR _ (rIxL K) from ix_list) (pv 1) (pv 0) (fun _ _ => rfl)) pe_int (fun _ _ => rfl)) (pv 2) (nomark _)), pv 0⟩)))) (pg_name (i := 7) scRt.nd rfl (Or.inl rfl))
            (pss_cons (ps_set (i := 9) scRt.nd rfl (Or.inl rfl) (pe_meth (pv 0) W.cl W.m Gw hr3 W.b .nil pass0 (pa_cons (pv 5) (pa_cons (pv 6) (pa_cons (pv 7) pa_nil)))))
            (pss_cons (ps_if (PW.pt (pw_or (pt_not (pt_val (pe_callB call_isi rfl T.isi PyProof.Rows.boot_isinstance (pa_cons (pv 9) (pa_cons (pe_bltn (v := .ty "list") rfl T.list PySem.Pv.boot_list rfl) pa_nil)))))
              (pw_or1 (pt_cmpR (op_neI hu64) (pv 9) (pe_oget2 hu (pv 4) (pa_cons (pe_tup (pa_cons (pv 5) (pa_cons (pv 6) (pa_cons (pv 7) pa_nil)))) (pa_cons (pe_lst pa_nil) pa_nil))) (nomark _))))) (pss_one (ps_ret pe_bl)) pss_nil)
            (pss_one (ps_expr (pe_bm PySem.F.plainAttrs_list PySem.F.slot_list_append PySem.F.type_list_append mt_append (pv 9) (pa_cons pe_int pa_nil)))))))))))
      (pss_one (ps_ret pe_bl)))), ?_⟩
    have hll : lvs.length = ps.length := Paired.length hLn
    have hrr : rvs.length = rs.length := Paired.length hR
    refine fun de hde => ?_
    have s0 := (Same.refl H).new (o := DicO P w de []) hde
    have d0 : DicAt P w (upd H de (DicO P w de [])) de [] := ⟨upd_same, fun y hy => by cases hy⟩
    generalize upd H de (DicO P w de []) = H0 at s0 d0 ⊢
    -- 1. what is due is noted
    refine ⟨_, rfl, p, rfl, ⟨_, SqL.of (s0 _ _ hp)⟩, for_list (K := K) (a := p) (xs := rvs) (fun i σ H2 => ∃ (a5 a6 a7 a8 a9 : Option V) (kvs : List Ent), Same H H2 ∧ DicAt P w H2 de kvs ∧ kvs.length ≤ i ∧ DueOk H2 kvs (rs.take i) ∧
        σ = [some (.ref x), some (.ref p), some (.int n), some (.ref ll), some (.ref de), a5, a6, a7, a8, a9])
      ⟨none, none, none, none, none, [], s0, d0, Nat.le_refl _, fun k => rfl, rfl⟩ (fun i σ H2 _ ⟨_, _, _, _, _, _, s2, _⟩ => SqL.of (s2 _ _ hp)) ?_ ?_⟩
    · rintro i v σ H2 hv ⟨a5, a6, a7, a8, a9, kvs, s2, d2, l2, v2, rfl⟩
      obtain ⟨r, hri, t, l, rfl, hT⟩ := Rws.get hR hv
      have hokr := hok r (List.mem_of_getElem? hri)
      have hi : i < rs.length := (List.getElem?_eq_some_iff.mp hri).1
      refine ⟨t, _, rfl, SqT.of (s2 _ _ hT.1), rfl, _, _, rfl, _, _, rfl, _, _, rfl, _, _, rfl, rfl, ?_⟩
      refine ⟨_, rfl, l, iz r.s, rfl, by rw [← natV_iz]; exact SqL.of (s2 _ _ hT.2), by have := hokr.2.2; simp only [iz, List.length_map]; omega, fun q1 hq1 => ?_⟩
      have s3 := (Same.refl H2).new (o := setO P w q1 (iz r.s)) hq1
      refine ⟨q1, iz r.s, rfl, upd_same, by have := hokr.2.2; simp only [iz, List.length_map]; omega, fun q2 ms hq2 hpw hmem hml => ?_⟩
      have s4 := s3.new (o := .lst (ms.map V.int)) hq2
      have e4 : (ms.map V.int) = memV (Yd.setN r.s 0) := by rw [memV_iz, mem_sorted hpw hmem]
      have g4 : (upd (upd H2 q1 (setO P w q1 (iz r.s))) q2 (.lst (ms.map V.int))) q2 = some (.lst (memV (Yd.setN r.s 0))) := by rw [upd_same, e4]
      generalize upd (upd H2 q1 (setO P w q1 (iz r.s))) q2 (.lst (ms.map V.int)) = H4 at s4 g4 ⊢
      refine ⟨_, rfl, _, rfl, _, rfl, _, rfl, by show 3 ≤ sizeLine; decide, fun kt hkt => ?_⟩
      have s5 := (Same.refl H4).new (o := .tup [.int r.p, .int r.g, cV r.c]) hkt
      have k5 : (upd H4 kt (.tup [.int r.p, .int r.g, cV r.c])) kt = some (.tup ((keyOf r).map okV)) := by rw [key_tup]; exact upd_same
      generalize upd H4 kt (.tup [.int r.p, .int r.g, cV r.c]) = H5 at s5 k5 ⊢
      have s25 := s4.trans s5
      have d5 := d2.same s25
      refine ⟨de, kvs, keyOf r, kt, rfl, d5, rfl, k5, by rw [PySem.sizeLine_eq]; omega, ?_⟩
      refine ⟨_, _, _, _, _, putO kvs (keyOf r) kt (.ref q2), fun b o e => ?_, dic_put d5 k5, Nat.le_trans putO_length (Nat.succ_le_succ l2), fun k => ?_, rfl⟩
      · rw [upd_ne (ne_of_none e hde)]; exact s25 _ _ (s2 _ _ e)
      · rw [List.take_succ, hri, Option.toList_some, lastR_snoc, valO_put]
        by_cases hk : k = keyOf r
        · rw [if_pos hk, if_pos hk]
          exact ⟨q2, rfl, by rw [upd_ne (ne_of (s5 _ _ g4) d5.1 (by intro z; cases z))]; exact s5 _ _ g4⟩
        · rw [if_neg hk, if_neg hk]
          have := v2 k
          cases e : lastR (rs.take i) k with
          | none => rw [e] at this; exact this
          | some r' =>
            rw [e] at this
            obtain ⟨q', h1, h2⟩ := this
            exact ⟨q', h1, by rw [upd_ne (ne_of (s25 _ _ h2) d5.1 (by intro z; cases z))]; exact s25 _ _ h2⟩
    · rintro σ H1 ⟨a5, a6, a7, a8, a9, kvs, s1, d1, l1, v1, rfl⟩
      rw [hrr, List.take_length] at v1
      -- 2. each place, goal and came
      refine ⟨_, rfl, (n : Int), rfl, by omega, by omega, ?_⟩
      rw [Int.toNat_natCast]
      refine for_range (n := n) (fun i σ H2 => ∃ (a5 a6 a7 a8 a9 : Option V), Same H1 H2 ∧ σ = [some (.ref x), some (.ref p), some (.int n), some (.ref ll), some (.ref de), a5, a6, a7, a8, a9]) ⟨_, _, _, _, _, Same.refl H1, rfl⟩ ?_ ?_
      · rintro i σ H2 hi ⟨a5, a6, a7, a8, a9, s2, rfl⟩
        rw [Int.zero_add]
        refine ⟨_, rfl, (n : Int), rfl, by omega, by omega, ?_⟩
        rw [Int.toNat_natCast]
        refine for_range (n := n) (fun j σ H3 => ∃ (a6 a7 a8 a9 : Option V), Same H1 H3 ∧ σ = [some (.ref x), some (.ref p), some (.int n), some (.ref ll), some (.ref de), some (.int i), a6, a7, a8, a9]) ⟨_, _, _, _, s2, rfl⟩ ?_ ?_
        · rintro j σ H3 hj ⟨a6, a7, a8, a9, s3, rfl⟩
          rw [Int.zero_add]
          refine ⟨by show 1 ≤ sizeLine; decide, fun e1 he1 => ?_⟩
          have s4 := s3.new (o := .lst [.non]) he1
          have g4 : (upd H3 e1 (.lst [.non])) e1 = some (.lst [.non]) := upd_same
          generalize upd H3 e1 (.lst [.non]) = H4 at s4 g4 ⊢
          have s04 := s1.trans s4
          refine ⟨_, rfl, ll, _, rfl, .inl (SqL.of (s04 _ _ hl)), (lvs.length : Int), rfl, by omega, by omega, ?_⟩
          rw [Int.toNat_natCast, hll]
          refine comp_ix (sel := Prod.snd) (pl := (i : Int)) (by rw [PySem.sizeLine_eq]; omega) (fun k acc N pr hpr h => ?_) (fun D hD => ?_)
          · obtain ⟨v, hv, u, rfl, hu'⟩ := Lns.get2 (Lns.same s04 hLn) hpr
            refine ⟨_, rfl, _, rfl, ll, _, _, _, rfl, rfl, SqL.of (s04 _ _ hl), atI_nat hv, u, _, 1, _, rfl, rfl, SqT.of hu', atI_nat (j := 1) rfl, _, rfl, rfl, _, rfl, ?_⟩
            rw [int_eq]
            cases hd : decide (pr.2 = (i : Int)) with
            | true => rw [hd] at h; exact iteT ⟨_, rfl, by simpa using h⟩
            | false => rw [hd] at h; exact iteF (by simpa using h)
          have s5 := s4.new (o := .lst (natV (ixM Prod.snd ps (i : Int)))) hD
          have g5 : (upd H4 D (.lst (natV (ixM Prod.snd ps (i : Int))))) D = some (.lst (natV (ixM Prod.snd ps (i : Int)))) := upd_same
          have g45 : (upd H4 D (.lst (natV (ixM Prod.snd ps (i : Int))))) e1 = some (.lst [.non]) := by rw [upd_ne (ne_of_none g4 hD)]; exact g4
          refine ⟨e1, D, _, _, rfl, rfl, g45, g5, by rw [PySem.sizeLine_eq]; have := ixM_len Prod.snd ps (i : Int); simp only [natV, List.length_map, List.length_cons, List.length_nil]; omega, fun lc hlc => ?_⟩
          generalize upd H4 D (.lst (natV (ixM Prod.snd ps (i : Int)))) = H5 at s5 hlc ⊢
          have s6 := s5.new (o := .lst ([V.non] ++ natV (ixM Prod.snd ps (i : Int)))) hlc
          have g6 : (upd H5 lc (.lst ([V.non] ++ natV (ixM Prod.snd ps (i : Int))))) lc = some (.lst ([V.non] ++ natV (ixM Prod.snd ps (i : Int)))) := upd_same
          generalize upd H5 lc (.lst ([V.non] ++ natV (ixM Prod.snd ps (i : Int)))) = H6 at s6 g6 ⊢
          refine ⟨lc, rfl, ⟨_, SqL.of g6⟩, for_list (K := K) (a := lc) (xs := [V.non] ++ natV (ixM Prod.snd ps (i : Int))) (fun k σ H7 => ∃ (a7 a8 a9 : Option V), Same H6 H7 ∧
              σ = [some (.ref x), some (.ref p), some (.int n), some (.ref ll), some (.ref de), some (.int i), some (.int j), a7, a8, a9]) ⟨_, _, _, Same.refl H6, rfl⟩ (fun k σ H7 _ ⟨_, _, _, s7, _⟩ => SqL.of (s7 _ _ g6)) ?_ ?_⟩
          · rintro k v σ H7 hv ⟨a7, a8, a9, s7, rfl⟩
            obtain ⟨cm, rfl⟩ := came_in hv
            have s17 := s6.trans s7
            have s07 := s1.trans s17
            have hJ7 := W.stay _ _ _ _ hJ s07
            obtain ⟨dx, fs, hx7, hfs⟩ := W.inst _ _ _ hJ7
            refine ⟨_, rfl, x, dx, fs, rfl, hx7, hfs, _, rfl, _, rfl, _, rfl, x, wy, ⟨(i : Int), (j : Int), cm, []⟩, rfl, hJ7, fun H8 D8 s8 hD8 => ?_⟩
            rw [hwy]
            generalize hkey : keyOf ⟨(i : Int), (j : Int), cm, []⟩ = key
            have s9 := s8.new (o := .lst (memV (wayOf rs key))) hD8
            have g9 : (upd H8 D8 (.lst (memV (wayOf rs key)))) D8 = some (.lst (memV (wayOf rs key))) := upd_same
            have hD6 : H6 D8 = none := (s7.trans s8).free hD8
            generalize upd H8 D8 (.lst (memV (wayOf rs key))) = H9 at s9 g9 ⊢
            refine ⟨_, rfl, .inr (.inr (.inl ⟨D8, _, rfl, SqL.of g9, _, rfl, iteF ?_⟩))⟩
            have s19 := s17.trans s9
            refine ⟨_, rfl, _, rfl, de, kvs, rfl, d1.same s19, _, rfl, _, rfl, _, rfl, by show 3 ≤ sizeLine; decide, fun t ht => ?_⟩
            have s10 := (Same.refl H9).new (o := .tup [.int (i : Int), .int (j : Int), cV cm]) ht
            have k10 : (upd H9 t (.tup [.int (i : Int), .int (j : Int), cV cm])) t = some (.tup (key.map okV)) := by rw [← hkey, key_tup]; exact upd_same
            generalize upd H9 t (.tup [.int (i : Int), .int (j : Int), cV cm]) = H10 at s10 k10 ⊢
            refine ⟨Nat.zero_le _, fun e0 he0 => ?_⟩
            have s11 := (Same.refl H10).new (o := .lst []) he0
            have g11 : (upd H10 e0 (.lst [])) e0 = some (.lst []) := upd_same
            generalize upd H10 e0 (.lst []) = H11 at s11 g11 ⊢
            have s9b := s10.trans s11
            have s1b := s19.trans s9b
            obtain ⟨qq, eq1, hq1⟩ := due_at (v1.same s1b) g11 key
            refine ⟨_, _, valO kvs key, rfl, ⟨kvs, key, t, d1.same s1b, rfl, s11 _ _ k10, rfl⟩, ?_⟩
            rw [eq1]
            refine ⟨D8, qq, _, _, rfl, rfl, by rw [← memV_iz]; exact SqL.of (s9b _ _ g9), by rw [← memV_iz]; exact SqL.of hq1, _, rfl, iteNS rfl ?_⟩
            refine ⟨_, rfl, .inl ⟨rfl, _, SqL.of (s9b _ _ g9)⟩, D8, _, _, rfl, rfl, s9b _ _ g9, by have := memV_len (way_lt hok key); rw [PySem.sizeLine_eq]; omega, ?_⟩
            exact ⟨_, _, _, fun b o e => by rw [upd_ne (ne_of_none e hD6)]; exact s9b _ _ (s9 _ _ (s7 _ _ e)), rfl⟩
          · rintro σ H7 ⟨a7, a8, a9, s7, rfl⟩
            exact ⟨_, _, _, _, s6.trans s7, rfl⟩
        · rintro σ H3 ⟨a6, a7, a8, a9, s3, rfl⟩
          exact ⟨_, _, _, _, _, s3, rfl⟩
      · rintro σ H2 ⟨a5, a6, a7, a8, a9, s2, rfl⟩
        exact q H2 (s1.trans s2)
end
end K11
namespace K11
open PySem L2
/-! ### the law -/
noncomputable def ToldAt (P : Program) (w : World) (ts : Ts) : TIn := fun H x wy => ∃ (dx de : Addr) (lv : V) (kvs : List Ent), H x = some (.ins ts.told dx [("land", lv), ("entries", .ref de)]) ∧ DicAt P w H de kvs ∧ ∀ k, (valO kvs k).getD (.int 0) = .int (wy k) ∧ wy k < 2 ^ 400
noncomputable def TabAt (ts : Ts) : TIn := fun H x wy => ∃ (dx : Addr) (lv : V), H x = some (.ins ts.tab dx [("land", lv)]) ∧ ∀ k, wy k = 0
noncomputable def spLaw (K : PySem.W.Frag) : Sp := fun vs H Q _ => ∃ (a : Addr) (ns : List Int), vs = [.ref a] ∧ SqL K H a (ns.map V.int) ∧ ns.length ≤ 63 ∧ ∀ H', Q (.bl true) H'
noncomputable abbrev NLw : List Str := ["_law_script", "_law_places", "_law_lanes", "_law_rows_here", "_law_land_here", "_law_handed", "_law_bad", "_law_table", "_law_row_here"]
noncomputable def lawAt (i : Nat) : Stmt := (defBody sLaw).getD i (.Pass ⟨0, 0, 0, 0⟩)
noncomputable def pairD (p : Int × Int) : PyData := .tuple [.int p.1, .int p.2]
theorem dens_lns {K : PySem.W.Frag} {H : Hp} : ∀ {vs : List V} {ps : List (Int × Int)}, Lns H vs ps → Dens K H vs (ps.map pairD)
  | _, _, .nil => .nil
  | _, _, .cons ⟨t, e, h⟩ r => .cons (by subst e; exact .tup (SqT.of h) (.cons (.int _) (.cons (.int _) .nil))) (dens_lns r)
theorem shp_pairs (ps : List (Int × Int)) : Shp (.tuple (ps.map pairD)) 64 := (shp_tuple (m := 1) fun z hz => by
  obtain ⟨p, _, rfl⟩ := List.mem_map.mp hz
  exact shp_tuple (m := 0) fun y hy => by
    simp only [List.mem_cons, List.not_mem_nil, or_false] at hy
    rcases hy with rfl | rfl <;> exact shp_int _).le (by decide)
theorem good_land {n : Nat} {ps : List (Int × Int)} (hn : 2 ≤ n ∧ n ≤ 12) (hl : ps.length ≤ 14) (h : ∀ q ∈ ps, okP n q = true) : dueOf n ps = .good := by
  unfold dueOf
  rw [decide_eq_true (show (1 : Int) ≤ (n : Int) ∧ (n : Int) ≤ 12 by omega), if_neg (by decide), if_neg (by omega), badIx_none h]
theorem told_way {rs : List Rw} {kvs : List Ent} (hok : ∀ r ∈ rs, RowOk 20 r) (h : ∀ k, valO kvs k = (lastR rs k).map setV) (k : Oks) : (valO kvs k).getD (.int 0) = .int (wayOf rs k) ∧ wayOf rs k < 2 ^ 400 := by
  refine ⟨?_, Nat.lt_of_lt_of_le (way_lt hok k) (Nat.pow_le_pow_right (by decide) (by decide))⟩
  rw [h]
  unfold wayOf
  cases lastR rs k with
  | none => rfl
  | some r => rfl
/-- rows handed in: their lists may have grown, and stand at addresses of the kind G -/
noncomputable def Hnd (G : Addr → Prop) (H : Hp) (m : Nat) (v : V) : Prop := ∃ (t l : Addr) (a b c : V) (xs : List V), v = .ref t ∧ H t = some (.tup [a, b, c, .ref l]) ∧ H l = some (.lst xs) ∧ xs.length ≤ m ∧ G l
section
variable {P : Program} {w : World} {K : PySem.W.Frag} {mg : Str → Option Value} {base : Heap}
theorem told_ways {ts : Ts} {f : Addr} {fd : FuncData} (G : FnOk P w K mg base CX0 3 f fd ["self", "place", "goal", "came"] (spToldW P w ts)) : FnOk P w K mg base CX0 3 f fd ["self", "place", "goal", "came"] (spWays (ToldAt P w ts)) :=
  G.imp fun vs H Q E ⟨x, wy, r, e, ⟨dx, de, lv, kvs, h1, h2, h3⟩, q⟩ => ⟨x, dx, de, lv, kvs, r, wy (keyOf r), e, h1, h2, (h3 _).1, (h3 _).2, q⟩
theorem memV_zero : memV 0 = [] := rfl
theorem tab_ways {ts : Ts} {f : Addr} {fd : FuncData} (G : FnOk P w K mg base CX0 1 f fd ["self", "place", "goal", "came"] spTabW) : FnOk P w K mg base CX0 3 f fd ["self", "place", "goal", "came"] (spWays (TabAt ts)) :=
  (G.mono (by decide)).imp fun vs H Q E ⟨x, wy, r, e, ⟨dx, lv, h1, h2⟩, q⟩ => ⟨_, _, _, _, e, fun p hp => by
    have := q H p (Same.refl H) hp
    rw [h2, memV_zero] at this
    exact this⟩
structure Fns (P : Program) (w : World) (K : PySem.W.Frag) (mg : Str → Option Value) (base : Heap) (c : Cs) (ts : Ts) (fl fr fi ff fe fg ft f1 : Addr) (dl dr di df de dg dt d1 : FuncData) : Prop where
  ml : mg "_law_land" = some (.ref fl)
  kl : PySem.W.keepIn K (.ref fl) = true
  bl : Binds K dl ["_law_script"] []
  Gl : FnOk P w K mg base CX0 2 fl dl ["_law_script"] (spLand K)
  mr : mg "_law_rows" = some (.ref fr)
  kr : PySem.W.keepIn K (.ref fr) = true
  br : Binds K dr ["_law_script", "_law_places", "_law_lanes"] []
  Gr : FnOk P w K mg base CX0 2 fr dr ["_law_script", "_law_places", "_law_lanes"] (spRows K)
  mi : mg "Land" = some (.ref c.land)
  Mi : Mk K c.land fi
  bi : Binds K di ["self", "places", "lanes"] []
  Gi : FnOk P w K mg base (CXe P w) 4 fi di ["self", "places", "lanes"] (spInit K c)
  mf : mg "_law_first_bad" = some (.ref ff)
  kf : PySem.W.keepIn K (.ref ff) = true
  bf : Binds K df ["_law_rows_here", "_law_places", "_law_lanes"] []
  Gf : FnOk P w K mg base CX0 2 ff df ["_law_rows_here", "_law_places", "_law_lanes"] spFirst
  me : mg "_law_refused" = some (.ref fe)
  ke : PySem.W.keepIn K (.ref fe) = true
  be : Binds K de ["_law_land_here", "_law_rows_here"] []
  Ge : FnOk P w K mg base CX0 7 fe de ["_law_land_here", "_law_rows_here"] (spRef K c)
  mg' : mg "_law_right" = some (.ref fg)
  kg : PySem.W.keepIn K (.ref fg) = true
  bg : Binds K dg ["_law_table", "_law_rows_here", "_law_places", "_law_lanes"] []
  Gg : FnOk P w K mg base CX0 4 fg dg ["_law_table", "_law_rows_here", "_law_places", "_law_lanes"] (spRight (ToldAt P w ts))
  Gh : FnOk P w K mg base CX0 4 fg dg ["_law_table", "_law_rows_here", "_law_places", "_law_lanes"] (spRight (TabAt ts))
  mt : mg "Told" = some (.ref ts.told)
  Mt : Mk K ts.told ft
  bt : Binds K dt ["self", "land", "rows"] []
  Gt : FnOk P w K mg base (CXe P w) 5 ft dt ["self", "land", "rows"] (spTold P w K c ts)
  m1 : mg "Table" = some (.ref ts.tab)
  M1 : Mk K ts.tab f1
  b1 : Binds K d1 ["self", "land"] []
  G1 : FnOk P w K mg base CX0 1 f1 d1 ["self", "land"] (spTab K)
theorem scLw : FnScope NLw ["_law_script"] (defScope sLaw) := ⟨rfl, rfl, rfl, by decide +kernel, rfl, by decide +kernel, by decide +kernel⟩
theorem bkLw : Blk NLw (defScope sLaw) (asgScope (lawAt 3)) [] [] := ⟨rfl, by decide +kernel, by decide +kernel, by decide +kernel, rfl, by decide +kernel⟩
theorem ndLw : (["_law_row_here"] : List Str).Nodup := by decide +kernel
noncomputable def rLst (K : PySem.W.Frag) : List V → Hp → VK → Prop := fun xs H Q => ∃ p ys, xs = [.ref p] ∧ (SqL K H p ys ∨ SqT K H p ys) ∧ ∀ l, H l = none → Q (.ref l) (upd H l (.lst ys))
theorem ok_law {c : Cs} {ts : Ts} {f fl fr fi ff fe fg ft f1 f2 fx : Addr} {dd dl dr di df de dg dt d1 d2 dx' : FuncData} (F : Fun K "law" "law" sLaw f dd) (T : Txt mg) (L : Lnd K c) (B : Tbl K mg ts fx f2 dx' d2)
    (D : Fns P w K mg base c ts fl fr fi ff fe fg ft f1 dl dr di df de dg dt d1) : FnOk P w K mg base CX0 8 f dd ["_law_script"] (spLaw K) := by
  refine F.ok scLw (fun vs H Q E h => ?_) (fun cdv A outer s H vs Q E hr h => ?_)
  · obtain ⟨a, ns, rfl, _⟩ := h
    rfl
  · obtain ⟨a, ns, rfl, hS, hlen, q⟩ := h
    have hu := hr.units
    have hr2 : Room 2 _ := hr.mono (by decide)
    have hr4 : Room 4 _ := hr.mono (by decide)
    have hr5 : Room 5 _ := hr.mono (by decide)
    have hr6 : Room 6 _ := hr.mono (by decide)
    refine ⟨_, pss_cons (ps_asg (pe_call D.Gl hr2 rfl D.ml D.kl D.bl .nil pass0 (pa_cons (pv 0) pa_nil)) (pg_tup rfl (pgs_cons (pg_name (i := 1) scLw.nd rfl (Or.inl rfl)) (pgs_cons (pg_name (i := 2) scLw.nd rfl (Or.inl rfl)) pgs_nil))))
      (pss_cons (ps_set (i := 3) scLw.nd rfl (Or.inl rfl) (pe_call D.Gr hr2 rfl D.mr D.kr D.br .nil pass0 (pa_cons (pv 0) (pa_cons (pv 1) (pa_cons (pv 2) pa_nil)))))
      (pss_cons (ps_set (i := 4) scLw.nd rfl (Or.inl rfl) (pe_make D.Mi D.Gi hr5 rfl D.mi D.bi .nil passE0 (pa_cons (pv 1) (pa_cons (pv 2) pa_nil))))
      (pss_cons (ps_setComp (i := 5) (own := ["_law_row_here"]) (capN := []) (cap := []) bkLw rfl scLw.nd rfl rfl (pi_list (pv 3))
        (fun C s' H' fp => ⟨pg_name (i := 0) ndLw rfl (Or.inl rfl), pts_nil, pe_op (show OpR _ (binaryOp .Add) (rCatT K) from op_catT) (pe_slice (show SlR _ (rSlT K) from sl_tup) (pv 0) po_none (po_some pe_int))
          (pe_tup (pa_cons (pe_callTy (show CallR _ (.type "list") (rLst K) from call_list_of) rfl T.list PySem.Pv.boot_list (pa_cons (pe_ix (show IxR _ (rIxT K) from ix_tup) (pv 0) pe_int (fun _ _ => rfl)) pa_nil)) pa_nil))⟩))
      (pss_cons (ps_set (i := 6) scLw.nd rfl (Or.inl rfl) (pe_call D.Gf hr2 rfl D.mf D.kf D.bf .nil pass0 (pa_cons (pv 3) (pa_cons (pv 1) (pa_cons (pv 2) pa_nil)))))
      (pss_cons (ps_if (PW.pt (pw_or (pt_cmpR (op_neD hu) (pe_call D.Ge hr rfl D.me D.ke D.be .nil pass0 (pa_cons (pv 4) (pa_cons (pv 5) pa_nil))) (pv 6) (nomark _)) (pw_or1 (pt_cmpR (op_neD hu) (pv 5) (pv 3) (nomark _))))) (pss_one (ps_ret pe_bl)) pss_nil)
      (pss_cons (ps_if (pt_cmpR op_notN (pv 6) pe_non (nomark _)) (pss_one (ps_ret pe_bl)) pss_nil)
      (pss_cons (ps_set (i := 7) scLw.nd rfl (Or.inl rfl) (pe_make D.Mt D.Gt hr6 rfl D.mt D.bt .nil passE0 (pa_cons (pv 4) (pa_cons (pv 5) pa_nil))))
      (pss_cons (ps_for PassesOwn.never rfl (pi_list (pv 5)) (pg_name (i := 8) scLw.nd rfl (Or.inl rfl))
        (pss_one (ps_expr (pe_bm PySem.F.plainAttrs_list PySem.F.slot_list_append PySem.F.type_list_append mt_append (pe_ix ix_tup (pv 8) pe_int (fun _ _ => rfl)) (pa_cons pe_int pa_nil)))))
      (pss_cons (ps_expr (pe_bm0 PySem.F.plainAttrs_list PySem.F.slot_list_clear PySem.F.type_list_clear mt_clear (pv 5)))
      (pss_cons (ps_if (PW.pt (pw_or (pt_not (pt_val (pe_call D.Gg hr4 rfl D.mg' D.kg D.bg .nil pass0 (pa_cons (pv 7) (pa_cons (pv 3) (pa_cons (pv 1) (pa_cons (pv 2) pa_nil)))))))
        (pw_or1 (pt_not (pt_val (pe_call D.Gg hr4 rfl D.mg' D.kg D.bg .nil pass0 (pa_cons (pv 7) (pa_cons (pv 3) (pa_cons (pv 1) (pa_cons (pv 2) pa_nil)))))))))) (pss_one (ps_ret pe_bl)) pss_nil)
      (pss_one (ps_ret (pe_and (pe_cmpR (op_eqD hu) (pe_fld (pe_fld (pv 7) rfl) rfl) (pe_callTy call_tuple_of rfl T.tuple PySem.Pv.boot_tuple (pa_cons (pv 2) pa_nil)) (nomark _))
        (pe_one (pe_call D.Gh hr4 rfl D.mg' D.kg D.bg .nil pass0 (pa_cons (pe_make D.M1 D.G1 hr2 rfl D.m1 D.b1 .nil pass0 (pa_cons (pv 4) pa_nil)) (pa_cons (pe_lst pa_nil) (pa_cons (pv 1) (pa_cons (pv 2) pa_nil))))))))))))))))))), ?_⟩
    -- 0. the land that is drawn
    refine ⟨_, rfl, a, ns, rfl, hS, fun t0 l n lvs ps H1 s1 g0 gl hLn hpl hn hokp => ?_⟩
    refine ⟨t0, _, rfl, SqT.of g0, rfl, _, _, rfl, _, _, rfl, rfl, ?_⟩
    -- 1. the rows
    refine ⟨_, rfl, _, rfl, _, rfl, a, l, ns, n, lvs, ps, rfl, s1.seq hS, gl, hLn, hpl, hn, fun p rvs rs H2 s2 gp hR hrl hok => ?_⟩
    have hll : lvs.length = ps.length := Paired.length hLn
    have hrr : rvs.length = rs.length := Paired.length hR
    -- 2. the land
    refine ⟨_, rfl, _, rfl, fun x dx nx ndx nex => ?_⟩
    have s3 : Same H2 (upd (upd H2 dx (.own x)) x (.ins c.land dx [])) := Same.new (Same.new (Same.refl H2) ndx) (by rw [upd_ne (Ne.symm nex)]; exact nx)
    have gd := good_land hn hpl hokp
    refine ⟨x, dx, (n : Int), l, lvs, ps, rfl, upd_same, SqL.of (s3 _ _ (s2 _ _ gl)), Lns.same (s2.trans s3) hLn, by omega, (fun h => by rw [gd] at h; cases h), (fun k h => by rw [gd] at h; cases h), (fun k h => by rw [gd] at h; cases h), fun _ H3 lt tvs off hL => ⟨rfl, ?_⟩⟩
    have s23 : Same H2 H3 := fun b o z => off b o (ne_of_none z nx) (s3 _ _ z)
    have gp3 := s23 _ _ gp
    have hR3 := Rws.same s23 hR
    have gl3 := s23 _ _ (s2 _ _ gl)
    have hLn3 := Lns.same (s2.trans s23) hLn
    -- 3. what is handed in
    refine ⟨_, rfl, p, rfl, ⟨_, SqL.of gp3⟩, ?_⟩
    refine comp_gen rvs.length (by rw [PySem.sizeLine_eq]; omega) (fun i acc H4 => Same H3 H4 ∧ acc.length = i ∧ Rws H4 acc (rs.take i) ∧ ∀ v ∈ acc, Hnd (fun l => H3 l = none) H4 20 v) ⟨Same.refl _, rfl, .nil, fun v hv => by cases hv⟩ (fun i acc H4 h => Nat.le_of_eq h.2.1) ?_ ?_
    · rintro i acc H4 hi ⟨s4, hal, hA, hnd⟩
      have q4 : SqL K H4 p rvs := SqL.of (s4 _ _ gp3)
      refine ⟨⟨rvs, rvs[i], q4, List.getElem?_eq_getElem hi⟩, fun y H5 ⟨e5, hy⟩ => ?_⟩
      subst e5
      have hy := hy rvs q4
      obtain ⟨r, hri, t, l1, rfl, hT⟩ := Rws.get hR3 hy
      have hokr := hok r (List.mem_of_getElem? hri)
      refine ⟨_, rfl, _, rfl, t, _, rfl, SqT.of (s4 _ _ hT.1), part3 _ _ _ _, fun t1 ht1 => ?_⟩
      rw [cut3]
      have s6 := (Same.refl H5).new (o := .tup [.int r.p, .int r.g, cV r.c]) ht1
      have g6 : (upd H5 t1 (.tup [.int r.p, .int r.g, cV r.c])) t1 = some (.tup [.int r.p, .int r.g, cV r.c]) := upd_same
      generalize upd H5 t1 (.tup [.int r.p, .int r.g, cV r.c]) = H6 at s6 g6 ⊢
      have s46 := s4.trans s6
      refine ⟨_, rfl, t, _, 3, _, rfl, rfl, SqT.of (s46 _ _ hT.1), atI_nat (j := 3) rfl, l1, _, rfl, .inl (SqL.of (s46 _ _ hT.2)), fun l2 hl2 => ?_⟩
      have s7 := (Same.refl H6).new (o := .lst (natV r.s)) hl2
      have g7 : (upd H6 l2 (.lst (natV r.s))) l2 = some (.lst (natV r.s)) := upd_same
      have hl23 : H3 l2 = none := s46.free hl2
      generalize upd H6 l2 (.lst (natV r.s)) = H7 at s7 g7 ⊢
      refine ⟨by show 1 ≤ sizeLine; decide, fun t2 ht2 => ?_⟩
      have s8 := (Same.refl H7).new (o := .tup [.ref l2]) ht2
      have g8 : (upd H7 t2 (.tup [.ref l2])) t2 = some (.tup [.ref l2]) := upd_same
      generalize upd H7 t2 (.tup [.ref l2]) = H8 at s8 g8 ⊢
      refine ⟨t1, t2, _, _, rfl, rfl, SqT.of (s8 _ _ (s7 _ _ g6)), SqT.of g8, List.cons_ne_nil _ _, by show 4 ≤ sizeLine; decide, (fun z => absurd z (List.cons_ne_nil _ _)), fun _ t3 ht3 => ?_⟩
      have s9 := (Same.refl H8).new (o := .tup ([.int r.p, .int r.g, cV r.c] ++ [.ref l2])) ht3
      have g9 : (upd H8 t3 (.tup ([.int r.p, .int r.g, cV r.c] ++ [.ref l2]))) t3 = some (.tup [.int r.p, .int r.g, cV r.c, .ref l2]) := upd_same
      generalize upd H8 t3 (.tup ([.int r.p, .int r.g, cV r.c] ++ [.ref l2])) = H9 at s9 g9 ⊢
      have s59 := s6.trans (s7.trans (s8.trans s9))
      have hl9 : H9 l2 = some (.lst (natV r.s)) := s9 _ _ (s8 _ _ g7)
      refine ⟨s4.trans s59, by rw [List.length_append, hal]; rfl, ?_, fun v hv => ?_⟩
      · rw [List.take_succ, hri]
        exact Rws.snoc ⟨t3, l2, rfl, g9, hl9⟩ (Rws.same s59 hA)
      · rcases List.mem_append.mp hv with z | z
        · obtain ⟨t', l', a', b', c', xs, e1, h1, h2, h3, h4⟩ := hnd v z
          exact ⟨t', l', a', b', c', xs, e1, s59 _ _ h1, s59 _ _ h2, h3, h4⟩
        · rw [List.mem_singleton.mp z]
          exact ⟨t3, l2, _, _, _, _, rfl, g9, hl9, by have := hokr.2.2; simp only [natV, List.length_map]; omega, hl23⟩
    rintro hvs H4 ⟨s4, hal, hA, hnd⟩
    rw [hrr, List.take_length] at hA
    refine ⟨⟨rvs, SqL.of (s4 _ _ gp3), Nat.le_refl _⟩, fun hp hhp => ?_⟩
    have s5 := (Same.refl H4).new (o := .lst hvs) hhp
    have g5 : (upd H4 hp (.lst hvs)) hp = some (.lst hvs) := upd_same
    have hp3 : H3 hp = none := s4.free hhp
    generalize upd H4 hp (.lst hvs) = H5 at s5 g5 ⊢
    have s35 := s4.trans s5
    have hA5 := Rws.same s5 hA
    -- 4. the first bad row
    refine ⟨_, rfl, _, rfl, _, rfl, p, l, rvs, lvs, rs, n, ps, rfl, s35 _ _ gp3, Rws.same s35 hR3, hrl, hok, s35 _ _ gl3, Lns.same s35 hLn3, hpl, fun H6 s6 => ?_⟩
    have s36 := s35.trans s6
    have hL6 : LandAt H6 c x dx lt (n : Int) tvs ps := ⟨s36 _ _ hL.1, s36 _ _ hL.2.1, Lns.same s36 hL.2.2⟩
    -- 5. what is refused
    refine ⟨_, rfl, _, rfl, x, dx, lt, hp, (n : Int), tvs, hvs, ps, rs, rfl, hL6, s6 _ _ g5, Rws.same s6 hA5, hrl, hok, hpl, fun H7 s7 => ?_⟩
    have s37 := s36.trans s7
    refine ⟨_, rfl, neS (d := cD (firstBad n ps rs rs.length)) (den_c _) (den_c _) ((shp_c _).le (by decide)) ⟨_, rfl, iteF ?_⟩⟩
    have g7 := s7 _ _ (s6 _ _ g5)
    have hA7 := Rws.same (s6.trans s7) hA5
    refine ⟨_, rfl, _, rfl, neS (d := .list (rs.map rowD)) (.lst (SqL.of g7) (dens_rws hA7)) (.lst (SqL.of (s37 _ _ gp3)) (dens_rws (Rws.same s37 hR3))) (shp_rows rs) ⟨_, rfl, iteF ?_⟩⟩
    -- 6. none is bad
    refine ⟨_, rfl, rfl, _, rfl, ?_⟩
    cases hfb : firstBad n ps rs rs.length with
    | some i => exact iteT (q _)
    | none =>
      refine iteF ?_
      -- 7. the table
      refine ⟨_, rfl, _, rfl, fun x2 dx2 nx2 ndx2 nex2 => ?_⟩
      have s8 : Same H7 (upd (upd H7 dx2 (.own x2)) x2 (.ins ts.told dx2 [])) := Same.new (Same.new (Same.refl H7) ndx2) (by rw [upd_ne (Ne.symm nex2)]; exact nx2)
      have s38 := s37.trans s8
      refine ⟨x2, dx2, x, dx, lt, hp, (n : Int), tvs, hvs, ps, rs, rfl, upd_same, ⟨s38 _ _ hL.1, s38 _ _ hL.2.1, Lns.same s38 hL.2.2⟩, SqL.of (s8 _ _ g7), Rws.same s8 hA7, by omega, by omega, (fun r hr => ⟨fun k hk => by have := (hok r hr).2.1 k hk; omega, by have := (hok r hr).2.2; omega⟩), (fun i hi => by rw [hfb] at hi; cases hi), fun _ H9 de kvs off9 hx9 hd9 hv9 => ⟨rfl, ?_⟩⟩
      have s79 : Same H7 H9 := fun b o z => off9 b o (ne_of_none z nx2) (s8 _ _ z)
      have s39 := s37.trans s79
      have s49 : Same H4 H9 := s5.trans ((s6.trans s7).trans s79)
      have hwy := told_way hok hv9
      -- 8. what was handed in is changed
      refine ⟨_, rfl, hp, rfl, ⟨_, SqL.of (s79 _ _ g7)⟩, for_list (K := K) (a := hp) (xs := hvs) (fun i σ Hx => ∃ (a8 : Option V), Same H3 Hx ∧ Hx hp = some (.lst hvs) ∧ Hx x2 = some (.ins ts.told dx2 [("land", .ref x), ("entries", .ref de)]) ∧ DicAt P w Hx de kvs ∧ (∀ v ∈ hvs, Hnd (fun l => H3 l = none ∧ l ≠ hp) Hx (20 + i) v) ∧
          σ = [some (.ref a), some (.int n), some (.ref l), some (.ref p), some (.ref x), some (.ref hp), some (cV none), some (.ref x2), a8])
        ⟨none, s39, s79 _ _ g7, hx9, hd9, fun v hv => ?_, ?_⟩ (fun i σ Hx _ ⟨_, _, z, _⟩ => SqL.of z) ?_ ?_⟩
      · obtain ⟨t', l', a', b', c', xs, e1, h1, h2, h3, h4⟩ := hnd v hv
        exact ⟨t', l', a', b', c', xs, e1, s49 _ _ h1, s49 _ _ h2, h3, h4, ne_of_none h2 hhp⟩
      · rfl
      · rintro i v σ Hx hv ⟨a8, sx, gx, xx, dd, hh, rfl⟩
        obtain ⟨t', l', a', b', c', xs, rfl, h1, h2, h3, h4⟩ := hh v (List.mem_of_getElem? hv)
        have hi : i < hvs.length := (List.getElem?_eq_some_iff.mp hv).1
        refine ⟨_, rfl, t', _, 3, _, rfl, rfl, SqT.of h1, atI_nat (j := 3) rfl, .inl ⟨rfl, _, SqL.of h2⟩, l', xs, _, rfl, rfl, h2, by rw [PySem.sizeLine_eq]; omega, ?_⟩
        refine ⟨_, fun b o e => by rw [upd_ne (ne_of_none e h4.1)]; exact sx _ _ e, by rw [upd_ne (Ne.symm h4.2)]; exact gx, by rw [upd_ne (ne_of xx h2 (by intro z; cases z))]; exact xx, dic_off dd h2, fun v2 hv2 => ?_, rfl⟩
        obtain ⟨t2, l2, a2, b2, c2, ys, e2, k1, k2, k3, k4⟩ := hh v2 hv2
        by_cases hl : l2 = l'
        · subst hl
          rw [h2] at k2
          cases k2
          exact ⟨t2, l2, a2, b2, c2, _, e2, by rw [upd_ne (ne_of k1 h2 (by intro z; cases z))]; exact k1, upd_same, by rw [List.length_append]; exact Nat.succ_le_succ h3, k4⟩
        · exact ⟨t2, l2, a2, b2, c2, ys, e2, by rw [upd_ne (ne_of k1 h2 (by intro z; cases z))]; exact k1, by rw [upd_ne hl]; exact k2, Nat.le_succ_of_le k3, k4⟩
      · rintro σ Hx ⟨a8, sx, gx, xx, dd, hh, rfl⟩
        -- 9. and cleared
        refine ⟨_, rfl, .inl ⟨rfl, _, SqL.of gx⟩, hp, hvs, rfl, rfl, gx, ?_⟩
        have sy : Same H3 (upd Hx hp (.lst [])) := fun b o e => by rw [upd_ne (ne_of_none e hp3)]; exact sx _ _ e
        have xy : (upd Hx hp (.lst [])) x2 = some (.ins ts.told dx2 [("land", .ref x), ("entries", .ref de)]) := by rw [upd_ne (ne_of xx gx (by intro z; cases z))]; exact xx
        have dy := dic_off (o := .lst []) dd gx
        generalize upd Hx hp (.lst []) = Hy at sy xy dy ⊢
        have hJ : ToldAt P w ts Hy x2 (wayOf rs) := ⟨dx2, de, .ref x, kvs, xy, dy, hwy⟩
        -- 10. what it tells is right, twice
        refine ⟨_, rfl, _, rfl, _, rfl, _, rfl, x2, p, l, wayOf rs, rvs, lvs, rs, n, ps, rfl, hJ, sy _ _ gp3, Rws.same sy hR3, hrl, hok, hn.2, sy _ _ gl3, Lns.same sy hLn3, hpl, fun k => rfl, fun Hz sz => ⟨_, rfl, iteF ?_⟩⟩
        have s3z := sy.trans sz
        have hJz : ToldAt P w ts Hz x2 (wayOf rs) := ⟨dx2, de, .ref x, kvs, sz _ _ xy, dy.same sz, hwy⟩
        refine ⟨_, rfl, _, rfl, _, rfl, _, rfl, x2, p, l, wayOf rs, rvs, lvs, rs, n, ps, rfl, hJz, s3z _ _ gp3, Rws.same s3z hR3, hrl, hok, hn.2, s3z _ _ gl3, Lns.same s3z hLn3, hpl, fun k => rfl, fun Hu su => ⟨_, rfl, iteF ?_⟩⟩
        have s3u := s3z.trans su
        have hLu : LandAt Hu c x dx lt (n : Int) tvs ps := ⟨s3u _ _ hL.1, s3u _ _ hL.2.1, Lns.same s3u hL.2.2⟩
        -- 11. its land, and a plain one
        refine ⟨_, rfl, x2, ts.told, dx2, _, _, rfl, su _ _ (sz _ _ xy), B.cd, B.nd1, rfl, x, c.land, dx, _, _, rfl, hLu.1, L.cl, L.nl, rfl, _, rfl, l, lvs, rfl, .inl ⟨SqL.of (s3u _ _ gl3), fun tt htt => ?_⟩⟩
        have sv := (Same.refl Hu).new (o := .tup lvs) htt
        have gv : (upd Hu tt (.tup lvs)) tt = some (.tup lvs) := upd_same
        generalize upd Hu tt (.tup lvs) = Hv at sv gv ⊢
        have s3v := s3u.trans sv
        refine eqS (d := .tuple (ps.map pairD)) (.tup (SqT.of (sv _ _ hLu.2.1)) (dens_lns (Lns.same sv hLu.2.2))) (.tup (SqT.of gv) (dens_lns (Lns.same s3v hLn3))) (shp_pairs ps) ⟨true, rfl, iteT ?_⟩
        refine ⟨_, rfl, fun x3 dx3 nx3 ndx3 nex3 => ?_⟩
        have sw : Same Hv (upd (upd Hv dx3 (.own x3)) x3 (.ins ts.tab dx3 [])) := Same.new (Same.new (Same.refl Hv) ndx3) (by rw [upd_ne (Ne.symm nex3)]; exact nx3)
        refine ⟨x3, ts.tab, dx3, .ref x, rfl, upd_same, B.ct, B.nt, rfl, ?_⟩
        have hx3 : H3 x3 = none := s3v.free nx3
        have sk : Same H3 (upd (upd (upd Hv dx3 (.own x3)) x3 (.ins ts.tab dx3 [])) x3 (.ins ts.tab dx3 [("land", .ref x)])) := fun b o e => by rw [upd_ne (ne_of_none e hx3)]; exact sw _ _ (s3v _ _ e)
        have gk : (upd (upd (upd Hv dx3 (.own x3)) x3 (.ins ts.tab dx3 [])) x3 (.ins ts.tab dx3 [("land", .ref x)])) x3 = some (.ins ts.tab dx3 [("land", .ref x)]) := upd_same
        generalize upd (upd (upd Hv dx3 (.own x3)) x3 (.ins ts.tab dx3 [])) x3 (.ins ts.tab dx3 [("land", .ref x)]) = Hk at sk gk ⊢
        refine ⟨Nat.zero_le _, fun e0 he0 => ?_⟩
        have sm := (Same.refl Hk).new (o := .lst []) he0
        have s3m := sk.trans sm
        refine ⟨_, rfl, _, rfl, x3, e0, l, fun _ => 0, [], lvs, [], n, ps, rfl, ⟨dx3, .ref x, sm _ _ gk, fun _ => rfl⟩, upd_same, .nil, Nat.zero_le _, (fun r hr => by cases hr), hn.2, s3m _ _ gl3, Lns.same s3m hLn3, hpl, fun k => rfl, fun Hl _ => q Hl⟩
end
end K11
namespace K11
open PySem L2
theorem all_mk {l : PySem.W.OpenLaw} {w : World} {K : PySem.W.Frag} {h : Heap} {mg : Str → Option Value} {fa cL cN cT cR cE cM cY cB cD f1 f2 f3 f4 f5 f6 f7 f8 f9 f10 f11 f12 f13 f14 f15 f16 f17 f18 f19 f20 f21 f22 f23 f24 f25 f26 f27 f28 : Addr} {t1 t2 : Tok} (X : K.In h) (G : h.Ns mainGlobals mg) (hfa : mg "law" = some (.ref fa))
    {od1 an1 od2 an2 od3 an3 od4 an4 od5 an5 od6 an6 od7 an7 od8 an8 od9 an9 od10 an10 od11 an11 od12 an12 od13 an13 od14 an14 od15 an15 od16 an16 od17 an17 od18 an18 od19 an19 od20 an20 od21 an21 od22 an22 od23 an23 od24 an24 od25 an25 od26 an26 od27 an27 od28 an28 : Option Addr} {sl1 sl2 sl3 sl4 sl5 sl6 sl7 sl8 sl9 sl10 sl11 sl12 sl13 sl14 sl15 sl16 sl17 sl18 sl19 sl20 sl21 sl22 sl23 sl24 sl25 sl26 sl27 sl28 : Array (Option Value)} {oc1 kV1 dc1 pm1 cd1 ct1 oc2 kV2 dc2 pm2 cd2 ct2 oc3 kV3 dc3 pm3 cd3 ct3 oc4 kV4 dc4 pm4 cd4 ct4 oc5 kV5 dc5 pm5 cd5 ct5 oc6 kV6 dc6 pm6 cd6 ct6 oc7 kV7 dc7 pm7 cd7 ct7 oc8 kV8 dc8 pm8 cd8 ct8 oc9 kV9 dc9 pm9 cd9 ct9 oc10 kV10 dc10 pm10 cd10 ct10 oc11 kV11 dc11 pm11 cd11 ct11 oc12 kV12 dc12 pm12 cd12 ct12 oc13 kV13 dc13 pm13 cd13 ct13 oc14 kV14 dc14 pm14 cd14 ct14 oc15 kV15 dc15 pm15 cd15 ct15 oc16 kV16 dc16 pm16 cd16 ct16 oc17 kV17 dc17 pm17 cd17 ct17 oc18 kV18 dc18 pm18 cd18 ct18 oc19 kV19 dc19 pm19 cd19 ct19 oc20 kV20 dc20 pm20 cd20 ct20 oc21 kV21 dc21 pm21 cd21 ct21 oc22 kV22 dc22 pm22 cd22 ct22 oc23 kV23 dc23 pm23 cd23 ct23 oc24 kV24 dc24 pm24 cd24 ct24 oc25 kV25 dc25 pm25 cd25 ct25 oc26 kV26 dc26 pm26 cd26 ct26 oc27 kV27 dc27 pm27 cd27 ct27 oc28 kV28 dc28 pm28 cd28 ct28 : Value}
    (gcL : PySem.W.nsIn K mainGlobals "Land" = some (some (.ref cL)))
    (gcN : PySem.W.nsIn K mainGlobals "NoPlaces" = some (some (.ref cN)))
    (gcT : PySem.W.nsIn K mainGlobals "TooMany" = some (some (.ref cT)))
    (gcR : PySem.W.nsIn K mainGlobals "NoRoad" = some (some (.ref cR)))
    (gcE : PySem.W.nsIn K mainGlobals "NoEntry" = some (some (.ref cE)))
    (gcM : PySem.W.nsIn K mainGlobals "NoMove" = some (some (.ref cM)))
    (gcY : PySem.W.nsIn K mainGlobals "YardError" = some (some (.ref cY)))
    (gcB : PySem.W.nsIn K mainGlobals "Table" = some (some (.ref cB)))
    (gcD : PySem.W.nsIn K mainGlobals "Told" = some (some (.ref cD)))
    (a1 : PySem.W.nsIn K mainGlobals "has" = some (some (.ref f1)))
    (l1 : K.lookup f1 = some ⟨oc1, od1, .func (PySem.W.fnOf "has" "has" (defArgs sHas) (defBody sHas) (defScope sHas) .none kV1 dc1 pm1 an1 cd1 ct1), sl1⟩)
    (c1 : PySem.W.codeIn K cd1 "has" = true)
    (k1 : PySem.W.keepIn K (.ref f1) = true)
    (a2 : PySem.W.nsIn K mainGlobals "members" = some (some (.ref f2)))
    (l2 : K.lookup f2 = some ⟨oc2, od2, .func (PySem.W.fnOf "members" "members" (defArgs sMem) (defBody sMem) (defScope sMem) .none kV2 dc2 pm2 an2 cd2 ct2), sl2⟩)
    (c2 : PySem.W.codeIn K cd2 "members" = true)
    (k2 : PySem.W.keepIn K (.ref f2) = true)
    (a3 : PySem.W.nsIn K mainGlobals "set_of" = some (some (.ref f3)))
    (l3 : K.lookup f3 = some ⟨oc3, od3, .func (PySem.W.fnOf "set_of" "set_of" (defArgs sSet) (defBody sSet) (defScope sSet) .none kV3 dc3 pm3 an3 cd3 ct3), sl3⟩)
    (c3 : PySem.W.codeIn K cd3 "set_of" = true)
    (k3 : PySem.W.keepIn K (.ref f3) = true)
    (a4 : PySem.W.nsIn K mainGlobals "is_whole" = some (some (.ref f4)))
    (l4 : K.lookup f4 = some ⟨oc4, od4, .func (PySem.W.fnOf "is_whole" "is_whole" (defArgs sWhole) (defBody sWhole) (defScope sWhole) .none kV4 dc4 pm4 an4 cd4 ct4), sl4⟩)
    (c4 : PySem.W.codeIn K cd4 "is_whole" = true)
    (k4 : PySem.W.keepIn K (.ref f4) = true)
    (a5 : PySem.W.nsIn K mainGlobals "is_within" = some (some (.ref f5)))
    (l5 : K.lookup f5 = some ⟨oc5, od5, .func (PySem.W.fnOf "is_within" "is_within" (defArgs sWithin) (defBody sWithin) (defScope sWithin) .none kV5 dc5 pm5 an5 cd5 ct5), sl5⟩)
    (c5 : PySem.W.codeIn K cd5 "is_within" = true)
    (k5 : PySem.W.keepIn K (.ref f5) = true)
    (a6 : PySem.W.nsIn K mainGlobals "is_one_of" = some (some (.ref f6)))
    (l6 : K.lookup f6 = some ⟨oc6, od6, .func (PySem.W.fnOf "is_one_of" "is_one_of" (defArgs sOne) (defBody sOne) (defScope sOne) .none kV6 dc6 pm6 an6 cd6 ct6), sl6⟩)
    (c6 : PySem.W.codeIn K cd6 "is_one_of" = true)
    (k6 : PySem.W.keepIn K (.ref f6) = true)
    (a7 : PySem.W.nsIn K mainGlobals "are_two_places" = some (some (.ref f7)))
    (l7 : K.lookup f7 = some ⟨oc7, od7, .func (PySem.W.fnOf "are_two_places" "are_two_places" (defArgs sTwo) (defBody sTwo) (defScope sTwo) .none kV7 dc7 pm7 an7 cd7 ct7), sl7⟩)
    (c7 : PySem.W.codeIn K cd7 "are_two_places" = true)
    (k7 : PySem.W.keepIn K (.ref f7) = true)
    (a8 : PySem.W.nsIn K mainGlobals "row_fits" = some (some (.ref f8)))
    (l8 : K.lookup f8 = some ⟨oc8, od8, .func (PySem.W.fnOf "row_fits" "row_fits" (defArgs sFits) (defBody sFits) (defScope sFits) .none kV8 dc8 pm8 an8 cd8 ct8), sl8⟩)
    (c8 : PySem.W.codeIn K cd8 "row_fits" = true)
    (k8 : PySem.W.keepIn K (.ref f8) = true)
    (a9 : PySem.W.nsIn K mainGlobals "_law_draw" = some (some (.ref f9)))
    (l9 : K.lookup f9 = some ⟨oc9, od9, .func (PySem.W.fnOf "_law_draw" "_law_draw" (defArgs sDraw) (defBody sDraw) (defScope sDraw) .none kV9 dc9 pm9 an9 cd9 ct9), sl9⟩)
    (c9 : PySem.W.codeIn K cd9 "_law_draw" = true)
    (k9 : PySem.W.keepIn K (.ref f9) = true)
    (a10 : PySem.W.nsIn K mainGlobals "_law_land" = some (some (.ref f10)))
    (l10 : K.lookup f10 = some ⟨oc10, od10, .func (PySem.W.fnOf "_law_land" "_law_land" (defArgs sLand) (defBody sLand) (defScope sLand) .none kV10 dc10 pm10 an10 cd10 ct10), sl10⟩)
    (c10 : PySem.W.codeIn K cd10 "_law_land" = true)
    (k10 : PySem.W.keepIn K (.ref f10) = true)
    (a11 : PySem.W.nsIn K mainGlobals "_law_row" = some (some (.ref f11)))
    (l11 : K.lookup f11 = some ⟨oc11, od11, .func (PySem.W.fnOf "_law_row" "_law_row" (defArgs sRow) (defBody sRow) (defScope sRow) .none kV11 dc11 pm11 an11 cd11 ct11), sl11⟩)
    (c11 : PySem.W.codeIn K cd11 "_law_row" = true)
    (k11 : PySem.W.keepIn K (.ref f11) = true)
    (a12 : PySem.W.nsIn K mainGlobals "_law_spoiled" = some (some (.ref f12)))
    (l12 : K.lookup f12 = some ⟨oc12, od12, .func (PySem.W.fnOf "_law_spoiled" "_law_spoiled" (defArgs sSpoil) (defBody sSpoil) (defScope sSpoil) .none kV12 dc12 pm12 an12 cd12 ct12), sl12⟩)
    (c12 : PySem.W.codeIn K cd12 "_law_spoiled" = true)
    (k12 : PySem.W.keepIn K (.ref f12) = true)
    (a13 : PySem.W.nsIn K mainGlobals "_law_rows" = some (some (.ref f13)))
    (l13 : K.lookup f13 = some ⟨oc13, od13, .func (PySem.W.fnOf "_law_rows" "_law_rows" (defArgs sRows) (defBody sRows) (defScope sRows) .none kV13 dc13 pm13 an13 cd13 ct13), sl13⟩)
    (c13 : PySem.W.codeIn K cd13 "_law_rows" = true)
    (k13 : PySem.W.keepIn K (.ref f13) = true)
    (a14 : PySem.W.nsIn K mainGlobals "_law_is_bad" = some (some (.ref f14)))
    (l14 : K.lookup f14 = some ⟨oc14, od14, .func (PySem.W.fnOf "_law_is_bad" "_law_is_bad" (defArgs sBad) (defBody sBad) (defScope sBad) .none kV14 dc14 pm14 an14 cd14 ct14), sl14⟩)
    (c14 : PySem.W.codeIn K cd14 "_law_is_bad" = true)
    (k14 : PySem.W.keepIn K (.ref f14) = true)
    (a15 : PySem.W.nsIn K mainGlobals "_law_first_bad" = some (some (.ref f15)))
    (l15 : K.lookup f15 = some ⟨oc15, od15, .func (PySem.W.fnOf "_law_first_bad" "_law_first_bad" (defArgs sFirst) (defBody sFirst) (defScope sFirst) .none kV15 dc15 pm15 an15 cd15 ct15), sl15⟩)
    (c15 : PySem.W.codeIn K cd15 "_law_first_bad" = true)
    (k15 : PySem.W.keepIn K (.ref f15) = true)
    (a16 : PySem.W.nsIn K mainGlobals "_law_refused" = some (some (.ref f16)))
    (l16 : K.lookup f16 = some ⟨oc16, od16, .func (PySem.W.fnOf "_law_refused" "_law_refused" (defArgs sRef) (defBody sRef) (defScope sRef) .none kV16 dc16 pm16 an16 cd16 ct16), sl16⟩)
    (c16 : PySem.W.codeIn K cd16 "_law_refused" = true)
    (k16 : PySem.W.keepIn K (.ref f16) = true)
    (a17 : PySem.W.nsIn K mainGlobals "_law_right" = some (some (.ref f17)))
    (l17 : K.lookup f17 = some ⟨oc17, od17, .func (PySem.W.fnOf "_law_right" "_law_right" (defArgs sRight) (defBody sRight) (defScope sRight) .none kV17 dc17 pm17 an17 cd17 ct17), sl17⟩)
    (c17 : PySem.W.codeIn K cd17 "_law_right" = true)
    (k17 : PySem.W.keepIn K (.ref f17) = true)
    (a18 : PySem.W.nsIn K mainGlobals "law" = some (some (.ref f18)))
    (l18 : K.lookup f18 = some ⟨oc18, od18, .func (PySem.W.fnOf "law" "law" (defArgs sLaw) (defBody sLaw) (defScope sLaw) .none kV18 dc18 pm18 an18 cd18 ct18), sl18⟩)
    (c18 : PySem.W.codeIn K cd18 "law" = true)
    (k18 : PySem.W.keepIn K (.ref f18) = true)
    (a19 : PySem.W.findIn K (.ref cL) "__init__" = some (some (.ref f19)))
    (l19 : K.lookup f19 = some ⟨oc19, od19, .func (PySem.W.fnOf "__init__" "Land.__init__" (defArgs sInit) (defBody sInit) (defScope sInit) .none kV19 dc19 pm19 an19 cd19 ct19), sl19⟩)
    (c19 : PySem.W.codeIn K cd19 "Land.__init__" = true)
    (k19 : PySem.W.keepIn K (.ref f19) = true)
    (i19 : PySem.W.isFn K (.ref f19) = true)
    (a20 : PySem.W.findIn K (.ref cL) "out_of" = some (some (.ref f20)))
    (l20 : K.lookup f20 = some ⟨oc20, od20, .func (PySem.W.fnOf "out_of" "Land.out_of" (defArgs sOut) (defBody sOut) (defScope sOut) .none kV20 dc20 pm20 an20 cd20 ct20), sl20⟩)
    (c20 : PySem.W.codeIn K cd20 "Land.out_of" = true)
    (k20 : PySem.W.keepIn K (.ref f20) = true)
    (i20 : PySem.W.isFn K (.ref f20) = true)
    (a21 : PySem.W.findIn K (.ref cL) "into" = some (some (.ref f21)))
    (l21 : K.lookup f21 = some ⟨oc21, od21, .func (PySem.W.fnOf "into" "Land.into" (defArgs sInto) (defBody sInto) (defScope sInto) .none kV21 dc21 pm21 an21 cd21 ct21), sl21⟩)
    (c21 : PySem.W.codeIn K cd21 "Land.into" = true)
    (k21 : PySem.W.keepIn K (.ref f21) = true)
    (i21 : PySem.W.isFn K (.ref f21) = true)
    (a22 : PySem.W.findIn K (.ref cT) "__init__" = some (some (.ref f22)))
    (l22 : K.lookup f22 = some ⟨oc22, od22, .func (PySem.W.fnOf "__init__" "TooMany.__init__" (defArgs sTM) (defBody sTM) (defScope sTM) .none kV22 dc22 pm22 an22 cd22 ct22), sl22⟩)
    (c22 : PySem.W.codeIn K cd22 "TooMany.__init__" = true)
    (k22 : PySem.W.keepIn K (.ref f22) = true)
    (i22 : PySem.W.isFn K (.ref f22) = true)
    (a23 : PySem.W.findIn K (.ref cR) "__init__" = some (some (.ref f23)))
    (l23 : K.lookup f23 = some ⟨oc23, od23, .func (PySem.W.fnOf "__init__" "NoRoad.__init__" (defArgs sNR) (defBody sNR) (defScope sNR) .none kV23 dc23 pm23 an23 cd23 ct23), sl23⟩)
    (c23 : PySem.W.codeIn K cd23 "NoRoad.__init__" = true)
    (k23 : PySem.W.keepIn K (.ref f23) = true)
    (i23 : PySem.W.isFn K (.ref f23) = true)
    (a24 : PySem.W.findIn K (.ref cE) "__init__" = some (some (.ref f24)))
    (l24 : K.lookup f24 = some ⟨oc24, od24, .func (PySem.W.fnOf "__init__" "NoEntry.__init__" (defArgs sNE) (defBody sNE) (defScope sNE) .none kV24 dc24 pm24 an24 cd24 ct24), sl24⟩)
    (c24 : PySem.W.codeIn K cd24 "NoEntry.__init__" = true)
    (k24 : PySem.W.keepIn K (.ref f24) = true)
    (i24 : PySem.W.isFn K (.ref f24) = true)
    (a25 : PySem.W.findIn K (.ref cB) "__init__" = some (some (.ref f25)))
    (l25 : K.lookup f25 = some ⟨oc25, od25, .func (PySem.W.fnOf "__init__" "Table.__init__" (defArgs sTab) (defBody sTab) (defScope sTab) .none kV25 dc25 pm25 an25 cd25 ct25), sl25⟩)
    (c25 : PySem.W.codeIn K cd25 "Table.__init__" = true)
    (k25 : PySem.W.keepIn K (.ref f25) = true)
    (i25 : PySem.W.isFn K (.ref f25) = true)
    (a26 : PySem.W.findIn K (.ref cB) "ways" = some (some (.ref f26)))
    (l26 : K.lookup f26 = some ⟨oc26, od26, .func (PySem.W.fnOf "ways" "Table.ways" (defArgs sTabW) (defBody sTabW) (defScope sTabW) .none kV26 dc26 pm26 an26 cd26 ct26), sl26⟩)
    (c26 : PySem.W.codeIn K cd26 "Table.ways" = true)
    (k26 : PySem.W.keepIn K (.ref f26) = true)
    (i26 : PySem.W.isFn K (.ref f26) = true)
    (a27 : PySem.W.findIn K (.ref cD) "__init__" = some (some (.ref f27)))
    (l27 : K.lookup f27 = some ⟨oc27, od27, .func (PySem.W.fnOf "__init__" "Told.__init__" (defArgs sTold) (defBody sTold) (defScope sTold) .none kV27 dc27 pm27 an27 cd27 ct27), sl27⟩)
    (c27 : PySem.W.codeIn K cd27 "Told.__init__" = true)
    (k27 : PySem.W.keepIn K (.ref f27) = true)
    (i27 : PySem.W.isFn K (.ref f27) = true)
    (a28 : PySem.W.findIn K (.ref cD) "ways" = some (some (.ref f28)))
    (l28 : K.lookup f28 = some ⟨oc28, od28, .func (PySem.W.fnOf "ways" "Told.ways" (defArgs sToldW) (defBody sToldW) (defScope sToldW) .none kV28 dc28 pm28 an28 cd28 ct28), sl28⟩)
    (c28 : PySem.W.codeIn K cd28 "Told.ways" = true)
    (k28 : PySem.W.keepIn K (.ref f28) = true)
    (i28 : PySem.W.isFn K (.ref f28) = true)
    (mp : PySem.W.nsIn K mainGlobals "MOST_PLACES" = some (some (.int 12 t1)))
    (ml : PySem.W.nsIn K mainGlobals "MOST_LANES" = some (some (.int 40 t2)))
    (p1cL : PySem.W.plainGet K cL Str.empty = true)
    (p2cL : PySem.W.hasDictIn K cL = true)
    (p3cL : PySem.W.plainOver K cL = true)
    (p4cL : PySem.W.findIn K (.ref cL) "__setattr__" = some (some (.builtin "object.__setattr__")))
    (p5cL : PySem.W.makesIn K cL = true)
    (p6cL : PySem.W.keepIn K (.ref cL) = true)
    (ncLplaces : PySem.W.findIn K (.ref cL) "places" = some none)
    (ncLlanes : PySem.W.findIn K (.ref cL) "lanes" = some none)
    (p1cB : PySem.W.plainGet K cB Str.empty = true)
    (p2cB : PySem.W.hasDictIn K cB = true)
    (p3cB : PySem.W.plainOver K cB = true)
    (p4cB : PySem.W.findIn K (.ref cB) "__setattr__" = some (some (.builtin "object.__setattr__")))
    (p5cB : PySem.W.makesIn K cB = true)
    (p6cB : PySem.W.keepIn K (.ref cB) = true)
    (ncBland : PySem.W.findIn K (.ref cB) "land" = some none)
    (p1cD : PySem.W.plainGet K cD Str.empty = true)
    (p2cD : PySem.W.hasDictIn K cD = true)
    (p3cD : PySem.W.plainOver K cD = true)
    (p4cD : PySem.W.findIn K (.ref cD) "__setattr__" = some (some (.builtin "object.__setattr__")))
    (p5cD : PySem.W.makesIn K cD = true)
    (p6cD : PySem.W.keepIn K (.ref cD) = true)
    (ncDland : PySem.W.findIn K (.ref cD) "land" = some none)
    (ncDentries : PySem.W.findIn K (.ref cD) "entries" = some none)
    (x1cN : excInI K cN none = true)
    (x2cN : PySem.W.keepIn K (.ref cN) = true)
    (x1cT : excInI K cT (some (.ref f22)) = true)
    (x2cT : PySem.W.keepIn K (.ref cT) = true)
    (x3cT : exOver K cT = true)
    (x4cT : PySem.W.hasDictIn K cT = true)
    (x5cT : PySem.W.findIn K (.ref cT) "__setattr__" = some (some (.builtin "object.__setattr__")))
    (x6cT : PySem.W.findIn K (.ref cT) "__getattribute__" = some (some (.builtin "BaseException.__getattribute__")))
    (x7cT : PySem.W.findIn K (.ref cT) "__getattr__" = some none)
    (x1cR : excInI K cR (some (.ref f23)) = true)
    (x2cR : PySem.W.keepIn K (.ref cR) = true)
    (x3cR : exOver K cR = true)
    (x4cR : PySem.W.hasDictIn K cR = true)
    (x5cR : PySem.W.findIn K (.ref cR) "__setattr__" = some (some (.builtin "object.__setattr__")))
    (x6cR : PySem.W.findIn K (.ref cR) "__getattribute__" = some (some (.builtin "BaseException.__getattribute__")))
    (x7cR : PySem.W.findIn K (.ref cR) "__getattr__" = some none)
    (x1cE : excInI K cE (some (.ref f24)) = true)
    (x2cE : PySem.W.keepIn K (.ref cE) = true)
    (x3cE : exOver K cE = true)
    (x4cE : PySem.W.hasDictIn K cE = true)
    (x5cE : PySem.W.findIn K (.ref cE) "__setattr__" = some (some (.builtin "object.__setattr__")))
    (x6cE : PySem.W.findIn K (.ref cE) "__getattribute__" = some (some (.builtin "BaseException.__getattribute__")))
    (x7cE : PySem.W.findIn K (.ref cE) "__getattr__" = some none)
    (n1 : PySem.W.findIn K (.ref cT) "many" = some none)
    (n2 : PySem.W.findIn K (.ref cR) "lane" = some none)
    (n3 : PySem.W.findIn K (.ref cE) "row" = some none)
    (y1 : PySem.W.findIn K (.ref cE) "__class__" = some (some (.builtin "object.__class__")))
    (y2 : PySem.W.specialIn K (.builtin "object.__class__") "__get__" = some (some (.builtin "getset_descriptor.__get__")))
    (y3 : PySem.W.takesIn K (.builtin "object.__class__") = some true)
    (y4 : PySem.W.exmOne K (.ref cE) (.ref cY) = some true)
    (y5 : PySem.W.kitOne K (.ref cE) (.ref cE) = some true)
    (y6 : PySem.W.kitAny K (.ref cE) [.ref cR, .ref cM] = some false)
    (w1 : PySem.W.readsIn K cB (.type "type") = true)
    (w2 : PySem.W.findCls K (.ref cB) (.type "type") "__init__" = some (.val (.ref f25)))
    (w3 : PySem.W.specialIn K (.ref cB) "__getattribute__" = some (some (.builtin "type.__getattribute__")))
    (z0 : PySem.W.nsIn K mainGlobals "isinstance" = some none)
    (z1 : PySem.W.nsIn K mainGlobals "int" = some none)
    (z2 : PySem.W.nsIn K mainGlobals "bool" = some none)
    (z3 : PySem.W.nsIn K mainGlobals "len" = some none)
    (z4 : PySem.W.nsIn K mainGlobals "enumerate" = some none)
    (z5 : PySem.W.nsIn K mainGlobals "tuple" = some none)
    (z6 : PySem.W.nsIn K mainGlobals "max" = some none)
    (z7 : PySem.W.nsIn K mainGlobals "min" = some none)
    (z8 : PySem.W.nsIn K mainGlobals "range" = some none)
    (z9 : PySem.W.nsIn K mainGlobals "list" = some none)
    (z10 : PySem.W.nsIn K mainGlobals "set" = some none)
    (z11 : PySem.W.nsIn K mainGlobals "sorted" = some none)
    (z12 : PySem.W.nsIn K mainGlobals "all" = some none)
    : ∃ fd : FuncData, (∀ (s : Shared) (v : Value), BindsTo s fd ⟨[v], []⟩ [("_law_script", v)]) ∧ ∀ base : Heap, K.In base → base.Ns mainGlobals mg → FnOk l.prog w K mg base CX0 8 fa fd ["_law_script"] (spLaw K) := by
  have e := hfa.symm.trans (PySem.W.mg_of X G a18)
  cases e
  have T : Txt mg := ⟨PySem.W.mg_none_of X G z0, PySem.W.mg_none_of X G z1, PySem.W.mg_none_of X G z2, PySem.W.mg_none_of X G z3, PySem.W.mg_none_of X G z4, PySem.W.mg_none_of X G z5, PySem.W.mg_none_of X G z6, PySem.W.mg_none_of X G z7, PySem.W.mg_none_of X G z8, PySem.W.mg_none_of X G z9, PySem.W.mg_none_of X G z10, PySem.W.mg_none_of X G z11, PySem.W.mg_none_of X G z12⟩
  have F1 := fun_mk (st := sHas) l1 c1 k1
  have F2 := fun_mk (st := sMem) l2 c2 k2
  have F3 := fun_mk (st := sSet) l3 c3 k3
  have F4 := fun_mk (st := sWhole) l4 c4 k4
  have F5 := fun_mk (st := sWithin) l5 c5 k5
  have F6 := fun_mk (st := sOne) l6 c6 k6
  have F7 := fun_mk (st := sTwo) l7 c7 k7
  have F8 := fun_mk (st := sFits) l8 c8 k8
  have F9 := fun_mk (st := sDraw) l9 c9 k9
  have F10 := fun_mk (st := sLand) l10 c10 k10
  have F11 := fun_mk (st := sRow) l11 c11 k11
  have F12 := fun_mk (st := sSpoil) l12 c12 k12
  have F13 := fun_mk (st := sRows) l13 c13 k13
  have F14 := fun_mk (st := sBad) l14 c14 k14
  have F15 := fun_mk (st := sFirst) l15 c15 k15
  have F16 := fun_mk (st := sRef) l16 c16 k16
  have F17 := fun_mk (st := sRight) l17 c17 k17
  have F18 := fun_mk (st := sLaw) l18 c18 k18
  have F19 := fun_mk (st := sInit) l19 c19 k19
  have F20 := fun_mk (st := sOut) l20 c20 k20
  have F21 := fun_mk (st := sInto) l21 c21 k21
  have F22 := fun_mk (st := sTM) l22 c22 k22
  have F23 := fun_mk (st := sNR) l23 c23 k23
  have F24 := fun_mk (st := sNE) l24 c24 k24
  have F25 := fun_mk (st := sTab) l25 c25 k25
  have F26 := fun_mk (st := sTabW) l26 c26 k26
  have F27 := fun_mk (st := sTold) l27 c27 k27
  have F28 := fun_mk (st := sToldW) l28 c28 k28
  have b1 := F1.binds (ps := ["some", "number"]) fun _ _ _ _ _ _ => OmC.len2 (fun _ _ => rfl)
  have b2 := F2.binds (ps := ["some"]) fun _ _ _ _ _ _ => OmC.len1 (fun _ => rfl)
  have b3 := F3.binds (ps := ["numbers"]) fun _ _ _ _ _ _ => OmC.len1 (fun _ => rfl)
  have b4 := F4.binds (ps := ["value"]) fun _ _ _ _ _ _ => OmC.len1 (fun _ => rfl)
  have b5 := F5.binds (ps := ["value", "least", "most"]) fun _ _ _ _ _ _ => OmC.len3 (fun _ _ _ => rfl)
  have b6 := F6.binds (ps := ["value", "numbers"]) fun _ _ _ _ _ _ => OmC.len2 (fun _ _ => rfl)
  have b7 := F7.binds (ps := ["places", "one", "other"]) fun _ _ _ _ _ _ => OmC.len3 (fun _ _ _ => rfl)
  have b8 := F8.binds (ps := ["land", "row"]) fun _ _ _ _ _ _ => OmC.len2 (fun _ _ => rfl)
  have b9 := F9.binds (ps := ["_law_script", "_law_k"]) fun _ _ _ _ _ _ => OmC.len2 (fun _ _ => rfl)
  have b10 := F10.binds (ps := ["_law_script"]) fun _ _ _ _ _ _ => OmC.len1 (fun _ => rfl)
  have b11 := F11.binds (ps := ["_law_places", "_law_lanes", "_law_draw_here", "_law_other"]) fun _ _ _ _ _ _ => OmC.len4 (fun _ _ _ _ => rfl)
  have b12 := F12.binds (ps := ["_law_row_here", "_law_rows_here", "_law_places", "_law_lanes", "_law_draw_here"]) fun _ _ _ _ _ _ => OmC.len5 (fun _ _ _ _ _ => rfl)
  have b13 := F13.binds (ps := ["_law_script", "_law_places", "_law_lanes"]) fun _ _ _ _ _ _ => OmC.len3 (fun _ _ _ => rfl)
  have b14 := F14.binds (ps := ["_law_row_here", "_law_ahead", "_law_places", "_law_lanes"]) fun _ _ _ _ _ _ => OmC.len4 (fun _ _ _ _ => rfl)
  have b15 := F15.binds (ps := ["_law_rows_here", "_law_places", "_law_lanes"]) fun _ _ _ _ _ _ => OmC.len3 (fun _ _ _ => rfl)
  have b16 := F16.binds (ps := ["_law_land_here", "_law_rows_here"]) fun _ _ _ _ _ _ => OmC.len2 (fun _ _ => rfl)
  have b17 := F17.binds (ps := ["_law_table", "_law_rows_here", "_law_places", "_law_lanes"]) fun _ _ _ _ _ _ => OmC.len4 (fun _ _ _ _ => rfl)
  have b19 := F19.binds (ps := ["self", "places", "lanes"]) fun _ _ _ _ _ _ => OmC.len3 (fun _ _ _ => rfl)
  have b20 := F20.binds (ps := ["self", "place"]) fun _ _ _ _ _ _ => OmC.len2 (fun _ _ => rfl)
  have b21 := F21.binds (ps := ["self", "place"]) fun _ _ _ _ _ _ => OmC.len2 (fun _ _ => rfl)
  have b22 := F22.binds (ps := ["self", "many"]) fun _ _ _ _ _ _ => OmC.len2 (fun _ _ => rfl)
  have b23 := F23.binds (ps := ["self", "lane"]) fun _ _ _ _ _ _ => OmC.len2 (fun _ _ => rfl)
  have b24 := F24.binds (ps := ["self", "row"]) fun _ _ _ _ _ _ => OmC.len2 (fun _ _ => rfl)
  have b25 := F25.binds (ps := ["self", "land"]) fun _ _ _ _ _ _ => OmC.len2 (fun _ _ => rfl)
  have b26 := F26.binds (ps := ["self", "place", "goal", "came"]) fun _ _ _ _ _ _ => OmC.len4 (fun _ _ _ _ => rfl)
  have b27 := F27.binds (ps := ["self", "land", "rows"]) fun _ _ _ _ _ _ => OmC.len3 (fun _ _ _ => rfl)
  have b28 := F28.binds (ps := ["self", "place", "goal", "came"]) fun _ _ _ _ _ _ => OmC.len4 (fun _ _ _ _ => rfl)
  have L : Lnd K ⟨cN, cT, cR, cL⟩ := ⟨⟨p1cL, p2cL, p3cL, p4cL⟩, ncLplaces, ncLlanes⟩
  have xT : XCls K cT := ⟨x3cT, x4cT, x5cT, x6cT, x7cT⟩
  have xR : XCls K cR := ⟨x3cR, x4cR, x5cR, x6cR, x7cR⟩
  have xE : XCls K cE := ⟨x3cE, x4cE, x5cE, x6cE, x7cE⟩
  have E : Exc K mg ⟨cN, cT, cR, cL⟩ f22 f23 _ _ := ⟨PySem.W.mg_of X G gcN, x1cN, x2cN, PySem.W.mg_of X G gcT, x1cT, x2cT, xT, n1, i22, F22, b22, PySem.W.mg_of X G gcR, x1cR, x2cR, xR, n2, i23, F23, b23⟩
  have B : Tbl K mg ⟨cB, cD, cE⟩ f25 f24 _ _ := ⟨⟨p1cB, p2cB, p3cB, p4cB⟩, ncBland, ⟨p1cD, p2cD, p3cD, p4cD⟩, ncDland, ncDentries, PySem.W.mg_of X G gcB, ⟨w1, w2, w3, k25⟩, b25, PySem.W.mg_of X G gcE, x1cE, x2cE, xE, n3, i24, F24, b24⟩
  have Y : Yds K mg ⟨cB, cD, cE⟩ cY cR cM := ⟨PySem.W.mg_of X G gcY, PySem.W.mg_of X G gcR, PySem.W.mg_of X G gcM, y4, ⟨y1, y2, y3⟩, y5, y6⟩
  have M : Mths K ⟨cN, cT, cR, cL⟩ f20 f21 _ _ := ⟨⟨a20, i20, k20⟩, ⟨a21, i21, k21⟩, b20, b21⟩
  have Mi : Mk K cL f19 := ⟨p5cL, a19, i19, p6cL⟩
  have Mt : Mk K cD f27 := ⟨p5cD, a27, i27, p6cD⟩
  have M1 : Mk K cB f25 := ⟨p5cB, a25, i25, p6cB⟩
  refine ⟨PySem.W.fnOf "law" "law" (defArgs sLaw) (defBody sLaw) (defScope sLaw) .none kV18 dc18 pm18 an18 cd18 ct18, fun s v => .of_eq rfl, fun base _ _ => ?_⟩
  have W1 : Way K cD f28 _ (ToldAt l.prog w ⟨cB, cD, cE⟩) := ⟨B.cd, ⟨a28, i28, k28⟩, b28, fun H x wy ⟨dx, de, lv, kvs, h1, _⟩ => ⟨dx, _, h1, rfl⟩, fun H H' x wy ⟨dx, de, lv, kvs, h1, h2, h3⟩ s => ⟨dx, de, lv, kvs, s _ _ h1, h2.same s, h3⟩⟩
  have W2 : Way K cB f26 _ (TabAt ⟨cB, cD, cE⟩) := ⟨B.ct, ⟨a26, i26, k26⟩, b26, fun H x wy ⟨dx, lv, h1, _⟩ => ⟨dx, _, h1, rfl⟩, fun H H' x wy ⟨dx, lv, h1, h2⟩ s => ⟨dx, lv, s _ _ h1, h2⟩⟩
  have Gw : FnOk l.prog w K mg base CX0 2 f5 _ ["value", "least", "most"] spWithin := ok_within F5 T (PySem.W.mg_of X G a4) F4 b4
  have G2 : FnOk l.prog w K mg base CX0 3 f7 _ ["places", "one", "other"] spTwo := ok_two F7 (PySem.W.mg_of X G a5) k5 b5 Gw
  have Gi : FnOk l.prog w K mg base (CXe l.prog w) 4 f19 _ ["self", "places", "lanes"] (spInit K ⟨cN, cT, cR, cL⟩) := ok_init F19 T L E (PySem.W.mg_of X G a5) k5 b5 Gw (PySem.W.mg_of X G a7) k7 b7 G2 (PySem.W.mg_of X G mp) (PySem.W.mg_of X G ml)
  have Go : FnOk l.prog w K mg base CX0 2 f6 _ ["value", "numbers"] (spOne K) := ok_one F6 T (PySem.W.mg_of X G a4) F4 b4
  have Gf : FnOk l.prog w K mg base CX0 4 f8 _ ["land", "row"] (spFits ⟨cN, cT, cR, cL⟩) := ok_fits F8 T L M (PySem.W.mg_of X G a7) k7 b7 G2 (PySem.W.mg_of X G a6) k6 b6 Go (ok_out F20 T L) (ok_into F21 T L)
  have Gm : FnOk l.prog w K mg base CX0 2 f2 _ ["some"] spMem := ok_mem F2 T (PySem.W.mg_of X G a1) F1 b1
  have G1 : FnOk l.prog w K mg base CX0 1 f25 _ ["self", "land"] (spTab K) := ok_tab F25
  have Gt : FnOk l.prog w K mg base (CXe l.prog w) 5 f27 _ ["self", "land", "rows"] (spTold l.prog w K ⟨cN, cT, cR, cL⟩ ⟨cB, cD, cE⟩) := ok_told F27 T B G1 (PySem.W.mg_of X G a8) k8 b8 Gf (PySem.W.mg_of X G a3) k3 b3 (ok_set F3)
  have Gd : FnOk l.prog w K mg base CX0 1 f9 _ ["_law_script", "_law_k"] (spDraw K) := ok_draw F9 T
  have Gld : FnOk l.prog w K mg base CX0 2 f10 _ ["_law_script"] (spLand K) := ok_land F10 T (PySem.W.mg_of X G a9) k9 b9 Gd
  have Gro : FnOk l.prog w K mg base CX0 1 f11 _ ["_law_places", "_law_lanes", "_law_draw_here", "_law_other"] spRow := ok_row F11 T
  have Gsp : FnOk l.prog w K mg base CX0 1 f12 _ ["_law_row_here", "_law_rows_here", "_law_places", "_law_lanes", "_law_draw_here"] spSpoil := ok_spoil F12 T
  have Grs : FnOk l.prog w K mg base CX0 2 f13 _ ["_law_script", "_law_places", "_law_lanes"] (spRows K) := ok_rows F13 T (PySem.W.mg_of X G a9) k9 b9 Gd (PySem.W.mg_of X G a11) k11 b11 Gro (PySem.W.mg_of X G a12) k12 b12 Gsp
  have Gfi : FnOk l.prog w K mg base CX0 2 f15 _ ["_law_rows_here", "_law_places", "_law_lanes"] spFirst := ok_first F15 T (PySem.W.mg_of X G a14) k14 b14 (ok_bad F14 T)
  have Gre : FnOk l.prog w K mg base CX0 7 f16 _ ["_law_land_here", "_law_rows_here"] (spRef K ⟨cN, cT, cR, cL⟩) := ok_ref F16 T B Y Mt (PySem.W.mg_of X G gcD) b27 Gt
  have Gr1 : FnOk l.prog w K mg base CX0 4 f17 _ ["_law_table", "_law_rows_here", "_law_places", "_law_lanes"] (spRight (ToldAt l.prog w ⟨cB, cD, cE⟩)) := ok_right F17 T W1 (told_ways (ok_toldW F28 B (PySem.W.mg_of X G a2) k2 b2 Gm))
  have Gr2 : FnOk l.prog w K mg base CX0 4 f17 _ ["_law_table", "_law_rows_here", "_law_places", "_law_lanes"] (spRight (TabAt ⟨cB, cD, cE⟩)) := ok_right F17 T W2 (tab_ways (ok_tabW F26))
  exact ok_law F18 T L B ⟨PySem.W.mg_of X G a10, k10, b10, Gld, PySem.W.mg_of X G a13, k13, b13, Grs, PySem.W.mg_of X G gcL, Mi, b19, Gi, PySem.W.mg_of X G a15, k15, b15, Gfi, PySem.W.mg_of X G a16, k16, b16, Gre, PySem.W.mg_of X G a17, k17, b17, Gr1, Gr2, PySem.W.mg_of X G gcD, Mt, b27, Gt, PySem.W.mg_of X G gcB, M1, b25, G1⟩
theorem walk {l : PySem.W.OpenLaw} {q : Program} {loose : List Str} {XP : (Str → Option Value) → Heap → Prop} {YP : World → Heap → Prop} {d : DefRec} {K : Params → PySem.W.Frag} (hn : l.most = some 63) (hdf : d.params.defaults = [])
    (hY : ∀ (w : World) (h : Heap), YP w h → (K w.params).In h)
    (F : ∀ (w : World) (mg : Str → Option Value) (fa : Addr) (h : Heap), (K w.params).In h → h.Ns mainGlobals mg → mg d.name = some (.ref fa) →
      ∃ fd : FuncData, (∀ (s : Shared) (u : Value), BindsTo s fd ⟨[u], []⟩ [("_law_script", u)]) ∧ ∀ base : Heap, (K w.params).In base → base.Ns mainGlobals mg → FnOk l.prog w (K w.params) mg base CX0 8 fa fd ["_law_script"] (spLaw (K w.params))) :
    PySem.W.WalkO q loose XP YP l.row.toRowW d [] (fun f vs => PySem.call f vs) :=
  L2.walk_of (n := 63) (k := 8) (x := "_law_script") (CX := fun _ => CX0) (sp := fun w => spLaw (K w.params)) hn (by decide) hdf ⟨rfl, by decide, by decide⟩ hY F (fun _ _ a ns hl _ hS => ⟨a, ns, rfl, hS, hl, fun _ => rfl⟩) fun _ _ _ _ _ z => z
end K11
theorem PySem.W.Fast.tw4717794012258780714 : True := trivial
theorem PySem.W.Fast.tw12308894205416641842 : True := trivial
open PySem PySem.W PyProof.Rows
set_option maxRecDepth 100000 in
set_option maxHeartbeats 0 in
theorem PySem.Challenge.cw_wormyard_k11_told_tables_holds : PySem.Challenge.rw_wormyard_k11_told_tables.Holds := by
  w_on; o_law; k_head; (case hw => w_witness2)
  k_fill
  refine K11.walk (l := PySem.Challenge.rw_wormyard_k11_told_tables) rfl rfl (fun w h Y => PySem.W.kIn_of Y) ?F
  case F =>
    intro w mg fa h KX G hmg
    refine' K11.all_mk KX G hmg ?gcL ?gcN ?gcT ?gcR ?gcE ?gcM ?gcY ?gcB ?gcD ?a1 ?l1 ?c1 ?k1 ?a2 ?l2 ?c2 ?k2 ?a3 ?l3 ?c3 ?k3 ?a4 ?l4 ?c4 ?k4 ?a5 ?l5 ?c5 ?k5 ?a6 ?l6 ?c6 ?k6 ?a7 ?l7 ?c7 ?k7 ?a8 ?l8 ?c8 ?k8 ?a9 ?l9 ?c9 ?k9 ?a10 ?l10 ?c10 ?k10 ?a11 ?l11 ?c11 ?k11 ?a12 ?l12 ?c12 ?k12 ?a13 ?l13 ?c13 ?k13 ?a14 ?l14 ?c14 ?k14 ?a15 ?l15 ?c15 ?k15 ?a16 ?l16 ?c16 ?k16 ?a17 ?l17 ?c17 ?k17 ?a18 ?l18 ?c18 ?k18 ?a19 ?l19 ?c19 ?k19 ?i19 ?a20 ?l20 ?c20 ?k20 ?i20 ?a21 ?l21 ?c21 ?k21 ?i21 ?a22 ?l22 ?c22 ?k22 ?i22 ?a23 ?l23 ?c23 ?k23 ?i23 ?a24 ?l24 ?c24 ?k24 ?i24 ?a25 ?l25 ?c25 ?k25 ?i25 ?a26 ?l26 ?c26 ?k26 ?i26 ?a27 ?l27 ?c27 ?k27 ?i27 ?a28 ?l28 ?c28 ?k28 ?i28 ?mp ?ml ?p1cL ?p2cL ?p3cL ?p4cL ?p5cL ?p6cL ?ncLplaces ?ncLlanes ?p1cB ?p2cB ?p3cB ?p4cB ?p5cB ?p6cB ?ncBland ?p1cD ?p2cD ?p3cD ?p4cD ?p5cD ?p6cD ?ncDland ?ncDentries ?x1cN ?x2cN ?x1cT ?x2cT ?x3cT ?x4cT ?x5cT ?x6cT ?x7cT ?x1cR ?x2cR ?x3cR ?x4cR ?x5cR ?x6cR ?x7cR ?x1cE ?x2cE ?x3cE ?x4cE ?x5cE ?x6cE ?x7cE ?n1 ?n2 ?n3 ?y1 ?y2 ?y3 ?y4 ?y5 ?y6 ?w1 ?w2 ?w3 ?z0 ?z1 ?z2 ?z3 ?z4 ?z5 ?z6 ?z7 ?z8 ?z9 ?z10 ?z11 ?z12
    (case gcL => k_is)
    (case gcN => k_is)
    (case gcT => k_is)
    (case gcR => k_is)
    (case gcE => k_is)
    (case gcM => k_is)
    (case gcY => k_is)
    (case gcB => k_is)
    (case gcD => k_is)
    (case a1 => k_is)
    (case l1 => k_is)
    (case c1 => k_is)
    (case k1 => k_is)
    (case a2 => k_is)
    (case l2 => k_is)
    (case c2 => k_is)
    (case k2 => k_is)
    (case a3 => k_is)
    (case l3 => k_is)
    (case c3 => k_is)
    (case k3 => k_is)
    (case a4 => k_is)
    (case l4 => k_is)
    (case c4 => k_is)
    (case k4 => k_is)
    (case a5 => k_is)
    (case l5 => k_is)
    (case c5 => k_is)
    (case k5 => k_is)
    (case a6 => k_is)
    (case l6 => k_is)
    (case c6 => k_is)
    (case k6 => k_is)
    (case a7 => k_is)
    (case l7 => k_is)
    (case c7 => k_is)
    (case k7 => k_is)
    (case a8 => k_is)
    (case l8 => k_is)
    (case c8 => k_is)
    (case k8 => k_is)
    (case a9 => k_is)
    (case l9 => k_is)
    (case c9 => k_is)
    (case k9 => k_is)
    (case a10 => k_is)
    (case l10 => k_is)
    (case c10 => k_is)
    (case k10 => k_is)
    (case a11 => k_is)
    (case l11 => k_is)
    (case c11 => k_is)
    (case k11 => k_is)
    (case a12 => k_is)
    (case l12 => k_is)
    (case c12 => k_is)
    (case k12 => k_is)
    (case a13 => k_is)
    (case l13 => k_is)
    (case c13 => k_is)
    (case k13 => k_is)
    (case a14 => k_is)
    (case l14 => k_is)
    (case c14 => k_is)
    (case k14 => k_is)
    (case a15 => k_is)
    (case l15 => k_is)
    (case c15 => k_is)
    (case k15 => k_is)
    (case a16 => k_is)
    (case l16 => k_is)
    (case c16 => k_is)
    (case k16 => k_is)
    (case a17 => k_is)
    (case l17 => k_is)
    (case c17 => k_is)
    (case k17 => k_is)
    (case a18 => k_is)
    (case l18 => k_is)
    (case c18 => k_is)
    (case k18 => k_is)
    (case a19 => k_is)
    (case l19 => k_is)
    (case c19 => k_is)
    (case k19 => k_is)
    (case i19 => k_is)
    (case a20 => k_is)
    (case l20 => k_is)
    (case c20 => k_is)
    (case k20 => k_is)
    (case i20 => k_is)
    (case a21 => k_is)
    (case l21 => k_is)
    (case c21 => k_is)
    (case k21 => k_is)
    (case i21 => k_is)
    (case a22 => k_is)
    (case l22 => k_is)
    (case c22 => k_is)
    (case k22 => k_is)
    (case i22 => k_is)
    (case a23 => k_is)
    (case l23 => k_is)
    (case c23 => k_is)
    (case k23 => k_is)
    (case i23 => k_is)
    (case a24 => k_is)
    (case l24 => k_is)
    (case c24 => k_is)
    (case k24 => k_is)
    (case i24 => k_is)
    (case a25 => k_is)
    (case l25 => k_is)
    (case c25 => k_is)
    (case k25 => k_is)
    (case i25 => k_is)
    (case a26 => k_is)
    (case l26 => k_is)
    (case c26 => k_is)
    (case k26 => k_is)
    (case i26 => k_is)
    (case a27 => k_is)
    (case l27 => k_is)
    (case c27 => k_is)
    (case k27 => k_is)
    (case i27 => k_is)
    (case a28 => k_is)
    (case l28 => k_is)
    (case c28 => k_is)
    (case k28 => k_is)
    (case i28 => k_is)
    (case mp => k_is)
    (case ml => k_is)
    (case p1cL => k_is)
    (case p2cL => k_is)
    (case p3cL => k_is)
    (case p4cL => k_is)
    (case p5cL => k_is)
    (case p6cL => k_is)
    (case ncLplaces => k_is)
    (case ncLlanes => k_is)
    (case p1cB => k_is)
    (case p2cB => k_is)
    (case p3cB => k_is)
    (case p4cB => k_is)
    (case p5cB => k_is)
    (case p6cB => k_is)
    (case ncBland => k_is)
    (case p1cD => k_is)
    (case p2cD => k_is)
    (case p3cD => k_is)
    (case p4cD => k_is)
    (case p5cD => k_is)
    (case p6cD => k_is)
    (case ncDland => k_is)
    (case ncDentries => k_is)
    (case x1cN => kernel_rfl)
    (case x2cN => k_is)
    (case x1cT => kernel_rfl)
    (case x2cT => k_is)
    (case x3cT => kernel_rfl)
    (case x4cT => k_is)
    (case x5cT => k_is)
    (case x6cT => k_is)
    (case x7cT => k_is)
    (case x1cR => kernel_rfl)
    (case x2cR => k_is)
    (case x3cR => kernel_rfl)
    (case x4cR => k_is)
    (case x5cR => k_is)
    (case x6cR => k_is)
    (case x7cR => k_is)
    (case x1cE => kernel_rfl)
    (case x2cE => k_is)
    (case x3cE => kernel_rfl)
    (case x4cE => k_is)
    (case x5cE => k_is)
    (case x6cE => k_is)
    (case x7cE => k_is)
    (case n1 => k_is)
    (case n2 => k_is)
    (case n3 => k_is)
    (case y1 => k_is)
    (case y2 => k_is)
    (case y3 => k_is)
    (case y4 => kts_exm)
    (case y5 => kit_is)
    (case y6 => kit_is)
    (case w1 => first | k_is | kernel_rfl)
    (case w2 => first | k_is | kernel_rfl)
    (case w3 => first | k_is | kernel_rfl)
    (case z0 => k_is)
    (case z1 => k_is)
    (case z2 => k_is)
    (case z3 => k_is)
    (case z4 => k_is)
    (case z5 => k_is)
    (case z6 => k_is)
    (case z7 => k_is)
    (case z8 => k_is)
    (case z9 => k_is)
    (case z10 => k_is)
    (case z11 => k_is)
    (case z12 => k_is)
