import PyProof.Rows.All
import Wide.All
import OpenK.AllK
import Wide.FinOn
import Lean
import PyProof.EqAt
import PyProof.EqKinds
import PyProof.TupleCall
import PyProof.ExcBaseAll.ValueError
import PyProof.EnumMake
import PyProof.Rows.EnumRows
import PyProof.TupleIter
import PyProof.DictValues
import PyProof.CollectStr
import PySem.Builtin.Int.W1All
import PyProof.DictRoadsH
import PyProof.DictKinds
import PyProof.FactsAll.NoneType
import KE.KRevIter
import PyProof.FactsAll.list_3
import KE.KDictList
import PyProof.DictIter
import PyProof.DictWalks
import PyProof.ListRange
import PyProof.DictItems
import KE.KPairComp
import PyProof.FactsAll.dict_3
import PyProof.CollectIter
import PyProof.TupleOfGen
import PyProof.TupleOfSeq
import PyProof.FactsAll.subtypes_4
import PyProof.ZipIter
import KE.KDictLaws
import PySem.Challenge.RW_wormyard_k33_whole_never_both
set_option Elab.async false
set_option linter.all false
set_option maxRecDepth 100000
set_option maxHeartbeats 4000000
namespace L2
open PySem PySem.Spec PyProof.Rows
abbrev Key:=Sum Int Str
def keyIs:Key->Value->Bool
 | .inl k,v=>Value.isInt k v
 | .inr x,v=>Value.isStrOf x v
def keyH (w:World):Key->Int
 | .inl k=>hashInt k
 | .inr x=>hashStr w x
theorem keyIs_shape:∀ {k:Key} {v:Value},keyIs k v=true->(∃ i t,k=Sum.inl i/\v=Value.int i t)∨(∃ x t,k=Sum.inr x/\v=Value.str x t)
 | .inl i,v,h=>by
  obtain ⟨t,e⟩:=Value.isInt_shape (k:=i) (v:=v) h
  exact .inl ⟨i,t,rfl,e⟩
 | .inr x,v,h=>by
  obtain ⟨t,e⟩:=Value.isStrOf_shape (x:=x) (v:=v) h
  exact .inr ⟨x,t,rfl,e⟩
theorem keyIs_int (i:Int) (t:Tok):keyIs (.inl i) (.int i t)=true:=by simp [keyIs,Value.isInt]
theorem keyIs_str (x:Str) (t:Tok):keyIs (.inr x) (.str x t)=true:=by simp [keyIs,Value.isStrOf]
theorem key_ll (a b:Int):decide ((Sum.inl a:Key)=Sum.inl b)=(a == b):=by
 by_cases e:a=b
 ·subst e; simp
 ·have h:¬ (Sum.inl a:Key)=Sum.inl b:=fun q=>e (Sum.inl.inj q)
  rw [decide_eq_false h]
  exact (beq_eq_false_iff_ne.mpr e).symm
theorem key_rr (a b:Str):decide ((Sum.inr a:Key)=Sum.inr b)=decide (a=b):=by
 by_cases e:a=b
 ·subst e; simp
 ·have h:¬ (Sum.inr a:Key)=Sum.inr b:=fun q=>e (Sum.inr.inj q)
  rw [decide_eq_false h,decide_eq_false e]
theorem key_lr (a:Int) (b:Str):decide ((Sum.inl a:Key)=Sum.inr b)=false:=decide_eq_false (fun q=>nomatch q)
theorem key_rl (a:Str) (b:Int):decide ((Sum.inr a:Key)=Sum.inl b)=false:=decide_eq_false (fun q=>nomatch q)
def mixKind (prog:Program) (w:World):PySem.KeyKind prog w Key where
 is:=keyIs
 hash:=keyH w
 inj:=fun v a b ha hb=>by
  rcases keyIs_shape ha with ⟨i,t,rfl,rfl⟩ | ⟨x,t,rfl,rfl⟩
  ·rcases keyIs_shape hb with ⟨j,u,rfl,e⟩ | ⟨y,u,rfl,e⟩
   ·injection e with e1 _; rw [e1]
   ·exact nomatch e
  ·rcases keyIs_shape hb with ⟨j,u,rfl,e⟩ | ⟨y,u,rfl,e⟩
   ·exact nomatch e
   ·injection e with e1 _; rw [e1]
 byValue:=fun k v h=>by
  rcases keyIs_shape h with ⟨i,t,rfl,rfl⟩ | ⟨x,t,rfl,rfl⟩ <;> rfl
 pyHash:=fun hv h=>by
  rcases keyIs_shape hv with ⟨i,t,rfl,rfl⟩ | ⟨x,t,rfl,rfl⟩
  ·exact wpAny_pyHash_int h
  ·exact wpAny_pyHash_str h
 eqBool:=fun hu hv h=>by
  rcases keyIs_shape hu with ⟨i,t,rfl,rfl⟩ | ⟨x,t,rfl,rfl⟩
  ·rcases keyIs_shape hv with ⟨j,u,rfl,rfl⟩ | ⟨y,u,rfl,rfl⟩
   ·rw [key_ll] at h; exact wpAny_eqBool_int h
   ·rw [key_lr] at h; exact SeqAt.EqAt.int_str i t y u _ _ _ _ h
  ·rcases keyIs_shape hv with ⟨j,u,rfl,rfl⟩ | ⟨y,u,rfl,rfl⟩
   ·rw [key_rl] at h; exact SeqAt.EqAt.str_int x t j u _ _ _ _ h
   ·rw [key_rr] at h; exact wpAny_eqBool_str h
 «strs»:=fun k x t v h=>by
  rcases keyIs_shape h with ⟨i,u,rfl,e⟩ | ⟨y,u,rfl,e⟩
  ·exact nomatch e
  ·injection e with e1 _
   subst e1
   cases v <;> rfl
theorem mixKind_int (prog:Program) (w:World) (i:Int) (t:Tok):(mixKind prog w).is (.inl i) (.int i t)=true:=keyIs_int i t
theorem mixKind_str (prog:Program) (w:World) (x:Str) (t:Tok):(mixKind prog w).is (.inr x) (.str x t)=true:=keyIs_str x t
end L2
namespace L2
open PySem PySem.Spec PyProof.Rows
inductive V where
 | non | bl (b:Bool) | int (i:Int) | str (x:Str) | byt (b:Array UInt8) | flt (b:UInt64) | ref (a:Addr) | ty (n:String)
 deriving DecidableEq
def RelV:V->Value->Prop
 | .non,u=>u=Value.none
 | .bl b,u=>u=Value.bool b
 | .int i,u=>∃ t,u=Value.int i t
 | .str x,u=>∃ t,u=Value.str x t
 | .byt b,u=>∃ t,u=Value.bytes b t
 | .flt b,u=>∃ t,u=Value.float b t
 | .ref a,u=>u=Value.ref a
 | .ty n,u=>u=Value.type n
abbrev Vals:List V->List Value->Prop:=Paired RelV
theorem Vals.length {xs:List V} {us:List Value} (r:Vals xs us):xs.length=us.length:=Paired.length r
theorem Vals.get:∀ {xs:List V} {us:List Value} {i:Nat} {x:V},Vals xs us->xs[i]? = some x->∃ u,us[i]? = some u/\RelV x u
 | _,_,_,_, .nil,e=>by simp at e
 | _,_,0,_, .cons r _,e=>by simp at e; subst e; exact ⟨_,rfl,r⟩
 | _,_,i + 1,x, .cons _ t,e=>by
  obtain ⟨u,h1,h2⟩:=Vals.get (i:=i) (x:=x) t (by simpa using e)
  exact ⟨u,by simpa using h1,h2⟩
theorem Vals.set {x:V} {u:Value} (r:RelV x u):∀ {xs:List V} {us:List Value} (i:Nat),Vals xs us->Vals (xs.set i x) (us.set i u)
 | _,_,_, .nil => .nil
 | _,_,0, .cons _ t => .cons r t
 | _,_,i + 1, .cons q t => .cons q (Vals.set r i t)
theorem Vals.append:∀ {xs ys:List V} {us ws:List Value},Vals xs us->Vals ys ws->Vals (xs ++ ys) (us ++ ws)
 | _,_,_,_, .nil,s=>s
 | _,_,_,_, .cons r t,s => .cons r (Vals.append t s)
theorem Vals.take:∀ {xs:List V} {us:List Value} (n:Nat),Vals xs us->Vals (xs.take n) (us.take n)
 | _,_,0,_ => .nil
 | _,_,_ + 1, .nil => .nil
 | _,_,n + 1, .cons r t => .cons r (Vals.take n t)
theorem Vals.drop:∀ {xs:List V} {us:List Value} (n:Nat),Vals xs us->Vals (xs.drop n) (us.drop n)
 | _,_,0,r=>r
 | _,_,_ + 1, .nil => .nil
 | _,_,n + 1, .cons _ t=>Vals.drop n t
theorem Vals.none_of:∀ {xs:List V} {us:List Value} {i:Nat},Vals xs us->xs[i]? = none->us[i]? = none:=fun {xs us i} r e=>by
 have h1:=r.length
 have h2:xs.length <= i:=List.getElem?_eq_none_iff.mp e
 exact List.getElem?_eq_none_iff.mpr (by omega)
def RelO:Option V->Option Value->Prop
 | some v,some u=>RelV v u
 | none,none=>True
 | _,_=>False
def KV {κ:Type}:List (κ × V)->List (κ × Value)->Prop:=Paired fun (p:κ × V) (q:κ × Value)=>p.1=q.1/\RelV p.2 q.2
def kV:Key->V
 | .inl i => .int i
 | .inr x => .str x
inductive HO where
  | lst (xs:List V)
  | tup (xs:List V)
  | dK (kvs:List (Key × V)) | dT (kvs:List (List Key × V))
  | set (S:Int->Bool) (n:Nat)
  | ins (C dx:Addr) (fs:List (Str × V))
  | own (x:Addr)
  | xd (fs:List (Str × V))
  | met (f x:Addr)
  | rng (lo hi:Int)
  | frz (o:Obj) (u:HO)
  | tbl (ps:Array Value)
  | ext (φ:Heap->Prop)
abbrev Hp:=Addr->Option HO
def upd (H:Hp) (a:Addr) (o:HO):Hp:=fun b=>if b=a then some o else H b
theorem upd_same {H:Hp} {a:Addr} {o:HO}:upd H a o a=some o:=by unfold upd; rw [if_pos rfl]
theorem upd_ne {H:Hp} {a b:Addr} {o:HO} (h:b ≠ a):upd H a o b=H b:=by unfold upd; rw [if_neg h]
theorem upd_upd {H:Hp} {a:Addr} {o u:HO}:upd (upd H a o) a u=upd H a u:=by
 funext b; unfold upd; split <;> rfl
theorem ne_of {H:Hp} {a b:Addr} {o u:HO} (h:H a=some o) (h':H b=some u) (d:o ≠ u):a ≠ b:=by
 intro e; subst e; rw [h] at h'; exact d (Option.some.inj h')
theorem ne_of_none {H:Hp} {a b:Addr} {o:HO} (h:H a=some o) (h':H b=none):a ≠ b:=by
 intro e; subst e; rw [h] at h'; cases h'
def IsTupN (h:Heap) (a:Addr) (items:Array Value):Prop:=∃ o,h.get? a=some o/\(o.cls = .type "tuple"/\∃ n,o.data = .seq items n)/\o.dict=none
theorem IsTupN.isTup {h:Heap} {a:Addr} {items:Array Value}:IsTupN h a items->IsTup h a items:=fun ⟨o,e,c,_⟩=>⟨o,e,c⟩
theorem IsTupN.new (h:Heap) (items:Array Value):IsTupN (h.push { cls := .type "tuple",data := .seq items }) h.objs.size items:=⟨_,Heap.get?_push_size _ rfl,⟨rfl,_,rfl⟩,rfl⟩
section
variable (P:Program) (w:World)
def ObjOk (H:Hp) (h:Heap) (a:Addr):HO->Prop
 | .lst xs=>xs.length <= sizeLine/\∃ (its:List Value) (n:Nat),Vals xs its/\h.get? a=some { cls := .type "list",data := .seq its.toArray n }
 | .tup xs=>xs.length <= sizeLine/\∃ its:List Value,Vals xs its/\IsTupN h a its.toArray
 | .dK kvs=>kvs.length <= sizeLine/\(a == sysModules)=false/\∃ vs,KV kvs vs/\h.DictOf (mixKind P w) a vs
 | .dT kvs=>kvs.length <= sizeLine/\(a == sysModules)=false/\∃ xs:List (List Key × Addr × Value),
   Paired (fun (p:List Key × V) (q:List Key × Addr × Value)=>p.1=q.1/\H q.2.1=some (.tup (p.1.map kV))/\RelV p.2 q.2.2) kvs xs /\
   ∃ o es ep,h.get? a=some o/\o.ExactDict/\o.data = .dict es ep/\es.toList=xs.map (entryOfKey (tupleKind (mixKind P w)))/\(xs.map (·.1)).Nodup
 | .set S n=>h.SetOf (intKind P w) a S n
 | .ins C dx fs=>H dx=some (.own a)/\fs.length <= 1000/\dx ≠ a/\h.get? a=some (PySem.W.instObj C dx) /\
   ∃ mA,h.Ns1 dx mA/\(∀ f,RelO (fs.lookup f) (mA f))/\PySem.Within mA (fs.map (·.1))
 | .own _=>∃ o,h.get? a=some o
 | .xd fs=>∃ mA,h.Ns1 a mA/\∀ f,RelO (fs.lookup f) (mA f)
 | .rng lo hi=>∃ t u v,h.get? a=some { cls := .type "range",data := .fields #[.int lo t, .int hi u, .int 1 v] }
 | .frz o u=>h.get? a=some o/\ObjOk H h a u
 | .tbl ps=>h.get? a=some { cls := .none,data := .fields ps }
 | .met f x=>h.get? a=some (PySem.W.methodObj (.ref f) (.ref x))
 | .ext φ=>φ h/\(∃ o,h.get? a=some o)/\∀ h1 h2:Heap,φ h1->(∀ o,h1.get? a=some o->h2.get? a=some o)->φ h2
def HOk (H:Hp) (h:Heap):Prop:=∀ a o,H a=some o->ObjOk P w H h a o
end
section
variable {P:Program} {w:World} {H H':Hp} {h h':Heap} {a:Addr} {o:HO}
theorem ObjOk.lt (x:ObjOk P w H h a o):a < h.objs.size:=by
 cases o with
 | lst xs=>obtain ⟨_,_,_,_,e⟩:=x; exact Heap.lt_size e
 | tup xs=>obtain ⟨_,_,_,p⟩:=x; exact p.isTup.lt
 | dK kvs=>obtain ⟨_,_,_,_,o,_,_,e,_⟩:=x; exact Heap.lt_size e
 | dT kvs=>obtain ⟨_,_,_,_,o,_,_,e,_⟩:=x; exact Heap.lt_size e
 | set S n=>obtain ⟨o,_,_,_,e,_⟩:=x; exact Heap.lt_size e
 | ins C dx fs=>obtain ⟨_,_,_,e,_⟩:=x; exact Heap.lt_size e
 | own y=>obtain ⟨_,e⟩:=x; exact Heap.lt_size e
 | xd fs=>obtain ⟨_,⟨_,_,_,e,_⟩,_⟩:=x; exact Heap.lt_size e
 | rng lo hi=>obtain ⟨_,_,_,e⟩:=x; exact Heap.lt_size e
 | frz ob u=>obtain ⟨e,_⟩:=x; exact Heap.lt_size e
 | tbl ps=>exact Heap.lt_size (show h.get? a=some _ from x)
 | met f y=>exact Heap.lt_size (show h.get? a=some _ from x)
 | ext φ=>obtain ⟨_,⟨_,e⟩,_⟩:=x; exact Heap.lt_size e
theorem Paired.mapP {α β:Type} {F G:α->β->Prop}:∀ {l₁:List α} {l₂:List β},Paired F l₁ l₂->(∀ a b,F a b->G a b)->Paired G l₁ l₂
 | _,_, .nil,_ => .nil
 | _,_, .cons r t,f => .cons (f _ _ r) (Paired.mapP t f)
theorem ObjOk.stay (x:ObjOk P w H h a o) (k:∀ b u,(b=a∨H b=some (.own a))->h.get? b=some u->h'.get? b=some u)
  (ho:∀ b,H b=some (.own a)->H' b=some (.own a)) (ht:∀ b xs,H b=some (.tup xs)->H' b=some (.tup xs)):ObjOk P w H' h' a o:=by
 induction o with
 | lst xs=>obtain ⟨z,its,n,r,e⟩:=x; exact ⟨z,its,n,r,k _ _ (.inl rfl) e⟩
 | tup xs=>obtain ⟨z,its,r,ob,e,c⟩:=x; exact ⟨z,its,r,ob,k _ _ (.inl rfl) e,c⟩
 | dK kvs=>obtain ⟨z,y,vs,r,ob,es,ep,e,c⟩:=x; exact ⟨z,y,vs,r,ob,es,ep,k _ _ (.inl rfl) e,c⟩
 | dT kvs =>
  obtain ⟨z,y,xs,r,ob,es,ep,e,c⟩:=x
  exact ⟨z,y,xs,Paired.mapP r fun p q z=>⟨z.1,ht _ _ z.2.1,z.2.2⟩,ob,es,ep,k _ _ (.inl rfl) e,c⟩
 | set S n=>obtain ⟨ob,es,ep,t,e,c⟩:=x; exact ⟨ob,es,ep,t,k _ _ (.inl rfl) e,c⟩
 | ins C dx fs =>
  obtain ⟨d,z,ne,e,mA,⟨od,es,ep,e2,c⟩,r⟩:=x
  exact ⟨ho _ d,z,ne,k _ _ (.inl rfl) e,mA,⟨od,es,ep,k _ _ (.inr d) e2,c⟩,r⟩
 | own y=>obtain ⟨ob,e⟩:=x; exact ⟨ob,k _ _ (.inl rfl) e⟩
 | xd fs=>obtain ⟨mA,⟨od,es,ep,e,c⟩,r⟩:=x; exact ⟨mA,⟨od,es,ep,k _ _ (.inl rfl) e,c⟩,r⟩
 | rng lo hi=>obtain ⟨t,u,v,e⟩:=x; exact ⟨t,u,v,k _ _ (.inl rfl) e⟩
 | frz ob u ih=>obtain ⟨e,q⟩:=x; exact ⟨k _ _ (.inl rfl) e,ih q⟩
 | tbl ps =>
  have e:h.get? a=some { cls := .none,data := .fields ps }:=x
  show h'.get? a=some { cls := .none,data := .fields ps }
  exact k a _ (.inl rfl) e
 | met f y =>
  have e:h.get? a=some (PySem.W.methodObj (.ref f) (.ref y)):=x
  show h'.get? a=some (PySem.W.methodObj (.ref f) (.ref y))
  exact k a _ (.inl rfl) e
 | ext φ=>obtain ⟨p,⟨o,e⟩,st⟩:=x; exact ⟨st _ _ p fun o q=>k _ _ (.inl rfl) q,⟨o,k _ _ (.inl rfl) e⟩,st⟩
theorem HOk.lt (x:HOk P w H h) (e:H a=some o):a < h.objs.size:=(x a o e).lt
theorem HOk.fresh (x:HOk P w H h) (e:h.objs.size <= a):H a=none:=by
 cases q:H a with
 | none=>rfl
 | some u=>exact absurd (Nat.lt_of_lt_of_le (x.lt q) e) (Nat.lt_irrefl _)
theorem HOk.kept (x:HOk P w H h) (k:∀ b u,h.get? b=some u->h'.get? b=some u):HOk P w H h':=fun a o e =>
 (x a o e).stay (fun b u _ q=>k b u q) (fun _ q=>q) fun _ _ q=>q
theorem HOk.laid (x:HOk P w H h) (k:∀ b u,h.get? b=some u->h'.get? b=some u) (hp:h.objs.size <= a) (new:ObjOk P w (upd H a o) h' a o):HOk P w (upd H a o) h':=fun b u e=>by
 have hn:=x.fresh hp
 by_cases hb:b=a
 ·subst hb; rw [upd_same] at e; cases e; exact new
 ·rw [upd_ne hb] at e
  exact (x b u e).stay (fun c v _ q=>k c v q) (fun c q=>by rw [upd_ne (ne_of_none q hn)]; exact q) fun c xs q=>by rw [upd_ne (ne_of_none q hn)]; exact q
end
def Rd (H:Hp) (a:Addr) (u:HO):Prop:=H a=some u∨∃ o,H a=some (.frz o u)
theorem Rd.ok {P:Program} {w:World} {H:Hp} {h:Heap} {a:Addr} {u:HO} (r:Rd H a u) (x:HOk P w H h):ObjOk P w H h a u:=by
 rcases r with r | ⟨o,r⟩
 ·exact x a u r
 ·obtain ⟨_,q⟩:=x a _ r
  exact q
def Mut:Option HO->Prop
 | some (.lst _)=>True
 | some (.dK _)=>True
 | some (.dT _)=>True
 | some (.set _ _)=>True
 | some (.ins _ _ _)=>True
 | some (.ext _)=>True
 | _=>False
section
variable {P:Program} {w:World} {H:Hp} {h h':Heap} {x e:Addr} {o':HO}
theorem HOk.write (ok:HOk P w H h) (mu:Mut (H x)) (he:e=x∨H e=some (.own x)) (k:∀ b u,b ≠ e->h.get? b=some u->h'.get? b=some u) (heo:∃ u,h'.get? e=some u)
  (new:ObjOk P w (upd H x o') h' x o'):HOk P w (upd H x o') h':=fun b u q=>by
 have nown:∀ c y,H c=some (.own y)->c ≠ x:=fun c y r z=>by subst z; rw [r] at mu; exact mu
 have ntup:∀ c xs,H c=some (.tup xs)->c ≠ x:=fun c xs r z=>by subst z; rw [r] at mu; exact mu
 by_cases hb:b=x
 ·subst hb; rw [upd_same] at q; cases q; exact new
 ·rw [upd_ne hb] at q
  by_cases hbe:b=e
  ·have q':H b=some (.own x):=by
    rcases he with z | z
    ·exact absurd (hbe.trans z) hb
    ·rw [hbe]; exact z
   rw [q] at q'; cases q'
   obtain ⟨v,hv⟩:=heo
   exact ⟨v,by rw [hbe]; exact hv⟩
  ·refine (ok b u q).stay (fun c v hc r=>k c v ?_ r) (fun c r=>by rw [upd_ne (nown c b r)]; exact r) fun c xs r=>by rw [upd_ne (ntup c xs r)]; exact r
   rcases hc with rfl | hc
   ·exact hbe
   ·rintro rfl
    rcases he with z | z
    ·exact nown c b hc z
    ·rw [hc] at z; cases z; exact hb rfl
end
structure Un (fs ex:List Addr) (H H':Hp) (h h':Heap):Prop where
 keep:∀ b o,h.get? b=some o->H b=none->b ∉ fs->b ∉ ex->h'.get? b=some o
 slot:∀ b o,h.get? b=some o->H b=none->b ∈ fs->b ∉ ex->∃ sl,h'.get? b=some { o with slots:=sl }
 free:∀ b o,h.get? b=some o->H b=none->b ∉ ex->H' b=none
 there:∀ b o,h.get? b=some o->b ∉ ex->∃ o',h'.get? b=some o'
 tups:∀ b xs,H b=some (.tup xs)->H' b=some (.tup xs)
 frzs:∀ b o u,H b=some (.frz o u)->H' b=some (.frz o u)
 tbls:∀ b ps,H b=some (.tbl ps)->∃ more,H' b=some (.tbl (ps ++ more))
section
variable {fs fs' ex ex':List Addr} {H H1 H2:Hp} {h h1 h2 h':Heap} {a x e:Addr} {o:HO}
theorem Un.any (u:Un fs ex H H1 h h1) {b:Addr} {ob:Obj} (q:h.get? b=some ob) (n:H b=none) (hx:b ∉ ex):∃ sl,h1.get? b=some { ob with slots:=sl }:=by
 by_cases hb:b ∈ fs
 ·exact u.slot b ob q n hb hx
 ·exact ⟨ob.slots,u.keep b ob q n hb hx⟩
theorem Un.kept (k:∀ b u,h.get? b=some u->h'.get? b=some u):Un fs ex H H h h' :=
 ⟨fun b ob q _ _ _=>k b ob q,fun b ob q _ _ _=>⟨ob.slots,k b ob q⟩,fun _ _ _ n _=>n,fun b ob q _=>⟨ob,k b ob q⟩,fun _ _ q=>q,fun _ _ _ q=>q,fun _ ps q=>⟨#[],by rw [q]; simp⟩⟩
theorem Un.refl:Un fs ex H H h h:=Un.kept fun _ _ q=>q
theorem Un.laid (k:∀ b u,h.get? b=some u->h'.get? b=some u) (hp:h.objs.size <= a) (hn:H a=none):Un fs ex H (upd H a o) h h' where
 keep:=fun b u q _ _ _=>k b u q
 slot:=fun b u q _ _ _=>⟨u.slots,k b u q⟩
 free:=fun b u q n _=>by rw [upd_ne (Nat.ne_of_lt (Nat.lt_of_lt_of_le (Heap.lt_size q) hp))]; exact n
 there:=fun b u q _=>⟨u,k b u q⟩
 tups:=fun b xs q=>by rw [upd_ne (ne_of_none q hn)]; exact q
 frzs:=fun b u xs q=>by rw [upd_ne (ne_of_none q hn)]; exact q
 tbls:=fun b ps q=>⟨#[],by rw [upd_ne (ne_of_none q hn),q]; simp⟩
theorem Un.write (mu:Mut (H x)) (he:e=x∨H e=some (.own x)) (k:∀ b u,b ≠ e->h.get? b=some u->h'.get? b=some u) (heo:∃ u,h'.get? e=some u):Un fs ex H (upd H x o) h h':=by
 have hx:∀ b,H b=none->b ≠ x:=fun b n z=>by subst z; rw [n] at mu; exact mu
 have hb:∀ b,H b=none->b ≠ e:=fun b n z=>by
  subst z
  rcases he with r | r
  ·exact hx b n r
  ·rw [n] at r; cases r
 have hm:∀ b u,H b=some u->¬ Mut (some u)->b ≠ x:=fun b u q nm z=>by subst z; rw [q] at mu; exact nm mu
 refine ⟨fun b u q n _ _=>k b u (hb b n) q,fun b u q n _ _=>⟨u.slots,k b u (hb b n) q⟩,fun b u q n _=>by rw [upd_ne (hx b n)]; exact n,fun b u q _=>?_,
  fun b xs q=>by rw [upd_ne (hm b _ q fun z=>z)]; exact q,fun b u xs q=>by rw [upd_ne (hm b _ q fun z=>z)]; exact q,fun b ps q=>⟨#[],by rw [upd_ne (hm b _ q fun z=>z),q]; simp⟩⟩
 by_cases hbe:b=e
 ·subst hbe; exact heo
 ·exact ⟨u,k b u hbe q⟩
end
def trk (h:Heap) (H:Hp):List Addr:=(List.range h.objs.size).filter fun a=>(H a).isSome
def hidT (h:Heap) (H:Hp):Heap:=PySem.W.hideAll h (trk h H)
theorem hidT_size (h:Heap) (H:Hp):(hidT h H).objs.size=h.objs.size:=PySem.W.hideAll_size _ _
theorem hidT_get {h:Heap} {H:Hp} {b:Addr} {o:Obj} (e:h.get? b=some o) (n:H b=none):(hidT h H).get? b=some o :=
 PySem.W.hideAll_get _ e fun hm=>by
  have q:(H b).isSome=true:=(List.mem_filter.mp hm).2
  rw [n] at q; simp at q
theorem of_hidT {h:Heap} {H:Hp} {b:Addr} {o:Obj} (e:(hidT h H).get? b=some o):h.get? b=some o/\H b=none:=by
 have e':h.get? b=some o:=PySem.W.of_hideAll (trk h H) e
 refine ⟨e',?_⟩
 cases q:H b with
 | none=>rfl
 | some x =>
  have hm:b ∈ trk h H:=List.mem_filter.mpr ⟨List.mem_range.mpr (Heap.lt_size e'),by simp [q]⟩
  have z:(hidT h H).get? b=none:=PySem.W.hideAll_none (trk h H) hm
  rw [z] at e; cases e
def allNews (g h:Heap) (L:Addr):List (Addr × Obj):=(List.range h.objs.size).filterMap fun a=>if a=L∨(g.get? a).isSome=true then none else (h.get? a).map fun o=>(a,o)
def rest (g h:Heap) (L d:Addr):List (Addr × Obj):=(allNews g h L).filter fun p=>decide (p.1 ≠ d)
end L2
namespace L2
open PySem PySem.Spec PyProof.Rows
structure Mod (K:PySem.W.Frag) (mg:Str->Option Value) (base:Heap):Prop where
 kin:K.In base
 glob:base.Ns mainGlobals mg
 blt:∃ mb,base.Ns builtinsNs mb/\∀ x:Str,x ≠ "__name__"->mb x=bootBuiltins x
 nolimit:base.NoLimit
structure Cx where
 prog:Program
 w:World
 K:PySem.W.Frag
 mg:Str->Option Value
 base:Heap
 A:Around
 N:List Str
 s₀:Shared
 H₀:Hp
 env:Env
 outer:List Env
 stack:List Env
 ex:List Addr
 fn:Str->Bool
 calm:Bool
 pn:List (Addr × Obj)
 xe:Value->Shared->Prop
def frs (l:List Env):List Addr:=l.filterMap (·.frame)
abbrev Cx.fs (X:Cx):List Addr:=frs X.outer
def Vis (sc:Scope) (x:Str):Prop:=sc.names.lookup x=some .local∨sc.names.lookup x=some .cell∨sc.names.lookup x=some .free
def Loc (sc:Scope) (x:Str):Prop:=sc.names.lookup x=some .local∨sc.names.lookup x=some .cell
def Look (env:Env) (h:Heap) (m:Str->Option Value) (x:Str) (u:Value):Prop :=
 (env.kindOf x=some .local/\m x=some u)∨((env.kindOf x=some .cell∨env.kindOf x=some .free)/\∃ c,env.cells.lookup x=some c/\h.IsCell c (some u))
structure Cx.Ok (X:Cx):Prop where
 mod:Mod X.K X.mg X.base
 kind:X.env.scope.kind = .function
 glob:X.env.globals=mainGlobals
 blt:X.env.builtins=builtinsNs
 above:X.s₀.heap.objs.size <= X.env.locals
 inj:∀ x y c,X.env.cells.lookup x=some c->X.env.cells.lookup y=some c->x=y
 has:∀ x,(X.env.kindOf x=some .cell∨X.env.kindOf x=some .free)->∃ c,X.env.cells.lookup x=some c
 cab:∀ x c,X.fn x=true->X.env.cells.lookup x=some c->X.s₀.heap.objs.size <= c
 hd:X.calm=true->X.A.handled=none
 frames:X.A.frames=some X.stack
 stk:X.stack=X.outer∨(X.stack=X.env :: X.outer/\X.env.frame=some X.env.locals)
 exf:∀ b ∈ X.ex,b ≠ X.env.locals/\∀ x c,X.env.cells.lookup x=some c->c ≠ b
 bs:∀ b o,X.base.get? b=some o->X.s₀.heap.get? b=some o/\X.H₀ b=none
 bsz:X.base.objs.size <= X.s₀.heap.objs.size
 noex:∀ b o,X.base.get? b=some o->b ∉ X.ex
 exfs:∀ b ∈ X.ex,b ∉ X.fs
 funs:X.s₀.heap.FunFrames X.base X.outer
 frf:∀ b ∈ X.fs,X.H₀ b=none
structure Inv (X:Cx) (pins:List (Addr × Obj)) (σ:List (Option V)) (H:Hp) (s:Shared):Prop where
 ok:X.Ok
 os:s.os=X.s₀.os
 bare:AllBare s.gens
 base:Un X.fs X.ex X.H₀ H X.s₀.heap s.heap
 loc:∃ m,s.heap.Ns X.env.locals m/\∀ (i:Nat) (x:Str) (v:V),X.N[i]? = some x->σ[i]? = some (some v)->Vis X.env.scope x->∃ u,RelV v u/\Look X.env s.heap m x u
 cell:∀ x c,X.env.cells.lookup x=some c->∃ v,s.heap.IsCell c v
 free:H X.env.locals=none
 freeC:∀ x c,X.env.cells.lookup x=some c->H c=none
 pin:∀ p ∈ X.pn ++ pins,s.heap.get? p.1=some p.2/\H p.1=none/\p.1 ≠ X.env.locals/\p.1 ∉ X.fs/\∀ v,p.2.data ≠ .cell v
 hok:HOk X.prog X.w H s.heap
 len:σ.length=X.N.length
section
variable {X:Cx} {pins:List (Addr × Obj)} {σ:List (Option V)} {H H':Hp} {s:Shared} {h':Heap}
theorem Cx.Ok.nofr (ok:X.Ok) {b:Addr} {o:Obj} (e:X.base.get? b=some o):b ∉ X.fs:=fun hb=>by
 have:=(ok.funs.mem hb).1
 rw [e] at this; cases this
theorem Inv.bs (I:Inv X pins σ H s):∀ b o,X.base.get? b=some o->s.heap.get? b=some o/\H b=none:=fun b o e =>
 ⟨I.base.keep b o (I.ok.bs b o e).1 (I.ok.bs b o e).2 (I.ok.nofr e) (I.ok.noex b o e),I.base.free b o (I.ok.bs b o e).1 (I.ok.bs b o e).2 (I.ok.noex b o e)⟩
theorem Inv.bk (I:Inv X pins σ H s):∀ b o,X.base.get? b=some o->s.heap.get? b=some o:=fun b o e=>(I.bs b o e).1
theorem Inv.mod (I:Inv X pins σ H s):Mod X.K X.mg X.base:=I.ok.mod
theorem Inv.kIn (I:Inv X pins σ H s):X.K.In s.heap:=I.ok.mod.kin.keeps I.bk
theorem Inv.lt (I:Inv X pins σ H s):X.env.locals < s.heap.objs.size:=let ⟨_,hn,_⟩:=I.loc; hn.lt
theorem Inv.sz (I:Inv X pins σ H s):X.s₀.heap.objs.size <= s.heap.objs.size:=Nat.le_trans I.ok.above (Nat.le_of_lt I.lt)
theorem Inv.nofs (I:Inv X pins σ H s) {a:Addr} (h:s.heap.objs.size <= a):a ∉ X.fs:=fun hb=>by
 obtain ⟨_,o,ho,_⟩:=I.ok.funs.mem hb
 exact absurd (Nat.lt_of_lt_of_le (Heap.lt_size ho) (Nat.le_trans I.sz h)) (Nat.lt_irrefl _)
theorem Inv.cne (I:Inv X pins σ H s):∀ x c,X.env.cells.lookup x=some c->c ≠ X.env.locals:=fun x c e z=>by
 obtain ⟨v,o,ho,hd⟩:=I.cell x c e
 obtain ⟨m,⟨o',es,ep,ho',hd',_⟩,_⟩:=I.loc
 rw [z,ho'] at ho; cases ho; rw [hd'] at hd; cases hd
theorem Inv.funs (I:Inv X pins σ H s):s.heap.FunFrames X.base X.outer:=by
 have all:∀ (l:List Env),(∀ b ∈ frs l,b ∈ X.fs)->X.s₀.heap.FunFrames X.base l->s.heap.FunFrames X.base l:=by
  intro l
  induction l with
  | nil=>intro _ _; trivial
  | cons env r ih =>
   intro hs hl
   obtain ⟨hk,⟨L,o,hf,hn,ho,hd⟩,hr⟩:=hl
   have hL:L ∈ X.fs:=hs L (by unfold frs; rw [List.filterMap_cons,hf]; exact List.mem_cons_self)
   obtain ⟨sl,e⟩:=I.base.slot L o ho (I.ok.frf L hL) hL fun z=>I.ok.exfs L z hL
   exact ⟨hk,⟨L,_,hf,hn,e,hd⟩,ih (fun b hb=>hs b (by unfold frs; rw [List.filterMap_cons,hf]; exact List.mem_cons_of_mem _ hb)) hr⟩
 exact all X.outer (fun _ hb=>hb) I.ok.funs
theorem Inv.stack (I:Inv X pins σ H s):s.heap.FunFrames X.base X.stack:=by
 rcases I.ok.stk with e | ⟨e,hf⟩
 ·rw [e]; exact I.funs
 ·rw [e]
  obtain ⟨m,hn,_⟩:=I.loc
  refine .cons (by rw [I.ok.kind]; decide) hf hn ?_ I.funs
  exact Heap.get?_none_of_le (Nat.le_trans I.ok.bsz I.ok.above)
theorem Inv.stkSub (I:Inv X pins σ H s):∀ b ∈ frs X.stack,b ∈ X.env.locals :: X.fs:=fun b hb=>by
 rcases I.ok.stk with e | ⟨e,hf⟩
 ·rw [e] at hb; exact List.mem_cons_of_mem _ hb
 ·rw [e] at hb
  unfold frs at hb
  rw [List.filterMap_cons,hf] at hb
  exact hb
theorem Inv.stkFree (I:Inv X pins σ H s):∀ b ∈ frs X.stack,H b=none:=fun b hb=>by
 rcases List.mem_cons.mp (I.stkSub b hb) with e | hb
 ·rw [e]; exact I.free
 ·obtain ⟨_,o,ho,_⟩:=I.ok.funs.mem hb
  exact I.base.free b o ho (I.ok.frf b hb) fun z=>I.ok.exfs b z hb
theorem Inv.step {g':Array GenState} {t':Nat} {d':Drawn} {ch:List Addr} (I:Inv X pins σ H s)
  (hch:∀ b ∈ ch,(b ∈ X.ex∨X.s₀.heap.objs.size <= b)/\b ≠ X.env.locals/\(∀ x c,X.env.cells.lookup x=some c->c ≠ b)/\∀ p ∈ X.pn ++ pins,p.1 ≠ b)
  (keep:∀ b o,b ≠ X.env.locals->b ∉ X.fs->b ∉ ch->s.heap.get? b=some o->H b=none->h'.get? b=some o)
  (slot:∀ b o,b ≠ X.env.locals->b ∈ X.fs->b ∉ ch->s.heap.get? b=some o->H b=none->∃ sl,h'.get? b=some { o with slots:=sl }) (free:∀ b o,b ∉ ch->s.heap.get? b=some o->H b=none->H' b=none)
  (there:∀ b o,b ∉ ch->s.heap.get? b=some o->∃ o',h'.get? b=some o')
  (tups:∀ b xs,H b=some (.tup xs)->H' b=some (.tup xs)) (frzs:∀ b o u,H b=some (.frz o u)->H' b=some (.frz o u)) (tbls:∀ b ps,H b=some (.tbl ps)->∃ more,H' b=some (.tbl (ps ++ more)))
  (ns:∀ m,s.heap.Ns X.env.locals m->h'.Ns X.env.locals m) (hok:HOk X.prog X.w H' h') (hg:AllBare g') :
  Inv X pins σ H' { s with heap:=h',gens:=g',drawn:=d',toks:=t' }:=by
 have neL:∀ b o,X.s₀.heap.get? b=some o->b ≠ X.env.locals:=fun b o e=>Nat.ne_of_lt (Nat.lt_of_lt_of_le (Heap.lt_size e) I.ok.above)
 have neC:∀ b o,X.s₀.heap.get? b=some o->b ∉ X.ex->b ∉ ch:=fun b o e hx hb=>by
  rcases (hch b hb).1 with z | z
  ·exact hx z
  ·exact absurd (Nat.lt_of_lt_of_le (Heap.lt_size e) z) (Nat.lt_irrefl _)
 have cellK:∀ x c,X.env.cells.lookup x=some c->∀ v,s.heap.IsCell c v->h'.IsCell c v:=fun x c e v ⟨o,ho,hd⟩=>by
  have nch:c ∉ ch:=fun z=>(hch c z).2.2.1 x c e rfl
  by_cases hc:c ∈ X.fs
  ·obtain ⟨sl,q⟩:=slot c o (I.cne x c e) hc nch ho (I.freeC x c e)
   exact ⟨_,q,hd⟩
  ·exact ⟨o,keep c o (I.cne x c e) hc nch ho (I.freeC x c e),hd⟩
 refine ⟨I.ok,I.os,hg,⟨fun b o e n hb hx=>?_,fun b o e n hb hx=>?_,fun b o e n hx=>?_,fun b o e hx=>?_,fun b xs e=>tups b xs (I.base.tups b xs e),fun b o xs e=>frzs b o xs (I.base.frzs b o xs e),fun b ps e=>?_⟩,?_,fun x c e=>?_,?_,fun x c e=>?_,fun p hp=>?_,hok,I.len⟩
 ·exact keep b o (neL b o e) hb (neC b o e hx) (I.base.keep b o e n hb hx) (I.base.free b o e n hx)
 ·obtain ⟨sl,e1⟩:=I.base.slot b o e n hb hx
  obtain ⟨sl',e2⟩:=slot b _ (neL b o e) hb (neC b o e hx) e1 (I.base.free b o e n hx)
  exact ⟨sl',e2⟩
 ·obtain ⟨o',e1⟩:=I.base.there b o e hx
  exact free b o' (neC b o e hx) e1 (I.base.free b o e n hx)
 ·obtain ⟨o',e1⟩:=I.base.there b o e hx
  exact there b o' (neC b o e hx) e1
 ·obtain ⟨m1,e1⟩:=I.base.tbls b ps e
  obtain ⟨m2,e2⟩:=tbls b _ e1
  exact ⟨m1 ++ m2,by rw [e2,Array.append_assoc]⟩
 ·obtain ⟨m,hn,hl⟩:=I.loc
  refine ⟨m,ns m hn,fun i x v e1 e2 e3=>?_⟩
  obtain ⟨u,r,l⟩:=hl i x v e1 e2 e3
  refine ⟨u,r,?_⟩
  rcases l with l | ⟨k,c,e,z⟩
  ·exact .inl l
  ·exact .inr ⟨k,c,e,cellK x c e _ z⟩
 ·obtain ⟨v,z⟩:=I.cell x c e
  exact ⟨v,cellK x c e v z⟩
 ·obtain ⟨m,⟨o,_,_,ho,_⟩,_⟩:=I.loc
  exact free _ o (fun z=>(hch _ z).2.1 rfl) ho I.free
 ·obtain ⟨v,o,ho,hd⟩:=I.cell x c e
  exact free c o (fun z=>(hch c z).2.2.1 x c e rfl) ho (I.freeC x c e)
 ·obtain ⟨e,n,ne,nf,d⟩:=I.pin p hp
  have nch:p.1 ∉ ch:=fun z=>(hch p.1 z).2.2.2 p hp rfl
  exact ⟨keep p.1 p.2 ne nf nch e n,free p.1 p.2 nch e n,ne,nf,d⟩
theorem Inv.un {t':Nat} (I:Inv X pins σ H s) (u:Un X.fs [] H H' s.heap h') (hok:HOk X.prog X.w H' h'):Inv X pins σ H' { s with heap:=h',toks:=t' }:=by
 obtain ⟨m,⟨o,es,ep,ho,r⟩,_⟩:=id I.loc
 obtain ⟨sl,hL⟩:=u.any ho I.free (by simp)
 exact I.step (g':=s.gens) (d':=s.drawn) (ch:=[]) (fun _ z=>nomatch z) (fun b o _ hb _ e n=>u.keep b o e n hb (by simp)) (fun b o _ hb _ e n=>u.slot b o e n hb (by simp)) (fun b o _ e n=>u.free b o e n (by simp)) (fun b o _ e=>u.there b o e (by simp)) u.tups u.frzs u.tbls (fun m' hm=>by
  obtain ⟨o',es',ep',ho',r'⟩:=hm
  rw [ho] at ho'; cases ho'
  exact ⟨_,es',ep',hL,r'⟩) hok I.bare
theorem Inv.call {g':Array GenState} {t':Nat} {d':Drawn} {ch:List Addr} (I:Inv X pins σ H s) (u:Un (frs X.stack) ch H H' s.heap h') (hok:HOk X.prog X.w H' h') (hg:AllBare g')
  (hch:∀ b ∈ ch,(b ∈ X.ex∨X.s₀.heap.objs.size <= b)/\b ≠ X.env.locals/\(∀ x c,X.env.cells.lookup x=some c->c ≠ b)/\∀ p ∈ X.pn ++ pins,p.1 ≠ b) :
  Inv X pins σ H' { s with heap:=h',gens:=g',drawn:=d',toks:=t' }:=by
 obtain ⟨m,⟨o,es,ep,ho,r⟩,_⟩:=id I.loc
 obtain ⟨sl,hL⟩:=u.any ho I.free fun z=>(hch _ z).2.1 rfl
 exact I.step (ch:=ch) hch (fun b o hL hb hc e n=>u.keep b o e n (fun z=>(List.mem_cons.mp (I.stkSub b z)).elim hL hb) hc) (fun b o _ _ hc e n=>u.any e n hc) (fun b o hc e n=>u.free b o e n hc) (fun b o hc e=>u.there b o e hc) u.tups u.frzs u.tbls (fun m' hm=>by
  obtain ⟨o',es',ep',ho',r'⟩:=hm
  rw [ho] at ho'; cases ho'
  exact ⟨_,es',ep',hL,r'⟩) hok hg
theorem Inv.turned {t':Nat} {it:Addr} (I:Inv X pins σ H s) (k:∀ b o,b ≠ it->s.heap.get? b=some o->h'.get? b=some o) (hn:H it=none) (hL:it ≠ X.env.locals)
  (h1:it ∈ X.ex∨X.s₀.heap.objs.size <= it) (h2:∀ x c,X.env.cells.lookup x=some c->c ≠ it) (h3:∀ p ∈ X.pn ++ pins,p.1 ≠ it):Inv X pins σ H { s with heap:=h',toks:=t' }:=by
 have nit:∀ b u,H b=some u->b ≠ it:=fun b u e z=>by rw [z,hn] at e; cases e
 refine I.step (g':=s.gens) (d':=s.drawn) (ch:=[it]) (fun b hb=>?_) (fun b o _ _ hc e _=>k b o (fun z=>hc (by simp [z])) e) (fun b o _ _ hc e _=>⟨o.slots,k b o (fun z=>hc (by simp [z])) e⟩) (fun _ _ _ _ n=>n)
  (fun b o hc e=>⟨o,k b o (fun z=>hc (by simp [z])) e⟩) (fun _ _ e=>e) (fun _ _ _ e=>e) (fun b ps e=>⟨#[],by rw [e]; simp⟩) (fun m hm=>?_) (fun b u e=>?_) I.bare
 ·have e:b=it:=by simpa using hb
  subst e
  exact ⟨h1,hL,h2,h3⟩
 ·obtain ⟨o,es,ep,ho,r⟩:=hm
  exact ⟨o,es,ep,k _ o (Ne.symm hL) ho,r⟩
 ·refine (I.hok b u e).stay (fun c v hc q=>k c v ?_ q) (fun _ q=>q) fun _ _ q=>q
  rcases hc with z | z
  ·rw [z]; exact nit b u e
  ·exact nit c _ z
theorem Inv.tok (I:Inv X pins σ H s) (t:Nat):Inv X pins σ H { s with toks:=t }:=I.un (h':=s.heap) (t':=t) Un.refl I.hok
theorem Inv.kept {t':Nat} (I:Inv X pins σ H s) (k:∀ b u,s.heap.get? b=some u->h'.get? b=some u):Inv X pins σ H { s with heap:=h',toks:=t' }:=I.un (Un.kept k) (I.hok.kept k)
theorem Inv.laid {a:Addr} {o:HO} {t':Nat} (I:Inv X pins σ H s) (k:∀ b u,s.heap.get? b=some u->h'.get? b=some u) (hp:s.heap.objs.size <= a) (new:ObjOk X.prog X.w (upd H a o) h' a o) :
  Inv X pins σ (upd H a o) { s with heap:=h',toks:=t' }:=I.un (Un.laid k hp (I.hok.fresh hp)) (I.hok.laid k hp new)
theorem Inv.write {x e:Addr} {o:HO} {t':Nat} (I:Inv X pins σ H s) (mu:Mut (H x)) (he:e=x∨H e=some (.own x)) (k:∀ b u,b ≠ e->s.heap.get? b=some u->h'.get? b=some u) (heo:∃ u,h'.get? e=some u)
  (new:ObjOk X.prog X.w (upd H x o) h' x o):Inv X pins σ (upd H x o) { s with heap:=h',toks:=t' }:=I.un (Un.write mu he k heo) (I.hok.write mu he k heo new)
theorem Inv.pins_of {pins':List (Addr × Obj)} (I:Inv X pins σ H s) (h:∀ p ∈ pins',s.heap.get? p.1=some p.2/\H p.1=none/\p.1 ≠ X.env.locals/\p.1 ∉ X.fs/\∀ v,p.2.data ≠ .cell v):Inv X pins' σ H s :=
 ⟨I.ok,I.os,I.bare,I.base,I.loc,I.cell,I.free,I.freeC,fun p hp=>(List.mem_append.mp hp).elim (fun z=>I.pin p (List.mem_append_left _ z)) (h p),I.hok,I.len⟩
theorem nodup_ix {N:List Str} (hN:N.Nodup) {i j:Nat} {x:Str} (a:N[i]? = some x) (b:N[j]? = some x):i=j:=by
 obtain ⟨h1,e1⟩:=List.getElem?_eq_some_iff.mp a
 obtain ⟨h2,e2⟩:=List.getElem?_eq_some_iff.mp b
 exact (List.getElem_inj hN).mp (e1.trans e2.symm)
theorem store_ok2 {M:Model} {A:Around} {E:Value->Shared->Prop} {i:Nat} {x:Str} {v:V} {u:Value} {Q:Unit->Shared->Prop} (I:Inv X pins σ H s) (hN:X.N.Nodup) (hi:X.N[i]? = some x) (hx:Loc X.env.scope x) (r:RelV v u)
  (h:∀ s',Inv X pins (σ.set i (some v)) H s'->(∃ a,Heap.SameBut a s.heap s'.heap/\(a=X.env.locals∨X.env.cells.lookup x=some a))->Q () s') (hf:X.fn x=true∨X.env.scope.names.lookup x=some .local:=by first | exact .inl rfl | exact .inr rfl | assumption):wpAny M A (storeName X.env x u) Q E s:=by
 obtain ⟨m,hn,hl⟩:=id I.loc
 have hcls:(X.env.scope.kind == .class || (X.env.scope.kind == .module && X.env.locals != X.env.globals))=false:=by rw [I.ok.kind]; rfl
 have hiσ:i < σ.length:=by rw [I.len]; exact (List.getElem?_eq_some_iff.mp hi).1
 have cne:=I.cne
 have tracked:∀ {a:Addr} {h':Heap},(∃ o,s.heap.get? a=some o/\H a=none)->Heap.SameBut a s.heap h'->HOk X.prog X.w H h':=fun {a h'} ha hs b ob e=>by
  obtain ⟨_,_,hfree⟩:=ha
  refine (I.hok b ob e).stay (fun c w' hc q=>(hs.2 c ?_).trans q) (fun _ q=>q) fun _ _ q=>q
  rintro rfl
  rcases hc with rfl | hc
  ·rw [hfree] at e; cases e
  ·rw [hfree] at hc; cases hc
 rcases hx with hk | hk
 ·refine wpAny_storeName_local hk hn (fun h' hn' hs=>?_) hcls
  obtain ⟨oL,_,_,hoL,_⟩:=id hn
  refine h _ ⟨I.ok,I.os,I.bare,⟨fun b o e n hb hx=>?_,fun b o e n hb hx=>?_,I.base.free,fun b o e hx=>?_,I.base.tups,I.base.frzs,I.base.tbls⟩,⟨_,hn',fun j y v' e1 e2 e3=>?_⟩,fun y c e=>?_,I.free,I.freeC,fun p hp=>?_,tracked ⟨oL,hoL,I.free⟩ hs,by simpa using I.len⟩ ⟨_,hs, .inl rfl⟩
  ·exact (hs.2 b (Nat.ne_of_lt (Nat.lt_of_lt_of_le (Heap.lt_size e) I.ok.above))).trans (I.base.keep b o e n hb hx)
  ·obtain ⟨sl,e1⟩:=I.base.slot b o e n hb hx
   exact ⟨sl,(hs.2 b (Nat.ne_of_lt (Nat.lt_of_lt_of_le (Heap.lt_size e) I.ok.above))).trans e1⟩
  ·obtain ⟨o',e1⟩:=I.base.there b o e hx
   exact ⟨o',(hs.2 b (Nat.ne_of_lt (Nat.lt_of_lt_of_le (Heap.lt_size e) I.ok.above))).trans e1⟩
  ·by_cases hj:j=i
   ·subst hj
    rw [hi] at e1; cases e1
    rw [List.getElem?_set_self hiσ] at e2
    cases e2
    exact ⟨u,r, .inl ⟨hk,by simp⟩⟩
   ·rw [List.getElem?_set_ne (Ne.symm hj)] at e2
    obtain ⟨u',r',q⟩:=hl j y v' e1 e2 e3
    refine ⟨u',r',?_⟩
    rcases q with ⟨k,e⟩ | ⟨k,c,e,z⟩
    ·refine .inl ⟨k,?_⟩
     have:y ≠ x:=fun e=>hj (nodup_ix hN e1 (e ▸ hi))
     simp [this,e]
    ·exact .inr ⟨k,c,e,z.sameBut hs (cne y c e)⟩
  ·obtain ⟨w',z⟩:=I.cell y c e
   exact ⟨w',z.sameBut hs (cne y c e)⟩
  ·obtain ⟨e,n,ne,nf,d⟩:=I.pin p hp
   exact ⟨(hs.2 p.1 ne).trans e,n,ne,nf,d⟩
 ·have hfn:X.fn x=true:=by
   rcases hf with z | z
   ·exact z
   ·rw [z] at hk; cases hk
  obtain ⟨c,hc⟩:=I.ok.has x (.inl hk)
  obtain ⟨w',z⟩:=I.cell x c hc
  refine wpAny_storeName_cell I.ok.kind hk hc z (fun h' hc' hs=>?_)
  obtain ⟨oc,hoc,hocd⟩:=id z
  refine h { s with heap:=h' } ⟨I.ok,I.os,I.bare,⟨fun b o e n hb hx=>?_,fun b o e n hb hx=>?_,I.base.free,fun b o e hx=>?_,I.base.tups,I.base.frzs,I.base.tbls⟩,⟨m,hn.sameBut hs (Ne.symm (cne x c hc)),fun j y v' e1 e2 e3=>?_⟩,fun y c' e=>?_,I.free,I.freeC,fun p hp=>?_,tracked ⟨oc,hoc,I.freeC x c hc⟩ hs,by simpa using I.len⟩ ⟨c,hs, .inr hc⟩
  ·exact (hs.2 b (Nat.ne_of_lt (Nat.lt_of_lt_of_le (Heap.lt_size e) (I.ok.cab x c hfn hc)))).trans (I.base.keep b o e n hb hx)
  ·obtain ⟨sl,e1⟩:=I.base.slot b o e n hb hx
   exact ⟨sl,(hs.2 b (Nat.ne_of_lt (Nat.lt_of_lt_of_le (Heap.lt_size e) (I.ok.cab x c hfn hc)))).trans e1⟩
  ·obtain ⟨o',e1⟩:=I.base.there b o e hx
   exact ⟨o',(hs.2 b (Nat.ne_of_lt (Nat.lt_of_lt_of_le (Heap.lt_size e) (I.ok.cab x c hfn hc)))).trans e1⟩
  ·by_cases hj:j=i
   ·subst hj
    rw [hi] at e1; cases e1
    rw [List.getElem?_set_self hiσ] at e2
    cases e2
    exact ⟨u,r, .inr ⟨.inl hk,c,hc,hc'⟩⟩
   ·rw [List.getElem?_set_ne (Ne.symm hj)] at e2
    obtain ⟨u',r',q⟩:=hl j y v' e1 e2 e3
    refine ⟨u',r',?_⟩
    rcases q with q | ⟨k,c',e,z'⟩
    ·exact .inl q
    ·refine .inr ⟨k,c',e,z'.sameBut hs ?_⟩
     rintro rfl
     exact hj (nodup_ix hN e1 (I.ok.inj _ _ _ e hc ▸ hi))
  ·by_cases hcc:c' = c
   ·subst hcc; exact ⟨_,hc'⟩
   ·obtain ⟨w2,z2⟩:=I.cell y c' e
    exact ⟨w2,z2.sameBut hs hcc⟩
  ·obtain ⟨e,n,ne,nf,d⟩:=I.pin p hp
   refine ⟨(hs.2 p.1 ?_).trans e,n,ne,nf,d⟩
   intro q
   rw [q,hoc] at e
   have q':oc=p.2:=Option.some.inj e
   exact d w' (by rw [← q']; exact hocd)
theorem store_ok {M:Model} {A:Around} {E:Value->Shared->Prop} {i:Nat} {x:Str} {v:V} {u:Value} {Q:Unit->Shared->Prop} (I:Inv X pins σ H s) (hN:X.N.Nodup) (hi:X.N[i]? = some x) (hx:Loc X.env.scope x) (r:RelV v u)
  (h:∀ s',Inv X pins (σ.set i (some v)) H s'->Q () s') (hf:X.fn x=true∨X.env.scope.names.lookup x=some .local:=by first | exact .inl rfl | exact .inr rfl | assumption):wpAny M A (storeName X.env x u) Q E s :=
 store_ok2 I hN hi hx r (fun s' I' _=>h s' I') hf
theorem Inv.call' {s':Shared} {ch:List Addr} (I:Inv X pins σ H s) (ho:s'.os=s.os) (u:Un (frs X.stack) ch H H' s.heap s'.heap) (hok:HOk X.prog X.w H' s'.heap) (hg:AllBare s'.gens)
  (hch:∀ b ∈ ch,(b ∈ X.ex∨X.s₀.heap.objs.size <= b)/\b ≠ X.env.locals/\(∀ x c,X.env.cells.lookup x=some c->c ≠ b)/\∀ p ∈ X.pn ++ pins,p.1 ≠ b):Inv X pins σ H' s':=by
 obtain ⟨h',g',d',t',o'⟩:=s'
 have e:o' = s.os:=ho
 subst e
 exact I.call (g':=g') (t':=t') (d':=d') u hok hg hch
end
abbrev XK:=Value->Option Addr->Hp->Prop
abbrev St:=List (Option V)
abbrev VK:=V->Hp->Prop
abbrev TE:=St->Hp->VK->Prop
abbrev TT:=St->Hp->(Bool->Hp->Prop)->Prop
abbrev TA:=St->Hp->(List V->Hp->Prop)->Prop
structure Ends where
 nx:St->Hp->Prop
 rt:VK
 bk:St->Hp->Prop:=fun _ _=>False
 ct:St->Hp->Prop:=fun _ _=>False
abbrev TS:=Ends->St->Hp->Prop
def EP (X:Cx) (pins:List (Addr × Obj)) (σ:St) (Q:VK) (u:Value) (s':Shared):Prop:=∃ v H',Inv X pins σ H' s'/\RelV v u/\Q v H'
def TP (X:Cx) (pins:List (Addr × Obj)) (σ:St) (Q:Bool->Hp->Prop) (b:Bool) (s':Shared):Prop:=∃ H',Inv X pins σ H' s'/\Q b H'
def AP (X:Cx) (pins:List (Addr × Obj)) (σ:St) (Q:List V->Hp->Prop) (us:List Value) (s':Shared):Prop:=∃ vs H',Inv X pins σ H' s'/\Vals vs us/\Q vs H'
def SP (X:Cx) (pins:List (Addr × Obj)) (D:Ends) (f:Flow) (s':Shared):Prop :=
 match f with
 | .next=>∃ σ' H',Inv X pins σ' H' s'/\D.nx σ' H'
 | .brk=>∃ σ' H',Inv X pins σ' H' s'/\D.bk σ' H'
 | .cont=>∃ σ' H',Inv X pins σ' H' s'/\D.ct σ' H'
 | .ret u=>∃ v σ' H',Inv X pins σ' H' s'/\RelV v u/\D.rt v H'
def PE (X:Cx) (e:Expr) (t:TE):Prop :=
 ∀ (pins:List (Addr × Obj)) (s:Shared) (σ:St) (H:Hp) (Q:VK),Inv X pins σ H s->t σ H Q->wpAny (model X.prog X.w) X.A (eval e X.env) (EP X pins σ Q) X.xe s
def PT (X:Cx) (e:Expr) (t:TT):Prop :=
 ∀ (pins:List (Addr × Obj)) (s:Shared) (σ:St) (H:Hp) (Q:Bool->Hp->Prop),Inv X pins σ H s->t σ H Q->wpAny (model X.prog X.w) X.A (isTrue e X.env (eval e X.env)) (TP X pins σ Q) X.xe s
def PW (X:Cx) (e:Expr) (t:TT):Prop :=
 ∀ (whole:Sem Value) (pins:List (Addr × Obj)) (s:Shared) (σ:St) (H:Hp) (Q:Bool->Hp->Prop),Inv X pins σ H s->t σ H Q->wpAny (model X.prog X.w) X.A (isTrue e X.env whole) (TP X pins σ Q) X.xe s
theorem PW.pt {X:Cx} {e:Expr} {t:TT} (h:PW X e t):PT X e t:=h _
def PA (X:Cx) (es:List Expr) (t:TA):Prop :=
 ∀ (pos:Pos) (pins:List (Addr × Obj)) (s:Shared) (σ:St) (H:Hp) (Q:List V->Hp->Prop),Inv X pins σ H s->t σ H Q->wpAny (model X.prog X.w) X.A (spliced (backTo pos (starEach es X.env))) (AP X pins σ Q) X.xe s
def PS (X:Cx) (st:Stmt) (t:TS):Prop :=
 ∀ (pins:List (Addr × Obj)) (s:Shared) (σ:St) (H:Hp) (D:Ends),Inv X pins σ H s->t D σ H->wpAny (model X.prog X.w) X.A (exec st X.env) (SP X pins D) X.xe s
def PSs (X:Cx) (st:List Stmt) (t:TS):Prop :=
 ∀ (pins:List (Addr × Obj)) (s:Shared) (σ:St) (H:Hp) (D:Ends),Inv X pins σ H s->t D σ H->wpAny (model X.prog X.w) X.A (execs st X.env) (SP X pins D) X.xe s
theorem thn {α:Type} {t:Sem α} {Q Q':α->Shared->Prop} {M:Model} {A:Around} {E:Value->Shared->Prop} {s:Shared} (h:wpAny M A t Q E s) (hQ:∀ a s,Q a s->Q' a s):wpAny M A t Q' E s:=wpAny_mono h hQ fun _ _ x=>x
end L2
namespace L2
open PySem PySem.Spec PyProof.Rows
section
variable {X:Cx}
theorem bin {a b:Expr} {ta tb:TE} (ha:PE X a ta) (hb:PE X b tb) {pins:List (Addr × Obj)} {s:Shared} {σ:St} {H:Hp} {R:V->V->Hp->Prop} (I:Inv X pins σ H s) (h:ta σ H fun x H1=>tb σ H1 fun y H2=>R x y H2)
  {α:Type} {Q:α->Shared->Prop} {f:Value->Value->Sem α}
  (hf:∀ v u s2 x y H2,Inv X pins σ H2 s2->RelV x v->RelV y u->R x y H2->wpAny (model X.prog X.w) X.A (f v u) Q X.xe s2) :
  wpAny (model X.prog X.w) X.A (eval a X.env) (fun v s₁=>wpAny (model X.prog X.w) X.A (eval b X.env) (fun u s₂=>wpAny (model X.prog X.w) X.A (f v u) Q X.xe s₂) X.xe s₁) X.xe s:=by
 refine thn (ha pins s σ H _ I h) fun v s1 ⟨x,H1,I1,r1,q1⟩=>?_
 refine thn (hb pins s1 σ H1 _ I1 q1) fun u s2 ⟨y,H2,I2,r2,q2⟩=>?_
 exact hf v u s2 x y H2 I2 r1 r2 q2
def tVar (i:Nat):TE:=fun σ H Q=>∃ v,σ[i]? = some (some v)/\Q v H
def tC (v:V):TE:=fun _ H Q=>Q v H
theorem pe_var {i:Nat} {x:Str} {pos:Pos} (hN:X.N[i]? = some x) (hv:Vis X.env.scope x) (hd:(x == ("__debug__":Str))=false:=by decide) (hcd:(x == ("__classdict__":Str))=false:=by decide):PE X (.Name x pos) (tVar i):=by
 intro pins s σ H Q I h
 obtain ⟨v,e,h⟩:=h
 obtain ⟨m,hn,hl⟩:=I.loc
 obtain ⟨u,r,l⟩:=hl i x v hN e hv
 have fin:EP X pins σ Q u s:=⟨v,H,I,r,h⟩
 rcases l with ⟨hk,hm⟩ | ⟨hk,c,hc,hcell⟩
 ·exact wpAny_Name (wpAny_loadName_local I.ok.kind hk hn hm fin) hd
 ·rcases hk with hk | hk
  ·exact wpAny_Name (wpAny_loadName_cell I.ok.kind hk hc hcell fin) hd
  ·exact wpAny_Name (wpAny_loadName_free I.ok.kind hk hc hcell fin hcd) hd
theorem pe_int {i j pos}:PE X (.Constant (.int i) j pos) (tC (.int i)):=fun _ _ _ H _ I h=>wpAny_Constant_int ⟨.int i,H,I.tok _,⟨_,rfl⟩,h⟩
theorem pe_bl {b j pos}:PE X (.Constant (.bool b) j pos) (tC (.bl b)):=fun _ _ _ H _ I h=>Constant_bool ⟨.bl b,H,I,rfl,h⟩
theorem pe_non {j pos}:PE X (.Constant .none j pos) (tC .non):=fun _ _ _ H _ I h=>Constant_none ⟨.non,H,I,rfl,h⟩
theorem pe_str {x j pos}:PE X (.Constant (.str x) j pos) (tC (.str x)):=fun _ _ _ H _ I h=>Calls.Constant_str ⟨.str x,H,I.tok _,⟨_,rfl⟩,h⟩
def Gl (X:Cx) (x:Str):Prop:=X.env.kindOf x=some .globalImplicit
theorem ld_glob {E:Value->Shared->Prop} {pins:List (Addr × Obj)} {s:Shared} {σ:St} {H:Hp} {x:Str} {u:Value} {pos:Pos} {Q:Value->Shared->Prop} (I:Inv X pins σ H s) (hg:Gl X x) (hm:X.mg x=some u) (h:Q u s)
  (hd:(x == ("__debug__":Str))=false:=by decide):wpAny (model X.prog X.w) X.A (eval (.Name x pos) X.env) Q E s :=
 Calls.Name_function_global I.ok.kind hg (Calls.loadGlobal_global (by rw [I.ok.glob]; exact I.mod.glob.keeps I.bk) hm h) hd
theorem ld_blt {E:Value->Shared->Prop} {pins:List (Addr × Obj)} {s:Shared} {σ:St} {H:Hp} {x:Str} {u:Value} {pos:Pos} {Q:Value->Shared->Prop} (I:Inv X pins σ H s) (hg:Gl X x) (hm:X.mg x=none) (hv:bootBuiltins x=some u) (h:Q u s)
  (hn:x ≠ "__name__":=by decide) (hd:(x == ("__debug__":Str))=false:=by decide):wpAny (model X.prog X.w) X.A (eval (.Name x pos) X.env) Q E s:=by
 obtain ⟨mb,h1,h2⟩:=I.mod.blt
 exact Calls.Name_function_global I.ok.kind hg (Calls.loadGlobal_builtin (by rw [I.ok.glob]; exact I.mod.glob.keeps I.bk) hm (by rw [I.ok.blt]; exact h1.keeps I.bk) ((h2 x hn).trans hv) h) hd
theorem pe_glob {x:Str} {v:V} {u:Value} {pos:Pos} (hg:Gl X x) (hm:X.mg x=some u) (r:RelV v u) (hd:(x == ("__debug__":Str))=false:=by decide):PE X (.Name x pos) (tC v) :=
 fun _ _ _ H _ I h=>ld_glob I hg hm ⟨v,H,I,r,h⟩ hd
theorem pe_bltn {x:Str} {v:V} {u:Value} {pos:Pos} (hg:Gl X x) (hm:X.mg x=none) (hv:bootBuiltins x=some u) (r:RelV v u) (hn:x ≠ "__name__":=by decide) (hd:(x == ("__debug__":Str))=false:=by decide):PE X (.Name x pos) (tC v) :=
 fun _ _ _ H _ I h=>ld_blt I hg hm hv ⟨v,H,I,r,h⟩ hn hd
def t2I (ta tb:TE) (k:Int->Int->Hp->Prop):St->Hp->Prop:=fun σ H=>ta σ H fun x H1=>tb σ H1 fun y H2=>∃ i j,x = .int i/\y = .int j/\k i j H2
def tAdd (ta tb:TE):TE:=fun σ H Q=>t2I ta tb (fun i j H2=>Q (.int (i + j)) H2) σ H
def tSub (ta tb:TE):TE:=fun σ H Q=>t2I ta tb (fun i j H2=>Q (.int (i - j)) H2) σ H
def tMul (ta tb:TE):TE:=fun σ H Q=>t2I ta tb (fun i j H2=>(-(2 ^ 64) < i/\i < 2 ^ 64)/\Q (.int (i * j)) H2) σ H
variable {a b:Expr} {ta tb:TE} {pos:Pos}
def PC (X:Cx) (op:CmpOp) (a b:Expr) (t:TE):Prop :=
 ∀ (pins:List (Addr × Obj)) (s:Shared) (σ:St) (H:Hp) (Q:VK),Inv X pins σ H s->t σ H Q ->
  wpAny (model X.prog X.w) X.A (eval a X.env) (fun v s₁=>wpAny (model X.prog X.w) X.A (eval b X.env) (fun u s₂=>wpAny (model X.prog X.w) X.A (compareOp op v u) (EP X pins σ Q) X.xe s₂) X.xe s₁) X.xe s
def tCmp (p:Int->Int->Bool) (ta tb:TE):TE:=fun σ H Q=>t2I ta tb (fun i j H2=>Q (.bl (p i j)) H2) σ H
abbrev tLt:TE->TE->TE:=tCmp fun i j=>decide (i < j)
abbrev tLe:TE->TE->TE:=tCmp fun i j=>decide (i <= j)
abbrev tGt:TE->TE->TE:=tCmp fun i j=>decide (j < i)
abbrev tGe:TE->TE->TE:=tCmp fun i j=>decide (j <= i)
abbrev tEqI:TE->TE->TE:=tCmp fun i j=>decide (i=j)
abbrev tNeI:TE->TE->TE:=tCmp fun i j=>!decide (i=j)
def tIsN (ta:TE):TE:=fun σ H Q=>ta σ H fun x H1=>Q (.bl (decide (x = .non))) H1
def tNotN (ta:TE):TE:=fun σ H Q=>ta σ H fun x H1=>Q (.bl (!decide (x = .non))) H1
def tB (t:TE):TT:=fun σ H Q=>t σ H fun x H1=>∃ c,x = .bl c/\Q c H1
theorem pe_cmp {op:CmpOp} {t:TE} (h:PC X op a b t) (h1:behindInMarks op b=false:=by first | exact nobehind _ (by decide) (by decide) | rfl):PE X (.Compare a [op] [b] pos) t:=fun pins s σ H Q I hw=>wpAny_Compare1 (h pins s σ H Q I hw) h1
theorem pt_cmp {op:CmpOp} {t:TE} (h:PC X op a b t) (h1:behindInMarks op b=false:=by first | exact nobehind _ (by decide) (by decide) | rfl):PT X (.Compare a [op] [b] pos) (tB t):=by
 intro pins s σ H Q I hw
 refine wpAny_isTrue_Compare1 (thn (h pins s σ H _ I hw) fun v s1 h1=>thn h1 fun u s2 h2=>thn h2 fun c s3 ⟨x,H1,I1,r1,q1⟩=>?_) h1
 obtain ⟨d,rfl,q⟩:=q1
 cases r1
 exact wpAny_truthy_bool ⟨H1,I1,q⟩
theorem pt_val {e:Expr} {t:TE} (h:PE X e t) (he:∀ whole,isTrue e X.env whole=(do let v ← whole; standAt e.pos; holding [v] (truthy v)):=by intro _; rfl):PT X e (tB t):=by
 intro pins s σ H Q I hw
 refine isTrue_plain (thn (h pins s σ H _ I hw) fun v s1 ⟨x,H1,I1,r1,q1⟩=>?_) (he _)
 obtain ⟨d,rfl,q⟩:=q1
 cases r1
 exact wpAny_truthy_bool ⟨H1,I1,q⟩
variable {tA tB':TT} {rest:List Expr}
def tAnd (t u:TT):TT:=fun σ H Q=>t σ H fun c H1=>if c=true then u σ H1 Q else Q false H1
def tOr (t u:TT):TT:=fun σ H Q=>t σ H fun c H1=>if c=true then Q true H1 else u σ H1 Q
def tNot (t:TT):TT:=fun σ H Q=>t σ H fun c H1=>Q (!c) H1
theorem pw_and1 (ha:PT X a tA):PW X (.BoolOp .And [a] pos) tA:=by
 intro wh pins s σ H Q I h
 refine isTrue_and (thn (ha pins s σ H Q I h) fun c s1 e=>?_)
 cases c with
 | true=>exact isTrue_and_nil e
 | false=>exact e
theorem pw_or1 (ha:PT X a tA):PW X (.BoolOp .Or [a] pos) tA:=by
 intro wh pins s σ H Q I h
 refine isTrue_or (thn (ha pins s σ H Q I h) fun c s1 e=>?_)
 cases c with
 | false=>exact isTrue_or_nil e
 | true=>exact e
theorem pw_and (ha:PT X a tA) (hb:PW X (.BoolOp .And (b :: rest) pos) tB'):PW X (.BoolOp .And (a :: b :: rest) pos) (tAnd tA tB'):=by
 intro wh pins s σ H Q I h
 refine isTrue_and (thn (ha pins s σ H _ I h) fun c s1 ⟨H1,I1,q1⟩=>?_)
 cases c with
 | true=>exact hb wh pins s1 σ H1 Q I1 q1
 | false=>exact ⟨H1,I1,q1⟩
theorem pw_or (ha:PT X a tA) (hb:PW X (.BoolOp .Or (b :: rest) pos) tB'):PW X (.BoolOp .Or (a :: b :: rest) pos) (tOr tA tB'):=by
 intro wh pins s σ H Q I h
 refine isTrue_or (thn (ha pins s σ H _ I h) fun c s1 ⟨H1,I1,q1⟩=>?_)
 cases c with
 | true=>exact ⟨H1,I1,q1⟩
 | false=>exact hb wh pins s1 σ H1 Q I1 q1
theorem pt_not (ha:PT X a tA):PT X (.UnaryOp .Not a pos) (tNot tA):=by
 intro pins s σ H Q I h
 exact isTrue_not (ha pins s σ H (fun c H1=>Q (!c) H1) I h)
def tAndV (ta tb:TE):TE:=fun σ H Q=>ta σ H fun x H1=>∃ c,x = .bl c/\if c=true then tb σ H1 Q else Q (.bl false) H1
def tOrV (ta tb:TE):TE:=fun σ H Q=>ta σ H fun x H1=>∃ c,x = .bl c/\if c=true then Q (.bl true) H1 else tb σ H1 Q
def tNotV (ta:TE):TE:=fun σ H Q=>ta σ H fun x H1=>∃ c,x = .bl c/\Q (.bl (!c)) H1
theorem pe_one {op} {t:TE} (h:PE X a t):PE X (.BoolOp op [a] pos) t:=fun pins s σ H Q I hw=>BoolOp_one (h pins s σ H Q I hw)
theorem pe_and (ha:PE X a ta) (hb:PE X (.BoolOp .And (b :: rest) pos) tb):PE X (.BoolOp .And (a :: b :: rest) pos) (tAndV ta tb):=by
 intro pins s σ H Q I h
 refine BoolOp_and (thn (ha pins s σ H _ I h) fun v s1 ⟨x,H1,I1,r1,q1⟩=>?_)
 obtain ⟨c,rfl,q1⟩:=q1
 cases r1
 refine wpAny_truthy_bool ?_
 cases c with
 | true=>exact hb pins s1 σ H1 Q I1 q1
 | false=>exact ⟨.bl false,H1,I1,rfl,q1⟩
theorem pe_not (ha:PE X a ta):PE X (.UnaryOp .Not a pos) (tNotV ta):=by
 intro pins s σ H Q I h
 refine UnaryOp_ (thn (ha pins s σ H _ I h) fun v s1 ⟨x,H1,I1,r1,q1⟩=>?_)
 obtain ⟨c,rfl,q1⟩:=q1
 cases r1
 exact not_of (wpAny_truthy_bool ⟨.bl (!c),H1,I1,rfl,q1⟩)
def tIf (t:TT) (ta tb:TE):TE:=fun σ H Q=>t σ H fun c H1=>if c=true then ta σ H1 Q else tb σ H1 Q
theorem pe_ifExp {c:Expr} (hc:PT X c tA) (ha:PE X a ta) (hb:PE X b tb):PE X (.IfExp c a b pos) (tIf tA ta tb):=by
 intro pins s σ H Q I h
 refine wpAny_IfExp (thn (hc pins s σ H _ I h) fun d s1 ⟨H1,I1,q1⟩=>?_)
 cases d with
 | true=>exact ha pins s1 σ H1 Q I1 q1
 | false=>exact hb pins s1 σ H1 Q I1 q1
end
end L2
namespace L2
open PySem PySem.Spec PyProof.Rows
def SqL (K:PySem.W.Frag) (H:Hp) (a:Addr) (xs:List V):Prop :=
 Rd H a (.lst xs) ∨
  ∃ (o:Obj) (its:Array Value) (n:Nat),K.lookup a=some o/\o.cls = .type "list"/\o.dict=none/\o.data = .seq its n/\its.size <= sizeLine/\Vals xs its.toList
def SqT (K:PySem.W.Frag) (H:Hp) (a:Addr) (xs:List V):Prop :=
 Rd H a (.tup xs) ∨
  ∃ (o:Obj) (its:Array Value) (n:Nat),K.lookup a=some o/\o.cls = .type "tuple"/\o.data = .seq its n/\its.size <= sizeLine/\Vals xs its.toList
def absV:Value->Option V
 | .none=>some .non
 | .bool b=>some (.bl b)
 | .int i _=>some (.int i)
 | .str x _=>some (.str x)
 | .bytes b _=>some (.byt b)
 | .float b _=>some (.flt b)
 | .ref a=>some (.ref a)
 | .type n=>some (.ty n)
 | _=>none
theorem RelV.abs {x:V} {u:Value} (r:RelV x u):absV u=some x:=by
 cases x with
 | non=>cases r; rfl
 | bl _=>cases r; rfl
 | int _=>obtain ⟨t,rfl⟩:=r; rfl
 | str _=>obtain ⟨t,rfl⟩:=r; rfl
 | byt _=>obtain ⟨t,rfl⟩:=r; rfl
 | flt _=>obtain ⟨t,rfl⟩:=r; rfl
 | ref _=>cases r; rfl
 | ty _=>cases r; rfl
theorem RelV.inj {x y:V} {u:Value} (r:RelV x u) (q:RelV y u):x=y:=Option.some.inj (r.abs.symm.trans q.abs)
theorem Vals.inj:∀ {xs ys:List V} {us:List Value},Vals xs us->Vals ys us->xs=ys
 | _,_,_, .nil, .nil=>rfl
 | _,_,_, .cons r t, .cons r' t'=>by rw [r.inj r',Vals.inj t t']
section
variable {X:Cx} {pins:List (Addr × Obj)} {σ:St} {H:Hp} {s:Shared} {a:Addr} {xs ys:List V}
theorem SqL.of {K:PySem.W.Frag} (h:H a=some (.lst xs)):SqL K H a xs := .inl (.inl h)
theorem SqT.of {K:PySem.W.Frag} (h:H a=some (.tup xs)):SqT K H a xs := .inl (.inl h)
theorem Inv.list (I:Inv X pins σ H s) (h:SqL X.K H a xs):∃ its:List Value,Vals xs its/\PlainL s.heap a its.toArray/\xs.length <= sizeLine:=by
 rcases h with h | ⟨o,its,n,hk,hc,hd,hs,hz,r⟩
 ·obtain ⟨z,its,n,r,e⟩:=h.ok I.hok
  exact ⟨its,r,⟨_,n,e,rfl,rfl,rfl⟩,z⟩
 ·refine ⟨its.toList,r,⟨o,n,I.kIn a o hk,hc,hd,by simpa using hs⟩,?_⟩
  have e:=r.length
  simp only [Array.length_toList] at e
  omega
theorem Inv.tuple (I:Inv X pins σ H s) (h:SqT X.K H a xs):∃ its:List Value,Vals xs its/\IsTup s.heap a its.toArray/\xs.length <= sizeLine:=by
 rcases h with h | ⟨o,its,n,hk,hc,hs,hz,r⟩
 ·obtain ⟨z,its,r,p⟩:=h.ok I.hok
  exact ⟨its,r,p.isTup,z⟩
 ·refine ⟨its.toList,r,⟨o,I.kIn a o hk,hc,n,by simpa using hs⟩,?_⟩
  have e:=r.length
  simp only [Array.length_toList] at e
  omega
theorem Inv.list_inj (I:Inv X pins σ H s) (h:SqL X.K H a xs) (h':SqL X.K H a ys):xs=ys:=by
 obtain ⟨its,r,⟨o,n,e,_,_,d⟩,_⟩:=I.list h
 obtain ⟨its',r',⟨o',n',e',_,_,d'⟩,_⟩:=I.list h'
 rw [e] at e'; cases e'
 rw [d] at d'
 injection d' with d1 _
 have:its=its':=by simpa using congrArg Array.toList d1
 subst this
 exact r.inj r'
theorem Inv.tuple_inj (I:Inv X pins σ H s) (h:SqT X.K H a xs) (h':SqT X.K H a ys):xs=ys:=by
 obtain ⟨its,r,⟨o,e,_,n,d⟩,_⟩:=I.tuple h
 obtain ⟨its',r',⟨o',e',_,n',d'⟩,_⟩:=I.tuple h'
 rw [e] at e'; cases e'
 rw [d] at d'
 injection d' with d1 _
 have:its=its':=by simpa using congrArg Array.toList d1
 subst this
 exact r.inj r'
end
abbrev Cx.wish (X:Cx) (E:Value->Shared->Prop):Cx:={ X with xe:=E }
abbrev Cx.nox (X:Cx):Cx:=X.wish fun _ _=>False
theorem Cx.Ok.wish {X:Cx} (ok:X.Ok) (E:Value->Shared->Prop):(X.wish E).Ok :=
 ⟨ok.mod,ok.kind,ok.glob,ok.blt,ok.above,ok.inj,ok.has,ok.cab,ok.hd,ok.frames,ok.stk,ok.exf,ok.bs,ok.bsz,ok.noex,ok.exfs,ok.funs,ok.frf⟩
theorem Cx.Ok.unwish {X:Cx} {E:Value->Shared->Prop} (ok:(X.wish E).Ok):X.Ok :=
 ⟨ok.mod,ok.kind,ok.glob,ok.blt,ok.above,ok.inj,ok.has,ok.cab,ok.hd,ok.frames,ok.stk,ok.exf,ok.bs,ok.bsz,ok.noex,ok.exfs,ok.funs,ok.frf⟩
section
variable {X:Cx} {pins:List (Addr × Obj)} {σ:St} {H:Hp} {s:Shared} {E:Value->Shared->Prop}
theorem Inv.wish (I:Inv X pins σ H s) (E:Value->Shared->Prop):Inv (X.wish E) pins σ H s:=⟨I.ok.wish E,I.os,I.bare,I.base,I.loc,I.cell,I.free,I.freeC,I.pin,I.hok,I.len⟩
theorem Inv.unwish (I:Inv (X.wish E) pins σ H s):Inv X pins σ H s:=⟨I.ok.unwish,I.os,I.bare,I.base,I.loc,I.cell,I.free,I.freeC,I.pin,I.hok,I.len⟩
theorem SP.unwish {D:Ends} {f:Flow} {s':Shared} (h:SP (X.wish E) pins D f s'):SP X pins D f s':=by
 cases f with
 | next=>obtain ⟨σ',H',I,q⟩:=h; exact ⟨σ',H',I.unwish,q⟩
 | brk=>obtain ⟨σ',H',I,q⟩:=h; exact ⟨σ',H',I.unwish,q⟩
 | cont=>obtain ⟨σ',H',I,q⟩:=h; exact ⟨σ',H',I.unwish,q⟩
 | ret u=>obtain ⟨v,σ',H',I,r,q⟩:=h; exact ⟨v,σ',H',I.unwish,r,q⟩
theorem PSs.nox {st:List Stmt} {t:TS} (h:PSs X.nox st t):PSs X st t:=fun pins s σ H D I hw =>
 wpAny_mono (h pins s σ H D (I.wish _) hw) (fun _ _ q=>q.unwish) fun _ _ z=>False.elim z
end
section
variable {X:Cx} {st:Stmt} {rest:List Stmt} {t u:TS} {e:Expr} {te:TE} {pos:Pos}
def tNext:TS:=fun D σ H=>D.nx σ H
def tSeq (t u:TS):TS:=fun D σ H=>t { D with nx:=u D } σ H
theorem pss_nil:PSs X [] tNext:=fun _ _ σ H _ I h=>wpAny_execs_nil ⟨σ,H,I,h⟩
theorem pss_cons (h1:PS X st t) (h2:PSs X rest u):PSs X (st :: rest) (tSeq t u):=by
 intro pins s σ H D I h
 refine wpAny_execs_cons (thn (h1 pins s σ H { D with nx:=u D } I h) fun f s1 q=>?_)
 cases f with
 | next =>
  obtain ⟨σ',H',I',q⟩:=q
  exact h2 pins s1 σ' H' D I' q
 | ret v=>exact q
 | brk=>exact q
 | cont=>exact q
theorem pss_one (h1:PS X st t):PSs X [st] t:=by
 intro pins s σ H D I h
 refine wpAny_execs_cons (thn (h1 pins s σ H D I h) fun f s1 q=>?_)
 cases f with
 | next=>exact wpAny_execs_nil q
 | ret v=>exact q
 | brk=>exact q
 | cont=>exact q
def tBreak:TS:=fun D σ H=>D.bk σ H
def tCont:TS:=fun D σ H=>D.ct σ H
theorem Inv.quiet {pins:List (Addr × Obj)} {σ:St} {H:Hp} {s:Shared} (I:Inv X pins σ H s):interactive X.env=false:=by simp [interactive,I.ok.kind]
def tDrop (te:TE):TS:=fun D σ H=>te σ H fun _ H1=>D.nx σ H1
theorem ps_expr (he:PE X e te) (hs:swapsWith e none pos.line X.env=pure false:=by rfl):PS X (.Expr e pos) (tDrop te):=by
 intro pins s σ H D I h
 exact wpAny_Expr_any (thn (he pins s σ H _ I h) fun v s1 ⟨x,H1,I1,r1,q1⟩=>⟨σ,H1,I1,q1⟩) I.quiet hs
def tRet (te:TE):TS:=fun D σ H=>te σ H D.rt
theorem ps_ret (he:PE X e te):PS X (.Return (some e) pos) (tRet te):=by
 intro pins s σ H D I h
 exact wpAny_Return_some (thn (he pins s σ H _ I h) fun v s1 ⟨x,H1,I1,r1,q1⟩=>⟨x,σ,H1,I1,r1,q1⟩)
def tRetN:TS:=fun D _ H=>D.rt .non H
def tIfS (c:TT) (t u:TS):TS:=fun D σ H=>c σ H fun b H1=>if b=true then t D σ H1 else u D σ H1
theorem ps_if {c:Expr} {a b:List Stmt} {tc:TT} (hc:PT X c tc) (ha:PSs X a t) (hb:PSs X b u):PS X (.If c a b pos) (tIfS tc t u):=by
 intro pins s σ H D I h
 refine wpAny_If (thn (hc pins s σ H _ I h) fun d s1 ⟨H1,I1,q1⟩=>?_)
 cases d with
 | true=>exact ha pins s1 σ H1 D I1 q1
 | false=>exact hb pins s1 σ H1 D I1 q1
def tNever:TS:=fun _ _ _=>False
end
abbrev TG:=V->St->Hp->(St->Hp->Prop)->Prop
abbrev TGs:=List V->St->Hp->(St->Hp->Prop)->Prop
def PG (X:Cx) (target:Expr) (t:TG):Prop :=
 ∀ (pins:List (Addr × Obj)) (s:Shared) (σ:St) (H:Hp) (v:V) (u:Value) (Q:St->Hp->Prop),Inv X pins σ H s->RelV v u->t v σ H Q ->
  wpAny (model X.prog X.w) X.A (assign target X.env u) (fun _ s'=>∃ σ' H',Inv X pins σ' H' s'/\Q σ' H') X.xe s
def PGs (X:Cx) (ts:List Expr) (t:TGs):Prop :=
 ∀ (pins:List (Addr × Obj)) (s:Shared) (σ:St) (H:Hp) (vs:List V) (us:List Value) (Q:St->Hp->Prop),Inv X pins σ H s->Vals vs us->t vs σ H Q ->
  wpAny (model X.prog X.w) X.A (assignInOrder ((assignEach ts X.env).map (·.2)) us) (fun _ s'=>∃ σ' H',Inv X pins σ' H' s'/\Q σ' H') X.xe s
abbrev TSet:=V->V->V->Hp->(Hp->Prop)->Prop
def PSet (X:Cx) (t:TSet):Prop :=
 ∀ (pins:List (Addr × Obj)) (s:Shared) (σ:St) (H:Hp) (o i v:V) (ov iv u:Value) (Q:Hp->Prop),Inv X pins σ H s->RelV o ov->RelV i iv->RelV v u->t o i v H Q ->
  wpAny (model X.prog X.w) X.A (setItem ov iv u) (fun _ s'=>∃ H',Inv X pins σ H' s'/\Q H') X.xe s
abbrev TIp:=V->V->Hp->VK->Prop
def PIp (X:Cx) (op:Operator) (t:TIp):Prop :=
 ∀ (pins:List (Addr × Obj)) (s:Shared) (σ:St) (H:Hp) (x y:V) (v u:Value) (Q:VK),Inv X pins σ H s->RelV x v->RelV y u->t x y H Q ->
  wpAny (model X.prog X.w) X.A (inplaceOp op v u) (EP X pins σ Q) X.xe s
section
variable {X:Cx} {pos:Pos}
def gName (i:Nat):TG:=fun v σ H Q=>Q (σ.set i (some v)) H
theorem pg_name {i:Nat} {x:Str} (hN:X.N.Nodup) (hi:X.N[i]? = some x) (hx:Loc X.env.scope x) (hf:X.fn x=true∨X.env.scope.names.lookup x=some .local:=by first | exact .inl rfl | exact .inr rfl | assumption):PG X (.Name x pos) (gName i):=by
 intro pins s σ H v u Q I r h
 exact wpAny_assign_Name (store_ok I hN hi hx r (fun s' I'=>⟨_,H,I',h⟩) hf)
def gNil:TGs:=fun vs σ H Q=>vs=[]/\Q σ H
def gCons (t:TG) (u:TGs):TGs:=fun vs σ H Q=>∃ v r,vs=v :: r/\t v σ H fun σ' H'=>u r σ' H' Q
theorem pgs_nil:PGs X [] gNil:=by
 intro pins s σ H vs us Q I r h
 obtain ⟨e,h⟩:=h
 subst e
 cases r
 exact assignInOrder_nil ⟨σ,H,I,h⟩
theorem pgs_cons {e:Expr} {es:List Expr} {t:TG} {u:TGs} (h1:PG X e t) (h2:PGs X es u)
  (hs:(assignEach (e :: es) X.env).map (·.2)=assign e X.env :: (assignEach es X.env).map (·.2):=by rfl):PGs X (e :: es) (gCons t u):=by
 intro pins s σ H vs us Q I r h
 obtain ⟨v,vr,e1,h⟩:=h
 subst e1
 cases r with
 | cons r rr =>
  rw [hs]
  refine assignInOrder_cons (thn (h1 pins s σ H _ _ _ I r h) fun _ s1 ⟨σ1,H1,I1,q1⟩=>?_)
  exact h2 pins s1 σ1 H1 _ _ Q I1 rr q1
def gTup (K:PySem.W.Frag) (n:Nat) (t:TGs):TG:=fun v σ H Q=>∃ a xs,v = .ref a/\SqT K H a xs/\xs.length=n/\t xs σ H Q
theorem pg_tup {es:List Expr} {k:Nat} {t:TGs} {n:Nat} (hc:X.calm=true) (h:PGs X es t)
  (hn:(assignEach es X.env).length=n:=by rfl) (hst:(assignEach es X.env).findIdx? (·.1)=none:=by rfl):PG X (.Tuple es k pos) (gTup X.K n t):=by
 intro pins s σ H v u Q I r hw
 obtain ⟨a,xs,e1,hq,hl,hw⟩:=hw
 subst e1
 cases r
 obtain ⟨its,rv,ht,hz⟩:=I.tuple hq
 refine assign_Tuple_tuple (I.ok.hd hc) ht (by simp [hn,← hl,rv.length]) hst fun h' hx=>?_
 have I1:Inv X pins σ H { s with heap:=h' }:=I.kept (t':=s.toks) fun b o e=>hx b o (Nat.ne_of_lt (Heap.lt_size e)) e
 exact h pins _ σ H xs _ Q I1 (by simpa using rv) hw
def gSub (to ti:TE) (t:TSet):TG:=fun v σ H Q=>to σ H fun o H1=>ti σ H1 fun i H2=>t o i v H2 fun H3=>Q σ H3
theorem pg_sub {o i:Expr} {to ti:TE} {t:TSet} (ho:PE X o to) (hi:PE X i ti) (hs:PSet X t)
  (ha:∀ v,assign (.Subscript o i pos) X.env v=(do
   let ov ← holding [v] (eval o X.env)
   let iv ← holding [v,ov] (eval i X.env)
   standAt pos
   holding [v,ov,iv] (setItem ov iv v)
   release [v,ov,iv] []):=by intro _; rfl):PG X (.Subscript o i pos) (gSub to ti t):=by
 intro pins s σ H v u Q I r h
 rw [ha]
 refine wpAny_bind (wpAny_holding (thn (ho pins s σ H _ I h) fun ov s1 ⟨x,H1,I1,r1,q1⟩=>?_))
 refine wpAny_bind (wpAny_holding (thn (hi pins s1 σ H1 _ I1 q1) fun iv s2 ⟨y,H2,I2,r2,q2⟩=>?_))
 refine wpAny_bind (wpAny_standAt (wpAny_bind (wpAny_holding (thn (hs pins s2 σ H2 x y v ov iv u _ I2 r1 r2 r q2) fun _ s3 ⟨H3,I3,q3⟩=>?_))))
 exact wpAny_release ⟨σ,H3,I3,q3⟩
def tAsg (te:TE) (g:TG):TS:=fun D σ H=>te σ H fun x H1=>g x σ H1 D.nx
theorem ps_asg {tg e:Expr} {te:TE} {g:TG} (he:PE X e te) (hg:PG X tg g) (hs:swapsWithSole [tg] e pos.line X.env=pure false:=by rfl) (hw:swappedStores [tg] e X.env=pure none:=by rfl)
  (h1:(assignEach [tg] X.env).map (·.2)=[assign tg X.env]:=by rfl):PS X (.Assign [tg] e pos) (tAsg te g):=by
 intro pins s σ H D I h
 refine wpAny_Assign_stores (thn (he pins s σ H _ I h) fun v s1 ⟨x,H1,I1,r1,q1⟩=>?_) hs hw
 rw [h1]
 exact thn (hg pins s1 σ H1 x v _ I1 r1 q1) fun _ s2 q=>q
theorem ps_set {i:Nat} {x:Str} {e:Expr} {te:TE} {pos':Pos} (hN:X.N.Nodup) (hi:X.N[i]? = some x) (hx:Loc X.env.scope x) (he:PE X e te) (hs:swapsWith e (some (.Name x pos')) pos.line X.env=pure false:=by rfl) (hf:X.fn x=true∨X.env.scope.names.lookup x=some .local:=by first | exact .inl rfl | exact .inr rfl | assumption) :
  PS X (.Assign [.Name x pos'] e pos) (tAsg te (gName i)):=by
 intro pins s σ H D I h
 refine wpAny_Assign_Name (thn (he pins s σ H _ I h) fun v s1 ⟨y,H1,I1,r1,q1⟩=>?_) hs
 exact store_ok I1 hN hi hx r1 (fun s2 I2=>⟨_,H1,I2,q1⟩) hf
def tPar (i j:Nat) (ta:TA):TS:=fun D σ H=>ta σ H fun vs H1=>∃ v w,vs=[v,w]/\D.nx ((σ.set i (some v)).set j (some w)) H1
def tAug (i:Nat) (te:TE) (ti:TIp):TS:=fun D σ H=>∃ x,σ[i]? = some (some x)/\te σ H fun y H1=>ti x y H1 fun z H2=>D.nx (σ.set i (some z)) H2
theorem ps_aug {i:Nat} {x:Str} {e:Expr} {te:TE} {op:Operator} {ti:TIp} {pos':Pos} (hN:X.N.Nodup) (hi:X.N[i]? = some x) (hx:Loc X.env.scope x) (he:PE X e te) (ho:PIp X op ti) (hf:X.fn x=true∨X.env.scope.names.lookup x=some .local:=by first | exact .inl rfl | exact .inr rfl | assumption) :
  PS X (.AugAssign (.Name x pos') op e pos) (tAug i te ti):=by
 intro pins s σ H D I h
 obtain ⟨v,e1,h⟩:=h
 obtain ⟨m,hn,hl⟩:=I.loc
 have vis:Vis X.env.scope x:=by rcases hx with k | k; exact .inl k; exact .inr (.inl k)
 obtain ⟨u,r,l⟩:=hl i x v hi e1 vis
 refine wpAny_AugAssign_Name ?_
 have go:wpAny (model X.prog X.w) X.A (eval e X.env) (fun w s₂=>wpAny (model X.prog X.w) X.A (inplaceOp op u w) (fun r s₃=>wpAny (model X.prog X.w) X.A (storeName X.env x r) (fun _=>SP X pins D .next) X.xe s₃) X.xe s₂) X.xe s:=by
  refine thn (he pins s σ H _ I h) fun w s1 ⟨y,H1,I1,r1,q1⟩=>?_
  refine thn (ho pins s1 σ H1 v y u w _ I1 r r1 q1) fun z s2 ⟨zv,H2,I2,r2,q2⟩=>?_
  exact store_ok I2 hN hi hx r2 (fun s3 I3=>⟨_,H2,I3,q2⟩) hf
 rcases l with ⟨hk,hm⟩ | ⟨hk,c,hc,hcell⟩
 ·exact wpAny_loadName_local I.ok.kind hk hn hm go
 ·rcases hk with hk | hk
  ·exact wpAny_loadName_cell I.ok.kind hk hc hcell go
  ·rcases hx with k | k
   ·have:X.env.scope.names.lookup x=some .free:=hk
    rw [k] at this; cases this
   ·have:X.env.scope.names.lookup x=some .free:=hk
    rw [k] at this; cases this
def tAugS (to ti te:TE) (tget:V->V->Hp->VK->Prop) (tip:TIp) (tset:TSet):TS:=fun D σ H=>to σ H fun o H1=>ti σ H1 fun i H2=>tget o i H2 fun x H3=>te σ H3 fun y H4=>tip x y H4 fun z H5=>tset o i z H5 fun H6=>D.nx σ H6
def PGet (X:Cx) (t:V->V->Hp->VK->Prop):Prop :=
 ∀ (pins:List (Addr × Obj)) (s:Shared) (σ:St) (H:Hp) (o i:V) (ov iv:Value) (Q:VK),Inv X pins σ H s->RelV o ov->RelV i iv->t o i H Q ->
  wpAny (model X.prog X.w) X.A (getItem ov iv) (EP X pins σ Q) X.xe s
def ipI (f:Int->Int->Int):TIp:=fun x y H Q=>∃ i j,x = .int i/\y = .int j/\Q (.int (f i j)) H
theorem ip_add:PIp X .Add (ipI fun i j=>i + j):=by
 intro pins s σ H x y v u Q I r1 r2 h
 obtain ⟨i,j,e1,e2,q⟩:=h
 subst e1; subst e2
 obtain ⟨t,rfl⟩:=r1
 obtain ⟨t',rfl⟩:=r2
 exact iadd_int ⟨.int _,H,I.tok _,⟨_,rfl⟩,q⟩
end
section
variable {X:Cx} {pos:Pos}
def tWhile (c:TT) (tb:TS):TS:=fun D σ H=>∃ W:Nat->St->Hp->Prop,(∃ m,W m σ H)/\∀ m σ H,W m σ H ->
 c σ H fun b H1=>if b=true then ∃ N:St->Hp->Prop,(∀ σ' H',N σ' H'->∃ m',m' < m/\W m' σ' H')/\tb { D with nx:=N,ct:=N,bk:=D.nx } σ H1 else D.nx σ H1
theorem ps_while {c:Expr} {body:List Stmt} {tc:TT} {tb:TS} (hp:PassesOwn (model X.prog X.w) X.A X.env X.xe) (hc:PT X c tc) (hb:PSs X body tb):PS X (.While c body [] pos) (tWhile tc tb):=by
 intro pins s σ H D I h
 obtain ⟨W,⟨m0,w0⟩,turn⟩:=h
 refine wpAny_While (codeAny_whileLoop (fun n s'=>∃ σ' H',Inv X pins σ' H' s'/\W n σ' H') ?_ m0 ⟨σ,H,I,w0⟩)
 rintro n s1 ⟨σ1,H1,I1,w1⟩
 refine wpAny_passesOwn hp (thn (hc pins s1 σ1 H1 _ I1 (turn n σ1 H1 w1)) fun b s2 ⟨H2,I2,q2⟩=>?_)
 cases b with
 | true =>
  obtain ⟨N,hN,q2⟩:=q2
  rw [if_pos rfl]
  refine wpAny_passesOwn hp (thn (hb pins s2 σ1 H2 _ I2 q2) fun f s3 q3=>?_)
  cases f with
  | next =>
   obtain ⟨σ3,H3,I3,n3⟩:=q3
   obtain ⟨m',hm,w3⟩:=hN σ3 H3 n3
   exact ⟨m',hm,σ3,H3,I3,w3⟩
  | cont =>
   obtain ⟨σ3,H3,I3,n3⟩:=q3
   obtain ⟨m',hm,w3⟩:=hN σ3 H3 n3
   exact ⟨m',hm,σ3,H3,I3,w3⟩
  | brk=>exact q3
  | ret v=>exact q3
 | false =>
  rw [if_neg Bool.false_ne_true]
  exact wpAny_execs_nil ⟨σ1,H2,I2,q2⟩
end
structure It where
 go:Nat->Hp->Prop
 yld:Nat->Hp->V->Hp->Prop
 stop:Nat->Hp->Prop
def FpOk (X:Cx) (pins:List (Addr × Obj)) (H:Hp) (b:Addr):Prop :=
 H b=none/\b ≠ X.env.locals/\b ∉ X.fs/\(b ∈ X.ex∨X.s₀.heap.objs.size <= b)/\(∀ x c,X.env.cells.lookup x=some c->c ≠ b)/\∀ p ∈ X.pn ++ pins,p.1 ≠ b
theorem Inv.fpOk {X:Cx} {pins:List (Addr × Obj)} {σ:St} {H H':Hp} {s:Shared} {b:Addr} (I:Inv X pins σ H s) (hb:s.heap.objs.size <= b) (hn:H' b=none):FpOk X pins H' b:=by
 refine ⟨hn,Nat.ne_of_gt (Nat.lt_of_lt_of_le I.lt hb),I.nofs hb, .inr (Nat.le_trans I.sz hb),fun x c e z=>?_,fun p hp z=>?_⟩
 ·obtain ⟨v,q⟩:=I.cell x c e
  exact absurd (Nat.lt_of_lt_of_le q.lt (by rw [z]; exact hb)) (Nat.lt_irrefl _)
 ·exact absurd (Nat.lt_of_lt_of_le (Heap.lt_size (I.pin p hp).1) (by rw [z]; exact hb)) (Nat.lt_irrefl _)
structure Turn (P:Program) (w:World) (K:PySem.W.Frag) (tg:Expr) (J:It) (fp:List Addr) (it:Addr) (tn:Nat->Heap->Prop):Prop where
 mem:it ∈ fp
 obj:∀ i h,tn i h->∀ b ∈ fp,∃ o,h.get? b=some o/\∀ v,o.data ≠ .cell v
 keep:∀ i h h',tn i h->(∀ b ∈ fp,∀ o,h.get? b=some o->h'.get? b=some o)->tn i h'
 item:∀ (X:Cx),X.prog=P->X.w=w->X.K=K->X.calm=true->∀ (i:Nat) (pins:List (Addr × Obj)) (s:Shared) (σ:St) (H:Hp) (E:Value->Shared->Prop),Inv X pins σ H s->(∀ b ∈ fp,FpOk X pins H b)->tn i s.heap->J.go i H ->
  wpAny (model P w) X.A (pyNext (.ref it)) (fun r s1=>∃ u,r=some u /\
   wpAny (model P w) X.A (letOwnedTupleGo tg (.ref it) u) (fun _ s2=>∃ x H',Inv X pins σ H' s2/\RelV x u/\J.yld i H x H'/\tn (i + 1) s2.heap/\∀ b ∈ fp,H' b=none) E s1) E s
 done:∀ (X:Cx),X.prog=P->X.w=w->X.K=K->X.calm=true->∀ (i:Nat) (pins:List (Addr × Obj)) (s:Shared) (σ:St) (H:Hp) (E:Value->Shared->Prop),Inv X pins σ H s->(∀ b ∈ fp,FpOk X pins H b)->tn i s.heap->J.stop i H ->
  wpAny (model P w) X.A (pyNext (.ref it)) (fun r s1=>r=none/\Inv X pins σ H s1) E s
 self:∀ (A:Around) (i:Nat) (s:Shared) (Q:Value->Shared->Prop) (E:Value->Shared->Prop),tn i s.heap->Q (.ref it) s->wpAny (model P w) A (pyIter (.ref it)) Q E s
abbrev TI:=St->Hp->(It->Hp->Prop)->Prop
def PIE (X:Cx) (pins:List (Addr × Obj)) (σ:St) (tg:Expr) (R:It->Hp->Prop) (itv:Value) (s2:Shared):Prop :=
 ∃ (it:Addr) (fp:List Addr) (tn:Nat->Heap->Prop) (J:It) (H':Hp),itv = .ref it/\Inv X pins σ H' s2/\Turn X.prog X.w X.K tg J fp it tn/\tn 0 s2.heap/\(∀ b ∈ fp,FpOk X pins H' b)/\R J H'
def PI (X:Cx) (tg iter:Expr) (wi:TI):Prop :=
 ∀ (pins:List (Addr × Obj)) (s:Shared) (σ:St) (H:Hp) (R:It->Hp->Prop),Inv X pins σ H s->wi σ H R ->
  wpAny (model X.prog X.w) X.A (eval iter X.env) (fun v s1=>wpAny (model X.prog X.w) X.A (pyIter v) (PIE X pins σ tg R) X.xe s1) X.xe s
theorem go_of {M:Model} {A:Around} {E:Value->Shared->Prop} {s:Shared} {tg:Expr} {it:Addr} {u:Value} {o:Obj} {n:String} {vs:Array Value} {Q:Unit->Shared->Prop} (ho:s.heap.get? it=some o) (hc:o.cls = .type n) (hd:o.data = .fields vs)
  (hn:["enumerate", "zip", "dict_itemiterator", "dict_reverseitemiterator", "odict_iterator", "itertools.zip_longest", "itertools.pairwise"].contains n=false) (hQ:Q () s):wpAny M A (letOwnedTupleGo tg (.ref it) u) Q E s:=by
 unfold letOwnedTupleGo
 cases tg <;> first
  | exact wpAny_pure hQ
  | (cases u <;> first
    | exact wpAny_pure hQ
    | (refine wpAny_bind (wpAny_load ho ?_)
       rw [hc,hd]
       show wpAny M A (if (["enumerate", "zip", "dict_itemiterator", "dict_reverseitemiterator", "odict_iterator", "itertools.zip_longest", "itertools.pairwise"].contains n && vs[0]? == some (rawInt _))=true then _ else _) Q E s
       rw [if_neg (by intro h; rw [hn,Bool.false_and] at h; cases h)]
       exact wpAny_pure hQ))
def Itl (K:PySem.W.Frag) (a:Addr):It :=
 ⟨fun i H=>∃ xs x,SqL K H a xs/\xs[i]? = some x,fun i H x H'=>H' = H/\∀ xs,SqL K H a xs->xs[i]? = some x,fun i H=>∃ xs,SqL K H a xs/\xs.length <= i⟩
def Itt (K:PySem.W.Frag) (a:Addr):It :=
 ⟨fun i H=>∃ xs x,SqT K H a xs/\xs[i]? = some x,fun i H x H'=>H' = H/\∀ xs,SqT K H a xs->xs[i]? = some x,fun i H=>∃ xs,SqT K H a xs/\xs.length <= i⟩
def Itr (lo:Int) (n:Nat):It:=⟨fun i _=>i < n,fun i H x H'=>H' = H/\x = .int (lo + i),fun i _=>n <= i⟩
theorem turn_list {P:Program} {w:World} {K:PySem.W.Frag} {tg:Expr} (a it:Addr):Turn P w K tg (Itl K a) [it] it (fun i h=>h.IsListIter it a i) where
 mem:=by simp
 obj:=fun i h st b hb=>by
  have e:b=it:=by simpa using hb
  subst e
  obtain ⟨o,e,c,d⟩:=st
  exact ⟨o,e,fun v z=>by rw [d] at z; cases z⟩
 keep:=fun i h h' st k=>st.at fun o e=>k it (by simp) o e
 item:=by
  intro X hP hw hK hc i pins s σ H E I hf st hg
  subst hP hw hK
  obtain ⟨xs,x,hq,hx⟩:=hg
  obtain ⟨its,rv,p,hz⟩:=I.list hq
  obtain ⟨u,hu,ru⟩:=rv.get hx
  obtain ⟨f0,f1,f2,f3,f4,f5⟩:=hf it (by simp)
  refine wpAny_pyNext_list_item st p.isList (x:=u) (by simpa using hu) fun h' st' sb=>?_
  have I1:Inv X pins σ H { s with heap:=h' }:=I.turned (t':=s.toks) (fun b o hb e=>(sb.2 b hb).trans e) f0 f1 f3 f4 f5
  obtain ⟨o,e,c,d⟩:=id st'
  exact ⟨u,rfl,go_of (s:={ s with heap:=h' }) e c d (by decide) ⟨x,H,I1,ru,⟨rfl,fun ys hy=>by rw [I.list_inj hy hq]; exact hx⟩,st',fun b hb=>(hf b hb).1⟩⟩
 done:=by
  intro X hP hw hK hc i pins s σ H E I hf st hg
  subst hP hw hK
  obtain ⟨xs,hq,hx⟩:=hg
  obtain ⟨its,rv,p,hz⟩:=I.list hq
  obtain ⟨f0,f1,f2,f3,f4,f5⟩:=hf it (by simp)
  have hl:=rv.length
  exact wpAny_pyNext_list_end (I.ok.hd hc) st p.isList (by simp; omega) fun h' eb=>⟨rfl,I.turned (t':=s.toks) (fun b o hb e=>eb b o hb e) f0 f1 f3 f4 f5⟩
 self:=fun _ _ _ _ _ st h=>wpAny_pyIter_listiter st h
theorem turn_tuple {P:Program} {w:World} {K:PySem.W.Frag} {tg:Expr} (a it:Addr):Turn P w K tg (Itt K a) [it] it (fun i h=>h.IsTupleIter it a i) where
 mem:=by simp
 obj:=fun i h st b hb=>by
  have e:b=it:=by simpa using hb
  subst e
  obtain ⟨o,e,c,d⟩:=st
  exact ⟨o,e,fun v z=>by rw [d] at z; cases z⟩
 keep:=fun i h h' st k=>st.at fun o e=>k it (by simp) o e
 item:=by
  intro X hP hw hK hc i pins s σ H E I hf st hg
  subst hP hw hK
  obtain ⟨xs,x,hq,hx⟩:=hg
  obtain ⟨its,rv,p,hz⟩:=I.tuple hq
  obtain ⟨u,hu,ru⟩:=rv.get hx
  obtain ⟨f0,f1,f2,f3,f4,f5⟩:=hf it (by simp)
  refine wpAny_pyNext_tuple_item st (show s.heap.IsTuple a its.toArray from p) (x:=u) (by simpa using hu) fun h' st' sb=>?_
  have I1:Inv X pins σ H { s with heap:=h' }:=I.turned (t':=s.toks) (fun b o hb e=>(sb.2 b hb).trans e) f0 f1 f3 f4 f5
  obtain ⟨o,e,c,d⟩:=id st'
  exact ⟨u,rfl,go_of (s:={ s with heap:=h' }) e c d (by decide) ⟨x,H,I1,ru,⟨rfl,fun ys hy=>by rw [I.tuple_inj hy hq]; exact hx⟩,st',fun b hb=>(hf b hb).1⟩⟩
 done:=by
  intro X hP hw hK hc i pins s σ H E I hf st hg
  subst hP hw hK
  obtain ⟨xs,hq,hx⟩:=hg
  obtain ⟨its,rv,p,hz⟩:=I.tuple hq
  obtain ⟨f0,f1,f2,f3,f4,f5⟩:=hf it (by simp)
  have hl:=rv.length
  exact wpAny_pyNext_tuple_end (I.ok.hd hc) st (show s.heap.IsTuple a its.toArray from p) (by simp; omega) fun h' eb=>⟨rfl,I.turned (t':=s.toks) (fun b o hb e=>eb b o hb e) f0 f1 f3 f4 f5⟩
 self:=fun _ _ _ _ _ st h=>wpAny_pyIter_tupleiter st h
theorem turn_range {P:Program} {w:World} {K:PySem.W.Frag} {tg:Expr} (it:Addr) (lo:Int) (n:Nat):Turn P w K tg (Itr lo n) [it] it (fun i h=>IsRangeIter h it (lo + (i:Nat) * 1) ((n:Int) - (i:Nat)) 1) where
 mem:=by simp
 obj:=fun i h st b hb=>by
  have e:b=it:=by simpa using hb
  subst e
  exact ⟨_,st,fun v z=>by
   have z':Data.fields _=Data.cell v:=z
   cases z'⟩
 keep:=fun i h h' st k=>k it (by simp) _ st
 item:=by
  intro X hP hw hK hc i pins s σ H E I hf st hg
  subst hP hw hK
  obtain ⟨f0,f1,f2,f3,f4,f5⟩:=hf it (by simp)
  have W:=Walks.range (prog:=X.prog) (w:=X.w) (I.ok.hd hc) it lo 1 n
  refine W.item i s _ _ hg st fun v h' tk hv st' kk=>?_
  obtain ⟨t,rfl⟩:=hv
  have I1:Inv X pins σ H { s with heap:=h',toks:=tk }:=I.turned (fun b o hb e=>kk b o (by simpa using hb) e) f0 f1 f3 f4 f5
  refine ⟨_,rfl,go_of (s:={ s with heap:=h',toks:=tk }) (n := "range_iterator") st' rfl rfl (by decide) ⟨.int (lo + i),H,I1,⟨t,?_⟩,⟨rfl,rfl⟩,st',fun b hb=>(hf b hb).1⟩⟩
  rw [Int.mul_one]
 done:=by
  intro X hP hw hK hc i pins s σ H E I hf st hg
  subst hP hw hK
  obtain ⟨f0,f1,f2,f3,f4,f5⟩:=hf it (by simp)
  exact wpAny_pyNext_range_end (I.ok.hd hc) st (by have:n <= i:=hg; omega) fun h' eb=>⟨rfl,I.turned (t':=s.toks) (fun b o hb e=>eb b o hb e) f0 f1 f3 f4 f5⟩
 self:=fun _ _ _ _ _ st h=>wpAny_pyIter_rangeiter st h
end L2
namespace L2
open PySem PySem.Spec PyProof.Rows
section
variable {X:Cx} {tg:Expr}
def iList (K:PySem.W.Frag) (tl:TE):TI:=fun σ H R=>tl σ H fun x H1=>∃ a,x = .ref a/\(∃ xs,SqL K H1 a xs)/\R (Itl K a) H1
def iTup (K:PySem.W.Frag) (tl:TE):TI:=fun σ H R=>tl σ H fun x H1=>∃ a,x = .ref a/\(∃ xs,SqT K H1 a xs)/\R (Itt K a) H1
theorem pi_list {l:Expr} {tl:TE} (hl:PE X l tl):PI X tg l (iList X.K tl):=by
 intro pins s σ H R I h
 refine thn (hl pins s σ H _ I h) fun v s1 ⟨x,H1,I1,r1,q1⟩=>?_
 obtain ⟨a,e,⟨xs,hq⟩,q⟩:=q1
 subst e
 cases r1
 obtain ⟨its,rv,p,hz⟩:=I1.list hq
 refine wpAny_pyIter_list p.isList ?_
 refine ⟨s1.heap.objs.size,[s1.heap.objs.size],_,_,H1,rfl,I1.kept (t':=s1.toks) fun b o e=>Heap.get?_push_of_some _ e,turn_list a _,⟨_,Heap.get?_push_size _ rfl,rfl,rfl⟩,fun b hb=>?_,q⟩
 have e:b=s1.heap.objs.size:=by simpa using hb
 subst e
 exact I1.fpOk (Nat.le_refl _) (I1.hok.fresh (Nat.le_refl _))
theorem pi_tup {l:Expr} {tl:TE} (hl:PE X l tl):PI X tg l (iTup X.K tl):=by
 intro pins s σ H R I h
 refine thn (hl pins s σ H _ I h) fun v s1 ⟨x,H1,I1,r1,q1⟩=>?_
 obtain ⟨a,e,⟨xs,hq⟩,q⟩:=q1
 subst e
 cases r1
 obtain ⟨its,rv,p,hz⟩:=I1.tuple hq
 refine wpAny_pyIter_tuple (show s1.heap.IsTuple a its.toArray from p) ?_
 refine ⟨s1.heap.objs.size,[s1.heap.objs.size],_,_,H1,rfl,I1.kept (t':=s1.toks) fun b o e=>Heap.get?_push_of_some _ e,turn_tuple a _,⟨_,Heap.get?_push_size _ rfl,rfl,rfl⟩,fun b hb=>?_,q⟩
 have e:b=s1.heap.objs.size:=by simpa using hb
 subst e
 exact I1.fpOk (Nat.le_refl _) (I1.hok.fresh (Nat.le_refl _))
theorem range_it {pins:List (Addr × Obj)} {σ:St} {H:Hp} {s:Shared} {R:It->Hp->Prop} {E:Value->Shared->Prop} {lo hi:Int} {t u v:Tok} {tk:Nat} (I:Inv X pins σ H s) (h1:-(2 ^ 62) <= lo) (h2:lo < 2 ^ 62) (h3:-(2 ^ 62) <= hi) (h4:hi < 2 ^ 62)
  (q:R (Itr lo (hi - lo).toNat) H):wpAny (model X.prog X.w) X.A (pyIter (.ref s.heap.objs.size)) (PIE X pins σ tg R) E { s with heap:=s.heap.push { cls := .type "range",data := .fields #[.int lo t, .int hi u, .int 1 v] },toks:=tk }:=by
 refine wpAny_pyIter_range (IsRange.new ..) (small_one h1 h2 h3 h4) ?_
 have I1:Inv X pins σ H { s with heap:=s.heap.push { cls := .type "range",data := .fields #[.int lo t, .int hi u, .int 1 v] },toks:=tk }:=I.kept fun b o e=>Heap.get?_push_of_some _ e
 refine ⟨(s.heap.push { cls := .type "range",data := .fields #[.int lo t, .int hi u, .int 1 v] }).objs.size,[(s.heap.push { cls := .type "range",data := .fields #[.int lo t, .int hi u, .int 1 v] }).objs.size],_,_,H,rfl,
  I1.kept (t':=tk) fun b o e=>Heap.get?_push_of_some _ e,turn_range _ lo (hi - lo).toNat,?_,fun b hb=>?_,q⟩
 ·have e1:lo + ((0:Nat):Int) * 1=lo:=by simp
  have e2:(((hi - lo).toNat:Nat):Int) - ((0:Nat):Int)=Builtin.Range.rangeSize lo hi 1:=by rw [rangeSize_one]; split <;> omega
  show IsRangeIter _ _ (lo + ((0:Nat):Int) * 1) ((((hi - lo).toNat:Nat):Int) - ((0:Nat):Int)) 1
  rw [e1,e2]
  exact Heap.get?_push_size _ rfl
 ·have e:b=(s.heap.push { cls := .type "range",data := .fields #[.int lo t, .int hi u, .int 1 v] }).objs.size:=by simpa using hb
  subst e
  exact I1.fpOk (Nat.le_refl _) (I1.hok.fresh (Nat.le_refl _))
def iRng1 (ta:TA):TI:=fun σ H R=>ta σ H fun vs H1=>∃ j:Int,vs=[.int j]/\-(2 ^ 62) <= j/\j < 2 ^ 62/\R (Itr 0 j.toNat) H1
def iRng2 (ta:TA):TI:=fun σ H R=>ta σ H fun vs H1=>∃ i j:Int,vs=[.int i, .int j]/\(-(2 ^ 62) <= i/\i < 2 ^ 62/\-(2 ^ 62) <= j/\j < 2 ^ 62)/\R (Itr i (j - i).toNat) H1
theorem pi_range1 {a:Expr} {ta:TA} {p pos:Pos} (hg:Gl X "range") (hm:X.mg "range" = none) (ha:PA X [a] ta) (hs:starEach [a] X.env=[(false,eval a X.env)]:=by rfl):PI X tg (.Call (.Name "range" p) [a] [] pos) (iRng1 ta):=by
 intro pins s σ H R I h
 refine Call_ (ld_blt I hg hm boot_range (PyProof.Rows.callWith_type1 (thn (ha pos pins s σ H _ I h) fun us s1 ⟨vs,H1,I1,r1,q1⟩=>?_) hs rfl))
 obtain ⟨j,e,q1,q2,q⟩:=q1
 subst e
 cases r1 with
 | cons r rr =>
  cases rr
  obtain ⟨t,rfl⟩:=r
  exact call_range_1 (range_it I1 (by omega) (by omega) q1 q2 (by simpa using q))
theorem pi_range2 {a b:Expr} {ta:TA} {p pos:Pos} (hg:Gl X "range") (hm:X.mg "range" = none) (ha:PA X [a,b] ta) (hs:starEach [a,b] X.env=[(false,eval a X.env),(false,eval b X.env)]:=by rfl) (hs2:starEach [b] X.env=[(false,eval b X.env)]:=by rfl) :
  PI X tg (.Call (.Name "range" p) [a,b] [] pos) (iRng2 ta):=by
 intro pins s σ H R I h
 refine Call_ (ld_blt I hg hm boot_range (PyProof.Rows.callWith_type1 (thn (ha pos pins s σ H _ I h) fun us s1 ⟨vs,H1,I1,r1,q1⟩=>?_) (by rw [hs,hs2]) (by rw [hs2]; rfl)))
 obtain ⟨i,j,e,⟨q1,q2,q3,q4⟩,q⟩:=q1
 subst e
 cases r1 with
 | cons r rr =>
  cases rr with
  | cons r' rr =>
   cases rr
   obtain ⟨t,rfl⟩:=r
   obtain ⟨t',rfl⟩:=r'
   exact call_range_2 (range_it I1 q1 q2 q3 q4 q)
def tFor (wi:TI) (g:TG) (tb:TS):TS:=fun D σ H=>wi σ H fun J H1=>∃ W:Nat->Nat->St->Hp->Prop,(∃ m,W 0 m σ H1)/\∀ i m σ H,W i m σ H ->
 (J.stop i H/\D.nx σ H)∨(J.go i H/\∃ N:St->Hp->Prop,(∀ σ' H',N σ' H'->∃ m',m' < m/\W (i + 1) m' σ' H')/\∀ x H',J.yld i H x H'->g x σ H' fun σ2 H2=>tb { D with nx:=N,ct:=N,bk:=D.nx } σ2 H2)
def pinsAt (fp:List Addr) (h:Heap):List (Addr × Obj):=fp.filterMap fun b=>(h.get? b).map fun o=>(b,o)
theorem mem_pinsAt {fp:List Addr} {h:Heap} {b:Addr} {o:Obj} (hb:b ∈ fp) (e:h.get? b=some o):(b,o) ∈ pinsAt fp h:=List.mem_filterMap.mpr ⟨b,hb,by rw [e]; rfl⟩
theorem of_pinsAt {fp:List Addr} {h:Heap} {p:Addr × Obj} (hp:p ∈ pinsAt fp h):p.1 ∈ fp/\h.get? p.1=some p.2:=by
 obtain ⟨b,hb,e⟩:=List.mem_filterMap.mp hp
 cases q:h.get? b with
 | none=>rw [q] at e; cases e
 | some o =>
  rw [q] at e
  have e':(b,o)=p:=Option.some.inj e
  subst e'
  exact ⟨hb,q⟩
theorem Inv.pinned {pins:List (Addr × Obj)} {σ:St} {H:Hp} {s:Shared} {fp:List Addr} (I:Inv X pins σ H s) (hf:∀ b ∈ fp,FpOk X pins H b) (ho:∀ b ∈ fp,∃ o,s.heap.get? b=some o/\∀ v,o.data ≠ .cell v):Inv X (pins ++ pinsAt fp s.heap) σ H s :=
 I.pins_of fun p hp=>(List.mem_append.mp hp).elim (fun z=>I.pin p (List.mem_append_right _ z)) fun z=>by
  obtain ⟨hb,e⟩:=of_pinsAt z
  obtain ⟨f0,f1,f2,_⟩:=hf p.1 hb
  obtain ⟨o,e',d⟩:=ho p.1 hb
  rw [e] at e'; cases e'
  exact ⟨e,f0,f1,f2,d⟩
theorem Inv.unpinned {pins pl:List (Addr × Obj)} {σ:St} {H:Hp} {s:Shared} (I:Inv X (pins ++ pl) σ H s):Inv X pins σ H s:=I.pins_of fun p hp=>I.pin p (List.mem_append_right _ (List.mem_append_left _ hp))
theorem ps_for {iter:Expr} {body:List Stmt} {wi:TI} {g:TG} {tb:TS} {pos:Pos} (hp:PassesOwn (model X.prog X.w) X.A X.env X.xe) (hc:X.calm=true) (hi:PI X tg iter wi) (hg:PG X tg g) (hb:PSs X body tb)
  (hs:∀ x,foldedSetIterable iter X.env x=pure x:=by intro _; rfl):PS X (.For tg iter body [] pos) (tFor wi g tb):=by
 intro pins s σ H D I h
 refine wpAny_For (thn (hi pins s σ H _ I h) fun v s1 h1=>thn h1 fun itv s2 h2=>?_) hs
 obtain ⟨it,fp,tn,J,H2,e,I2,T,st2,f2,W,⟨m0,w0⟩,turn⟩:=h2
 subst e
 have stat:∀ {H':Hp},(∀ b ∈ fp,H' b=none)->∀ b ∈ fp,FpOk X pins H' b:=fun hn b hb=>⟨hn b hb,(f2 b hb).2⟩
 refine codeAny_forLoop_any (fun n s'=>∃ i σ' H',Inv X pins σ' H' s'/\tn i s'.heap/\(∀ b ∈ fp,H' b=none)/\W i n σ' H') ?_ m0 ⟨0,σ,H2,I2,st2,fun b hb=>(f2 b hb).1,w0⟩
 rintro n s3 ⟨i,σ3,H3,I3,st3,fr3,w3⟩
 rcases turn i n σ3 H3 w3 with ⟨stop,qn⟩ | ⟨go,N,hN,step⟩
 ·refine wpAny_passesOwn hp (thn (T.done X rfl rfl rfl hc i pins s3 σ3 H3 X.xe I3 (stat fr3) st3 stop) fun r s4 ⟨hr,I4⟩=>?_)
  subst hr
  exact wpAny_execs_nil ⟨σ3,H3,I4,qn⟩
 ·refine wpAny_passesOwn hp (thn (T.item X rfl rfl rfl hc i pins s3 σ3 H3 X.xe I3 (stat fr3) st3 go) fun r s4 ⟨u,hr,h4⟩=>?_)
  subst hr
  refine wpAny_passesOwn hp (thn h4 fun _ s5 ⟨x,H5,I5,r5,y5,st5,fr5⟩=>?_)
  have I5':=I5.pinned (stat fr5) (T.obj _ _ st5)
  refine wpAny_passesOwn hp (thn (hg _ s5 σ3 H5 x u _ I5' r5 (step x H5 y5)) fun _ s6 ⟨σ6,H6,I6,q6⟩=>?_)
  refine wpAny_passesOwn hp (thn (hb _ s6 σ6 H6 _ I6 q6) fun f s7 q7=>?_)
  have again:∀ {σ7:St} {H7:Hp},Inv X (pins ++ pinsAt fp s5.heap) σ7 H7 s7->N σ7 H7->∃ m,m < n/\∃ i σ' H',Inv X pins σ' H' s7/\tn i s7.heap/\(∀ b ∈ fp,H' b=none)/\W i m σ' H':=fun {σ7 H7} I7 n7=>by
   obtain ⟨m',hm,w7⟩:=hN σ7 H7 n7
   refine ⟨m',hm,i + 1,σ7,H7,I7.unpinned,T.keep _ _ _ st5 fun b hb o e=>(I7.pin (b,o) (List.mem_append_right _ (List.mem_append_right _ (mem_pinsAt hb e)))).1,fun b hb=>?_,w7⟩
   obtain ⟨o,e,d⟩:=T.obj _ _ st5 b hb
   exact (I7.pin (b,o) (List.mem_append_right _ (List.mem_append_right _ (mem_pinsAt hb e)))).2.1
  cases f with
  | next=>obtain ⟨σ7,H7,I7,n7⟩:=q7; exact again I7 n7
  | cont=>obtain ⟨σ7,H7,I7,n7⟩:=q7; exact again I7 n7
  | brk=>obtain ⟨σ7,H7,I7,q7⟩:=q7; exact ⟨σ7,H7,I7.unpinned,q7⟩
  | ret v=>obtain ⟨x7,σ7,H7,I7,r7,q7⟩:=q7; exact ⟨x7,σ7,H7,I7.unpinned,r7,q7⟩
end
theorem for_list {K:PySem.W.Frag} {a:Addr} {xs:List V} {g:TG} {tb:TS} {D:Ends} {σ:St} {H:Hp} (Pv:Nat->St->Hp->Prop) (h0:Pv 0 σ H) (hl:∀ i σ H,i <= xs.length->Pv i σ H->SqL K H a xs)
  (hs:∀ i x σ H,xs[i]? = some x->Pv i σ H->g x σ H fun σ2 H2=>tb { D with nx:=Pv (i + 1),ct:=Pv (i + 1),bk:=D.nx } σ2 H2) (hd:∀ σ H,Pv xs.length σ H->D.nx σ H) :
  ∃ W:Nat->Nat->St->Hp->Prop,(∃ m,W 0 m σ H)/\∀ i m σ H,W i m σ H ->
   ((Itl K a).stop i H/\D.nx σ H)∨((Itl K a).go i H/\∃ N:St->Hp->Prop,(∀ σ' H',N σ' H'->∃ m',m' < m/\W (i + 1) m' σ' H')/\∀ x H',(Itl K a).yld i H x H'->g x σ H' fun σ2 H2=>tb { D with nx:=N,ct:=N,bk:=D.nx } σ2 H2):=by
 refine ⟨fun i m σ H=>m=xs.length - i/\i <= xs.length/\Pv i σ H,⟨xs.length,by simp,Nat.zero_le _,h0⟩,?_⟩
 rintro i m σ H ⟨rfl,hi,p⟩
 have q:=hl i σ H hi p
 by_cases hlt:i < xs.length
 ·refine .inr ⟨⟨xs,xs[i],q,by simp [hlt]⟩,Pv (i + 1),fun σ' H' p'=>⟨xs.length - (i + 1),by omega,rfl,hlt,p'⟩,fun x H' y=>?_⟩
  obtain ⟨e,y⟩:=y
  subst e
  exact hs i x σ _ (y xs q) p
 ·have e:i=xs.length:=by omega
  subst e
  exact .inl ⟨⟨xs,q,Nat.le_refl _⟩,hd σ H p⟩
theorem for_range {lo:Int} {n:Nat} {g:TG} {tb:TS} {D:Ends} {σ:St} {H:Hp} (Pv:Nat->St->Hp->Prop) (h0:Pv 0 σ H)
  (hs:∀ i σ H,i < n->Pv i σ H->g (.int (lo + i)) σ H fun σ2 H2=>tb { D with nx:=Pv (i + 1),ct:=Pv (i + 1),bk:=D.nx } σ2 H2) (hd:∀ σ H,Pv n σ H->D.nx σ H) :
  ∃ W:Nat->Nat->St->Hp->Prop,(∃ m,W 0 m σ H)/\∀ i m σ H,W i m σ H ->
   ((Itr lo n).stop i H/\D.nx σ H)∨((Itr lo n).go i H/\∃ N:St->Hp->Prop,(∀ σ' H',N σ' H'->∃ m',m' < m/\W (i + 1) m' σ' H')/\∀ x H',(Itr lo n).yld i H x H'->g x σ H' fun σ2 H2=>tb { D with nx:=N,ct:=N,bk:=D.nx } σ2 H2):=by
 refine ⟨fun i m σ H=>m=n - i/\i <= n/\Pv i σ H,⟨n,by simp,Nat.zero_le _,h0⟩,?_⟩
 rintro i m σ H ⟨rfl,hi,p⟩
 by_cases hlt:i < n
 ·refine .inr ⟨hlt,Pv (i + 1),fun σ' H' p'=>⟨n - (i + 1),by omega,rfl,hlt,p'⟩,fun x H' y=>?_⟩
  obtain ⟨e,y⟩:=y
  subst e y
  exact hs i σ _ hlt p
 ·have e:i=n:=by omega
  subst e
  exact .inl ⟨Nat.le_refl _,hd σ H p⟩
end L2
namespace L2
open PySem PySem.Spec PyProof.Rows
abbrev R2:=V->V->Hp->VK->Prop
def OpR (X:Cx) (f:Value->Value->Sem Value) (r:R2):Prop :=
 ∀ (pins:List (Addr × Obj)) (s:Shared) (σ:St) (H:Hp) (x y:V) (v u:Value) (Q:VK),Inv X pins σ H s->RelV x v->RelV y u->r x y H Q ->
  wpAny (model X.prog X.w) X.A (f v u) (EP X pins σ Q) X.xe s
def UnR (X:Cx) (f:Value->Sem Value) (r:V->Hp->VK->Prop):Prop :=
 ∀ (pins:List (Addr × Obj)) (s:Shared) (σ:St) (H:Hp) (x:V) (v:Value) (Q:VK),Inv X pins σ H s->RelV x v->r x H Q ->
  wpAny (model X.prog X.w) X.A (f v) (EP X pins σ Q) X.xe s
def CallR (X:Cx) (f:Value) (r:List V->Hp->VK->Prop):Prop :=
 ∀ (pins:List (Addr × Obj)) (s:Shared) (σ:St) (H:Hp) (xs:List V) (us:List Value) (Q:VK),Inv X pins σ H s->Vals xs us->r xs H Q ->
  wpAny (model X.prog X.w) X.A (call f us) (EP X pins σ Q) X.xe s
def TruR (X:Cx) (r:V->Hp->(Bool->Hp->Prop)->Prop):Prop :=
 ∀ (pins:List (Addr × Obj)) (s:Shared) (σ:St) (H:Hp) (x:V) (v:Value) (Q:Bool->Hp->Prop),Inv X pins σ H s->RelV x v->r x H Q ->
  wpAny (model X.prog X.w) X.A (truthy v) (TP X pins σ Q) X.xe s
def tOp (r:R2) (ta tb:TE):TE:=fun σ H Q=>ta σ H fun x H1=>tb σ H1 fun y H2=>r x y H2 Q
def tUn (r:V->Hp->VK->Prop) (ta:TE):TE:=fun σ H Q=>ta σ H fun x H1=>r x H1 Q
def rI (C:Int->Int->Prop) (g:Int->Int->V):R2:=fun x y H Q=>∃ i j,x = .int i/\y = .int j/\C i j/\Q (g i j) H
def rI0 (g:Int->Int->V):R2:=fun x y H Q=>∃ i j,x = .int i/\y = .int j/\Q (g i j) H
def rU (g:Int->V):V->Hp->VK->Prop:=fun x H Q=>∃ i,x = .int i/\Q (g i) H
section
variable {X:Cx} {a b c:Expr} {ta tb tc:TE} {pos:Pos}
theorem binT (ha:PE X a ta) (hb:PE X b tb) {pins:List (Addr × Obj)} {s:Shared} {σ:St} {H:Hp} {R:V->V->Hp->Prop} (I:Inv X pins σ H s)
  (h:ta σ H fun x H1=>tb σ H1 fun y H2=>R x y H2) {Q:Value->Shared->Prop} {f:Value->Value->Sem Value}
  (hf:∀ v u s2 x y H2,Inv X pins σ H2 s2->RelV x v->RelV y u->R x y H2->wpAny (model X.prog X.w) X.A (f v u) Q X.xe s2) :
  wpAny (model X.prog X.w) X.A (eval a X.env) (fun v s₁=>wpAny (model X.prog X.w) X.A (eval b X.env) (fun u s₂=>wpAny (model X.prog X.w) X.A (f v u) Q X.xe s₂) X.xe s₁) X.xe s:=by
 refine thn (ha pins s σ H _ I h) fun v s1 ⟨x,H1,I1,r1,q1⟩=>?_
 refine thn (hb pins s1 σ H1 _ I1 q1) fun u s2 ⟨y,H2,I2,r2,q2⟩=>?_
 exact hf v u s2 x y H2 I2 r1 r2 q2
theorem pe_op {op:Operator} {r:R2} (ho:OpR X (binaryOp op) r) (ha:PE X a ta) (hb:PE X b tb):PE X (.BinOp a op b pos) (tOp r ta tb):=by
 intro pins s σ H Q I h
 exact wpAny_BinOp (binT ha hb I h fun v u s2 x y H2 I2 rx ry q=>ho pins s2 σ H2 x y v u Q I2 rx ry q)
theorem pe_un {op:UnaryOp} {r:V->Hp->VK->Prop} (ho:UnR X (unaryOp op) r) (ha:PE X a ta):PE X (.UnaryOp op a pos) (tUn r ta):=by
 intro pins s σ H Q I h
 exact UnaryOp_ (thn (ha pins s σ H _ I h) fun v s1 ⟨x,H1,I1,r1,q1⟩=>ho pins s1 σ H1 x v Q I1 r1 q1)
theorem opI {f:Value->Value->Sem Value} {C:Int->Int->Prop} {g:Int->Int->Int}
  (rule:∀ (i j:Int) (t u:Tok) (s:Shared) (Q:Value->Shared->Prop) (E:Value->Shared->Prop),C i j->Q (.int (g i j) s.toks) { s with toks:=s.toks + 1 }->wpAny (model X.prog X.w) X.A (f (.int i t) (.int j u)) Q E s) :
  OpR X f (rI C fun i j => .int (g i j)):=by
 intro pins s σ H x y v u Q I rx ry h
 obtain ⟨i,j,rfl,rfl,hc,q⟩:=h
 obtain ⟨t,rfl⟩:=rx
 obtain ⟨t',rfl⟩:=ry
 exact rule i j t t' s _ _ hc ⟨.int (g i j),H,I.tok _,⟨_,rfl⟩,q⟩
theorem opI0 {f:Value->Value->Sem Value} {g:Int->Int->Int}
  (rule:∀ (i j:Int) (t u:Tok) (s:Shared) (Q:Value->Shared->Prop) (E:Value->Shared->Prop),Q (.int (g i j) s.toks) { s with toks:=s.toks + 1 }->wpAny (model X.prog X.w) X.A (f (.int i t) (.int j u)) Q E s) :
  OpR X f (rI0 fun i j => .int (g i j)):=by
 intro pins s σ H x y v u Q I rx ry h
 obtain ⟨i,j,rfl,rfl,q⟩:=h
 obtain ⟨t,rfl⟩:=rx
 obtain ⟨t',rfl⟩:=ry
 exact rule i j t t' s _ _ ⟨.int (g i j),H,I.tok _,⟨_,rfl⟩,q⟩
theorem opB0 {f:Value->Value->Sem Value} {g:Int->Int->Bool}
  (rule:∀ (i j:Int) (t u:Tok) (s:Shared) (Q:Value->Shared->Prop) (E:Value->Shared->Prop),Q (.bool (g i j)) s->wpAny (model X.prog X.w) X.A (f (.int i t) (.int j u)) Q E s) :
  OpR X f (rI0 fun i j => .bl (g i j)):=by
 intro pins s σ H x y v u Q I rx ry h
 obtain ⟨i,j,rfl,rfl,q⟩:=h
 obtain ⟨t,rfl⟩:=rx
 obtain ⟨t',rfl⟩:=ry
 exact rule i j t t' s _ _ ⟨.bl (g i j),H,I,rfl,q⟩
def CDiv (i j:Int):Prop:=0 < j/\j < 1073741824
def CDivN (i j:Int):Prop:=j ≠ 0/\j.natAbs < 1073741824
def CPow (i j:Int):Prop:=0 <= j/\j <= 1000000/\i.natAbs < 2 ^ 64
def CMul (i j:Int):Prop:=(-(2 ^ 64) < i/\i < 2 ^ 64)∨(-(2 ^ 64) < j/\j < 2 ^ 64)
theorem CMul.ok {i j:Int} (h:CMul i j):IntMulOk i j:=by
 rcases h with ⟨h1,h2⟩ | ⟨h1,h2⟩
 ·exact .of_left (intBits_le_64 h1 h2)
 ·exact .of_right (intBits_le_64 h1 h2)
theorem two_pow_nn (k:Nat):(0:Int) <= 2 ^ k:=by
 rw [two_pow_cast]
 exact Int.natCast_nonneg _
theorem op_add:OpR X (binaryOp .Add) (rI0 fun i j => .int (i + j)):=opI0 fun _ _ _ _ _ _ _ q=>add_int q
theorem op_sub:OpR X (binaryOp .Sub) (rI0 fun i j => .int (i - j)):=opI0 fun _ _ _ _ _ _ _ q=>sub_int q
theorem op_mul:OpR X (binaryOp .Mult) (rI CMul fun i j => .int (i * j)):=opI fun _ _ _ _ _ _ _ hc q=>mul_int q hc.ok
theorem op_fdiv:OpR X (binaryOp .FloorDiv) (rI CDiv fun i j => .int (i / j)):=opI fun i j _ _ _ _ _ hc q=>by
 have h1:(0:Int) < j:=hc.1
 have h2:j < 1073741824:=hc.2
 exact floordiv_int (by omega) (by rw [Int.fdiv_eq_ediv_of_nonneg i (by omega)]; exact q) (.inl (PyProof.noPylong_small (by omega)))
theorem op_mod:OpR X (binaryOp .Mod) (rI (fun _ j=>0 < j) fun i j => .int (i % j)):=opI fun i j _ _ _ _ _ hc q=>by
 have h1:(0:Int) < j:=hc
 exact mod_int' (by omega) (by rw [Int.fmod_eq_emod_of_nonneg i (by omega)]; exact q)
theorem op_pow:OpR X (binaryOp .Pow) (rI CPow fun i j => .int (i ^ j.toNat)):=opI fun _ _ _ _ _ _ _ hc q=>pow_int_small hc.1 hc.2.1 hc.2.2 q
theorem op_shl:OpR X (binaryOp .LShift) (rI CPow fun i j => .int (i * 2 ^ j.toNat)):=opI fun _ _ _ _ _ _ _ hc q=>lshift_int_small hc.1 hc.2.1 hc.2.2 q
theorem op_shr:OpR X (binaryOp .RShift) (rI (fun _ j=>0 <= j) fun i j => .int (i / 2 ^ j.toNat)):=opI fun i j _ _ _ _ _ hc q =>
 rshift_int hc (by rw [Int.fdiv_eq_ediv_of_nonneg i (two_pow_nn _)]; exact q)
theorem op_and:OpR X (binaryOp .BitAnd) (rI0 fun i j => .int (Builtin.bitAnd i j)):=opI0 fun _ _ _ _ _ _ _ q=>and_int q
theorem op_or:OpR X (binaryOp .BitOr) (rI0 fun i j => .int (Builtin.bitOr i j)):=opI0 fun _ _ _ _ _ _ _ q=>or_int q
theorem unI {f:Value->Sem Value} {g:Int->Int}
  (rule:∀ (i:Int) (t:Tok) (s:Shared) (Q:Value->Shared->Prop) (E:Value->Shared->Prop),Q (.int (g i) s.toks) { s with toks:=s.toks + 1 }->wpAny (model X.prog X.w) X.A (f (.int i t)) Q E s) :
  UnR X f (rU fun i => .int (g i)):=by
 intro pins s σ H x v Q I rx h
 obtain ⟨i,rfl,q⟩:=h
 obtain ⟨t,rfl⟩:=rx
 exact rule i t s _ _ ⟨.int (g i),H,I.tok _,⟨_,rfl⟩,q⟩
theorem un_inv:UnR X (unaryOp .Invert) (rU fun i => .int (Builtin.bitNot i)):=unI fun _ _ _ _ _ q=>invert_int q
end
def scal:V->V->Bool
 | .non, .non=>true | .non, .int _=>true | .int _, .non=>true | .non, .bl _=>true | .bl _, .non=>true | .non, .str _=>true | .str _, .non=>true
 | .int _, .int _=>true | .bl _, .bl _=>true | .str _, .str _=>true | .byt _, .byt _=>true
 | .int _, .str _=>true | .str _, .int _=>true | .bl _, .str _=>true | .str _, .bl _=>true
 | _,_=>false
def rEq:R2:=fun x y H Q=>scal x y=true/\Q (.bl (decide (x=y))) H
def rNe:R2:=fun x y H Q=>scal x y=true/\Q (.bl (!decide (x=y))) H
theorem dec_int {i j:Int}:decide (V.int i=V.int j)=(i == j):=by
 rw [Bool.eq_iff_iff]
 simp
theorem dec_bl {i j:Bool}:decide (V.bl i=V.bl j)=(i == j):=by
 rw [Bool.eq_iff_iff]
 simp
theorem dec_str {i j:Str}:decide (V.str i=V.str j)=(i == j):=by
 rw [Bool.eq_iff_iff]
 simp
theorem dec_byt {i j:Array UInt8}:decide (V.byt i=V.byt j)=(i.toList == j.toList):=by
 rw [Bool.eq_iff_iff]
 cases i
 cases j
 simp
section
variable {X:Cx} {a b c:Expr} {ta tb tc:TE} {pos:Pos}
theorem fin_bl {pins:List (Addr × Obj)} {σ:St} {H:Hp} {s:Shared} {Q:VK} {k k':Bool} (I:Inv X pins σ H s) (q:Q (.bl k) H) (e:k=k'):EP X pins σ Q (.bool k') s:=by
 subst e
 exact ⟨.bl k,H,I,rfl,q⟩
theorem op_eq:OpR X (compareOp .Eq) rEq:=by
 intro pins s σ H x y v u Q I rx ry h
 obtain ⟨hs,q⟩:=h
 cases x with
 | non =>
  cases rx
  cases y with
  | non=>cases ry; exact PySem.EqNone.eq_none_none (fin_bl I q (by simp))
  | bl j=>cases ry; exact PySem.EqNone.eq_none_bool (fin_bl I q (by simp))
  | int j=>obtain ⟨t',rfl⟩:=ry; exact PySem.EqNone.eq_none_int (fin_bl I q (by simp))
  | str j=>obtain ⟨t',rfl⟩:=ry; exact PySem.EqNone.eq_none_str (fin_bl I q (by simp))
  | _=>exact absurd (show false=true from hs) Bool.false_ne_true
 | bl i =>
  cases rx
  cases y with
  | non=>cases ry; exact PySem.EqNone.eq_bool_none (fin_bl I q (by simp))
  | bl j=>cases ry; exact eq_bool (fin_bl I q dec_bl)
  | str j=>obtain ⟨t',rfl⟩:=ry; exact PySem.EqMixed.eq_bool_str (fin_bl I q (by simp))
  | _=>exact absurd (show false=true from hs) Bool.false_ne_true
 | int i =>
  obtain ⟨t,rfl⟩:=rx
  cases y with
  | non=>cases ry; exact PySem.EqNone.eq_int_none (fin_bl I q (by simp))
  | int j=>obtain ⟨t',rfl⟩:=ry; exact eq_int (fin_bl I q dec_int)
  | str j=>obtain ⟨t',rfl⟩:=ry; exact PySem.EqMixed.eq_int_str (fin_bl I q (by simp))
  | _=>exact absurd (show false=true from hs) Bool.false_ne_true
 | str i =>
  obtain ⟨t,rfl⟩:=rx
  cases y with
  | non=>cases ry; exact PySem.EqNone.eq_str_none (fin_bl I q (by simp))
  | bl j=>cases ry; exact PySem.EqMixed.eq_str_bool (fin_bl I q (by simp))
  | int j=>obtain ⟨t',rfl⟩:=ry; exact PySem.EqMixed.eq_str_int (fin_bl I q (by simp))
  | str j=>obtain ⟨t',rfl⟩:=ry; exact eq_str (fin_bl I q dec_str)
  | _=>exact absurd (show false=true from hs) Bool.false_ne_true
 | byt i =>
  obtain ⟨t,rfl⟩:=rx
  cases y with
  | byt j=>obtain ⟨t',rfl⟩:=ry; exact PySem.W.eq_bytes (fin_bl I q dec_byt)
  | _=>exact absurd (show false=true from hs) Bool.false_ne_true
 | _=>cases y <;> exact absurd (show false=true from hs) Bool.false_ne_true
theorem op_ne:OpR X (compareOp .NotEq) rNe:=by
 intro pins s σ H x y v u Q I rx ry h
 obtain ⟨hs,q⟩:=h
 cases x with
 | non =>
  cases rx
  cases y with
  | non=>cases ry; exact PySem.EqNone.ne_none_none (fin_bl I q (by simp))
  | bl j=>cases ry; exact PySem.EqNone.ne_none_bool (fin_bl I q (by simp))
  | int j=>obtain ⟨t',rfl⟩:=ry; exact PySem.EqNone.ne_none_int (fin_bl I q (by simp))
  | str j=>obtain ⟨t',rfl⟩:=ry; exact PySem.EqNone.ne_none_str (fin_bl I q (by simp))
  | _=>exact absurd (show false=true from hs) Bool.false_ne_true
 | bl i =>
  cases rx
  cases y with
  | non=>cases ry; exact PySem.EqNone.ne_bool_none (fin_bl I q (by simp))
  | bl j=>cases ry; exact ne_bool (fin_bl I q (congrArg not dec_bl))
  | str j=>obtain ⟨t',rfl⟩:=ry; exact PySem.EqMixed.ne_bool_str (fin_bl I q (by simp))
  | _=>exact absurd (show false=true from hs) Bool.false_ne_true
 | int i =>
  obtain ⟨t,rfl⟩:=rx
  cases y with
  | non=>cases ry; exact PySem.EqNone.ne_int_none (fin_bl I q (by simp))
  | int j=>obtain ⟨t',rfl⟩:=ry; exact ne_int (fin_bl I q (congrArg not dec_int))
  | str j=>obtain ⟨t',rfl⟩:=ry; exact PySem.EqMixed.ne_int_str (fin_bl I q (by simp))
  | _=>exact absurd (show false=true from hs) Bool.false_ne_true
 | str i =>
  obtain ⟨t,rfl⟩:=rx
  cases y with
  | non=>cases ry; exact PySem.EqNone.ne_str_none (fin_bl I q (by simp))
  | bl j=>cases ry; exact PySem.EqMixed.ne_str_bool (fin_bl I q (by simp))
  | int j=>obtain ⟨t',rfl⟩:=ry; exact PySem.EqMixed.ne_str_int (fin_bl I q (by simp))
  | str j=>obtain ⟨t',rfl⟩:=ry; exact ne_str (fin_bl I q (congrArg not dec_str))
  | _=>exact absurd (show false=true from hs) Bool.false_ne_true
 | byt i =>
  obtain ⟨t,rfl⟩:=rx
  cases y with
  | byt j=>obtain ⟨t',rfl⟩:=ry; exact PySem.W.ne_bytes (fin_bl I q (congrArg not dec_byt))
  | _=>exact absurd (show false=true from hs) Bool.false_ne_true
 | _=>cases y <;> exact absurd (show false=true from hs) Bool.false_ne_true
theorem op_lt:OpR X (compareOp .Lt) (rI0 fun i j => .bl (decide (i < j))):=opB0 fun _ _ _ _ _ _ _ q=>lt_int q
theorem op_le:OpR X (compareOp .LtE) (rI0 fun i j => .bl (decide (i <= j))):=opB0 fun _ _ _ _ _ _ _ q=>le_int q
theorem op_gt:OpR X (compareOp .Gt) (rI0 fun i j => .bl (decide (j < i))):=opB0 fun _ _ _ _ _ _ _ q=>gt_int q
theorem op_ge:OpR X (compareOp .GtE) (rI0 fun i j => .bl (decide (j <= i))):=opB0 fun _ _ _ _ _ _ _ q=>ge_int q
theorem op_isN:OpR X (compareOp .Is) (fun x y H Q=>y = .non/\Q (.bl (decide (x = .non))) H):=by
 intro pins s σ H x y v u Q I rx ry h
 obtain ⟨rfl,q⟩:=h
 cases ry
 refine is_none_gen (fin_bl I q ?_)
 cases x <;> first
  | (cases rx; rfl)
  | (obtain ⟨t,rfl⟩:=rx; rfl)
theorem op_notN:OpR X (compareOp .IsNot) (fun x y H Q=>y = .non/\Q (.bl (!decide (x = .non))) H):=by
 intro pins s σ H x y v u Q I rx ry h
 obtain ⟨rfl,q⟩:=h
 cases ry
 refine isnot_none_gen (fin_bl I q ?_)
 cases x <;> first
  | (cases rx; rfl)
  | (obtain ⟨t,rfl⟩:=rx; rfl)
def isObj:HO->Bool
 | .lst _=>true
 | .ins _ _ _=>true
 | _=>false
theorem nomark (b:Expr) {op:CmpOp} (h:op ≠ .In:=by decide) (h2:op ≠ .NotIn:=by decide):behindInMarks op b=false:=by
 have e1:(op == CmpOp.In)=false:=by cases op <;> first | rfl | exact absurd rfl h
 have e2:(op == CmpOp.NotIn)=false:=by cases op <;> first | rfl | exact absurd rfl h2
 cases b <;> simp [behindInMarks,e1,e2]
theorem pe_cmpR {op:CmpOp} {r:R2} (ho:OpR X (compareOp op) r) (ha:PE X a ta) (hb:PE X b tb) (hm:behindInMarks op b=false):PE X (.Compare a [op] [b] pos) (tOp r ta tb):=by
 intro pins s σ H Q I h
 exact wpAny_Compare1 (binT ha hb I h fun v u s2 x y H2 I2 rx ry q=>ho pins s2 σ H2 x y v u Q I2 rx ry q) hm
def tTest (t:TE):TT:=fun σ H Q=>t σ H fun x H'=>∃ k,x = .bl k/\Q k H'
theorem pt_cmpR {op:CmpOp} {r:R2} (ho:OpR X (compareOp op) r) (ha:PE X a ta) (hb:PE X b tb) (hm:behindInMarks op b=false):PT X (.Compare a [op] [b] pos) (tTest (tOp r ta tb)):=by
 intro pins s σ H Q I h
 refine wpAny_isTrue_Compare1 (thn (ha pins s σ H _ I h) fun v s1 ⟨x,H1,I1,r1,q1⟩=>thn (hb pins s1 σ H1 _ I1 q1) fun u s2 ⟨y,H2,I2,r2,q2⟩ =>
  thn (ho pins s2 σ H2 x y v u _ I2 r1 r2 q2) fun c s3 ⟨z,H3,I3,r3,k,e,q3⟩=>?_) hm
 subst e
 cases r3
 exact wpAny_truthy_bool ⟨H3,I3,q3⟩
def tChain (r r':R2) (ta tb tc:TE):TE:=fun σ H Q=>ta σ H fun x H1=>tb σ H1 fun y H2=>r x y H2 fun z H3=>∃ k,z = .bl k /\
 (if k=true then tc σ H3 fun w' H4=>r' y w' H4 Q else Q (.bl false) H3)
theorem pe_chain {op op':CmpOp} {r r':R2} (ho:OpR X (compareOp op) r) (ho':OpR X (compareOp op') r') (ha:PE X a ta) (hb:PE X b tb) (hc:PE X c tc)
  (hm:lastMarks [op,op'] [b,c]=false:=by with_unfolding_all rfl):PE X (.Compare a [op,op'] [b,c] pos) (tChain r r' ta tb tc):=by
 intro pins s σ H Q I h
 refine Compare_chain (thn (ha pins s σ H _ I h) fun v s1 ⟨x,H1,I1,r1,q1⟩=>chain_link (thn (hb pins s1 σ H1 _ I1 q1) fun u s2 ⟨y,H2,I2,r2,q2⟩ =>
  thn (ho pins s2 σ H2 x y v u _ I2 r1 r2 q2) fun d s3 ⟨z,H3,I3,r3,k,e,q3⟩=>?_)) hm
 subst e
 cases r3
 refine wpAny_truthy_bool ?_
 cases k with
 | false=>exact ite_ff ⟨.bl false,H3,I3,rfl,q3⟩
 | true=>exact ite_tt (chain_last (thn (hc pins s3 σ H3 _ I3 q3) fun w' s4 ⟨z',H4,I4,r4,q4⟩=>ho' pins s4 σ H4 y z' u w' Q I4 r2 r4 q4))
def TruV (K:PySem.W.Frag) (x:V) (H:Hp) (k:Bool):Prop :=
 match x with
 | .non=>k=false
 | .bl b=>k=b
 | .int i=>k=(i != 0)
 | .str y=>y.length <= sizeLine/\k=((y.length:Int) != 0)
 | .byt y=>y.size <= sizeLine/\k=((y.size:Int) != 0)
 | .ref p=>(∃ xs,SqL K H p xs/\k = !xs.isEmpty)∨(∃ xs,SqT K H p xs/\k = !xs.isEmpty)∨∃ kvs,H p=some (.dK kvs)/\k = !kvs.isEmpty
 | _=>False
theorem isEmpty_kv {κ:Type} {kvs:List (κ × V)} {vs:List (κ × Value)} (r:KV kvs vs):(!vs.isEmpty) = !kvs.isEmpty:=by
 cases r <;> rfl
theorem isEmpty_of {xs:List V} {its:List Value} (r:Vals xs its):(!its.toArray.isEmpty) = !xs.isEmpty:=by
 cases r <;> simp
theorem line63:(sizeLine:Nat) < 2 ^ 63:=by rw [sizeLine_eq]; decide
theorem tru_ok:TruR X (fun x H Q=>∃ k,TruV X.K x H k/\Q k H):=by
 intro pins s σ H x v Q I rx h
 obtain ⟨k,e,q⟩:=h
 have hl:=line63
 have hs:sizeLine=16777216:=sizeLine_eq
 cases x with
 | non =>
  cases rx
  have e':k=false:=e
  subst e'
  exact truthy_none ⟨H,I,q⟩
 | bl b =>
  cases rx
  have e':k=b:=e
  subst e'
  exact wpAny_truthy_bool ⟨H,I,q⟩
 | int i =>
  obtain ⟨t,rfl⟩:=rx
  have e':k=(i != 0):=e
  subst e'
  exact PySem.P.truthy_int ⟨H,I,q⟩
 | str y =>
  obtain ⟨t,rfl⟩:=rx
  obtain ⟨hy,e'⟩:y.length <= sizeLine/\k=((y.length:Int) != 0):=e
  subst e'
  exact PySem.P.truthy_str (by omega) ⟨H,I.tok _,q⟩
 | byt y =>
  obtain ⟨t,rfl⟩:=rx
  obtain ⟨hy,e'⟩:y.size <= sizeLine/\k=((y.size:Int) != 0):=e
  subst e'
  exact PySem.W.truthy_bytes (by omega) ⟨H,I.tok _,q⟩
 | ref p =>
  cases rx
  have e':(∃ xs,SqL X.K H p xs/\k = !xs.isEmpty)∨(∃ xs,SqT X.K H p xs/\k = !xs.isEmpty)∨∃ kvs,H p=some (.dK kvs)/\k = !kvs.isEmpty:=e
  rcases e' with ⟨xs,hx,e'⟩ | ⟨xs,hx,e'⟩ | ⟨kvs,hx,e'⟩
  ·subst e'
   obtain ⟨its,r,pl,hz⟩:=I.list hx
   have hlen:=r.length
   exact wpAny_truthy_list pl.isList (by simp only [List.size_toArray]; omega) ⟨H,I.tok _,by rw [isEmpty_of r]; exact q⟩
  ·subst e'
   obtain ⟨its,r,pl,hz⟩:=I.tuple hx
   have hlen:=r.length
   exact truthy_tuple pl (by simp only [List.size_toArray]; omega) ⟨H,I.tok _,by rw [isEmpty_of r]; exact q⟩
  ·subst e'
   obtain ⟨hz,hS,vs,r,m⟩:kvs.length <= sizeLine/\(p == sysModules)=false/\∃ vs,KV kvs vs/\s.heap.DictOf (mixKind X.prog X.w) p vs:=I.hok p _ hx
   have hlen:kvs.length=vs.length:=Paired.length r
   exact wpAny_truthy_dict hS m (by omega) ⟨H,I.tok _,by rw [isEmpty_kv r]; exact q⟩
 | _=>exact (show False from e).elim
theorem pt_truth (ha:PE X a ta) (he:∀ whole,isTrue a X.env whole=(do let v ← whole; standAt a.pos; holding [v] (truthy v))) :
  PT X a (fun σ H Q=>ta σ H fun x H'=>∃ k,TruV X.K x H' k/\Q k H'):=by
 intro pins s σ H Q I h
 exact isTrue_plain (thn (ha pins s σ H _ I h) fun v s1 ⟨x,H1,I1,r1,q1⟩=>tru_ok pins s1 σ H1 x v Q I1 r1 q1) (he _)
def PlainIxT (b:Expr):Prop:=∀ o i,subscripted b false o i=operate [o,i] (getItem o i)
theorem vals1 {x:V} {us:List Value} (r:Vals [x] us):∃ u,us=[u]/\RelV x u:=by
 cases r with
 | cons r1 r2=>cases r2; exact ⟨_,rfl,r1⟩
theorem vals2 {x y:V} {us:List Value} (r:Vals [x,y] us):∃ u w',us=[u,w']/\RelV x u/\RelV y w':=by
 cases r with
 | cons r1 r2 =>
  cases r2 with
  | cons r3 r4=>cases r4; exact ⟨_,_,rfl,r1,r3⟩
theorem call_min2 (hc:X.calm=true):CallR X (.builtin "min") (fun xs H Q=>∃ i j,xs=[.int i, .int j]/\Q (.int (if j < i then j else i)) H):=by
 intro pins s σ H xs us Q I r h
 obtain ⟨i,j,rfl,q⟩:=h
 obtain ⟨u,w',rfl,⟨t,rfl⟩,⟨t',rfl⟩⟩:=vals2 r
 refine min_two_ints (I.ok.hd hc) fun h' tk k=>⟨_,H,I.kept k,?_,q⟩
 by_cases hj:j < i
 ·rw [if_pos hj,if_pos hj]; exact ⟨_,rfl⟩
 ·rw [if_neg hj,if_neg hj]; exact ⟨_,rfl⟩
def LenV (K:PySem.W.Frag) (x:V) (H:Hp) (n:Nat):Prop :=
 match x with
 | .str y=>y.length <= sizeLine/\n=y.length
 | .byt y=>y.size <= sizeLine/\n=y.size
 | .ref p=>(∃ xs,SqL K H p xs/\n=xs.length)∨∃ xs,SqT K H p xs/\n=xs.length
 | _=>False
end
end L2
namespace L2
open PySem PySem.Spec PyProof.Rows
structure ObjM (h:Heap) (x dx C:Addr) (mA:Str->Option Value):Prop where
 obj:h.get? x=some (PySem.W.instObj C dx)
 ns:h.Ns1 dx mA
 ne:dx ≠ x
theorem lookIn_ns {h:Heap} {dx:Addr} {mA:Str->Option Value} (n:h.Ns1 dx mA):∃ od,h.get? dx=some od/\∀ name,PySem.W.lookIn name od=some (mA name):=by
 obtain ⟨o,es,ep,ho,hd,hk,_,hm⟩:=n
 refine ⟨o,ho,fun name=>?_⟩
 have e:=hm name
 unfold nsFind findBy at e
 rw [← Array.find?_toList] at e
 unfold PySem.W.lookIn
 rw [hd]
 dsimp only
 split
 ·rename_i y q
  rw [q] at e
  exact congrArg some e
 ·rename_i q
  rw [q] at e
  have a:es.toList.any (·.refKey)=false:=by
   rw [List.any_eq_false]
   intro y hy
   obtain ⟨z,t,hkey⟩:=hk y (Array.mem_toList_iff.mp hy)
   simp [DictEntry.refKey,hkey]
  have a':¬ es.toList.any (·.refKey)=true:=by rw [a]; exact Bool.false_ne_true
  rw [if_neg a']
  exact congrArg some e
theorem ObjM.look {h:Heap} {x dx C:Addr} {mA:Str->Option Value} (I:ObjM h x dx C mA):∃ od,PySem.W.InstAt h x (PySem.W.instObj C dx) C (some od)/\∀ name,PySem.W.lookIn name od=some (mA name) :=
 let ⟨od,ho,hl⟩:=lookIn_ns I.ns
 ⟨od,⟨I.obj,rfl,rfl,ho⟩,hl⟩
section
variable {prog:Program} {w:World} {A:Around} {E:Value->Shared->Prop} {s:Shared} {K:PySem.W.Frag} {x dx C f:Addr} {mA:Str->Option Value} {name:Str} {v:Value}
theorem get_map {expr:Bool} {Q:Value->Shared->Prop} (X:K.In s.heap) (I:ObjM s.heap x dx C mA) (hg:PySem.W.plainGet K C name=true) (hh:PySem.W.hasDictIn K C=true)
  (ha:PySem.W.findIn K (.ref C) name=some none) (hv:mA name=some v) (hv':PySem.W.handedIn v=true) (h:Q v { s with toks:=s.toks + 1 }) :
  wpAny (model prog w) A (getAttr (.ref x) name expr) Q E s:=by
 obtain ⟨od,J,hl⟩:=I.look
 exact PySem.W.get_value X J (PySem.W.plainGet_of hg).1 (PySem.W.findObj_own hh ha rfl (by rw [hl,hv])) hv' h
theorem get_meth {pl:Sem Bool} {Q:Value × List Value->Shared->Prop} (X:K.In s.heap) (I:ObjM s.heap x dx C mA) (hg:PySem.W.plainGet K C name=true)
  (hf:PySem.W.findIn K (.ref C) name=some (some (.ref f))) (ht:PySem.W.isFn K (.ref f)=true) (hv:mA name=none) (h:Q (.ref f,[.ref x]) s) :
  wpAny (model prog w) A (getMethod (.ref x) name pl) Q E s:=by
 obtain ⟨od,J,hl⟩:=I.look
 exact PySem.W.method_fn X J (PySem.W.plainGet_of hg).1 (PySem.W.plainGet_of hg).2 hf (beq_iff_eq.mp ht) (by show (PySem.W.lookIn name od).map (·.isSome)=some false; rw [hl,hv]; rfl) h
theorem set_map {ns:List Str} {Q:Unit->Shared->Prop} (X:K.In s.heap) (I:ObjM s.heap x dx C mA)
  (hs:PySem.W.findIn K (.ref C) "__setattr__" = some (some (.builtin "object.__setattr__"))) (hp:PySem.W.plainOver K C=true) (ht:PySem.W.takerIn K C name=some none) (hh:PySem.W.hasDictIn K C=true)
  (hw:PySem.Within mA ns) (hsz:ns.length <= sizeLine)
  (h:∀ h',ObjM h' x dx C (fun y=>if y=name then some v else mA y)->Heap.SameBut dx s.heap h'->Q () { s with heap:=h',toks:=s.toks + 2 }) :
  wpAny (model prog w) A (setAttr (.ref x) name v) Q E s:=by
 obtain ⟨od,J,hl⟩:=I.look
 refine PySem.W.set_plain X J hs (PySem.W.osa_open (s:={ s with toks:=s.toks + 1 }) (r:=none) X J hp ht fun b=>?_)
 obtain ⟨cd,hc,hd'⟩:=PySem.W.any_some hh
 have hx:s.heap.get? x=some ⟨.ref C,some dx, .plain,#[]⟩:=I.obj
 refine wpAny_bind (wpAny_pure (wpAny_bind (wpAny_bind (wpAny_loadPart hx (wpAny_bind (PySem.W.Looks.here (s:={ s with toks:=s.toks + 1 }) (PySem.W.looks_clsIn X hc) ?_))))))
 rw [hd']
 refine wpAny_pure (a:=some dx) (wpAny_bind (wpAny_pure (wpAny_bind ?_)))
 refine wpAny_nsSet1 (s:={ s with toks:=s.toks + 1 }) I.ns fun h' hn2 hs2=>?_
 obtain ⟨oD,esD,epD,hoD,hdD,hcD⟩:=hn2.count (PySem.Within.cons name v hw)
 refine wpAny_bind (wpAny_lookBehind hoD (by rw [hdD]; exact pastItsLine_dict (Nat.le_trans hcD (by rw [List.length_cons]; omega))) ?_)
 exact wpAny_pure (h _ ⟨(hs2.2 _ (Ne.symm I.ne)).trans I.obj,hn2,I.ne⟩ hs2)
theorem make_map {R:Result->Shared->Prop} {vs:List Value} {kw:List (Str × Value)} (X:K.In s.heap) (hm:PySem.W.makesIn K C=true)
  (hi:PySem.W.findIn K (.ref C) "__init__" = some (some (.ref f))) (hf:PySem.W.typeIn K (.ref f)=some (.type "function"))
  (h:codeAny (model prog w) (A.under (.builtin "type.__call__" ⟨.ref C :: vs,kw⟩)) (.call (.ref f) ⟨.ref (s.heap.objs.size + 1) :: vs,kw⟩) (PySem.W.InitBack (s.heap.objs.size + 1) R)
   { s with heap:=(s.heap.push PySem.W.emptyDict).push (PySem.W.instObj C s.heap.objs.size) }) :
  codeAny (model prog w) A (.call (.ref C) ⟨vs,kw⟩) R s:=by
 obtain ⟨hh,g,d,t,os⟩:=s
 exact PySem.W.make_core (PySem.W.makes_of X hm) (PySem.W.looks_findIn X hi) (fun self=>PySem.W.bind_fn X self hf) (.inl rfl) h
end
def putF (f:Str) (v:V):List (Str × V)->List (Str × V)
 | []=>[(f,v)]
 | (g,x) :: r=>if g=f then (g,v) :: r else (g,x) :: putF f v r
theorem lookup_putF (f g:Str) (v:V):∀ fs:List (Str × V),(putF f v fs).lookup g=if g=f then some v else fs.lookup g
 | []=>by
  show List.lookup g [(f,v)]=_
  by_cases h:g=f
  ·have hb:(g == f)=true:=beq_iff_eq.mpr h
   simp only [List.lookup,hb,if_pos h]
  ·have hb:(g == f)=false:=beq_eq_false_iff_ne.mpr h
   simp only [List.lookup,hb,if_neg h]
 | (k,x) :: r=>by
  have ih:=lookup_putF f g v r
  rw [show putF f v ((k,x) :: r)=(if k=f then (k,v) :: r else (k,x) :: putF f v r) from rfl]
  by_cases hk:k=f
  ·rw [if_pos hk]
   by_cases h:g=k
   ·have hb:(g == k)=true:=beq_iff_eq.mpr h
    simp only [List.lookup,hb,if_pos (h.trans hk)]
   ·have hb:(g == k)=false:=beq_eq_false_iff_ne.mpr h
    simp only [List.lookup,hb,if_neg (fun e:g=f=>h (e.trans hk.symm))]
  ·rw [if_neg hk]
   by_cases h:g=k
   ·have hb:(g == k)=true:=beq_iff_eq.mpr h
    simp only [List.lookup,hb,if_neg (fun e:g=f=>hk (h.symm.trans e))]
   ·have hb:(g == k)=false:=beq_eq_false_iff_ne.mpr h
    simp only [List.lookup,hb]
    exact ih
theorem keys_putF (f:Str) (v:V):∀ fs:List (Str × V),f ∈ (putF f v fs).map (·.1)/\∀ g,g ∈ fs.map (·.1)->g ∈ (putF f v fs).map (·.1)
 | []=>⟨by simp [putF],fun g h=>by simp at h⟩
 | (k,x) :: r=>by
  obtain ⟨i1,i2⟩:=keys_putF f v r
  rw [show putF f v ((k,x) :: r)=(if k=f then (k,v) :: r else (k,x) :: putF f v r) from rfl]
  by_cases hk:k=f
  ·rw [if_pos hk]
   subst hk
   exact ⟨by simp,fun g h=>by simpa using h⟩
  ·rw [if_neg hk]
   refine ⟨?_,fun g h=>?_⟩
   ·rw [List.map_cons]
    exact List.mem_cons_of_mem _ i1
   ·rw [List.map_cons] at h ⊢
    rcases List.mem_cons.mp h with e | e
    ·exact List.mem_cons.mpr (.inl e)
    ·exact List.mem_cons_of_mem _ (i2 g e)
theorem length_putF (f:Str) (v:V):∀ fs:List (Str × V),(putF f v fs).length <= fs.length + 1
 | []=>by simp [putF]
 | (k,x) :: r=>by
  have ih:=length_putF f v r
  rw [show putF f v ((k,x) :: r)=(if k=f then (k,v) :: r else (k,x) :: putF f v r) from rfl]
  by_cases hk:k=f
  ·rw [if_pos hk,List.length_cons,List.length_cons]; omega
  ·rw [if_neg hk,List.length_cons,List.length_cons]; omega
theorem RelO.some_of {v:V} {o:Option Value} (r:RelO (some v) o):∃ u,o=some u/\RelV v u:=by
 cases o with
 | none=>exact (show False from r).elim
 | some u=>exact ⟨u,rfl,r⟩
theorem RelO.none_of {o:Option Value} (r:RelO none o):o=none:=by
 cases o with
 | none=>rfl
 | some u=>exact (show False from r).elim
theorem handed_of {v:V} {u:Value} (r:RelV v u):PySem.W.handedIn u=true:=by
 cases v with
 | non=>cases (show u=Value.none from r); rfl
 | bl b=>cases (show u=Value.bool b from r); rfl
 | int i=>obtain ⟨t,e⟩:=(show ∃ t,u=Value.int i t from r); cases e; rfl
 | str x=>obtain ⟨t,e⟩:=(show ∃ t,u=Value.str x t from r); cases e; rfl
 | byt b=>obtain ⟨t,e⟩:=(show ∃ t,u=Value.bytes b t from r); cases e; rfl
 | flt b=>obtain ⟨t,e⟩:=(show ∃ t,u=Value.float b t from r); cases e; rfl
 | ref a=>cases (show u=Value.ref a from r); rfl
 | ty n=>cases (show u=Value.type n from r); rfl
section
variable {P:Program} {w:World} {H H':Hp} {h h':Heap} {a C dx:Addr} {fs fs':List (Str × V)}
theorem ins_get (hok:HOk P w H h) (e:H a=some (.ins C dx fs)):∃ mA,ObjM h a dx C mA/\(∀ f,RelO (fs.lookup f) (mA f))/\PySem.Within mA (fs.map (·.1))/\fs.length <= 1000/\H dx=some (.own a):=by
 obtain ⟨d,z,ne,ob,mA,n,r,q⟩:=(show ObjOk P w H h a (.ins C dx fs) from hok a _ e)
 exact ⟨mA,⟨ob,n,ne⟩,r,q,z,d⟩
end
structure Cls (K:PySem.W.Frag) (C:Addr):Prop where
 pg:PySem.W.plainGet K C Str.empty=true
 hd:PySem.W.hasDictIn K C=true
 po:PySem.W.plainOver K C=true
 sa:PySem.W.findIn K (.ref C) "__setattr__" = some (some (.builtin "object.__setattr__"))
theorem Cls.get {K:PySem.W.Frag} {C:Addr} (c:Cls K C) (f:Str):PySem.W.plainGet K C f=true:=c.pg
def NoAttr (K:PySem.W.Frag) (C:Addr) (f:Str):Prop:=PySem.W.findIn K (.ref C) f=some none
theorem NoAttr.taker {K:PySem.W.Frag} {C:Addr} {f:Str} (n:NoAttr K C f):PySem.W.takerIn K C f=some none:=by
 unfold PySem.W.takerIn
 rw [show PySem.W.findIn K (.ref C) f=some none from n]
 rfl
structure Con (K:PySem.W.Frag) (C:Addr) (f:Str) (v:V) (u:Value):Prop where
 at_:PySem.W.findIn K (.ref C) f=some (some u)
 rel:RelV v u
 get:PySem.W.specialIn K u "__get__" = some none
 cp:PySem.W.copiedNames.contains f=false
structure Meth (K:PySem.W.Frag) (C:Addr) (m:Str) (f:Addr):Prop where
 at_:PySem.W.findIn K (.ref C) m=some (some (.ref f))
 fn:PySem.W.isFn K (.ref f)=true
 kp:PySem.W.keepIn K (.ref f)=true
section
variable {X:Cx} {pins:List (Addr × Obj)} {σ:St} {H:Hp} {s:Shared} {a C dx:Addr} {fs:List (Str × V)} {f:Str} {v:V} {A:Around} {E:Value->Shared->Prop}
theorem getattr_ok {b:Bool} {Q:Value->Shared->Prop} (I:Inv X pins σ H s) (e:H a=some (.ins C dx fs)) (c:Cls X.K C) (n:NoAttr X.K C f) (l:fs.lookup f=some v)
  (h:∀ u s',Inv X pins σ H s'->RelV v u->Q u s'):wpAny (model X.prog X.w) A (getAttr (.ref a) f b) Q E s:=by
 obtain ⟨mA,O,r,_,_,_⟩:=ins_get I.hok e
 obtain ⟨u,hu,ru⟩:=RelO.some_of (v:=v) (o:=mA f) (by rw [← l]; exact r f)
 exact get_map I.kIn O (c.get f) c.hd n hu (handed_of ru) (h u _ (I.tok _) ru)
theorem getmeth_ok {m:Str} {g:Addr} {pl:Sem Bool} {Q:Value × List Value->Shared->Prop} (I:Inv X pins σ H s) (e:H a=some (.ins C dx fs)) (c:Cls X.K C) (k:Meth X.K C m g) (l:fs.lookup m=none)
  (h:Q (.ref g,[.ref a]) s):wpAny (model X.prog X.w) A (getMethod (.ref a) m pl) Q E s:=by
 obtain ⟨mA,O,r,_,_,_⟩:=ins_get I.hok e
 have hn:mA m=none:=RelO.none_of (by rw [← l]; exact r m)
 exact get_meth I.kIn O (c.get m) k.at_ k.fn hn h
theorem setattr_ok {y:V} {u:Value} {Q:Unit->Shared->Prop} (I:Inv X pins σ H s) (e:H a=some (.ins C dx fs)) (c:Cls X.K C) (n:NoAttr X.K C f) (hl:fs.length < 1000) (ry:RelV y u)
  (h:∀ s',Inv X pins σ (upd H a (.ins C dx (putF f y fs))) s'->Q () s'):wpAny (model X.prog X.w) A (setAttr (.ref a) f u) Q E s:=by
 obtain ⟨mA,O,r,wi,_,ho⟩:=ins_get I.hok e
 have hz:(fs.map (·.1)).length <= sizeLine:=by rw [List.length_map,sizeLine_eq]; omega
 refine set_map I.kIn O c.sa c.po n.taker c.hd wi hz fun h' O' sb=>h _ ?_
 have hd:∃ o,h'.get? dx=some o:=let ⟨o,_,_,e',_⟩:=O'.ns; ⟨o,e'⟩
 refine I.write (x:=a) (e:=dx) (by rw [e]; exact True.intro) (.inr ho) (fun b q hb z=>(sb.2 b hb).trans z) hd ?_
 refine ⟨by rw [upd_ne O.ne]; exact ho,?_,O.ne,O'.obj,_,O'.ns,fun g=>?_,fun g hg=>?_⟩
 ·have:=length_putF f y fs; omega
 ·show RelO ((putF f y fs).lookup g) (if g=f then some u else mA g)
  rw [lookup_putF]
  by_cases q:g=f
  ·rw [if_pos q,if_pos q]; exact ry
  ·rw [if_neg q,if_neg q]; exact r g
 ·by_cases q:g=f
  ·rw [q]; exact (keys_putF f y fs).1
  ·refine (keys_putF f y fs).2 g (wi g fun z=>hg ?_)
   show (if g=f then some u else mA g)=none
   rw [if_neg q]; exact z
theorem Inv.made (I:Inv X pins σ H s):Inv X pins σ (upd (upd H s.heap.objs.size (.own (s.heap.objs.size + 1))) (s.heap.objs.size + 1) (.ins C s.heap.objs.size []))
  { s with heap:=(s.heap.push PySem.W.emptyDict).push (PySem.W.instObj C s.heap.objs.size) }:=by
 have e1:(s.heap.push PySem.W.emptyDict).get? s.heap.objs.size=some PySem.W.emptyDict:=Heap.get?_push_size s.heap rfl
 have e2:((s.heap.push PySem.W.emptyDict).push (PySem.W.instObj C s.heap.objs.size)).get? (s.heap.objs.size + 1)=some (PySem.W.instObj C s.heap.objs.size):=by
  have:=Heap.get?_push_size (s.heap.push PySem.W.emptyDict) (o:=PySem.W.instObj C s.heap.objs.size) rfl
  rwa [Heap.size_push] at this
 have e3:(s.heap.push PySem.W.emptyDict).Ns s.heap.objs.size (fun _=>none):=⟨PySem.W.emptyDict,#[],_,e1,rfl,(fun e he=>absurd he (by simp)),fun _=>rfl⟩
 have I1:=I.laid (a:=s.heap.objs.size) (o := .own (s.heap.objs.size + 1)) (h':=s.heap.push PySem.W.emptyDict) (t':=s.toks) (fun b u q=>Heap.get?_push_of_some _ q) (Nat.le_refl _) ⟨_,e1⟩
 refine I1.laid (a:=s.heap.objs.size + 1) (o := .ins C s.heap.objs.size []) (t':=s.toks) (fun b u q=>Heap.get?_push_of_some _ q) (Nat.le_of_eq (Heap.size_push _ _)) ?_
 have ne:s.heap.objs.size ≠ s.heap.objs.size + 1:=Nat.ne_of_lt (Nat.lt_succ_self _)
 refine ⟨by rw [upd_ne ne,upd_same],Nat.zero_le _,ne,e2,fun _=>none,(Heap.Ns1.of_empty e3).at fun o q=>Heap.get?_push_of_some _ q,fun _=>True.intro,fun y hy=>absurd rfl hy⟩
theorem attr_of {prog:Program} {w:World} {env:Env} {e:Expr} {f:Str} {pos:Pos} {s:Shared} {Q:Value->Shared->Prop} (hb:attributeBase e f env (eval e env)=eval e env)
  (h:wpAny (model prog w) A (eval e env) (fun o s₁=>wpAny (model prog w) A (getAttr o f true) Q E s₁) E s):wpAny (model prog w) A (eval (.Attribute e f pos) env) Q E s :=
 Attribute_any_ h (by rw [arm_eval_Attribute,hb])
end
def tFld (K:PySem.W.Frag) (ta:TE) (f:Str):TE:=fun σ H Q=>ta σ H fun x H1=>∃ a C dx fs v,x = .ref a/\H1 a=some (.ins C dx fs)/\Cls K C/\NoAttr K C f/\fs.lookup f=some v/\Q v H1
def tCon (K:PySem.W.Frag) (ta:TE) (f:Str):TE:=fun σ H Q=>ta σ H fun x H1=>∃ a C dx fs v u,x = .ref a/\H1 a=some (.ins C dx fs)/\Cls K C/\Con K C f v u/\fs.lookup f=none/\Q v H1
def sFld (K:PySem.W.Frag) (ta tv:TE) (f:Str):TS:=fun D σ H=>tv σ H fun y H1=>ta σ H1 fun x H2=>∃ a C dx fs,x = .ref a/\H2 a=some (.ins C dx fs)/\Cls K C/\NoAttr K C f/\fs.length < 1000 /\
 D.nx σ (upd H2 a (.ins C dx (putF f y fs)))
def InOp (X:Cx) (op:Operator) (rd:V->V->Hp->VK->Prop):Prop :=
 ∀ (pins:List (Addr × Obj)) (s:Shared) (σ:St) (H:Hp) (x y:V) (u v:Value) (Q:VK),Inv X pins σ H s->RelV x u->RelV y v->rd x y H Q->wpAny (model X.prog X.w) X.A (inplaceOp op u v) (EP X pins σ Q) X.xe s
def sFldAug (K:PySem.W.Frag) (ta tv:TE) (rd:V->V->Hp->VK->Prop) (f:Str):TS:=fun D σ H=>ta σ H fun x H1=>∃ a C dx fs v,x = .ref a/\H1 a=some (.ins C dx fs)/\Cls K C/\NoAttr K C f/\fs.lookup f=some v /\
 tv σ H1 fun y H2=>rd v y H2 fun z H3=>∃ dx' fs',H3 a=some (.ins C dx' fs')/\fs'.length < 1000/\D.nx σ (upd H3 a (.ins C dx' (putF f z fs')))
section
variable {X:Cx} {o e value:Expr} {f:Str} {pos pos' tpos:Pos} {ta tv:TE}
theorem pe_fld (he:PE X e ta) (hb:attributeBase e f X.env (eval e X.env)=eval e X.env):PE X (.Attribute e f pos) (tFld X.K ta f):=by
 intro pins s σ H Q I h
 refine attr_of hb (thn (he pins s σ H _ I h) fun u s1 ⟨x,H1,I1,rx,a,C,dx,fs,v,ex,ea,c,n,l,q⟩=>?_)
 subst ex
 obtain rfl:u=Value.ref a:=rx
 exact getattr_ok I1 ea c n l fun u' s2 I2 ru=>⟨v,H1,I2,ru,q⟩
theorem ps_fld (ha:PE X o ta) (hv:PE X value tv) (hs:swapsWith value (some (.Attribute o f pos')) pos.line X.env=pure false):PS X (.Assign [.Attribute o f pos'] value pos) (sFld X.K ta tv f):=by
 intro pins s σ H D I h
 refine plainObj_wpAny_Assign_Attribute (thn (hv pins s σ H _ I h) fun u s1 ⟨y,H1,I1,ry,q⟩=>thn (ha pins s1 σ H1 _ I1 q) fun ov s2 ⟨x,H2,I2,rx,a,C,dx,fs,ex,ea,c,n,l,q2⟩=>?_) hs
 subst ex
 obtain rfl:ov=Value.ref a:=rx
 exact setattr_ok I2 ea c n l ry fun s3 I3=>⟨σ,_,I3,q2⟩
def rAdd:V->V->Hp->VK->Prop:=fun x y H Q=>∃ i j,x = .int i/\y = .int j/\Q (.int (i + j)) H
def rSub:V->V->Hp->VK->Prop:=fun x y H Q=>∃ i j,x = .int i/\y = .int j/\Q (.int (i - j)) H
theorem methcall_of {pl:Sem Bool} {m:Str} {apos:Pos} {args:List Expr} {pins:List (Addr × Obj)} {s:Shared} {σ:St} {H:Hp} {Q:Value->Shared->Prop} {te:TE} (he:PE X e te) (I:Inv X pins σ H s)
  (h:te σ H fun x H1=>∃ a C dx fs g,x = .ref a/\H1 a=some (.ins C dx fs)/\Cls X.K C/\Meth X.K C m g/\fs.lookup m=none /\
   ∀ s1,Inv X pins σ H1 s1->wpAny (model X.prog X.w) X.A (callWith pos (.ref g) [.ref a] (backTo pos (starEach args X.env)) (backToKw pos (keywordEach [] X.env))) Q X.xe s1)
  (ht:eval (.Call (.Attribute e m apos) args [] pos) X.env=(do
   let ov ← eval e X.env
   standAt apos.atName
   let (f,first) ← holding [ov] (getMethod ov m pl)
   callWith pos f first (backTo pos (starEach args X.env)) (backToKw pos (keywordEach [] X.env)))) :
  wpAny (model X.prog X.w) X.A (eval (.Call (.Attribute e m apos) args [] pos) X.env) Q X.xe s:=by
 refine PySem.W.methodCall_KW (pl:=pl) (thn (he pins s σ H _ I h) fun u s1 ⟨x,H1,I1,rx,a,C,dx,fs,g,ex,ea,c,k,l,q⟩=>?_) ht
 subst ex
 obtain rfl:u=Value.ref a:=rx
 exact getmeth_ok I1 ea c k l (q s1 I1)
end
section
variable {X:Cx} {pins:List (Addr × Obj)} {σ:St} {H:Hp} {s:Shared} {A:Around} {E:Value->Shared->Prop} {Q:Value->Shared->Prop} {c:Value} {b:Bool}
inductive TyOf (K:PySem.W.Frag) (H:Hp):V->Value->Prop where
 | non:TyOf K H .non (.type "NoneType")
 | bl (x:Bool):TyOf K H (.bl x) (.type "bool")
 | int (i:Int):TyOf K H (.int i) (.type "int")
 | str (x:Str):TyOf K H (.str x) (.type "str")
 | flt (x:UInt64):TyOf K H (.flt x) (.type "float")
 | lst {a:Addr} {xs:List V} (e:H a=some (.lst xs)):TyOf K H (.ref a) (.type "list")
 | frz {a:Addr} {o:Obj} {xs:List V} (e:H a=some (.frz o (.lst xs))):TyOf K H (.ref a) (.type "list")
 | tup {a:Addr} {xs:List V} (e:H a=some (.tup xs)):TyOf K H (.ref a) (.type "tuple")
 | dK {a:Addr} {kvs:List (Key × V)} (e:H a=some (.dK kvs)):TyOf K H (.ref a) (.type "dict")
 | dT {a:Addr} {kvs:List (List Key × V)} (e:H a=some (.dT kvs)):TyOf K H (.ref a) (.type "dict")
 | ins {a C dx:Addr} {fs:List (Str × V)} (e:H a=some (.ins C dx fs)) (cl:Cls K C) (ha:PySem.W.findIn K (.ref C) "__class__" = some (some (.builtin "object.__class__")))
   (hn:PySem.W.specialIn K (.builtin "object.__class__") "__get__" = some (some (.builtin "getset_descriptor.__get__"))) (htk:PySem.W.takesIn K (.builtin "object.__class__")=some true)
   (hm:PySem.W.mroIn K C (.type "object")=some true):TyOf K H (.ref a) (.ref C)
end
end L2
namespace L2
open PySem PySem.Spec PyProof.Rows
structure Room (k:Nat) (A:Around):Prop where
 hd:A.handled=none
 dp:A.depth + 3 * k + 5 < recursionLimit
 un:A.units + 16 * k + 200 < cLine
theorem Room.mono {j k:Nat} {A:Around} (r:Room k A) (h:j <= k):Room j A:=⟨r.hd,by have:=r.dp; omega,by have:=r.un; omega⟩
theorem Room.deeper {k:Nat} {A:Around} (r:Room (k + 1) A) (env:Env):Room k (A.deeper env) :=
 ⟨r.hd,by have:=r.dp; show A.depth + 1 + 3 * k + 5 < _; omega,by have:=r.un; show A.units + 3 + 16 * k + 200 < _; omega⟩
theorem make_depth {A:Around} {C:Addr} {us:List Value} {kw:List (Str × Value)}:(A.under (.builtin "type.__call__" ⟨.ref C :: us,kw⟩)).depth=A.depth + 1:=by
 first | rfl | simp [Around.under,Code.weight,Code.isCreation,Code.isGuard,Code.isCaller,Code.frames,Code.isFrame,guardIds]
theorem make_units {A:Around} {C:Addr} {us:List Value} {kw:List (Str × Value)}:(A.under (.builtin "type.__call__" ⟨.ref C :: us,kw⟩)).units=A.units + 1:=by
 first | rfl | simp [Around.under,Code.cUnits,Code.frames,Code.isFrame]
theorem Room.make {k:Nat} {A:Around} (r:Room (k + 1) A) (C:Addr) (us:List Value) (kw:List (Str × Value)):Room k (A.under (.builtin "type.__call__" ⟨.ref C :: us,kw⟩)) :=
 ⟨r.hd,by have:=r.dp; rw [make_depth]; omega,by have:=r.un; rw [make_units]; omega⟩
theorem Room.depth {k:Nat} {A:Around} (r:Room k A):A.depth < recursionLimit:=by have:=r.dp; omega
theorem Room.units {k:Nat} {A:Around} (r:Room k A):A.units + 64 < cLine:=by have:=r.un; omega
def tNil:TA:=fun _ H Q=>Q [] H
def tCons (ta:TE) (tr:TA):TA:=fun σ H Q=>ta σ H fun x H1=>tr σ H1 fun xs H2=>Q (x :: xs) H2
section
variable {X:Cx} {e:Expr} {es:List Expr} {te:TE} {t:TA} {pos:Pos}
theorem pa_nil:PA X [] tNil:=fun _ _ _ _ H Q I h=>Calls.spliced_nil ⟨[],H,I, .nil,h⟩
theorem pa_cons (ha:PE X e te) (hr:PA X es t) (hs:starEach (e :: es) X.env=(false,eval e X.env) :: starEach es X.env:=by rfl):PA X (e :: es) (tCons te t):=by
 intro pos pins s σ H Q I h
 rw [hs]
 show wpAny _ _ (spliced ((false,eval e X.env) :: backTo pos (starEach es X.env))) _ _ s
 refine Calls.spliced_cons (thn (ha pins s σ H _ I h) fun u s1 ⟨x,H1,I1,r1,q1⟩=>?_)
 exact thn (hr pos pins s1 σ H1 _ I1 q1) fun us s2 ⟨xs,H2,I2,r2,q2⟩=>⟨x :: xs,H2,I2, .cons r1 r2,q2⟩
def tTup (t:TA):TE:=fun σ H Q=>t σ H fun xs H1=>xs.length <= sizeLine/\∀ p,H1 p=none->Q (.ref p) (upd H1 p (.tup xs))
def tLst (t:TA):TE:=fun σ H Q=>t σ H fun xs H1=>xs.length <= sizeLine/\∀ p,H1 p=none->Q (.ref p) (upd H1 p (.lst xs))
theorem pe_tup {x1} (h:PA X es t):PE X (.Tuple es x1 pos) (tTup t):=by
 intro pins s σ H Q I hq
 refine wpAny_Tuple_spliced (thn (h pos pins s σ H _ I hq) fun us s1 ⟨xs,H1,I1,r,z,q⟩=>⟨by rw [← r.length]; exact z,?_⟩)
 have hf:H1 s1.heap.objs.size=none:=I1.hok.fresh (Nat.le_refl _)
 refine ⟨.ref s1.heap.objs.size,upd H1 s1.heap.objs.size (.tup xs),I1.laid (t':=s1.toks) (fun b u e=>Heap.get?_push_of_some _ e) (Nat.le_refl _) ?_,rfl,q _ hf⟩
 exact ⟨z,us,r,⟨_,Heap.get?_push_size _ rfl,⟨rfl,_,rfl⟩,rfl⟩⟩
theorem pe_lst (h:PA X es t):PE X (.List es pos) (tLst t):=by
 intro pins s σ H Q I hq
 refine wpAny_List_spliced (thn (h pos pins s σ H _ I hq) fun us s1 ⟨xs,H1,I1,r,z,q⟩=>⟨by rw [← r.length]; exact z,?_⟩)
 have hf:H1 s1.heap.objs.size=none:=I1.hok.fresh (Nat.le_refl _)
 refine ⟨.ref s1.heap.objs.size,upd H1 s1.heap.objs.size (.lst xs),I1.laid (t':=s1.toks) (fun b u e=>Heap.get?_push_of_some _ e) (Nat.le_refl _) ?_,rfl,q _ hf⟩
 exact ⟨z,us,0,r,Heap.get?_push_size _ rfl⟩
end
abbrev Sp:=List V->Hp->VK->XK->Prop
abbrev CXT:=List Env->Hp->Shared->XK->Value->Shared->Prop
structure Env0 (P:Program) (w:World) (K:PySem.W.Frag) (mg:Str->Option Value) (base:Heap) (A:Around) (outer:List Env) (s:Shared) (H:Hp):Prop where
 frames:A.frames=some outer
 mod:Mod K mg base
 bs:∀ b o,base.get? b=some o->s.heap.get? b=some o/\H b=none
 bsz:base.objs.size <= s.heap.objs.size
 funs:s.heap.FunFrames base outer
 frf:∀ b ∈ frs outer,H b=none
 hok:HOk P w H s.heap
 bare:AllBare s.gens
def CE (outer:List Env) (P:Program) (w:World) (H:Hp) (s:Shared) (Q:VK) (u:Value) (s':Shared):Prop :=
 ∃ v H',s'.os=s.os/\AllBare s'.gens/\Un (frs outer) [] H H' s.heap s'.heap/\HOk P w H' s'.heap/\RelV v u/\Q v H'
def CR (CX:CXT) (outer:List Env) (P:Program) (w:World) (H:Hp) (s:Shared) (Q:VK) (E:XK) (r:Result) (s':Shared):Prop :=
 match r with
 | .ok (.ret u)=>CE outer P w H s Q u s'
 | .ok _=>False
 | .error e=>CX outer H s E e s'
structure FnOk (P:Program) (w:World) (K:PySem.W.Frag) (mg:Str->Option Value) (base:Heap) (CX:CXT) (k:Nat) (f:Addr) (fd:FuncData) (ps:List Str) (sp:Sp):Prop where
 len:∀ vs H Q E,sp vs H Q E->vs.length=ps.length
 run:∀ (A:Around) (outer:List Env) (s:Shared) (H:Hp) (args:Args) (us:List Value) (vs:List V) (Q:VK) (E:XK),Room k A->Env0 P w K mg base A outer s H->BindsTo s fd args (ps.zip us)->Vals vs us->sp vs H Q E ->
  codeAny (model P w) A (.call (.ref f) args) (CR CX outer P w H s Q E) s
theorem FnOk.imp {P:Program} {w:World} {K:PySem.W.Frag} {mg:Str->Option Value} {base:Heap} {CX:CXT} {k:Nat} {f:Addr} {fd:FuncData} {ps:List Str} {sp sp':Sp} (F:FnOk P w K mg base CX k f fd ps sp)
  (h:∀ vs H Q E,sp' vs H Q E->sp vs H Q E):FnOk P w K mg base CX k f fd ps sp' :=
 ⟨fun vs H Q E q=>F.len vs H Q E (h _ _ _ _ q),fun A outer s H args us vs Q E hr he hb hv hs=>F.run A outer s H args us vs Q E hr he hb hv (h _ _ _ _ hs)⟩
theorem Env0.make {P:Program} {w:World} {K:PySem.W.Frag} {mg:Str->Option Value} {base:Heap} {A:Around} {outer:List Env} {s:Shared} {H:Hp} (e:Env0 P w K mg base A outer s H) (C:Addr) (us:List Value) (kw:List (Str × Value)) :
  Env0 P w K mg base (A.under (.builtin "type.__call__" ⟨.ref C :: us,kw⟩)) outer s H:=⟨by first | exact e.frames | (simpa [Around.under,Code.envs,Code.isFrame,pushEnvs] using e.frames),e.mod,e.bs,e.bsz,e.funs,e.frf,e.hok,e.bare⟩
section
variable {X:Cx} {pins:List (Addr × Obj)} {σ:St} {H:Hp} {s s':Shared}
theorem Inv.env0 (I:Inv X pins σ H s):Env0 X.prog X.w X.K X.mg X.base X.A X.stack s H :=
 ⟨I.ok.frames,I.ok.mod,I.bs,Nat.le_trans I.ok.bsz I.sz,I.stack,I.stkFree,I.hok,I.bare⟩
theorem Inv.after {Q:VK} {u:Value} (I:Inv X pins σ H s) (h:CE X.stack X.prog X.w H s Q u s'):EP X pins σ Q u s':=by
 obtain ⟨v,H',os,bare,un,hok,r,q⟩:=h
 obtain ⟨hh,g,d,t,os'⟩:=s'
 obtain rfl:os' = s.os:=os
 exact ⟨v,H',I.call (h':=hh) (g':=g) (d':=d) (t':=t) (ch:=[]) un hok bare (fun b z=>absurd z (by simp)),r,q⟩
end
def tCall (sp:Sp) (dvs:List V) (E:XK) (t:TA):TE:=fun σ H Q=>t σ H fun vs H1=>sp (vs ++ dvs) H1 Q E
def tMeth (C:Addr) (m:Str) (sp:Sp) (dvs:List V) (E:XK) (ta:TE) (t:TA):TE:=fun σ H Q=>ta σ H fun x H1=>∃ a dx fs,x = .ref a/\H1 a=some (.ins C dx fs)/\fs.lookup m=none /\
 t σ H1 fun vs H2=>sp (x :: (vs ++ dvs)) H2 Q E
def tMake (C:Addr) (sp:Sp) (dvs:List V) (E:XK) (t:TA):TE:=fun σ H Q=>t σ H fun vs H1=>∀ x dx,H1 x=none->H1 dx=none->dx ≠ x ->
 sp (.ref x :: (vs ++ dvs)) (upd (upd H1 dx (.own x)) x (.ins C dx [])) (fun v H2=>v = .non/\Q (.ref x) H2) E
def Binds (K:PySem.W.Frag) (fd:FuncData) (ps:List Str) (ds:List Value):Prop :=
 ∀ (s:Shared) (us:List Value),K.In s.heap->(us ++ ds).length=ps.length->BindsTo s fd ⟨us,[]⟩ (ps.zip (us ++ ds))
theorem Binds.all {K:PySem.W.Frag} {fd:FuncData} {ps:List Str} (h:∀ us:List Value,us.length=ps.length->bindArgs fd ⟨us,[]⟩ = pure (ps.zip us)):Binds K fd ps []:=fun s us _ hl=>by
 rw [List.append_nil] at hl ⊢
 exact .of_eq (h us hl)
def Passes (CX:CXT) (X:Cx) (E:XK):Prop:=∀ (pins:List (Addr × Obj)) (σ:St) (H:Hp) (s:Shared) (e:Value) (s':Shared),Inv X pins σ H s->CX X.stack H s E e s'->X.xe e s'
section
variable {X:Cx} {CX:CXT} {k:Nat} {f C:Addr} {fd:FuncData} {ps:List Str} {sp:Sp} {dvs:List V} {ds:List Value} {E:XK} {x m:Str} {p pos apos:Pos} {e o:Expr} {es:List Expr} {ta:TE} {t:TA}
theorem run_fn {pins:List (Addr × Obj)} {σ:St} {H:Hp} {s:Shared} {Q:VK} {us:List Value} {vs:List V} (F:FnOk X.prog X.w X.K X.mg X.base CX k f fd ps sp) (hr:Room k X.A) (hb:Binds X.K fd ps ds) (hd:Vals dvs ds) (hx:Passes CX X E)
  (I:Inv X pins σ H s) (r:Vals vs us) (h:sp (vs ++ dvs) H Q E):wpAny (model X.prog X.w) X.A (call (.ref f) us) (EP X pins σ Q) X.xe s:=by
 have r2:Vals (vs ++ dvs) (us ++ ds):=r.append hd
 have hl:(us ++ ds).length=ps.length:=by rw [← r2.length]; exact F.len _ _ _ _ h
 refine wpAny_call (codeAny_mono (F.run X.A X.stack s H ⟨us,[]⟩ (us ++ ds) (vs ++ dvs) Q E hr I.env0 (hb s us I.kIn hl) r2 h) fun r s' hq=>?_)
 cases r with
 | error e=>exact hx pins σ H s e s' I hq
 | ok fl =>
  cases fl with
  | ret u=>exact I.after hq
  | next=>exact False.elim hq
  | brk=>exact False.elim hq
  | cont=>exact False.elim hq
theorem pe_call (F:FnOk X.prog X.w X.K X.mg X.base CX k f fd ps sp) (hr:Room k X.A) (hg:Gl X x) (hm:X.mg x=some (.ref f)) (hk:PySem.W.keepIn X.K (.ref f)=true) (hb:Binds X.K fd ps ds) (hd:Vals dvs ds) (hx:Passes CX X E)
  (ha:PA X (e :: es) t) (hdb:(x == ("__debug__":Str))=false:=by decide) (he:starEach (e :: es) X.env=(false,eval e X.env) :: starEach es X.env:=by rfl) (hpl:(backTo pos (starEach es X.env)).any (·.1)=false:=by rfl) :
  PE X (.Call (.Name x p) (e :: es) [] pos) (tCall sp dvs E t):=by
 intro pins s σ H Q I h
 refine wpAny_Call_Name_kw (ld_glob I hg hm ?_ hdb)
 refine PySem.W.callWith_K (h₀:=X.base) I.ok.mod.kin hk (thn (ha pos pins s σ H _ I h) fun us s1 ⟨vs,H1,I1,r,q⟩=>⟨I1.kIn,?_⟩) he hpl
 exact run_fn F hr hb hd hx I1 r q
theorem pe_meth {pl:Sem Bool} (he:PE X o ta) (c:Cls X.K C) (hm:Meth X.K C m f) (F:FnOk X.prog X.w X.K X.mg X.base CX k f fd ps sp) (hr:Room k X.A) (hb:Binds X.K fd ps ds) (hd:Vals dvs ds) (hx:Passes CX X E) (ha:PA X (e :: es) t)
  (hst:starEach (e :: es) X.env=(false,eval e X.env) :: starEach es X.env:=by rfl) (hpl:(backTo pos (starEach es X.env)).any (·.1)=false:=by rfl)
  (ht:eval (.Call (.Attribute o m apos) (e :: es) [] pos) X.env=(do
   let ov ← eval o X.env
   standAt apos.atName
   let (f,first) ← holding [ov] (getMethod ov m pl)
   callWith pos f first (backTo pos (starEach (e :: es) X.env)) (backToKw pos (keywordEach [] X.env))):=by rfl) :
  PE X (.Call (.Attribute o m apos) (e :: es) [] pos) (tMeth C m sp dvs E ta t):=by
 intro pins s σ H Q I h
 refine PySem.W.methodCall_KW (pl:=pl) (thn (he pins s σ H _ I h) fun u s1 ⟨x,H1,I1,rx,a,dx,fs,ex,ea,l,q⟩=>?_) ht
 subst ex
 obtain rfl:u=Value.ref a:=rx
 refine getmeth_ok I1 ea c hm l ?_
 refine PySem.W.callWith_K (first:=[.ref a]) (h₀:=X.base) I.ok.mod.kin hm.kp (thn (ha pos pins s1 σ H1 _ I1 q) fun us s2 ⟨vs,H2,I2,r,q2⟩=>⟨I2.kIn,?_⟩) hst hpl
 exact run_fn (us := .ref a :: us) (vs := .ref a :: vs) F hr hb hd hx I2 (.cons rfl r) q2
structure Mk (K:PySem.W.Frag) (C f:Addr):Prop where
 makes:PySem.W.makesIn K C=true
 init:PySem.W.findIn K (.ref C) "__init__" = some (some (.ref f))
 fn:PySem.W.isFn K (.ref f)=true
 kp:PySem.W.keepIn K (.ref C)=true
theorem run_make {pins:List (Addr × Obj)} {σ:St} {H:Hp} {s:Shared} {Q:VK} {us:List Value} {vs:List V} (M:Mk X.K C f) (F:FnOk X.prog X.w X.K X.mg X.base CX k f fd ps sp) (hr:Room (k + 1) X.A) (hb:Binds X.K fd ps ds) (hd:Vals dvs ds)
  (hx:Passes CX X E) (I:Inv X pins σ H s) (r:Vals vs us)
  (h:∀ x dx,H x=none->H dx=none->dx ≠ x->sp (.ref x :: (vs ++ dvs)) (upd (upd H dx (.own x)) x (.ins C dx [])) (fun v H2=>v = .non/\Q (.ref x) H2) E) :
  wpAny (model X.prog X.w) X.A (call (.ref C) us) (EP X pins σ Q) X.xe s:=by
 have hq:=h (s.heap.objs.size + 1) s.heap.objs.size (I.hok.fresh (Nat.le_succ _)) (I.hok.fresh (Nat.le_refl _)) (Nat.ne_of_lt (Nat.lt_succ_self _))
 have I2:=Inv.made (C:=C) I
 have r2:Vals (V.ref (s.heap.objs.size + 1) :: (vs ++ dvs)) (Value.ref (s.heap.objs.size + 1) :: (us ++ ds)) := .cons rfl (r.append hd)
 have hl:(Value.ref (s.heap.objs.size + 1) :: us ++ ds).length=ps.length:=by
  have e:=r2.length
  rw [F.len _ _ _ _ hq] at e
  exact e.symm
 refine wpAny_call (make_map (f:=f) I.kIn M.makes M.init (beq_iff_eq.mp M.fn) (codeAny_mono (F.run _ X.stack _ _ ⟨Value.ref (s.heap.objs.size + 1) :: us,[]⟩ (Value.ref (s.heap.objs.size + 1) :: (us ++ ds)) _ _ E (hr.make C us [])
  (I2.env0.make C us []) (hb _ (Value.ref (s.heap.objs.size + 1) :: us) I2.kIn hl) r2 hq) fun r s' hq'=>?_))
 cases r with
 | error e=>exact hx pins σ _ _ e s' I2 hq'
 | ok fl =>
  cases fl with
  | ret u =>
   obtain ⟨v,H',I3,rv,ev,q3⟩:=I2.after hq'
   subst ev
   exact ⟨rv,⟨V.ref (s.heap.objs.size + 1),H',I3,rfl,q3⟩⟩
  | next=>exact False.elim hq'
  | brk=>exact False.elim hq'
  | cont=>exact False.elim hq'
theorem pe_make (M:Mk X.K C f) (F:FnOk X.prog X.w X.K X.mg X.base CX k f fd ps sp) (hr:Room (k + 1) X.A) (hg:Gl X x) (hm:X.mg x=some (.ref C)) (hb:Binds X.K fd ps ds) (hd:Vals dvs ds) (hx:Passes CX X E)
  (ha:PA X (e :: es) t) (hdb:(x == ("__debug__":Str))=false:=by decide) (he:starEach (e :: es) X.env=(false,eval e X.env) :: starEach es X.env:=by rfl) (hpl:(backTo pos (starEach es X.env)).any (·.1)=false:=by rfl) :
  PE X (.Call (.Name x p) (e :: es) [] pos) (tMake C sp dvs E t):=by
 intro pins s σ H Q I h
 refine wpAny_Call_Name_kw (ld_glob I hg hm ?_ hdb)
 refine PySem.W.callWith_K (h₀:=X.base) I.ok.mod.kin M.kp (thn (ha pos pins s σ H _ I h) fun us s1 ⟨vs,H1,I1,r,q⟩=>⟨I1.kIn,?_⟩) he hpl
 exact run_make M F hr hb hd hx I1 r q
end
def PK (X:Cx) (kws:List Keyword) (t:TA):Prop :=
 ∀ (pos:Pos) (pins:List (Addr × Obj)) (s:Shared) (σ:St) (H:Hp) (Q:List V->Hp->Prop),Inv X pins σ H s->t σ H Q->wpAny (model X.prog X.w) X.A (evalAll ((backToKw pos (keywordEach kws X.env)).map (·.2))) (AP X pins σ Q) X.xe s
section
variable {X:Cx} {CX:CXT} {k:Nat} {f C:Addr} {fd:FuncData} {ps ks:List Str} {sp:Sp} {E:XK} {x m:Str} {p pos apos kpos:Pos} {e o:Expr} {es:List Expr} {kws:List Keyword} {te ta:TE} {t tk:TA} {nm:Option Str}
structure KBinds (K:PySem.W.Frag) (fd:FuncData) (ps ks:List Str) (g:List Value->List Value->List Value) (gV:List V->List V->List V):Prop where
 to:∀ (s:Shared) (us ws:List Value),K.In s.heap->(g us ws).length=ps.length->BindsTo s fd ⟨us,ks.zip ws⟩ (ps.zip (g us ws))
 rel:∀ {vs:List V} {us:List Value} {zs:List V} {ws:List Value},Vals vs us->Vals zs ws->Vals (gV vs zs) (g us ws)
def tCallK (sp:Sp) (gV:List V->List V->List V) (E:XK) (t tk:TA):TE:=fun σ H Q=>t σ H fun vs H1=>tk σ H1 fun zs H2=>sp (gV vs zs) H2 Q E
variable {g:List Value->List Value->List Value} {gV:List V->List V->List V}
end
structure FnScope (N P:List Str) (sc:Scope):Prop where
 kind:sc.kind = .function
 co:sc.isCoroutine=false
 gen:sc.isGenerator=false
 nd:N.Nodup
 pre:N.take P.length=P
 par:∀ x ∈ P,sc.names.lookup x=some .local∨sc.names.lookup x=some .cell
 nofree:∀ y ∈ sc.names,y.2 ≠ .free
theorem bindL_out {kindOf:Str->Option NameKind} {x:Str}:∀ {binds:List (Str × Value)} {m:Str->Option Value},(∀ v,(x,v) ∉ binds)->bindL kindOf binds m x=m x
 | [],_,_=>rfl
 | (n,v) :: r,m,h=>by
  unfold bindL
  rw [bindL_out fun w hw=>h w (List.mem_cons_of_mem _ hw)]
  split
  ·have:x ≠ n:=by rintro rfl; exact h v List.mem_cons_self
   simp [this]
  ·rfl
theorem bindC_out {kindOf:Str->Option NameKind} {x:Str}:∀ {binds:List (Str × Value)} {m:Str->Option Value},(∀ v,(x,v) ∉ binds)->bindC kindOf binds m x=m x
 | [],_,_=>rfl
 | (n,v) :: r,m,h=>by
  unfold bindC
  rw [bindC_out fun w hw=>h w (List.mem_cons_of_mem _ hw)]
  split
  ·rfl
  ·have:x ≠ n:=by rintro rfl; exact h v List.mem_cons_self
   simp [this]
theorem bindL_get {kindOf:Str->Option NameKind} {x:Str} {v:Value}:∀ {P:List Str} {vs:List Value} {i:Nat} {m:Str->Option Value},P.Nodup->P[i]? = some x->vs[i]? = some v->kindOf x=some .local ->
  bindL kindOf (P.zip vs) m x=some v
 | [],_,_,_,_,h,_,_=>by simp at h
 | _ :: _,[],_,_,_,_,h,_=>by simp at h
 | p :: P,w :: vs,0,m,nd,h1,h2,hk=>by
  simp at h1 h2; subst h1; subst h2
  show bindL kindOf ((p,w) :: P.zip vs) m p=_
  unfold bindL
  rw [bindL_out fun v hv=>(List.nodup_cons.mp nd).1 (List.of_mem_zip hv).1,if_pos hk]
  simp
 | p :: P,w :: vs,i + 1,m,nd,h1,h2,hk=>by
  show bindL kindOf ((p,w) :: P.zip vs) m x=_
  unfold bindL
  exact bindL_get (i:=i) (List.nodup_cons.mp nd).2 (by simpa using h1) (by simpa using h2) hk
theorem bindC_get {kindOf:Str->Option NameKind} {x:Str} {v:Value}:∀ {P:List Str} {vs:List Value} {i:Nat} {m:Str->Option Value},P.Nodup->P[i]? = some x->vs[i]? = some v->kindOf x ≠ some .local ->
  bindC kindOf (P.zip vs) m x=some v
 | [],_,_,_,_,h,_,_=>by simp at h
 | _ :: _,[],_,_,_,_,h,_=>by simp at h
 | p :: P,w :: vs,0,m,nd,h1,h2,hk=>by
  simp at h1 h2; subst h1; subst h2
  show bindC kindOf ((p,w) :: P.zip vs) m p=_
  unfold bindC
  rw [bindC_out fun v hv=>(List.nodup_cons.mp nd).1 (List.of_mem_zip hv).1,if_neg hk]
  simp
 | p :: P,w :: vs,i + 1,m,nd,h1,h2,hk=>by
  show bindC kindOf ((p,w) :: P.zip vs) m x=_
  unfold bindC
  exact bindC_get (i:=i) (List.nodup_cons.mp nd).2 (by simpa using h1) (by simpa using h2) hk
def start (N:List Str) (vs:List V):St:=vs.map some ++ List.replicate (N.length - vs.length) none
def cxOf (CX:CXT) (P:Program) (w:World) (K:PySem.W.Frag) (mg:Str->Option Value) (base:Heap) (N:List Str) (qual:Str) (scope:Scope) (f:Addr) (cd:Value) (A:Around) (outer:List Env) (s:Shared) (H:Hp) (E:XK):Cx where
 prog:=P
 w:=w
 K:=K
 mg:=mg
 base:=base
 A:=A.deeper (envOfC qual scope s.heap.objs.size f cd)
 N:=N
 s₀:=s
 H₀:=H
 env:=envOfC qual scope s.heap.objs.size f cd
 outer:=outer
 stack:=envOfC qual scope s.heap.objs.size f cd :: outer
 ex:=[]
 calm:=true
 fn:=fun _=>true
 pn:=[]
 xe:=fun e s'=>wpAny (model P w) (A.deeper (envOfC qual scope s.heap.objs.size f cd)) (leaving (envOfC qual scope s.heap.objs.size f cd) e) (fun _ s''=>CX outer H s E e s'') (fun e' s''=>CX outer H s E e' s'') s'
theorem cell_has {sc:Scope} {n:Nat} {x:Str} (h:sc.names.lookup x=some .cell):∃ c,(cellsFrom n sc.names []).lookup x=some c:=by
 have q:=PySem.W.cellsFrom_some sc.names n [] (.inl h)
 exact Option.isSome_iff_exists.mp q
theorem inv_start {CX:CXT} {P:Program} {w:World} {K:PySem.W.Frag} {mg:Str->Option Value} {base:Heap} {N ps:List Str} {qual:Str} {scope:Scope} {f:Addr} {cd:Value} {A:Around} {outer:List Env} {s s1:Shared} {H:Hp} {E:XK} {us:List Value} {vs:List V}
  (S:FnScope N ps scope) (hd:A.handled=none) (e0:Env0 P w K mg base A outer s H) (hl:vs.length=ps.length) (r:Vals vs us)
  (x:InCallC s s.heap.objs.size (bindL (envOfC qual scope s.heap.objs.size f cd).kindOf (ps.zip us) fun _=>none) (cellsFrom (s.heap.objs.size + 1) scope.names []) (bindC (envOfC qual scope s.heap.objs.size f cd).kindOf (ps.zip us) fun _=>none) s1) :
  Inv (cxOf CX P w K mg base N qual scope f cd A outer s H E) [] (start N vs) H s1:=by
 have hpl:ps.length <= N.length:=by have:=congrArg List.length S.pre; rw [List.length_take] at this; omega
 obtain ⟨h1,tk,rfl,hk⟩:=x.done
 have noA:∀ b:Addr,b ∉ (cxOf CX P w K mg base N qual scope f cd A outer s H E).ex:=fun b z=>absurd (show b ∈ ([]:List Addr) from z) (by simp)
 refine ⟨⟨e0.mod,S.kind,rfl,rfl,Nat.le_refl _,fun y z c h1 h2=>?_,fun y hy=>?_,fun y c _ h=>?_,fun _=>hd,Around.frames_deeper e0.frames, .inr ⟨rfl,rfl⟩,fun b z=>absurd z (noA b),e0.bs,e0.bsz,fun b _ _=>noA b,fun b z=>absurd z (noA b),e0.funs,e0.frf⟩,
  rfl,e0.bare,Un.kept hk,⟨_,x.toInCall.ns,fun i y v h1 h2 h3=>?_⟩,fun y c h=>⟨_,x.cell y c h⟩,e0.hok.fresh (Nat.le_refl _),fun y c h=>?_,fun p hp=>absurd (show p ∈ ([]:List (Addr × Obj)) from hp) (by simp),e0.hok.kept hk,?_⟩
 ·exact name_of_addr x.apart (PySem.mem_of_lookup h1) (PySem.mem_of_lookup h2)
 ·have hy:scope.names.lookup y=some .cell∨scope.names.lookup y=some .free:=hy
  rcases hy with hy | hy
  ·exact cell_has hy
  ·exact absurd rfl (S.nofree _ (PySem.mem_of_lookup hy))
 ·exact Nat.le_of_lt (x.above y c (PySem.mem_of_lookup h))
 ·have hi:i < vs.length:=by
   unfold start at h2
   by_cases hi:i < vs.length
   ·exact hi
   ·rw [List.getElem?_append_right (by simpa using hi)] at h2
    rw [List.getElem?_replicate] at h2
    split at h2 <;> cases h2
  have ha:vs[i]? = some v:=by
   unfold start at h2
   rw [List.getElem?_append_left (by simpa using hi),List.getElem?_map] at h2
   cases e:vs[i]? with
   | none=>rw [e] at h2; cases h2
   | some a=>rw [e] at h2; cases h2; rfl
  obtain ⟨u,hu,rv⟩:=r.get ha
  have hp:ps[i]? = some y:=by
   rw [← S.pre,List.getElem?_take_of_lt (by omega)]; exact h1
  have ndP:ps.Nodup:=by rw [← S.pre]; exact S.nd.sublist (List.take_sublist _ _)
  refine ⟨u,rv,?_⟩
  rcases S.par y (List.mem_of_getElem? hp) with k | k
  ·exact .inl ⟨k,bindL_get ndP hp hu k⟩
  ·obtain ⟨c,e⟩:=cell_has (n:=s.heap.objs.size + 1) k
   refine .inr ⟨.inl k,c,e,?_⟩
   have q:=x.cell y c e
   rw [bindC_get ndP hp hu (by show scope.names.lookup y ≠ _; rw [k]; decide)] at q
   exact q
 ·exact e0.hok.fresh (Nat.le_of_lt (x.above y c (PySem.mem_of_lookup h)))
 ·unfold start
  show _=N.length
  rw [List.length_append,List.length_map,List.length_replicate]
  omega
theorem fn_of {CX:CXT} {P:Program} {w:World} {K:PySem.W.Frag} {mg:Str->Option Value} {base:Heap} {k:Nat} {f:Addr} {name qual:Str} {params:Arguments} {body:List Stmt} {scope:Scope} {dV kV doc pm cdv ct oc:Value} {an od:Option Addr}
  {osl:Array (Option Value)} {N ps:List Str} {sp:Sp} (lk:K.lookup f=some ⟨oc,od, .func (PySem.W.fnOf name qual params body scope dV kV doc pm an cdv ct),osl⟩) (hcd:PySem.W.codeIn K cdv qual=true) (S:FnScope N ps scope)
  (len:∀ vs H Q E,sp vs H Q E->vs.length=ps.length)
  (hbody:∀ (A:Around) (outer:List Env) (s:Shared) (H:Hp) (vs:List V) (Q:VK) (E:XK),Room k (A.deeper (envOfC qual scope s.heap.objs.size f cdv))->sp vs H Q E ->
   ∃ t,PSs (cxOf CX P w K mg base N qual scope f cdv A outer s H E) body t/\t { nx:=fun _ H'=>Q .non H',rt:=Q } (start N vs) H) :
  FnOk P w K mg base CX (k + 1) f (PySem.W.fnOf name qual params body scope dV kV doc pm an cdv ct) ps sp:=by
 refine ⟨len,fun A outer s H args us vs Q E hr e0 hb r hsp=>?_⟩
 have hl:=len _ _ _ _ hsp
 have KX:K.In s.heap:=e0.mod.kin.keeps fun b o e=>(e0.bs b o e).1
 have lim:s.heap.NoLimit:=e0.mod.nolimit.keeps fun b o e=>(e0.bs b o e).1
 have hkind:∀ y ∈ ps.zip us,scope.names.lookup y.1=some .local∨(scope.names.lookup y.1=some .cell/\((cellsFrom (s.heap.objs.size + 1) scope.names []).lookup y.1).isSome=true):=fun ⟨n,v⟩ hy=>by
  rcases S.par n (List.of_mem_zip hy).1 with q | q
  ·exact .inl q
  ·exact .inr ⟨q,PySem.W.cellsFrom_some _ _ _ (.inl q)⟩
 refine codeAny_call_function hr.depth (KX _ _ lk) rfl S.co S.gen rfl (PySem.W.codeRec_of KX hcd) (hb _ _ _ _ ?_)
 refine wpAny_newFunctionEnv_cells S.kind hkind fun env he s1 x=>?_
 subst he
 refine ⟨lim.keeps x.toInCall.keep,codeAny_func ?_⟩
 obtain ⟨t,ht,hq⟩:=hbody A outer s H vs Q E (hr.deeper _) hsp
 have I:Inv (cxOf CX P w K mg base N qual scope f cdv A outer s H E) [] (start N vs) H s1:=inv_start S hr.hd e0 hl r x
 refine wpAny_mono (ht [] s1 (start N vs) H _ I hq) (fun fl s' hs=>?_) fun e s' hs=>hs
 have fin:∀ {σ':St} {H':Hp} {v:V} {u:Value},Inv (cxOf CX P w K mg base N qual scope f cdv A outer s H E) [] σ' H' s'->RelV v u->Q v H'->CE outer P w H s Q u s' :=
  fun {σ' H' v u} J rv q=>⟨v,H',J.os,J.bare,J.base,J.hok,rv,q⟩
 cases fl with
 | ret u =>
  obtain ⟨v,σ',H',J,rv,q⟩:=hs
  exact fin J rv q
 | next =>
  obtain ⟨σ',H',J,q⟩:=hs
  exact fin (v:=V.non) (u:=Value.none) J rfl q
 | brk =>
  obtain ⟨_,_,_,q⟩:=hs
  exact False.elim q
 | cont =>
  obtain ⟨_,_,_,q⟩:=hs
  exact False.elim q
end L2
namespace L2
open PySem PySem.Spec PyProof.Rows
section
variable {X:Cx} {x:Str} {p pos:Pos} {e:Expr} {es:List Expr} {t:TA} {id T:String} {r:List V->Hp->VK->Prop}
def tCB (r:List V->Hp->VK->Prop) (t:TA):TE:=fun σ H Q=>t σ H fun vs H1=>r vs H1 Q
theorem pe_callB (hc:CallR X (.builtin id) r) (hg:Gl X x) (hm:X.mg x=none) (hv:bootBuiltins x=some (.builtin id)) (ha:PA X (e :: es) t) (hn:x ≠ "__name__":=by decide) (hdb:(x == ("__debug__":Str))=false:=by decide)
  (he:starEach (e :: es) X.env=(false,eval e X.env) :: starEach es X.env:=by rfl) (hpl:(backTo pos (starEach es X.env)).any (·.1)=false:=by rfl):PE X (.Call (.Name x p) (e :: es) [] pos) (tCB r t):=by
 intro pins s σ H Q I h
 refine wpAny_Call_Name_kw (ld_blt I hg hm hv ?_ hn hdb)
 exact PyProof.Rows.callWith_builtin1 (thn (ha pos pins s σ H _ I h) fun us s1 ⟨vs,H1,I1,r1,q1⟩=>hc pins s1 σ H1 vs us Q I1 r1 q1) he hpl
theorem pe_callTy (hc:CallR X (.type T) r) (hg:Gl X x) (hm:X.mg x=none) (hv:bootBuiltins x=some (.type T)) (ha:PA X (e :: es) t) (hn:x ≠ "__name__":=by decide) (hdb:(x == ("__debug__":Str))=false:=by decide)
  (he:starEach (e :: es) X.env=(false,eval e X.env) :: starEach es X.env:=by rfl) (hpl:(backTo pos (starEach es X.env)).any (·.1)=false:=by rfl):PE X (.Call (.Name x p) (e :: es) [] pos) (tCB r t):=by
 intro pins s σ H Q I h
 refine wpAny_Call_Name_kw (ld_blt I hg hm hv ?_ hn hdb)
 exact PyProof.Rows.callWith_type1 (thn (ha pos pins s σ H _ I h) fun us s1 ⟨vs,H1,I1,r1,q1⟩=>hc pins s1 σ H1 vs us Q I1 r1 q1) he hpl
end
end L2
namespace HT
open PySem PyProof.Rows
def lexLt:List Int->List Int->Bool
 | [],[]=>false
 | [],_ :: _=>true
 | _ :: _,[]=>false
 | x :: xs,y :: ys=>if x=y then lexLt xs ys else decide (x < y)
section
open PySem.SeqAt
open PySem.AutoSeq1 (wpAny_loadPart')
open PySem.MeetsSeq PySem.MeetsSeq2 PySem.MeetsSeq3
end
section
variable {prog:Program} {w:World} {A:Around} {E:Value->Shared->Prop} {s:Shared}
def sIx (n d:Nat):Option Int->Nat
 | none=>d
 | some v=>if v < 0 then (v + (n:Int)).toNat else min v.toNat n
theorem sIx_none (n d:Nat):sIx n d none=d:=rfl
theorem sIx_nat (n d k:Nat):sIx n d (some (k:Int))=min k n:=by
 show (if (k:Int) < 0 then ((k:Int) + (n:Int)).toNat else min (k:Int).toNat n)=min k n
 rw [if_neg (by omega),Int.toNat_natCast]
end
end HT
namespace L2
open PySem PySem.Spec PyProof.Rows
abbrev TO:=St->Hp->(Option Int->Hp->Prop)->Prop
def PO (X:Cx) (e:Option Expr) (t:TO):Prop :=
 ∀ (pins:List (Addr × Obj)) (s:Shared) (σ:St) (H:Hp) (Q:Option Int->Hp->Prop),Inv X pins σ H s->t σ H Q ->
  wpAny (model X.prog X.w) X.A (evalPart e X.env) (fun u s'=>∃ o H',Inv X pins σ H' s'/\IsPart u o/\Q o H') X.xe s
def tNoPart:TO:=fun _ H Q=>Q none H
def tPart (t:TE):TO:=fun σ H Q=>t σ H fun x H1=>∃ i,x = .int i/\Q (some i) H1
theorem intsAre_of {ns:List Int}:∀ {us:List Value},Vals (ns.map V.int) us->IntsAre us ns:=by
 induction ns with
 | nil=>intro us r; rw [List.map_nil] at r; cases r; exact .nil
 | cons n ns ih =>
  intro us r
  rw [List.map_cons] at r
  cases r with
  | cons r1 r2 =>
   obtain ⟨t,e⟩:=r1
   subst e
   exact .cons n t (ih r2)
section
variable {X:Cx} {e:Expr} {te:TE} {lo hi:Option Expr} {tl th:TO} {pos p2:Pos}
theorem po_none:PO X none tNoPart:=by
 intro pins s σ H Q I h
 rw [evalPart_none]
 exact wpAny_pure ⟨none,H,I, .none,h⟩
theorem po_some (h:PE X e te):PO X (some e) (tPart te):=by
 intro pins s σ H Q I hw
 rw [evalPart_some]
 refine thn (h pins s σ H _ I hw) fun u s1 ⟨x,H1,I1,r1,q1⟩=>?_
 obtain ⟨i,rfl,q⟩:=q1
 obtain ⟨t,rfl⟩:=r1
 exact ⟨some i,H1,I1, .int i t,q⟩
def SlR (X:Cx) (r:V->Option Int->Option Int->Hp->VK->Prop):Prop :=
 ∀ (pins:List (Addr × Obj)) (s:Shared) (σ:St) (H:Hp) (x:V) (v vl vu:Value) (lo hi:Option Int) (sl:Addr) (Q:VK),Inv X pins σ H s->RelV x v->s.heap.IsSliceOf sl vl vu .none->IsPart vl lo->IsPart vu hi->r x lo hi H Q ->
  ∃ T id,typeLookup (.type T) "__getitem__" = pure (some (.builtin id))/\s.TypeIs v T/\wpAny (model X.prog X.w) X.A (getItem v (.ref sl)) (EP X pins σ Q) X.xe s
def tSl (r:V->Option Int->Option Int->Hp->VK->Prop) (te:TE) (tl th:TO):TE:=fun σ H Q=>te σ H fun x H1=>tl σ H1 fun l H2=>th σ H2 fun u H3=>r x l u H3 Q
theorem pe_slice {r:V->Option Int->Option Int->Hp->VK->Prop} (hr:SlR X r) (he:PE X e te) (hl:PO X lo tl) (hu:PO X hi th):PE X (.Subscript e (.Slice lo hi none p2) pos) (tSl r te tl th):=by
 intro pins s σ H Q I h
 refine Subscript_ (thn (he pins s σ H _ I h) fun v s1 ⟨x,H1,I1,r1,q1⟩=>?_)
 refine wpAny_Slice (thn (hl pins s1 σ H1 _ I1 q1) fun vl s2 ⟨l,H2,I2,pl,q2⟩=>thn (hu pins s2 σ H2 _ I2 q2) fun vu s3 ⟨u,H3,I3,pu,q3⟩=>?_)
 rw [evalPart_none]
 refine wpAny_pure ?_
 have I4:Inv X pins σ H3 { s3 with heap:=s3.heap.push { cls := .type "slice",data := .fields #[vl,vu, .none] } }:=I3.kept (t':=s3.toks) fun b ob q=>Heap.get?_push_of_some _ q
 obtain ⟨T,id,hT,ht,hg⟩:=hr pins { s3 with heap:=s3.heap.push { cls := .type "slice",data := .fields #[vl,vu, .none] } } σ H3 x v vl vu l u s3.heap.objs.size Q I4 r1 (Heap.IsSliceOf.new ..) pl pu q3
 show wpAny (model X.prog X.w) X.A (subscriptTail e (.Slice lo hi none p2) v (.ref s3.heap.objs.size)) (EP X pins σ Q) X.xe { s3 with heap:=s3.heap.push { cls := .type "slice",data := .fields #[vl,vu, .none] } }
 exact tail_any (ops:=[.ref s3.heap.objs.size,v]) ht hT hg (by with_unfolding_all rfl)
def cutV (xs:List V) (lo hi:Option Int):List V:=(xs.drop (HT.sIx xs.length 0 lo)).take (HT.sIx xs.length xs.length hi - HT.sIx xs.length 0 lo)
theorem cutV_length (xs:List V) (lo hi:Option Int):(cutV xs lo hi).length <= xs.length:=by
 unfold cutV
 rw [List.length_take,List.length_drop]
 omega
def rSlT (K:PySem.W.Frag):V->Option Int->Option Int->Hp->VK->Prop:=fun x lo hi H Q=>∃ a xs,x = .ref a/\SqT K H a xs /\
 ¬ (HT.sIx xs.length 0 lo=0/\HT.sIx xs.length xs.length hi=xs.length)/\∀ p,H p=none->Q (.ref p) (upd H p (.tup (cutV xs lo hi)))
def rLtT (K:PySem.W.Frag):R2:=fun x y H Q=>∃ a b ns ms,x = .ref a/\y = .ref b/\SqT K H a (ns.map V.int)/\SqT K H b (ms.map V.int)/\Q (.bl (HT.lexLt ns ms)) H
def rCatT (K:PySem.W.Frag):R2:=fun x y H Q=>∃ a b xs ys,x = .ref a/\y = .ref b/\SqT K H a xs/\SqT K H b ys/\xs ≠ []/\xs.length + ys.length <= sizeLine /\
 (ys=[]->Q (.ref a) H)/\(ys ≠ []->∀ p,H p=none->Q (.ref p) (upd H p (.tup (xs ++ ys))))
end
end L2
namespace L2
open PySem PySem.Spec PyProof.Rows
def ixN (n:Nat) (i:Int):Option Nat:=if 0 <= i then (if i < n then some i.toNat else none) else if -(n:Int) <= i then some (i + n).toNat else none
def atI {α:Type} (xs:List α) (i:Int):Option α:=(ixN xs.length i).bind fun j=>xs[j]?
theorem ixN_seq {n:Nat} {i:Int} {j:Nat} (h:ixN n i=some j):seqIndex? i n=some j/\j < n/\-(n:Int) <= i/\i < n:=by
 unfold ixN at h
 by_cases h0:0 <= i
 ·rw [if_pos h0] at h
  by_cases h1:i < n
  ·rw [if_pos h1] at h
   have e:i.toNat=j:=Option.some.inj h
   exact ⟨by rw [seqIndex_of h0 h1,e],by omega,by omega,h1⟩
  ·rw [if_neg h1] at h; cases h
 ·rw [if_neg h0] at h
  by_cases h1:-(n:Int) <= i
  ·rw [if_pos h1] at h
   have e:(i + n).toNat=j:=Option.some.inj h
   exact ⟨by rw [seqIndex_neg (by omega) h1,e],by omega,h1,by omega⟩
  ·rw [if_neg h1] at h; cases h
theorem atI_get {α:Type} {xs:List α} {i:Int} {v:α} (h:atI xs i=some v):∃ j,seqIndex? i xs.length=some j/\xs[j]? = some v/\j < xs.length/\-(xs.length:Int) <= i/\i < xs.length:=by
 unfold atI at h
 cases e:ixN xs.length i with
 | none=>rw [e] at h; cases h
 | some j =>
  rw [e] at h
  obtain ⟨h1,h2,h3,h4⟩:=ixN_seq e
  exact ⟨j,h1,h,h2,h3,h4⟩
theorem atI_nat {α:Type} {xs:List α} {j:Nat} {v:α} (h:xs[j]? = some v):atI xs (j:Int)=some v:=by
 have hj:j < xs.length:=(List.getElem?_eq_some_iff.mp h).1
 have e:ixN xs.length (j:Int)=some j:=by
  unfold ixN
  rw [if_pos (by omega),if_pos (by omega)]; simp
 unfold atI; rw [e]; exact h
def PlainIx (b:Expr):Prop:=∀ o i,subscripted b false o i=operate [o,i] (getItem o i)
def IxR (X:Cx) (r:R2):Prop :=
 ∀ (value slice:Expr) (pins:List (Addr × Obj)) (s:Shared) (σ:St) (H:Hp) (x y:V) (v u:Value) (Q:VK),Inv X pins σ H s->RelV x v->RelV y u->r x y H Q ->
  subscripted slice false v u=operate [v,u] (getItem v u)->wpAny (model X.prog X.w) X.A (subscriptTail value slice v u) (EP X pins σ Q) X.xe s
def MtR (X:Cx) (id:String) (r:V->List V->Hp->VK->Prop):Prop :=
 ∀ (pins:List (Addr × Obj)) (s:Shared) (σ:St) (H:Hp) (x:V) (xs:List V) (v:Value) (us:List Value) (Q:VK),Inv X pins σ H s->RelV x v->Vals xs us->r x xs H Q ->
  wpAny (model X.prog X.w) X.A (call (.builtin id) (v :: us)) (EP X pins σ Q) X.xe s
section
variable {X:Cx} {a b:Expr} {ta tb:TE} {pos:Pos}
theorem IxR.or {r r':R2} (h:IxR X r) (h':IxR X r'):IxR X (fun x y H Q=>r x y H Q∨r' x y H Q):=by
 intro value slice pins s σ H x y v u Q I rx ry q hs
 rcases q with q | q
 ·exact h value slice pins s σ H x y v u Q I rx ry q hs
 ·exact h' value slice pins s σ H x y v u Q I rx ry q hs
theorem pe_ix {r:R2} (hr:IxR X r) (ha:PE X a ta) (hb:PE X b tb) (hs:PlainIx b):PE X (.Subscript a b pos) (tOp r ta tb):=by
 intro pins s σ H Q I h
 exact Subscript_ (binT ha hb I h fun v u s2 x y H2 I2 rx ry q=>hr a b pins s2 σ H2 x y v u Q I2 rx ry q (hs _ _))
def rIxL (K:PySem.W.Frag):R2:=fun x y H Q=>∃ p xs i v,x = .ref p/\y = .int i/\SqL K H p xs/\atI xs i=some v/\Q v H
def rIxT (K:PySem.W.Frag):R2:=fun x y H Q=>∃ p xs i v,x = .ref p/\y = .int i/\SqT K H p xs/\atI xs i=some v/\Q v H
def rIxS:R2:=fun x y H Q=>∃ z i c,x = .str z/\y = .int i/\z.length <= sizeLine/\atI z.cps.toList i=some c/\Q (.str ⟨#[c]⟩) H
theorem ix_list:IxR X (rIxL X.K):=by
 intro value slice pins s σ H x y v u Q I rx ry h hs
 obtain ⟨p,xs,i,z,rfl,rfl,hq,he,q⟩:=h
 cases rx
 obtain ⟨t,rfl⟩:=ry
 obtain ⟨its,r,pl,hz⟩:=I.list hq
 obtain ⟨j,h1,h2,h3,h4,h5⟩:=atI_get he
 obtain ⟨w,ew,rw'⟩:=r.get h2
 have hl:=r.length
 have hn:=line63
 have fin:EP X pins σ Q w s:=⟨z,H,I,rw',q⟩
 by_cases h0:0 <= i
 ·have hj:i.toNat=j:=by
   rw [seqIndex_of h0 h5] at h1
   exact Option.some.inj h1
  exact item_listR pl.isList h0 (by omega) (by rw [hj]; simpa using ew) fin hs
 ·have hj:(i + (its.toArray.size:Int)).toNat=j:=by
   rw [seqIndex_neg (by omega) h4] at h1
   rw [List.size_toArray,← hl]
   exact Option.some.inj h1
  exact subscriptTail_builtinR (x:=w) pl.isList.typeIs slot_list_getitem.lookup
   (wpAny_getItem_list_neg (Q:=fun r s'=>r=w/\EP X pins σ Q r s') pl.isList (by omega) (by rw [List.size_toArray] <;> omega) (by omega) (by rw [hj]; simpa using ew) ⟨rfl,fin⟩) hs
theorem ix_tup:IxR X (rIxT X.K):=by
 intro value slice pins s σ H x y v u Q I rx ry h hs
 obtain ⟨p,xs,i,z,rfl,rfl,hq,he,q⟩:=h
 cases rx
 obtain ⟨t,rfl⟩:=ry
 obtain ⟨its,r,pl,hz⟩:=I.tuple hq
 obtain ⟨j,h1,h2,h3,h4,h5⟩:=atI_get he
 obtain ⟨w,ew,rw'⟩:=r.get h2
 have hl:=r.length
 have hn:=line63
 have fin:EP X pins σ Q w s:=⟨z,H,I,rw',q⟩
 exact subscriptTail_builtinR (x:=w) pl.typeIs slot_tuple_getitem.lookup
  (getItem_tuple (j:=j) (Q:=fun r s'=>r=w/\EP X pins σ Q r s') pl (by omega) (by omega) (by rw [List.size_toArray,← hl]; exact h1) (by simpa using ew) ⟨rfl,fin⟩) hs
theorem ix_str:IxR X rIxS:=by
 intro value slice pins s σ H x y v u Q I rx ry h hs
 obtain ⟨z,i,c,rfl,rfl,hz,he,q⟩:=h
 obtain ⟨t,rfl⟩:=rx
 obtain ⟨t',rfl⟩:=ry
 obtain ⟨j,h1,h2,h3,h4,h5⟩:=atI_get he
 have hl:z.cps.toList.length=z.length:=by simp [Str.length]
 rw [hl] at h1 h4 h5
 have hn:=line63
 exact tail_any (typeIs_str s z t) slot_str_getitem.lookup (getItem_str (c:=c) (by
  have e1:decide (i < -(2 ^ 63:Int))=false:=decide_eq_false (by omega)
  have e2:decide (i ≥ 2 ^ 63)=false:=decide_eq_false (by omega)
  rw [e1,e2,Bool.or_false]) (by rw [h1]; simpa using h2) ⟨.str ⟨#[c]⟩,H,I.tok _,⟨_,rfl⟩,q⟩) hs
def rIx (K:PySem.W.Frag):R2:=fun x y H Q=>rIxL K x y H Q∨rIxT K x y H Q∨rIxS x y H Q
theorem ix_seq:IxR X (rIx X.K):=ix_list.or (ix_tup.or ix_str)
theorem mapSeq_set (its:List Value) (n j:Nat) (u:Value):Obj.mapSeq (·.setIfInBounds j u) { cls := .type "list",data := .seq its.toArray n } = { cls := .type "list",data := .seq (its.set j u).toArray n }:=by
 simp [Obj.mapSeq]
theorem Inv.lst {pins:List (Addr × Obj)} {σ:St} {H:Hp} {s:Shared} {p:Addr} {xs:List V} (I:Inv X pins σ H s) (h:H p=some (.lst xs)) :
  ∃ (its:List Value) (n:Nat),Vals xs its/\s.heap.get? p=some { cls := .type "list",data := .seq its.toArray n }/\xs.length <= sizeLine:=by
 obtain ⟨z,its,n,r,e⟩:=I.hok p _ h
 exact ⟨its,n,r,e,z⟩
theorem Inv.lstUpd {pins:List (Addr × Obj)} {σ:St} {H:Hp} {s:Shared} {p:Addr} {xs ys:List V} {its its':List Value} {n n':Nat} {f:Obj->Obj} (I:Inv X pins σ H s) (h:H p=some (.lst xs))
  (ho:s.heap.get? p=some { cls := .type "list",data := .seq its.toArray n }) (hf:f { cls := .type "list",data := .seq its.toArray n } = { cls := .type "list",data := .seq its'.toArray n' }) (r:Vals ys its') (hz:ys.length <= sizeLine) (t:Nat) :
  Inv X pins σ (upd H p (.lst ys)) { s with heap:=s.heap.update p f,toks:=t }:=by
 have e:(s.heap.update p f).get? p=some { cls := .type "list",data := .seq its'.toArray n' }:=by
  rw [Heap.get?_update_self f ho (by rw [hf] <;> rfl),hf]
 refine I.write (x:=p) (e:=p) (by rw [h]; trivial) (.inl rfl) (fun b u hb q=>(Heap.get?_update_other _ _ (Ne.symm hb)).trans q) ⟨_,e⟩ ?_
 exact ⟨hz,its',n',r,e⟩
def rSetL:V->V->V->Hp->(Hp->Prop)->Prop:=fun o i v H Q=>∃ p xs k j,o = .ref p/\i = .int k/\H p=some (.lst xs)/\ixN xs.length k=some j/\Q (upd H p (.lst (xs.set j v)))
theorem set_list:PSet X rSetL:=by
 intro pins s σ H o i v ov iv u Q I ro ri rv h
 obtain ⟨p,xs,k,j,rfl,rfl,hp,hj,q⟩:=h
 cases ro
 obtain ⟨t,rfl⟩:=ri
 obtain ⟨its,n,r,ho,hz⟩:=I.lst hp
 obtain ⟨h1,h2,h3,h4⟩:=ixN_seq hj
 have hl:=r.length
 have hn:=line63
 have I':Inv X pins σ (upd H p (.lst (xs.set j v))) { s with heap:=s.heap.update p (Obj.mapSeq (·.setIfInBounds j u)) } :=
  I.lstUpd hp ho (mapSeq_set its n j u) (r.set rv j) (by rw [List.length_set]; exact hz) s.toks
 by_cases h0:0 <= k
 ·have hk:k.toNat=j:=by
   rw [seqIndex_of h0 h4] at h1
   exact Option.some.inj h1
  exact PySem.W.ki_setAt ho h0 (by omega) (by rw [List.size_toArray,← hl]; exact h4) (by rw [hk]; exact ⟨_,I',q⟩)
 ·have hk:(k + (its.toArray.size:Int)).toNat=j:=by
   rw [seqIndex_neg (by omega) h3] at h1
   rw [List.size_toArray,← hl]
   exact Option.some.inj h1
  exact PySem.W.ki_setBack ho (by omega) (by rw [List.size_toArray,← hl]; exact h3) (by omega) (by rw [hk]; exact ⟨_,I',q⟩)
theorem slice_bounds (lo hi:Option Int) (n:Nat):(sliceBounds lo hi none n).1=((HT.sIx n 0 lo:Nat):Int)/\(sliceBounds lo hi none n).2.1=((HT.sIx n n hi:Nat):Int)/\(sliceBounds lo hi none n).2.2=1:=by
 refine ⟨?_,?_,rfl⟩
 ·cases lo with
  | none=>simp [sliceBounds,HT.sIx]
  | some i =>
   simp only [sliceBounds,HT.sIx,Option.getD_none,show (1:Int) > 0 by decide,if_true]
   by_cases h:i < 0
   ·simp only [h,if_true] <;> omega
   ·simp only [h,if_false] <;> omega
 ·cases hi with
  | none=>simp [sliceBounds,HT.sIx]
  | some i =>
   simp only [sliceBounds,HT.sIx,Option.getD_none,show (1:Int) > 0 by decide,if_true]
   by_cases h:i < 0
   ·simp only [h,if_true] <;> omega
   ·simp only [h,if_false] <;> omega
theorem slicePick_cut (its:List Value) (lo hi:Option Int):slicePick its.toArray lo hi none=((its.drop (HT.sIx its.length 0 lo)).take (HT.sIx its.length its.length hi - HT.sIx its.length 0 lo)).toArray:=by
 obtain ⟨h1,h2,h3⟩:=slice_bounds lo hi its.toArray.size
 unfold slicePick
 rw [h1,h2,h3]
 simp only [sliceRange_one,pick_run,List.size_toArray] <;> rfl
def rSlL (K:PySem.W.Frag):V->Option Int->Option Int->Hp->VK->Prop:=fun x lo hi H Q=>∃ a xs,x = .ref a/\SqL K H a xs/\∀ p,H p=none->Q (.ref p) (upd H p (.lst (cutV xs lo hi)))
theorem sl_list:SlR X (rSlL X.K):=by
 intro pins s σ H x v vl vu lo hi sl Q I rx hs pl pu h
 obtain ⟨a,xs,rfl,hx,q⟩:=h
 cases rx
 obtain ⟨its,r,ht,hz⟩:=I.list hx
 have hlen:=r.length
 refine ⟨"list",_,slot_list_getitem.lookup,ht.isList.typeIs,?_⟩
 refine wpAny_getItem_list_slice ht.isList hs pl pu .none (by simp) ?_ (by rw [List.size_toArray] <;> omega)
 rw [slicePick_cut,← hlen]
 refine ⟨.ref s.heap.objs.size,_,I.laid (t':=s.toks) (o := .lst (cutV xs lo hi)) (fun b ob q=>Heap.get?_push_of_some _ q) (Nat.le_refl _) ?_,rfl,q _ (I.hok.fresh (Nat.le_refl _))⟩
 exact ⟨Nat.le_trans (cutV_length xs lo hi) hz,_,0,(r.drop (HT.sIx xs.length 0 lo)).take (HT.sIx xs.length xs.length hi - HT.sIx xs.length 0 lo),Heap.get?_push_size _ rfl⟩
def flatV:V->Bool
 | .non=>true
 | .bl _=>true
 | .int _=>true
 | .str _=>true
 | _=>false
def eqV:V->V->Bool
 | .non, .non=>true
 | .bl a, .bl b=>a == b
 | .bl a, .int b=>(if a then 1 else 0) == b
 | .int a, .bl b=>a == (if b then 1 else 0)
 | .int a, .int b=>a == b
 | .str a, .str b=>a == b
 | _,_=>false
theorem eqAt_V {A:Around} {s:Shared} {y x:V} {u v:Value} (ry:RelV y u) (rx:RelV x v) (fy:flatV y=true) (fx:flatV x=true):SeqAt.EqAt A s u v (eqV y x):=by
 cases y with
 | non =>
  cases ry
  cases x with
  | non=>cases rx; exact SeqAt.EqAt.same _
  | bl b=>cases rx; exact SeqAt.EqAt.none_bool b
  | int b=>obtain ⟨t,rfl⟩:=rx; exact SeqAt.EqAt.none_int b t
  | str b=>obtain ⟨t,rfl⟩:=rx; exact SeqAt.EqAt.none_str b t
  | _=>exact absurd (show false=true from fx) Bool.false_ne_true
 | bl a =>
  cases ry
  cases x with
  | non=>cases rx; exact SeqAt.EqAt.bool_none a
  | bl b=>cases rx; exact SeqAt.EqAt.bool_bool a b
  | int b=>obtain ⟨t,rfl⟩:=rx; exact SeqAt.EqAt.bool_int a b t
  | str b=>obtain ⟨t,rfl⟩:=rx; exact SeqAt.EqAt.bool_str a b t
  | _=>exact absurd (show false=true from fx) Bool.false_ne_true
 | int a =>
  obtain ⟨t',rfl⟩:=ry
  cases x with
  | non=>cases rx; exact SeqAt.EqAt.int_none a t'
  | bl b=>cases rx; exact SeqAt.EqAt.int_bool a t' b
  | int b=>obtain ⟨t,rfl⟩:=rx; exact SeqAt.EqAt.int_int a t' b t
  | str b=>obtain ⟨t,rfl⟩:=rx; exact SeqAt.EqAt.int_str a t' b t
  | _=>exact absurd (show false=true from fx) Bool.false_ne_true
 | str a =>
  obtain ⟨t',rfl⟩:=ry
  cases x with
  | non=>cases rx; exact SeqAt.EqAt.str_none a t'
  | bl b=>cases rx; exact SeqAt.EqAt.str_bool a t' b
  | int b=>obtain ⟨t,rfl⟩:=rx; exact SeqAt.EqAt.str_int a t' b t
  | str b=>obtain ⟨t,rfl⟩:=rx; exact SeqAt.EqAt.str_str a t' b t
  | _=>exact absurd (show false=true from fx) Bool.false_ne_true
 | _=>exact absurd (show false=true from fy) Bool.false_ne_true
def eqU (x:V) (u:Value):Bool:=match u with
 | .none=>eqV .non x
 | .bool b=>eqV (.bl b) x
 | .int i _=>eqV (.int i) x
 | .str z _=>eqV (.str z) x
 | _=>false
theorem eqU_of {x y:V} {u:Value} (r:RelV y u) (f:flatV y=true):eqU x u=eqV y x:=by
 cases y with
 | non=>cases r; rfl
 | bl b=>cases r; rfl
 | int i=>obtain ⟨t,rfl⟩:=r; rfl
 | str z=>obtain ⟨t,rfl⟩:=r; rfl
 | _=>exact absurd (show false=true from f) Bool.false_ne_true
theorem any_eqU {x:V}:∀ {xs:List V} {us:List Value},Vals xs us->xs.all flatV=true->us.any (eqU x)=xs.any fun y=>eqV y x
 | _,_, .nil,_=>rfl
 | y :: xs,u :: us, .cons r t,f=>by
  rw [List.all_cons,Bool.and_eq_true] at f
  rw [List.any_cons,List.any_cons,eqU_of r f.1,any_eqU t f.2]
theorem mem_eqAt {A:Around} {s:Shared} {x:V} {v:Value} (rx:RelV x v) (fx:flatV x=true):∀ {xs:List V} {us:List Value},Vals xs us->xs.all flatV=true->∀ u ∈ us,SeqAt.EqAt A s u v (eqU x u)
 | _,_, .nil,_=>fun u hu=>by cases hu
 | y :: xs,u :: us, .cons r t,f=>fun u' hu=>by
  rw [List.all_cons,Bool.and_eq_true] at f
  rcases List.mem_cons.mp hu with rfl | hu
  ·rw [eqU_of r f.1]; exact eqAt_V r rx f.1 fx
  ·exact mem_eqAt rx fx t f.2 u' hu
def inV (x:V) (xs:List V):Bool:=xs.any fun y=>eqV y x
def rIn (K:PySem.W.Frag) (neg:Bool):R2:=fun x y H Q=>∃ p xs,y = .ref p/\(SqL K H p xs∨SqT K H p xs)/\flatV x=true/\xs.all flatV=true/\Q (.bl (if neg then !inV x xs else inV x xs)) H
theorem op_in_seq:OpR X (compareOp .In) (rIn X.K false):=by
 intro pins s σ H x y v u Q I rx ry h
 obtain ⟨p,xs,rfl,hq,fx,fs,q⟩:=h
 cases ry
 rcases hq with hq | hq
 ·obtain ⟨its,r,pl,hz⟩:=I.list hq
  refine SeqAt.in_listAt (eqU x) pl.isList (fun w hw=>mem_eqAt rx fx r fs w (by simpa using hw)) ⟨.bl _,H,I,rfl,?_⟩
  rw [show its.toArray.any (eqU x)=its.any (eqU x) by simp,any_eqU r fs]
  exact q
 ·obtain ⟨its,r,pl,hz⟩:=I.tuple hq
  refine SeqAt.in_tupleAt (eqU x) pl (fun w hw=>mem_eqAt rx fx r fs w (by simpa using hw)) ⟨.bl _,H,I,rfl,?_⟩
  rw [show its.toArray.any (eqU x)=its.any (eqU x) by simp,any_eqU r fs]
  exact q
theorem op_notIn_seq:OpR X (compareOp .NotIn) (rIn X.K true):=by
 intro pins s σ H x y v u Q I rx ry h
 obtain ⟨p,xs,rfl,hq,fx,fs,q⟩:=h
 cases ry
 rcases hq with hq | hq
 ·obtain ⟨its,r,pl,hz⟩:=I.list hq
  refine SeqAt.notIn_listAt (eqU x) pl.isList (fun w hw=>mem_eqAt rx fx r fs w (by simpa using hw)) ⟨.bl _,H,I,rfl,?_⟩
  rw [show its.toArray.any (eqU x)=its.any (eqU x) by simp,any_eqU r fs]
  exact q
 ·obtain ⟨its,r,pl,hz⟩:=I.tuple hq
  refine SeqAt.notIn_tupleAt (eqU x) pl (fun w hw=>mem_eqAt rx fx r fs w (by simpa using hw)) ⟨.bl _,H,I,rfl,?_⟩
  rw [show its.toArray.any (eqU x)=its.any (eqU x) by simp,any_eqU r fs]
  exact q
theorem call_len_seq:CallR X (.builtin "len") (fun xs H Q=>∃ p ys,xs=[.ref p]/\(SqL X.K H p ys∨SqT X.K H p ys)/\Q (.int ys.length) H):=by
 intro pins s σ H xs us Q I r h
 obtain ⟨p,ys,rfl,hq,q⟩:=h
 obtain ⟨u,rfl,rx⟩:=vals1 r
 cases rx
 have hn:=line63
 rcases hq with hq | hq
 ·obtain ⟨its,r',pl,hz⟩:=I.list hq
  have hlen:=r'.length
  exact Calls.call_len_list pl.isList (by simp only [List.size_toArray] <;> omega) ⟨.int ys.length,H,I.tok _,⟨s.toks + 1,by rw [List.size_toArray,hlen]⟩,q⟩
 ·obtain ⟨its,r',pl,hz⟩:=I.tuple hq
  have hlen:=r'.length
  exact len_tuple pl (by simp only [List.size_toArray] <;> omega) ⟨.int ys.length,H,I.tok _,⟨s.toks + 1,by rw [List.size_toArray,hlen]⟩,q⟩
theorem call_list_of:CallR X (.type "list") (fun xs H Q=>∃ p ys,xs=[.ref p]/\(SqL X.K H p ys∨SqT X.K H p ys)/\∀ l,H l=none->Q (.ref l) (upd H l (.lst ys))):=by
 intro pins s σ H xs us Q I r h
 obtain ⟨p,ys,rfl,hq,q⟩:=h
 obtain ⟨u,rfl,rx⟩:=vals1 r
 cases rx
 have fin:∀ (its:List Value),Vals ys its->ys.length <= sizeLine->∀ (h':Heap) (c':Nat),(∀ b o',s.heap.get? b=some o'->h'.get? b=some o') ->
   h'.get? s.heap.objs.size=some { cls := .type "list",dict:=none,data := .seq its.toArray c',slots:=#[] }->EP X pins σ Q (.ref s.heap.objs.size) { s with heap:=h' }:=fun its r' hz h' c' kp e =>
  ⟨.ref s.heap.objs.size,_,I.laid (t':=s.toks) kp (Nat.le_refl _) (show ObjOk X.prog X.w _ h' _ (.lst ys) from ⟨hz,its,c',r',e⟩),rfl,q _ (I.hok.fresh (Nat.le_refl _))⟩
 rcases hq with hq | hq
 ·obtain ⟨its,r',pl,hz⟩:=I.list hq
  have hlen:=r'.length
  obtain ⟨o,ho,hc,n,hd⟩:=pl.isList
  exact call_list_seq p (.inl rfl) ho hc hd (fun h' c' kp e=>fin its r' hz h' c' kp e) (by simp only [List.size_toArray] <;> omega)
 ·obtain ⟨its,r',pl,hz⟩:=I.tuple hq
  have hlen:=r'.length
  obtain ⟨o,ho,hc,n,hd⟩:=pl
  exact call_list_seq p (.inr rfl) ho hc hd (fun h' c' kp e=>fin its r' hz h' c' kp e) (by simp only [List.size_toArray] <;> omega)
theorem call_tuple_of:CallR X (.type "tuple") (fun xs H Q=>∃ p ys,xs=[.ref p]/\((SqL X.K H p ys/\∀ l,H l=none->Q (.ref l) (upd H l (.tup ys)))∨(SqT X.K H p ys/\Q (.ref p) H))):=by
 intro pins s σ H xs us Q I r h
 obtain ⟨p,ys,rfl,h⟩:=h
 obtain ⟨u,rfl,rx⟩:=vals1 r
 cases rx
 rcases h with ⟨hq,q⟩ | ⟨hq,q⟩
 ·obtain ⟨its,r',pl,hz⟩:=I.list hq
  have hlen:=r'.length
  refine call_tuple_list pl.isList (fun h' kp=>?_) (by simp only [List.size_toArray] <;> omega)
  have I1:Inv X pins σ H { s with heap:=h' }:=I.kept (t':=s.toks) kp
  have I2:Inv X pins σ (upd H h'.objs.size (.tup ys)) { s with heap:=h'.push { cls := .type "tuple",data := .seq its.toArray } } :=
   I1.laid (t':=s.toks) (fun b o e=>Heap.get?_push_of_some _ e) (Nat.le_refl _) (show ObjOk X.prog X.w _ _ _ (.tup ys) from ⟨hz,its,r',IsTupN.new _ _⟩)
  exact ⟨.ref h'.objs.size,_,I2,rfl,q _ (I1.hok.fresh (Nat.le_refl _))⟩
 ·obtain ⟨its,r',pl,hz⟩:=I.tuple hq
  exact call_tuple_same pl ⟨.ref p,H,I,rfl,q⟩
def tyV (K:PySem.W.Frag) (T:String) (x:V) (H:Hp):Prop:=match x with
 | .str _=>T = "str"
 | .int _=>T = "int"
 | .ref p=>(T = "list"/\∃ xs,SqL K H p xs)∨(T = "tuple"/\∃ o,K.lookup p=some o/\o.cls = .type "tuple"/\o.dict=none) ∨
   (T = "dict"/\((∃ kvs,H p=some (.dK kvs))∨∃ kvs,H p=some (.dT kvs)))∨(T = "set"/\∃ S n,H p=some (.set S n))
 | _=>False
theorem tyV_is {pins:List (Addr × Obj)} {σ:St} {H:Hp} {s:Shared} {T:String} {x:V} {v:Value} (I:Inv X pins σ H s) (r:RelV x v) (ty:tyV X.K T x H) :
  s.TypeIs v T/\∀ a,v = .ref a->∃ ob,s.heap.get? a=some ob/\ob.dict=none:=by
 cases x with
 | str z =>
  obtain ⟨t,rfl⟩:=r
  cases (show T = "str" from ty)
  exact ⟨typeIs_str s z t,fun _ e=>nomatch e⟩
 | int i =>
  obtain ⟨t,rfl⟩:=r
  cases (show T = "int" from ty)
  exact ⟨typeIs_int s i t,fun _ e=>nomatch e⟩
 | ref p =>
  cases r
  rcases ty with ⟨rfl,xs,hq⟩ | ⟨rfl,o,hk,hc,hd⟩ | ⟨rfl,hk⟩ | ⟨rfl,S,n,hk⟩
  ·obtain ⟨its,_,pl,_⟩:=I.list hq
   refine ⟨pl.isList.typeIs,fun a e=>?_⟩
   cases e
   obtain ⟨o,n,e,c,hd,_⟩:=pl
   exact ⟨o,e,hd⟩
  ·refine ⟨⟨o,I.kIn p o hk,hc⟩,fun a e=>?_⟩
   cases e
   exact ⟨o,I.kIn _ o hk,hd⟩
  ·have z:∃ o,s.heap.get? p=some o/\o.ExactDict:=by
    rcases hk with ⟨kvs,hk⟩ | ⟨kvs,hk⟩
    ·obtain ⟨_,_,_,_,o,_,_,e,ex,_⟩:=I.hok p _ hk
     exact ⟨o,e,ex⟩
    ·obtain ⟨_,_,_,_,o,_,_,e,ex,_⟩:=I.hok p _ hk
     exact ⟨o,e,ex⟩
   obtain ⟨o,e,ex⟩:=z
   refine ⟨⟨o,e,ex.1⟩,fun a e2=>?_⟩
   cases e2
   exact ⟨o,e,ex.2.1⟩
  ·obtain ⟨o,_,_,_,e,ex,_⟩:=I.hok p _ hk
   refine ⟨⟨o,e,ex.1⟩,fun a e2=>?_⟩
   cases e2
   exact ⟨o,e,ex.2.1⟩
 | _=>exact False.elim ty
def tBM0 (K:PySem.W.Frag) (T:String) (r:V->List V->Hp->VK->Prop) (to:TE):TE:=fun σ H Q=>to σ H fun x H1=>tyV K T x H1/\r x [] H1 Q
def tBM (K:PySem.W.Frag) (T:String) (r:V->List V->Hp->VK->Prop) (to:TE) (t:TA):TE:=fun σ H Q=>to σ H fun x H1=>tyV K T x H1/\t σ H1 fun xs H2=>r x xs H2 Q
variable {o e:Expr} {es:List Expr} {to:TE} {t:TA} {name:Str} {apos cpos:Pos} {T id:String} {r:V->List V->Hp->VK->Prop}
theorem pe_bm0 (pa:PlainAttrs T) (slot:Slot T name id) (hty:typeOf (.builtin id)=pure (.type "method_descriptor")) (hm:MtR X id r) (ho:PE X o to)
  (hbase:attributeBase o name X.env (eval o X.env)=eval o X.env:=by rfl) (hline:(apos.endLine == cpos.line)=true:=by rfl):PE X (.Call (.Attribute o name apos) [] [] cpos) (tBM0 X.K T r to):=by
 intro pins s σ H Q I h
 refine wpAny_Call_method0_late hbase hline (thn (ho pins s σ H _ I h) fun v s1 ⟨x,H1,I1,r1,ty,q1⟩=>?_)
 obtain ⟨h1,h2⟩:=tyV_is I1 r1 ty
 exact ⟨T,id,pa,slot,hty,h1,h2,Calls.callWith_builtin rfl (PySem.evalArgs_none (hm pins s1 σ H1 x [] v [] Q I1 r1 .nil q1))⟩
theorem pe_bm (pa:PlainAttrs T) (slot:Slot T name id) (hty:typeOf (.builtin id)=pure (.type "method_descriptor")) (hm:MtR X id r) (ho:PE X o to) (ha:PA X (e :: es) t)
  (hbase:attributeBase o name X.env (eval o X.env)=eval o X.env:=by rfl)
  (hfew:((backTo cpos (starEach (e :: es) X.env)).all (fun x=>!x.1) && (backToKw cpos (keywordEach [] X.env)).all (fun x=>x.1.isSome)
   && decide ((e :: es).length + ([]:List Keyword).length + (if ([]:List Keyword).isEmpty then 0 else 1) < 30))=true:=by rfl)
  (hline:(apos.endLine == cpos.line)=true:=by rfl) (hs:starEach (e :: es) X.env=(false,eval e X.env) :: starEach es X.env:=by rfl) (hplain:(backTo cpos (starEach es X.env)).any (·.1)=false:=by rfl) :
  PE X (.Call (.Attribute o name apos) (e :: es) [] cpos) (tBM X.K T r to t):=by
 intro pins s σ H Q I h
 refine wpAny_Call_method_late hbase hfew hline rfl (thn (ho pins s σ H _ I h) fun v s1 ⟨x,H1,I1,r1,ty,q1⟩=>?_)
 obtain ⟨h1,h2⟩:=tyV_is I1 r1 ty
 refine ⟨T,id,pa,slot,hty,h1,h2,?_⟩
 have hA:=ha cpos pins s1 σ H1 _ I1 q1
 rw [hs] at hA ⊢
 refine Calls.callWith_builtin (by show (false || (backTo cpos (starEach es X.env)).any (·.1))=false; rw [hplain] <;> rfl) (Calls.evalArgs_plain ?_)
 exact thn hA fun us s2 ⟨vs,H2,I2,r2,q2⟩=>hm pins s2 σ H2 x vs v us Q I2 r1 r2 q2
end
end L2
namespace L2
open PySem PySem.Spec PyProof.Rows
def MtM (X:Cx) (id:String) (r:V->List V->Hp->VK->Prop):Prop :=
 ∀ (pins:List (Addr × Obj)) (s:Shared) (σ:St) (H:Hp) (x:V) (xs:List V) (v:Value) (us:List Value) (Q:VK),Inv X pins σ H s->RelV x v->Vals xs us->r x xs H Q ->
  wpAny (model X.prog X.w) X.A (call (.builtin id) (v :: us)) (EP X pins σ Q) X.xe s
theorem Vals.one:∀ {x:V} {us:List Value},Vals [x] us->∃ u,us=[u]/\RelV x u
 | _,_, .cons r .nil=>⟨_,rfl,r⟩
theorem Vals.two:∀ {x y:V} {us:List Value},Vals [x,y] us->∃ u v,us=[u,v]/\RelV x u/\RelV y v
 | _,_,_, .cons r (.cons q .nil)=>⟨_,_,rfl,r,q⟩
theorem Vals.zero:∀ {us:List Value},Vals [] us->us=[]
 | _, .nil=>rfl
theorem Vals.dropLast {xs:List V} {us:List Value} (h:Vals xs us):Vals xs.dropLast us.dropLast:=by
 induction h with
 | nil=>exact .nil
 | cons r t ih =>
  cases t with
  | nil=>exact .nil
  | cons q t'=>exact .cons r ih
theorem Vals.rep {xs:List V} {us:List Value} (h:Vals xs us):∀ k:Nat,Vals (List.replicate k xs).flatten (List.replicate k us).flatten
 | 0 => .nil
 | k + 1=>by
  rw [List.replicate_succ,List.replicate_succ,List.flatten_cons,List.flatten_cons]
  exact Vals.append h (Vals.rep h k)
theorem erase_last {α:Type} (l:List α):l.eraseIdx (l.length - 1)=l.dropLast:=by
 induction l with
 | nil=>rfl
 | cons a r ih =>
  cases r with
  | nil=>rfl
  | cons b r =>
   have e:(a :: b :: r).length - 1=((b :: r).length - 1) + 1:=by
    have h1:(a :: b :: r).length=r.length + 2:=rfl
    have h2:(b :: r).length=r.length + 1:=rfl
    omega
   rw [e,List.eraseIdx_cons_succ,ih]
   all_goals rfl
theorem foldl_rep (its:List Value):∀ (k:Nat) (acc:List Value),
  List.foldl (fun x1 x2=>x1 ++ x2) acc.toArray (List.replicate k its.toArray)=(acc ++ (List.replicate k its).flatten).toArray
 | 0,acc=>by simp
 | k + 1,acc=>by
  have e:acc.toArray ++ its.toArray=(acc ++ its).toArray:=by simp
  have e2:(acc ++ its) ++ (List.replicate k its).flatten=acc ++ (List.replicate (k + 1) its).flatten:=by
   rw [List.replicate_succ,List.flatten_cons,List.append_assoc]
  rw [← e2,← foldl_rep its k (acc ++ its),← e,List.replicate_succ,List.foldl_cons]
section
variable {X:Cx} {pins:List (Addr × Obj)} {σ:St} {H:Hp} {s:Shared} {l b:Addr} {xs ys zs:List V}
theorem Inv.lset {its its':List Value} {n:Nat} {f:Array Value->Array Value} {t':Nat} (I:Inv X pins σ H s) (hH:H l=some (.lst xs))
  (e:s.heap.get? l=some { cls := .type "list",data := .seq its.toArray n }) (hf:f its.toArray=its'.toArray) (hv:Vals ys its') (hz:ys.length <= sizeLine) :
  Inv X pins σ (upd H l (.lst ys)) { s with heap:=s.heap.update l (Obj.mapSeq f),toks:=t' }:=by
 have q:=PySem.IsL.update e f
 rw [hf] at q
 refine I.write (x:=l) (e:=l) (by rw [hH]; exact trivial) (.inl rfl) (fun b' u hb hu=>(Heap.get?_update_other s.heap (Obj.mapSeq f) (Ne.symm hb)).trans hu) ⟨_,q⟩ ?_
 exact ⟨hz,its',_,hv,q⟩
theorem Inv.lnew {its:List Value} {t':Nat} (I:Inv X pins σ H s) (hv:Vals ys its) (hz:ys.length <= sizeLine) :
  Inv X pins σ (upd H s.heap.objs.size (.lst ys)) { s with heap:=s.heap.push { cls := .type "list",data := .seq its.toArray },toks:=t' } :=
 I.laid (fun _ _ q=>Heap.get?_push_of_some _ q) (Nat.le_refl _) ⟨hz,its,0,hv,Heap.get?_push_size _ rfl⟩
theorem Inv.fresh (I:Inv X pins σ H s):H s.heap.objs.size=none:=I.hok.fresh (Nat.le_refl _)
theorem Inv.lstM (I:Inv X pins σ H s) (hH:H l=some (.lst xs)):xs.length <= sizeLine/\∃ (its:List Value) (n:Nat),Vals xs its/\xs.length=its.length/\s.heap.get? l=some { cls := .type "list",data := .seq its.toArray n }:=by
 obtain ⟨z,its,n,r,e⟩:=I.hok l _ hH
 exact ⟨z,its,n,r,r.length,e⟩
theorem notLongL {n:Nat} (h:n <= sizeLine):Builtin.List.listTooLong n=false:=by
 unfold Builtin.List.listTooLong
 exact decide_eq_false (by omega)
end
section
variable {X:Cx}
def rAppend:V->List V->Hp->VK->Prop:=fun x vs H Q=>∃ l xs y,x = .ref l/\vs=[y]/\H l=some (.lst xs)/\xs.length < sizeLine/\Q .non (upd H l (.lst (xs ++ [y])))
theorem mt_append:MtM X "list.append" rAppend:=by
 intro pins s σ H x vs v us Q I rx rv h
 obtain ⟨l,xs,y,rfl,rfl,hH,hz,q⟩:=h
 cases rx
 obtain ⟨u,rfl,ru⟩:=rv.one
 obtain ⟨z,its,n,r,hl,e⟩:=I.lstM hH
 refine call_meets F.slot_list_append ⟨_,e,rfl⟩ F.entry_list_append (F.args_list_append_2 _ _) (PySem.list_append l its.toArray n u (by rw [List.size_toArray]; omega)) ⟨e,?_⟩
 refine ⟨.non,_,I.lset (its':=its ++ [u]) hH e (by simp) (r.append (.cons ru .nil)) ?_,rfl,q⟩
 rw [List.length_append,List.length_singleton]
 omega
def rExtend:V->List V->Hp->VK->Prop:=fun x vs H Q=>∃ l b xs zs,x = .ref l/\vs=[.ref b]/\H l=some (.lst xs)/\H b=some (.lst zs)/\xs.length + zs.length <= sizeLine/\Q .non (upd H l (.lst (xs ++ zs)))
theorem mt_extend:MtM X "list.extend" rExtend:=by
 intro pins s σ H x vs v us Q I rx rv h
 obtain ⟨l,b,xs,zs,rfl,rfl,hH,hB,hz,q⟩:=h
 cases rx
 obtain ⟨u,rfl,ru⟩:=rv.one
 cases ru
 obtain ⟨z,its,n,r,hl,e⟩:=I.lstM hH
 obtain ⟨z2,its2,n2,r2,hl2,e2⟩:=I.lstM hB
 have hsz:its.toArray.size + its2.toArray.size <= sizeLine:=by rw [List.size_toArray,List.size_toArray]; omega
 have hlong:¬ (!its.toArray.isEmpty && Builtin.List.listTooLong (its.toArray.size + its2.toArray.size))=true:=by
  rw [notLongL hsz,Bool.and_false]
  exact Bool.false_ne_true
 refine call_meets F.slot_list_extend ⟨_,e,rfl⟩ F.entry_list_extend (F.args_list_extend_2 _ _)
  (AutoSeq1.list_extend_list_list_0 l its.toArray n b its2.toArray n2 hlong (by rw [List.size_toArray]; omega) (by omega)) ⟨e,e2,?_⟩
 refine ⟨.non,_,I.lset (its':=its ++ its2) hH e (by simp) (r.append r2) ?_,rfl,q⟩
 rw [List.length_append]
 omega
def rPop:V->List V->Hp->VK->Prop:=fun x vs H Q=>∃ l xs y,x = .ref l/\vs=[]/\H l=some (.lst xs)/\xs[xs.length - 1]? = some y/\Q y (upd H l (.lst xs.dropLast))
theorem mt_pop:MtM X "list.pop" rPop:=by
 intro pins s σ H x vs v us Q I rx rv h
 obtain ⟨l,xs,y,rfl,rfl,hH,hy,q⟩:=h
 cases rx
 have hus:=rv.zero
 subst hus
 obtain ⟨z,its,n,r,hl,e⟩:=I.lstM hH
 obtain ⟨u,hu,ru⟩:=r.get hy
 have hy':its.toArray[its.toArray.size - 1]? = some u:=by
  show its.toArray[its.length - 1]? = some u
  rw [← Array.getElem?_toList,← hl]
  exact hu
 refine call_meets F.slot_list_pop ⟨_,e,rfl⟩ F.entry_list_pop (F.args_list_pop_1 _) (MeetsSeq.list_pop_last l its.toArray n u hy' (by rw [List.size_toArray]; omega)) ⟨e,?_⟩
 refine ⟨y,_,I.lset (its':=its.dropLast) hH e ?_ r.dropLast ?_,ru,q⟩
 ·show its.toArray.eraseIdxIfInBounds (its.toArray.size - 1)=its.dropLast.toArray
  rw [List.size_toArray,List.eraseIdxIfInBounds_toArray,erase_last]
 ·rw [List.length_dropLast]
  omega
def rPopAt:V->List V->Hp->VK->Prop:=fun x vs H Q=>∃ l xs i k y,x = .ref l/\vs=[.int i]/\H l=some (.lst xs)/\-(2 ^ 63) <= i/\i < 2 ^ 63/\seqIndex? i xs.length=some k/\xs[k]? = some y/\Q y (upd H l (.lst (xs.eraseIdx k)))
def rReverse:V->List V->Hp->VK->Prop:=fun x vs H Q=>∃ l xs,x = .ref l/\vs=[]/\H l=some (.lst xs)/\Q .non (upd H l (.lst xs.reverse))
def rClear:V->List V->Hp->VK->Prop:=fun x vs H Q=>∃ l xs,x = .ref l/\vs=[]/\H l=some (.lst xs)/\Q .non (upd H l (.lst []))
def rCat:R2:=fun x y H Q=>∃ l b xs zs,x = .ref l/\y = .ref b/\H l=some (.lst xs)/\H b=some (.lst zs)/\xs.length + zs.length <= sizeLine/\∀ p,H p=none->Q (.ref p) (upd H p (.lst (xs ++ zs)))
theorem op_cat:OpR X (binaryOp .Add) rCat:=by
 intro pins s σ H x y v u Q I rx ry h
 obtain ⟨l,b,xs,zs,rfl,rfl,hH,hB,hz,q⟩:=h
 cases rx
 cases ry
 obtain ⟨z,its,n,r,hl,e⟩:=I.lstM hH
 obtain ⟨z2,its2,n2,r2,hl2,e2⟩:=I.lstM hB
 refine PySem.P.add_list e e2 ?_ (by rw [List.size_toArray,List.size_toArray]; omega)
 have ea:its.toArray ++ its2.toArray=(its ++ its2).toArray:=by simp
 rw [ea]
 exact ⟨.ref _,_,I.lnew (t':=s.toks) (r.append r2) (by rw [List.length_append]; omega),rfl,q _ I.fresh⟩
def rRep:R2:=fun x y H Q=>∃ l k xs,x = .ref l/\y = .int k/\H l=some (.lst xs)/\-(2 ^ 63) <= k/\k < 2 ^ 63/\xs.length * k.toNat <= sizeLine /\
 ∀ p,H p=none->Q (.ref p) (upd H p (.lst (List.replicate k.toNat xs).flatten))
theorem len_rep {α:Type} (xs:List α) (k:Nat):(List.replicate k xs).flatten.length=k * xs.length:=by
 induction k with
 | zero=>simp
 | succ k ih=>rw [List.replicate_succ,List.flatten_cons,List.length_append,ih,Nat.succ_mul,Nat.add_comm]
theorem op_rep:OpR X (binaryOp .Mult) rRep:=by
 intro pins s σ H x y v u Q I rx ry h
 obtain ⟨l,k,xs,rfl,rfl,hH,h1,h2,hz,q⟩:=h
 cases rx
 obtain ⟨t,rfl⟩:=ry
 obtain ⟨z,its,n,r,hl,e⟩:=I.lstM hH
 have hlen:its.toArray.size * k.toNat <= sizeLine:=by rw [List.size_toArray,← hl]; exact hz
 have hcap:¬ its.toArray.size * k.toNat > (2 ^ 63 - 1) / 8:=by
  have:(sizeLine:Nat) <= (2 ^ 63 - 1) / 8:=by decide
  omega
 have hfit:¬ (!Builtin.List.listFitsIndex k)=true:=by
  rw [fitsIndex_both h1 h2]
  exact Bool.false_ne_true
 have hlong:¬ Builtin.List.listTooLong (its.toArray.size * k.toNat)=true:=by
  rw [notLongL hlen]
  exact Bool.false_ne_true
 have hnew:List.foldl (fun x1 x2=>x1 ++ x2) #[] (List.replicate (if its.toArray.isEmpty=true then 0 else k.toNat) its.toArray)=(List.replicate k.toNat its).flatten.toArray:=by
  have f0:∀ m:Nat,List.foldl (fun x1 x2=>x1 ++ x2) #[] (List.replicate m its.toArray)=(List.replicate m its).flatten.toArray:=fun m=>by
   have:=foldl_rep its m []
   rw [List.nil_append] at this
   exact this
  rw [f0]
  cases its with
  | nil=>simp
  | cons a r'=>rw [if_neg (by simp)]
 refine wpAny_binaryOp_repeat_ref (T := "list") (U := "int") (by decide) ⟨_,e,rfl⟩ (fun s'=>typeIs_int s' k t) noFill_list_mul F.fills_int_mul F.slot_int_rmul repeat_list F.slot_int_index.lookup
  (call_meets F.slot_int_rmul (typeIs_int s k t) F.entry_int_rmul (F.args_int_rmul_2 _ _) (int___rmul___int_list k t l its.toArray n)
   ⟨e,rfl,⟨_,e,rfl⟩,call_meets F.slot_list_mul ⟨_,e,rfl⟩ F.entry_list_mul (F.args_list_mul_2 _ _) (AutoListH.list___mul___list_int_3 l its.toArray n k t hfit hcap hlong) ⟨e,?_⟩⟩)
 rw [hnew]
 exact ⟨.ref _,_,I.lnew (t':=s.toks) (r.rep k.toNat) (by rw [len_rep,Nat.mul_comm]; exact hz),rfl,q _ I.fresh⟩
end
section
variable {prog:Program} {w:World} {A:Around} {E:Value->Shared->Prop} {s:Shared}
set_option maxRecDepth 100000 in
end
section
variable {X:Cx}
end
end L2
namespace Att
open PySem PySem.W PySem.Calls PyProof.Rows
theorem ints_of_wellAll {P:Params} {h:Heap}:∀ (ns:List Int) (vs:List Value),WellAll P h vs (ns.map WData.int)->IntsAre vs ns:=by
 intro ns
 induction ns with
 | nil =>
  intro vs w
  rw [List.map_nil] at w
  cases w
  exact .nil
 | cons n ns ih =>
  intro vs w
  rw [List.map_cons] at w
  cases w with
  | cons a b =>
   cases a
   exact .cons _ _ (ih _ b)
theorem script_of {l:OpenLaw} {n:Nat} (hn:l.most=some n) {P:Params} {h:Heap} {args:List WData} {vals:List Value}
  (hpre:l.row.toRowW.claim.pre args=true) (hwl:WellAll P h vals args) :
  ∃ a vs ns,vals=[Value.ref a]/\args=[WData.list (ns.map WData.int)]/\h.get? a=some { cls := .type "list",data := .seq vs.toArray }/\IntsAre vs ns/\ns.length <= n:=by
 have hsh:WShape.hasAll [] args [.list .int]=true:=(pre_splitW hpre).1
 have hc:l.pre.holds [] { args:=args } = true:=(pre_splitW hpre).2
 obtain ⟨d,r,rfl,h1,h2⟩:=hasAllW_cons hsh
 obtain rfl:=hasAllW_nil h2
 obtain ⟨xs,rfl,h3⟩:=hasW_list h1
 obtain ⟨ns,rfl⟩:=items_int h3
 have hlen:ns.length <= n:=by
  unfold OpenLaw.pre at hc
  have h4:(WTm.not (.lt (.lit (.int (n:Int))) (.len (.arg 0)))).holds [] { args:=[.list (ns.map .int)] } = true:=by
   have h4:=(holds_andW hc).1
   rw [hn] at h4
   exact h4
  have h5:=condW_of h4 (w_not (w_lt w_lit (w_len_list (w_arg rfl))))
  rw [List.length_map] at h5
  refine Nat.le_of_not_lt fun q=>?_
  have q':(n:Int) < ((ns.length:Nat):Int):=by omega
  first
   | (rw [decide_eq_true q'] at h5; exact absurd h5 (by decide))
   | (simp at h5; omega)
 cases hwl with
 | cons w1 w2 =>
  cases w2
  cases w1 with
  | list ho hall=>exact ⟨_,_,ns,rfl,rfl,ho,ints_of_wellAll ns _ hall,hlen⟩
theorem post_true (l:OpenLaw) (args:List WData):l.row.toRowW.claim.post args (.bool true) args=true :=
 postW_of (r:=l.row.toRowW) (X:=(true == true))
  (show WShape.has [] (.bool true) .bool=true by first | rfl | decide | simp [WShape.has,WShape.arms,WShape.armsAll])
  (show (WTm.eq .res (.lit (.bool true))).value [] { args:=args,res:=some (.bool true),after:=args } = some (.bool (true == true)) from w_eq_bool (w_res rfl) w_lit) rfl
theorem attach_call {l:OpenLaw} {n:Nat} {q:Program} {loose:List Str} {XP:(Str->Option Value)->Heap->Prop} {YP:World->Heap->Prop} {d:DefRec}
  (hn:l.most=some n) (hdf:d.params.defaults=[])
  (call:∀ (w:World) (s₀ s₁:Shared) (mg mb:Str->Option Value) (fa:Addr) (o:Obj) (pm cd doc:Value) (a:Addr) (vs:List Value) (ns:List Int),
   Ground q loose [] XP w s₀ mg mb s₁.heap->YP w s₁.heap ->
   s₁.heap.get? fa=some o->o.data = .func (docDef d.name d.params d.body d.scope pm cd doc)->s₁.heap.CodeRec cd d.name->mg d.name=some (.ref fa) ->
   s₁.heap.get? a=some { cls := .type "list",data := .seq vs.toArray }->IntsAre vs ns->ns.length <= n->s₁.gens = #[] ->
   codeAny (model l.prog w) callerA (.call (.ref fa) ⟨[.ref a],[]⟩) (fun r s'=>r = .ok (.ret (.bool true))/\OldK s₁.heap s'.heap/\s'.os=s₁.os/\AllBare s'.gens) s₁) :
  WalkO q loose XP YP l.row.toRowW d [] (fun f vs=>PySem.call f vs):=by
 intro w s₀ s₁ mg mb G Y fa o pm cd doc dV kV ho hd hcd hD hmg hg args vals as hpre hlay hrd hwl hlo
 obtain rfl:dV = .none:=Dflts.none hD hdf
 obtain rfl:kV = .none:=Dflts.noKw hD
 obtain ⟨a,vs,ns,rfl,rfl,hobj,hints,hlen⟩:=script_of hn hpre hwl
 refine enter_call (codeAny_mono (call w s₀ s₁ mg mb fa o pm cd doc a vs ns G Y ho (fd_plain hd) hcd hmg hobj hints hlen hg) fun r s' hq=>?_)
 obtain ⟨rfl,h2,h3,h4⟩:=hq
 exact ⟨.inl ⟨.bool true, .bool true,[],rfl,fun _=>rfl, .bool true,post_true l _,fun _=>⟨List.Pairwise.nil,fun _ hm=>(nomatch hm)⟩⟩,h2,h3,h4⟩
section
variable {prog:Program} {w:World} {A:Around} {E:Value->Shared->Prop} {s:Shared} {K:Frag}
def noObjs (h:Heap):Heap:={ h with objs:=#[] }
def ledger (h:Heap) (L d:Addr):List (Addr × Obj):=(List.range h.objs.size).filterMap fun a=>if a=L∨a=d then none else (h.get? a).map fun o=>(a,o)
end
end Att
namespace L2
open PySem PySem.Spec PyProof.Rows
theorem vals_ints:∀ {vs:List Value} {ns:List Int},IntsAre vs ns->Vals (ns.map V.int) vs
 | _,_, .nil => .nil
 | _,_, .cons n t h => .cons ⟨t,rfl⟩ (vals_ints h)
def Only (H:Hp):Prop:=∀ b,H b=none∨∃ o xs,H b=some (.frz o (.lst xs))
theorem law_call {P:Program} {w:World} {K:PySem.W.Frag} {mg mb:Str->Option Value} {CX:CXT} {k:Nat} {fa a:Addr} {fd:FuncData} {x:Str} {sp:Sp} {s₁:Shared} {vs:List Value} {ns:List Int}
  (KX:K.In s₁.heap) (hns:s₁.heap.Ns mainGlobals mg) (hb:s₁.heap.Ns builtinsNs mb) (hbb:∀ x:Str,x ≠ "__name__"->mb x=bootBuiltins x) (hlim:s₁.heap.NoLimit) (hg:s₁.gens = #[])
  (ha:s₁.heap.get? a=some { cls := .type "list",data := .seq vs.toArray }) (hi:IntsAre vs ns) (hl:ns.length <= sizeLine) (hr:Room k callerA)
  (F:∀ base:Heap,K.In base->base.Ns mainGlobals mg->FnOk P w K mg base CX k fa fd [x] sp) (hbind:∀ (s:Shared) (u:Value),BindsTo s fd ⟨[u],[]⟩ [(x,u)])
  (hsp:∀ H:Hp,Only H->SqL K H a (ns.map V.int)->sp [.ref a] H (fun v _=>v = .bl true) fun _ _ _=>False)
  (hCX:∀ H e s',CX [] H s₁ (fun _ _ _=>False) e s'->False) :
  codeAny (model P w) callerA (.call (.ref fa) ⟨[.ref a],[]⟩) (fun r s'=>r = .ok (.ret (.bool true))/\OldK s₁.heap s'.heap/\s'.os=s₁.os/\AllBare s'.gens) s₁:=by
 have rv:=vals_ints hi
 have lenV:=hi.length
 have core:∀ H:Hp,Only H->SqL K H a (ns.map V.int)->HOk P w H s₁.heap->(∀ b,H b ≠ none->b=a)->(H a ≠ none->K.lookup a=none) ->
   codeAny (model P w) callerA (.call (.ref fa) ⟨[.ref a],[]⟩) (fun r s'=>r = .ok (.ret (.bool true))/\OldK s₁.heap s'.heap/\s'.os=s₁.os/\AllBare s'.gens) s₁:=by
  intro H hO hS hok hA hK
  have base_of:∀ {b:Addr} {o:Obj},s₁.heap.get? b=some o->H b=none->(hidT s₁.heap H).get? b=some o:=fun e n=>hidT_get e n
  have noA:∀ {b:Addr} {o:Obj} {es:Array DictEntry} {ep:Nat},s₁.heap.get? b=some o->o.data = .dict es ep->H b=none:=fun {b o es ep} e d=>by
   cases q:H b with
   | none=>rfl
   | some u =>
    have e':b=a:=hA b (by rw [q]; simp)
    subst e'
    rw [ha] at e; cases e
    have d':Data.seq vs.toArray _=Data.dict es ep:=d
    cases d'
  have nsK:∀ {b:Addr} {m:Str->Option Value},s₁.heap.Ns b m->(hidT s₁.heap H).Ns b m:=fun {b m} ⟨o,es,ep,e,d,r⟩=>⟨o,es,ep,base_of e (noA e d),d,r⟩
  have hKb:K.In (hidT s₁.heap H):=fun b o e=>base_of (KX b o e) (by
   cases q:H b with
   | none=>rfl
   | some u =>
    have e':b=a:=hA b (by rw [q]; simp)
    subst e'
    rw [hK (by rw [q]; simp)] at e; cases e)
  have hM:Mod K mg (hidT s₁.heap H):=⟨hKb,nsK hns,⟨mb,nsK hb,hbb⟩,let ⟨mc,h1,h2⟩:=hlim; ⟨mc,nsK h1,h2⟩⟩
  have e0:Env0 P w K mg (hidT s₁.heap H) callerA [] s₁ H:=⟨rfl,hM,fun b o e=>of_hidT e,Nat.le_of_eq (hidT_size _ _),trivial,fun b hb=>absurd (show b ∈ ([]:List Addr) from hb) (by simp),hok, .of_eq hg⟩
  refine codeAny_mono ((F _ hKb (nsK hns)).run callerA [] s₁ H ⟨[.ref a],[]⟩ [.ref a] [.ref a] _ _ hr e0 (hbind s₁ (.ref a)) (.cons rfl .nil) (hsp H hO hS)) fun r s' h=>?_
  cases r with
  | error e=>exact (hCX H e s' h).elim
  | ok fl =>
   cases fl with
   | next=>exact False.elim h
   | brk=>exact False.elim h
   | cont=>exact False.elim h
   | ret u =>
    obtain ⟨v,H',os,bare,un,hok',r',q⟩:=h
    have q':v = .bl true:=q
    subst q'
    obtain rfl:u=Value.bool true:=r'
    refine ⟨rfl,OldK.of_keep fun b o e=>?_,os,bare⟩
    cases q:H b with
    | none=>exact un.keep b o e q (by intro z; exact absurd (show b ∈ ([]:List Addr) from z) (by simp)) (by simp)
    | some u =>
     rcases hO b with z | ⟨ob,xs,z⟩
     ·rw [q] at z; cases z
     ·have z2:=un.frzs b ob _ z
      obtain ⟨e1,_⟩:=hok b _ z
      obtain ⟨e2,_⟩:=hok' b _ z2
      rw [e] at e1; cases e1
      exact e2
 cases hk:K.lookup a with
 | some o =>
  have e:=KX a o hk
  rw [ha] at e
  cases e
  refine core (fun _=>none) (fun _ => .inl rfl) (.inr ⟨_,vs.toArray,_,hk,rfl,rfl,rfl,by rw [List.size_toArray,lenV]; exact hl,by simpa using rv⟩) (fun b u z=>by have z':(none:Option HO)=some u:=z; cases z') (fun b z=>absurd rfl z) fun z=>absurd rfl z
 | none =>
  refine core (fun b=>if b=a then some (.frz { cls := .type "list",data := .seq vs.toArray } (.lst (ns.map V.int))) else none) (fun b=>?_) (.inl (.inr ⟨{ cls := .type "list",data := .seq vs.toArray },if_pos rfl⟩)) (fun b u z=>?_) (fun b z=>?_) fun _=>hk
  ·by_cases hb:b=a
   ·exact .inr ⟨_,_,if_pos hb⟩
   ·exact .inl (if_neg hb)
  ·by_cases hb:b=a
   ·have z':=(if_pos hb).symm.trans z
    cases z'
    subst hb
    exact ⟨ha,by rw [List.length_map]; exact hl,vs,_,rv,ha⟩
   ·have z':=(if_neg hb).symm.trans z
    cases z'
  ·by_cases hb:b=a
   ·exact hb
   ·exact absurd (if_neg hb) z
end L2
namespace L2
open PySem PySem.Spec PyProof.Rows
abbrev KOf {K:PySem.W.Frag} {h:Heap} (_:K.In h):PySem.W.Frag:=K
theorem walk_of {l:PySem.W.OpenLaw} {n k:Nat} {q:Program} {loose:List Str} {XP:(Str->Option Value)->Heap->Prop} {YP:World->Heap->Prop} {d:DefRec} {K:Params->PySem.W.Frag} {CX:World->CXT} {sp:World->Sp} {x:Str}
  (hn:l.most=some n) (hn2:n <= sizeLine) (hdf:d.params.defaults=[]) (hr:Room k callerA)
  (hY:∀ (w:World) (h:Heap),YP w h->(K w.params).In h)
  (F:∀ (w:World) (mg:Str->Option Value) (fa:Addr) (h:Heap),(K w.params).In h->h.Ns mainGlobals mg->mg d.name=some (.ref fa) ->
   ∃ fd:FuncData,(∀ (s:Shared) (u:Value),BindsTo s fd ⟨[u],[]⟩ [(x,u)]) /\
    ∀ base:Heap,(K w.params).In base->base.Ns mainGlobals mg->FnOk l.prog w (K w.params) mg base (CX w) k fa fd [x] (sp w))
  (hsp:∀ (w:World) (H:Hp) (a:Addr) (ns:List Int),ns.length <= n->Only H->SqL (K w.params) H a (ns.map V.int)->sp w [.ref a] H (fun v _=>v = .bl true) fun _ _ _=>False)
  (hCX:∀ (w:World) (H:Hp) (s:Shared) (e:Value) (s':Shared),CX w [] H s (fun _ _ _=>False) e s'->False) :
  PySem.W.WalkO q loose XP YP l.row.toRowW d [] (fun f vs=>PySem.call f vs):=by
 refine Att.attach_call hn hdf fun w s₀ s₁ mg mb fa o pm cd doc a vs ns G Y ho hd hcd hmg hobj hints hlen hg=>?_
 have KX:=hY w _ Y
 obtain ⟨fd,hb,hF⟩:=F w mg fa _ KX G.T.g hmg
 exact law_call KX G.T.g G.T.b G.T.builtins G.T.nolimit hg hobj hints (Nat.le_trans hlen hn2) hr hF hb (fun H hO hS=>hsp w H a ns hlen hO hS) fun H e s'=>hCX w H s₁ e s'
end L2
namespace L2
open PySem PySem.Spec PyProof.Rows
def inClass (s:Stmt) (j:Nat):Stmt:=match s with
 | .ClassDef _ _ _ body _ _ _ _ _ _ _=>body.getD j (.Pass ⟨0,0,0,0⟩)
 | _ => .Pass ⟨0,0,0,0⟩
def defArgs (s:Stmt):Arguments:=match s with
 | .FunctionDef _ a _ _ _ _ _ _ _ _=>a
 | _=>{ posonlyargs:=[],args:=[],vararg:=none,kwonlyargs:=[],kw_defaults:=[],kwarg:=none,defaults:=[] }
def defBody (s:Stmt):List Stmt:=match s with
 | .FunctionDef _ _ b _ _ _ _ _ _ _=>b
 | _=>[]
def defScope (s:Stmt):Scope:=match s with
 | .FunctionDef _ _ _ _ _ _ sc _ _ _=>sc
 | _=>{ kind := .function,names:=[],isGenerator:=false,isCoroutine:=false }
abbrev CX0:CXT:=fun _ _ _ _ _ _=>False
abbrev E0:XK:=fun _ _ _=>False
theorem pass0 {X:Cx}:Passes CX0 X E0:=fun _ _ _ _ _ _ _ h=>h.elim
structure Fun (K:PySem.W.Frag) (x qual:Str) (st:Stmt) (f:Addr) (fd:FuncData):Prop where
 ex:∃ (oc:Value) (od:Option Addr) (kV doc pm:Value) (an:Option Addr) (cdv ct:Value) (osl:Array (Option Value)),
  fd=PySem.W.fnOf x qual (defArgs st) (defBody st) (defScope st) .none kV doc pm an cdv ct/\K.lookup f=some ⟨oc,od, .func fd,osl⟩/\PySem.W.codeIn K cdv qual=true
 kp:PySem.W.keepIn K (.ref f)=true
section
variable {P:Program} {w:World} {K:PySem.W.Frag} {mg:Str->Option Value} {base:Heap}
theorem Fun.ok {x qual:Str} {st:Stmt} {f:Addr} {fd:FuncData} {N ps:List Str} {k:Nat} {sp:Sp} (F:Fun K x qual st f fd) (S:FnScope N ps (defScope st)) (len:∀ vs H Q E,sp vs H Q E->vs.length=ps.length)
  (hbody:∀ (cdv:Value) (A:Around) (outer:List Env) (s:Shared) (H:Hp) (vs:List V) (Q:VK) (E:XK),Room k (A.deeper (envOfC qual (defScope st) s.heap.objs.size f cdv))->sp vs H Q E ->
   ∃ t,PSs (cxOf CX0 P w K mg base N qual (defScope st) f cdv A outer s H E).nox (defBody st) t/\t { nx:=fun _ H'=>Q .non H',rt:=Q } (start N vs) H):FnOk P w K mg base CX0 (k + 1) f fd ps sp:=by
 obtain ⟨oc,od,kV,doc,pm,an,cdv,ct,osl,rfl,lk,hcd⟩:=F.ex
 refine fn_of lk hcd S len fun A outer s H vs Q E hr hsp=>?_
 obtain ⟨t,h,q⟩:=hbody cdv A outer s H vs Q E hr hsp
 exact ⟨t,h.nox,q⟩
theorem Fun.binds {x qual:Str} {st:Stmt} {f:Addr} {fd:FuncData} {ps:List Str} (F:Fun K x qual st f fd)
  (h:∀ (kV doc pm:Value) (an:Option Addr) (cdv ct:Value) (us:List Value),us.length=ps.length->bindArgs (PySem.W.fnOf x qual (defArgs st) (defBody st) (defScope st) .none kV doc pm an cdv ct) ⟨us,[]⟩ = pure (ps.zip us)):Binds K fd ps []:=by
 obtain ⟨oc,od,kV,doc,pm,an,cdv,ct,osl,rfl,lk,hcd⟩:=F.ex
 exact .all (h kV doc pm an cdv ct)
theorem fun_mk {x qual:Str} {st:Stmt} {f:Addr} {oc:Value} {od an:Option Addr} {osl:Array (Option Value)} {kV doc pm cdv ct:Value} (l:K.lookup f=some ⟨oc,od, .func (PySem.W.fnOf x qual (defArgs st) (defBody st) (defScope st) .none kV doc pm an cdv ct),osl⟩)
  (c:PySem.W.codeIn K cdv qual=true) (k:PySem.W.keepIn K (.ref f)=true):Fun K x qual st f (PySem.W.fnOf x qual (defArgs st) (defBody st) (defScope st) .none kV doc pm an cdv ct):=⟨⟨oc,od,kV,doc,pm,an,cdv,ct,osl,rfl,l,c⟩,k⟩
end
theorem hu_of {A:Around} {k:Nat} (hr:Room k A):A.units + 1 < cLine:=Nat.lt_of_le_of_lt (Nat.add_le_add_left (by decide:1 <= 64) _) hr.units
section
variable {X:Cx}
theorem pv (i:Nat) {x:Str} {pos:Pos} (hN:X.N[i]? = some x:=by rfl) (hv:Vis X.env.scope x:=by first | exact Or.inl rfl | exact Or.inr (Or.inl rfl) | exact Or.inr (Or.inr rfl)) (hd:(x == ("__debug__":Str))=false:=by decide)
  (hcd:(x == ("__classdict__":Str))=false:=by decide):PE X (.Name x pos) (tVar i):=pe_var hN hv hd hcd
end
theorem iteF {A B:Prop} (h:B):if false=true then A else B:=by
 rw [if_neg Bool.false_ne_true]
 exact h
theorem iteT {A B:Prop} (h:A):if true=true then A else B:=by
 rw [if_pos rfl]
 exact h
theorem ite2 {c A B:Prop} [Decidable c] (h1:c->A) (h2:¬ c->B):if c then A else B:=by
 by_cases h:c
 ·rw [if_pos h]
  exact h1 h
 ·rw [if_neg h]
  exact h2 h
def Same (H H':Hp):Prop:=∀ b o,H b=some o->H' b=some o
theorem Same.refl (H:Hp):Same H H:=fun _ _ h=>h
theorem Same.trans {H H1 H2:Hp} (a:Same H H1) (b:Same H1 H2):Same H H2:=fun c o h=>b c o (a c o h)
theorem Same.free {H H':Hp} (e:Same H H') {l:Addr} (h:H' l=Option.none):H l=Option.none:=by
 cases q:H l with
 | none=>rfl
 | some o =>
  rw [e l o q] at h
  cases h
theorem Same.seq {K:PySem.W.Frag} {H H':Hp} {a:Addr} {xs:List V} (e:Same H H') (h:SqL K H a xs):SqL K H' a xs:=by
 rcases h with (h | ⟨o,h⟩) | h
 ·exact .inl (.inl (e _ _ h))
 ·exact .inl (.inr ⟨o,e _ _ h⟩)
 ·exact .inr h
end L2
namespace Yd
open PySem
theorem bitAnd_nat (a b:Nat):Builtin.bitAnd (a:Int) (b:Int)=((a &&& b:Nat):Int):=by
 unfold Builtin.bitAnd
 simp
theorem bitNot_eq (x:Int):Builtin.bitNot x = -x - 1:=by
 unfold Builtin.bitNot
 omega
theorem bitOr_nat (a b:Nat):Builtin.bitOr (a:Int) (b:Int)=((a ||| b:Nat):Int):=by
 unfold Builtin.bitOr
 have h1:Builtin.bitNot (a:Int) = -(a:Int) - 1:=bitNot_eq _
 have h2:Builtin.bitNot (b:Int) = -(b:Int) - 1:=bitNot_eq _
 unfold Builtin.bitAnd
 rw [h1,h2]
 have e1:decide (0 <= -(a:Int) - 1)=false:=decide_eq_false (by omega)
 have e2:decide (0 <= -(b:Int) - 1)=false:=decide_eq_false (by omega)
 rw [e1,e2]
 simp only []
 have e3:Builtin.bitNot (-(a:Int) - 1)=a:=by rw [bitNot_eq]; omega
 have e4:Builtin.bitNot (-(b:Int) - 1)=b:=by rw [bitNot_eq]; omega
 rw [e3,e4]
 simp only [Int.toNat_natCast]
 rw [bitNot_eq,bitNot_eq]
 omega
def setN:List Nat->Nat->Nat
 | [],s=>s
 | n :: r,s=>setN r (s ||| 2 ^ n)
theorem setN_bit (k:Nat):∀ (l:List Nat) (s:Nat),(setN l s).testBit k=(s.testBit k || decide (k ∈ l))
 | [],s=>by simp [setN]
 | n :: r,s=>by
  unfold setN
  rw [setN_bit k r]
  rw [Nat.testBit_or,Nat.testBit_two_pow]
  by_cases h:n=k
  ·subst h; simp
  ·have:¬ k=n:=fun z=>h z.symm
   simp [h,this]
theorem setN_app (l r:List Nat) (s:Nat):setN (l ++ r) s=setN r (setN l s):=by
 induction l generalizing s with
 | nil=>rfl
 | cons n t ih=>exact ih _
def dueN (l:List Nat):Nat->Nat
 | 0=>0
 | n + 1=>if n ∈ l then dueN l n + 2 ^ n else dueN l n
theorem dueN_lt (l:List Nat):∀ n,dueN l n < 2 ^ n
 | 0=>by simp [dueN]
 | n + 1=>by
  have:=dueN_lt l n
  unfold dueN
  rw [Nat.pow_succ]
  split <;> omega
theorem dueN_bit (l:List Nat) (k:Nat):∀ n,(dueN l n).testBit k=decide (k < n/\k ∈ l)
 | 0=>by simp [dueN]
 | n + 1=>by
  have ih:=dueN_bit l k n
  have hlt:=dueN_lt l n
  unfold dueN
  by_cases hn:n ∈ l
  ·rw [if_pos hn,Nat.add_comm]
   rcases Nat.lt_trichotomy k n with h | h | h
   ·rw [Nat.testBit_two_pow_add_gt h,ih]
    simp [h,Nat.lt_succ_of_lt h]
   ·subst h
    rw [Nat.testBit_two_pow_add_eq,Nat.testBit_lt_two_pow hlt]
    simp [hn]
   ·have hb:2 ^ n + dueN l n < 2 ^ k:=by
     have:2 ^ (n + 1) <= 2 ^ k:=Nat.pow_le_pow_right (by decide) h
     rw [Nat.pow_succ] at this
     omega
    rw [Nat.testBit_lt_two_pow hb]
    have:¬ k < n + 1:=by omega
    simp [this]
  ·rw [if_neg hn,ih]
   by_cases h:k=n
   ·subst h; simp [hn]
   ·have:k < n↔k < n + 1:=by omega
    simp [this]
theorem due_set {l:List Nat} {n:Nat} (h:∀ k ∈ l,k < n):dueN l n=setN l 0:=by
 apply Nat.eq_of_testBit_eq
 intro k
 rw [dueN_bit,setN_bit]
 by_cases hk:k ∈ l
 ·simp [hk,h k hk]
 ·simp [hk]
def memN (m b:Nat):List Nat:=(List.range b).filter fun k=>m.testBit k
theorem memN_mem {m b k:Nat} (h:m < 2 ^ b):k ∈ memN m b↔m.testBit k=true:=by
 unfold memN
 rw [List.mem_filter,List.mem_range]
 constructor
 ·exact fun z=>z.2
 ·intro z
  refine ⟨?_,z⟩
  by_cases hk:k < b
  ·exact hk
  ·have:m < 2 ^ k:=Nat.lt_of_lt_of_le h (Nat.pow_le_pow_right (by decide) (by omega))
   rw [Nat.testBit_lt_two_pow this] at z
   cases z
theorem memN_rise (m b:Nat):(memN m b).Pairwise (· < ·):=List.Pairwise.filter _ List.pairwise_lt_range
theorem set_mem {m b:Nat} (h:m < 2 ^ b):setN (memN m b) 0=m:=by
 apply Nat.eq_of_testBit_eq
 intro k
 rw [setN_bit,Nat.zero_testBit,Bool.false_or]
 by_cases hk:m.testBit k=true
 ·rw [hk]; exact decide_eq_true ((memN_mem h).mpr hk)
 ·have:m.testBit k=false:=by simpa using hk
  rw [this]
  exact decide_eq_false fun z=>hk ((memN_mem h).mp z)
theorem bits_lt (m:Nat):m < 2 ^ (Builtin.Int.intBits (m:Int)):=by
 unfold Builtin.Int.intBits
 by_cases h:m=0
 ·subst h; simp
 ·have e:((m:Int) == 0)=false:=by simp [h]
  rw [e]
  simp only [Bool.false_eq_true,if_false,Int.natAbs_natCast]
  exact Nat.lt_log2_self
theorem bits_le {m b:Nat} (h:m < 2 ^ b):Builtin.Int.intBits (m:Int) <= b:=by
 unfold Builtin.Int.intBits
 by_cases h0:m=0
 ·subst h0; simp
 ·have e:((m:Int) == 0)=false:=by simp [h0]
  rw [e]
  simp only [Bool.false_eq_true,if_false,Int.natAbs_natCast]
  have:=(Nat.log2_lt h0).mpr h
  omega
theorem has_bit (m k:Nat):decide (Builtin.bitAnd ((m:Int) / 2 ^ k) 1=1)=m.testBit k:=by
 have e:((m:Int) / 2 ^ k)=((m / 2 ^ k:Nat):Int):=by
  rw [Int.natCast_ediv,Int.natCast_pow]
  rfl
 rw [e,show (1:Int)=((1:Nat):Int) from rfl,bitAnd_nat,Nat.testBit_eq_decide_div_mod_eq]
 rw [Nat.and_one_is_mod]
 congr 1
 exact propext ⟨fun z=>by exact_mod_cast z,fun z=>by exact_mod_cast z⟩
end Yd
namespace L2
open PySem PySem.Spec PyProof.Rows
def closOf (cells:List (Str × Addr)):List (Str × NameKind)->List (Str × Addr)->List (Str × Addr)
 | [],acc=>acc
 | (n,k) :: r,acc=>if k == .free then closOf cells r ((n,(cells.lookup n).getD 0) :: acc) else closOf cells r acc
theorem closureFor_of {scope:Scope} {env:Env} (h:∀ y ∈ scope.names,y.2 = .free->∃ c,env.cells.lookup y.1=some c) :
  closureFor scope env=pure (closOf env.cells scope.names []):=by
 unfold closureFor
 have key:∀ (names:List (Str × NameKind)) (acc:List (Str × Addr)),(∀ y ∈ names,y.2 = .free->∃ c,env.cells.lookup y.1=some c) ->
   (forIn names acc fun (x:Str × NameKind) (cs:List (Str × Addr))=>(match x with
    | (name,kind)=>if (kind == NameKind.free)=true then do
      let c ← cellOf env name
      pure (ForInStep.yield ((name,c) :: cs))
     else pure (ForInStep.yield cs):Sem (ForInStep (List (Str × Addr)))))=(pure (closOf env.cells names acc):Sem (List (Str × Addr))):=by
  intro names
  induction names with
  | nil=>intro acc _; rfl
  | cons y r ih =>
   intro acc hy
   obtain ⟨n,k⟩:=y
   rw [List.forIn_cons]
   by_cases hk:(k == NameKind.free)=true
   ·obtain ⟨c,hc⟩:=hy (n,k) List.mem_cons_self (by simpa using hk)
    have e1:cellOf env n=pure c:=by
     unfold cellOf
     simp only [] at hc
     rw [hc]
    simp only [hk,if_true,e1,pure_bind]
    rw [ih _ fun z hz=>hy z (List.mem_cons_of_mem _ hz)]
    unfold closOf
    simp only [] at hc
    rw [if_pos hk,hc]
    conv=>rhs; unfold closOf
    rfl
   ·simp only [hk,Bool.false_eq_true,if_false,pure_bind]
    rw [ih _ fun z hz=>hy z (List.mem_cons_of_mem _ hz)]
    conv=>rhs; unfold closOf
    rw [if_neg hk]
 exact (congrArg (fun (m:Sem (List (Str × Addr)))=>m >>= fun z=>pure z) (key scope.names [] h)).trans (pure_bind _ _)
theorem closOf_lookup {cells:List (Str × Addr)} {x:Str} {c:Addr}:∀ (names:List (Str × NameKind)) (acc:List (Str × Addr)),(∀ y ∈ names,y.2 = .free->∃ c,cells.lookup y.1=some c) ->
  (∀ c,acc.lookup x=some c->cells.lookup x=some c)->(closOf cells names acc).lookup x=some c->cells.lookup x=some c
 | [],acc,_,ha,e=>ha c e
 | (n,k) :: r,acc,hn,ha,e=>by
  unfold closOf at e
  have hr:=fun z hz=>hn z (List.mem_cons_of_mem _ hz)
  split at e
  ·rename_i hk
   refine closOf_lookup r _ hr (fun c' e'=>?_) e
   rw [List.lookup_cons] at e'
   split at e'
   ·rename_i hx
    have hx':x=n:=by simpa using hx
    subst hx'
    obtain ⟨c0,hc0⟩:=hn (x,k) List.mem_cons_self (by simpa using hk)
    simp only [] at hc0
    rw [hc0] at e' ⊢
    exact e'
   ·exact ha c' e'
  ·exact closOf_lookup r acc hr ha e
theorem closOf_has {cells:List (Str × Addr)} {x:Str}:∀ (names:List (Str × NameKind)) (acc:List (Str × Addr)),((x,NameKind.free) ∈ names∨∃ c,acc.lookup x=some c) ->
  ∃ c,(closOf cells names acc).lookup x=some c
 | [],acc,h=>by
  rcases h with h | h
  ·cases h
  ·exact h
 | (n,k) :: r,acc,h=>by
  unfold closOf
  split
  ·rename_i hk
   refine closOf_has r _ ?_
   rcases h with h | ⟨c,h⟩
   ·rcases List.mem_cons.mp h with h | h
    ·refine .inr ⟨(cells.lookup n).getD 0,?_⟩
     injection h with h1 h2
     rw [List.lookup_cons,h1]
     simp
    ·exact .inl h
   ·refine .inr ?_
    rw [List.lookup_cons]
    split
    ·exact ⟨_,rfl⟩
    ·exact ⟨c,h⟩
  ·rename_i hk
   refine closOf_has r _ ?_
   rcases h with h | h
   ·rcases List.mem_cons.mp h with h | h
    ·injection h with h1 h2
     subst h2
     exact absurd rfl hk
    ·exact .inl h
   ·exact .inr h
theorem relabel_free {env:Env} {x:Str}:∀ {names:List (Str × NameKind)},names.lookup x=some .free ->
  (names.map fun (n,k)=>if (k == NameKind.free && env.scope.kind == .function && env.kindOf n == some .cell) then (n,NameKind.cell) else (n,k)).lookup x=some .cell ∨
  (names.map fun (n,k)=>if (k == NameKind.free && env.scope.kind == .function && env.kindOf n == some .cell) then (n,NameKind.cell) else (n,k)).lookup x=some .free
 | [],h=>by simp at h
 | (n,k) :: r,h=>by
  have ih:=@relabel_free env x r
  rw [List.map_cons]
  cases hx:x == n with
  | true =>
   rw [List.lookup_cons,hx] at h
   cases h
   simp only []
   split
   ·left; rw [List.lookup_cons,hx]
   ·right; rw [List.lookup_cons,hx]
  | false =>
   rw [List.lookup_cons,hx] at h
   simp only []
   split
   ·rw [List.lookup_cons,hx]; exact ih h
   ·rw [List.lookup_cons,hx]; exact ih h
theorem relabel_mem {env:Env} {x:Str} {k:NameKind} (hk:k = .cell∨k = .free):∀ {names:List (Str × NameKind)},(∀ y ∈ names,y.2 ≠ .cell) ->
  (names.map fun (n,k)=>if (k == NameKind.free && env.scope.kind == .function && env.kindOf n == some .cell) then (n,NameKind.cell) else (n,k)).lookup x=some k->(x,NameKind.free) ∈ names
 | [],_,h=>by simp at h
 | (n,k') :: r,hc,h=>by
  have ih:=@relabel_mem env x k hk r fun y hy=>hc y (List.mem_cons_of_mem _ hy)
  rw [List.map_cons] at h
  simp only [] at h
  cases hx:x == n with
  | true =>
   have e:x=n:=by simpa using hx
   subst e
   split at h
   ·rename_i q
    have q':k' = .free:=by
     have:=(Bool.and_eq_true _ _ ▸ q:_/\_).1
     have:=(Bool.and_eq_true _ _ ▸ this:_/\_).1
     simpa using this
    rw [q']
    exact List.mem_cons_self
   ·rw [List.lookup_cons,hx] at h
    have e2:k' = k:=Option.some.inj h
    rcases hk with z | z
    ·exact absurd (e2.trans z) (hc (x,k') List.mem_cons_self)
    ·rw [e2,z]; exact List.mem_cons_self
  | false =>
   split at h
   ·rw [List.lookup_cons,hx] at h; exact List.mem_cons_of_mem _ (ih h)
   ·rw [List.lookup_cons,hx] at h; exact List.mem_cons_of_mem _ (ih h)
section
variable {prog:Program} {w:World} {A:Around} {R:Result->Shared->Prop} {s:Shared}
abbrev testsOf (ifs:List Expr) (env:Env):Sem Bool :=
 forIn ifs true fun c r=>if r=true then do let ok ← isTrue c env (eval c env); pure (ForInStep.yield ok) else pure (ForInStep.yield r)
theorem compLoop_by {elt tg iter:Expr} {ifs:List Expr} {scope:Scope} {pos:Pos} {it acc:Value} {env:Env} (I:Nat->Shared->Prop)
  (turn:∀ n s,I n s->wpAny (model prog w) A (pyNext it) (fun r s1=>match r with
   | none=>R (.ok .next) s1
   | some v=>wpAny (model prog w) A (letOwnedTupleGo tg it v) (fun _ s2=>wpAny (model prog w) A (assign tg env v) (fun _ s3 =>
     wpAny (model prog w) A (testsOf ifs env) (fun ok s4 =>
      if ok=true then wpAny (model prog w) A (eval elt env) (fun x s5 =>
       wpAny (model prog w) A (call (.builtin "list.append") [acc,x]) (fun _ s6=>∃ m,m < n/\I m s6) (fun _ _=>False) s5) (fun _ _=>False) s4
      else ∃ m,m < n/\I m s4) (fun _ _=>False) s3) (fun _ _=>False) s2) (fun _ _=>False) s1) (fun _ _=>False) s)
  (n:Nat) (h:I n s):codeAny (model prog w) A (.compLoop (.ListComp elt [⟨tg,iter,ifs,0⟩] scope pos) 0 it acc env) R s:=by
 refine codeAny_loop rfl I (fun n s hI=>?_) n h
 have no:∀ {E':Value->Shared->Prop} (e:Value) (s':Shared),False->E' e s':=fun _ _ z=>z.elim
 show wpAny _ A (Sem.onRaise (compTurn (.ListComp elt [⟨tg,iter,ifs,0⟩] scope pos) 0 it acc env) fun x=>do
  noteFrame x env
  theTreesLotGoes x) _ _ s
 refine wpAny_noted ?_
 rw [compTurn_list]
 refine wpAny_bind (wpAny_standAt (wpAny_bind (wpAny_mono (turn n s hI) (fun r s1 h1=>?_) no)))
 cases r with
 | none=>exact wpAny_pure h1
 | some v =>
  refine wpAny_bind (wpAny_mono h1 (fun _ s2 h2=>?_) no)
  refine wpAny_bind (wpAny_mono h2 (fun _ s3 h3=>?_) no)
  refine wpAny_bind (wpAny_mono h3 (fun ok s4 h4=>?_) no)
  cases ok with
  | false=>exact wpAny_pure ⟨rfl,h4⟩
  | true =>
   refine wpAny_bind (wpAny_bind (wpAny_mono h4 (fun x s5 h5=>?_) no))
   exact wpAny_bind (wpAny_mono h5 (fun _ s6 h6=>wpAny_pure (wpAny_pure ⟨rfl,h6⟩)) no)
end
def PTs (X:Cx) (ifs:List Expr) (t:TT):Prop :=
 ∀ (pins:List (Addr × Obj)) (s:Shared) (σ:St) (H:Hp) (Q:Bool->Hp->Prop),Inv X pins σ H s->t σ H Q->wpAny (model X.prog X.w) X.A (testsOf ifs X.env) (TP X pins σ Q) X.xe s
def tYes:TT:=fun _ H Q=>Q true H
theorem pts_nil {X:Cx}:PTs X [] tYes:=fun _ _ _ H _ I h=>wpAny_pure ⟨H,I,h⟩
theorem pts_one {X:Cx} {c:Expr} {t:TT} (h:PT X c t):PTs X [c] t:=fun pins s σ H Q I hw=>by
 simp only [testsOf,List.forIn_cons,List.forIn_nil,if_true]
 exact wpAny_bind (wpAny_bind (thn (h pins s σ H Q I hw) fun b s' hb=>wpAny_pure (wpAny_pure hb)))
structure Blk (N:List Str) (sc scope:Scope) (capN:List Str) (cap:List Nat):Prop where
 kind:scope.kind = .function
 nocell:∀ y ∈ scope.names,y.2 ≠ .cell
 loc:∀ y ∈ scope.names,y.2 = .local->scope.names.lookup y.1=some .local
 free:∀ y ∈ scope.names,y.2 = .free->sc.names.lookup y.1=some .cell∨sc.names.lookup y.1=some .free
 len:cap.length=capN.length
 cap:∀ p ∈ capN.zip cap,scope.names.lookup p.1=some .free/\N[p.2]? = some p.1
abbrev cxBlk (X:Cx) (scope:Scope) (N:List Str) (C:Addr) (s:Shared) (H:Hp) (fp:List Addr):Cx :=
 { X with N:=N,s₀:=s,H₀:=H,env:=compEnvC scope (closOf X.env.cells scope.names []) C X.env,outer:=X.stack,stack:=X.stack,ex:=fp,fn:=fun _=>false,pn:=[],xe:=fun _ _=>False }
def blkσ (n:Nat) (cap:List Nat) (σ:St):St:=List.replicate n none ++ cap.map fun j=>(σ[j]?).join
theorem blkσ_len (n:Nat) (cap:List Nat) (σ:St):(blkσ n cap σ).length=n + cap.length:=by simp [blkσ]
section
variable {X:Cx} {pins:List (Addr × Obj)} {σ:St} {H:Hp} {s:Shared} {scope:Scope} {own capN:List Str} {cap:List Nat} {fp:List Addr}
theorem Blk.clos (B:Blk X.N X.env.scope scope capN cap) (ok:X.Ok):∀ y ∈ scope.names,y.2 = .free->∃ c,X.env.cells.lookup y.1=some c:=fun y hy hf=>ok.has y.1 (B.free y hy hf)
theorem Blk.cell (B:Blk X.N X.env.scope scope capN cap) (ok:X.Ok) {x:Str} {c:Addr} (h:(closOf X.env.cells scope.names []).lookup x=some c):X.env.cells.lookup x=some c :=
 closOf_lookup scope.names [] (B.clos ok) (fun _ e=>by cases e) h
theorem Blk.locs (I:Inv X pins σ H s) (B:Blk X.N X.env.scope scope capN cap) {h':Heap} (k:∀ x c v,X.env.cells.lookup x=some c->s.heap.IsCell c v->h'.IsCell c v) (C:Addr) (m0:Str->Option Value) :
  ∀ (i:Nat) (x:Str) (v:V),(own ++ capN)[i]? = some x->(blkσ own.length cap σ)[i]? = some (some v)->∃ u,RelV v u/\Look (compEnvC scope (closOf X.env.cells scope.names []) C X.env) h' m0 x u:=by
 intro i x v e1 e2
 have hi:own.length <= i:=by
  by_cases q:own.length <= i
  ·exact q
  ·unfold blkσ at e2
   rw [List.getElem?_append_left (by simp; omega),List.getElem?_replicate,if_pos (by omega)] at e2
   cases e2
 have e1':capN[i - own.length]? = some x:=by
  rwa [List.getElem?_append_right hi] at e1
 unfold blkσ at e2
 rw [List.getElem?_append_right (by simpa using hi),List.length_replicate,List.getElem?_map] at e2
 cases ej:cap[i - own.length]? with
 | none=>rw [ej] at e2; cases e2
 | some j =>
  rw [ej] at e2
  have e2':(σ[j]?).join=some v:=Option.some.inj e2
  have e3':σ[j]? = some (some v):=by
   cases q:σ[j]? with
   | none=>rw [q] at e2'; cases e2'
   | some u=>rw [q] at e2'; exact congrArg some e2'
  have hz:(x,j) ∈ capN.zip cap:=by
   refine List.mem_iff_getElem?.mpr ⟨i - own.length,?_⟩
   rw [List.getElem?_zip_eq_some]
   exact ⟨e1',ej⟩
  obtain ⟨c1,c2⟩:=B.cap (x,j) hz
  have hfx:(x,NameKind.free) ∈ scope.names:=PySem.mem_of_lookup c1
  have hX:=B.free _ hfx rfl
  obtain ⟨m,hm,hl⟩:=I.loc
  obtain ⟨u,ru,lk⟩:=hl j x v c2 e3' (hX.elim (fun z => .inr (.inl z)) fun z => .inr (.inr z))
  refine ⟨u,ru, .inr ⟨relabel_free c1,?_⟩⟩
  rcases lk with ⟨q,_⟩ | ⟨_,c,ec,ic⟩
  ·have q':X.env.scope.names.lookup x=some .local:=q
   rcases hX with z | z
   ·rw [z] at q'; cases q'
   ·rw [z] at q'; cases q'
  ·obtain ⟨c',ec'⟩:=closOf_has (cells:=X.env.cells) (x:=x) scope.names [] (.inl hfx)
   have:=B.cell I.ok ec'
   rw [ec] at this
   cases this
   exact ⟨c,ec',k x c _ ec ic⟩
theorem Inv.blk {h4:Heap} {tk:Nat} {m0:Str->Option Value} {C:Addr} (I:Inv X pins σ H s) (B:Blk X.N X.env.scope scope capN cap) (hC:s.heap.objs.size <= C) (k:∀ b o,s.heap.get? b=some o->h4.get? b=some o)
  (hn:h4.Ns C m0) (hf:∀ b ∈ fp,FpOk X pins H b) (hlt:∀ b ∈ fp,b < s.heap.objs.size) :
  Inv (cxBlk X scope (own ++ capN) C s H fp) [] (blkσ own.length cap σ) H { s with heap:=h4,toks:=tk }:=by
 have nfs:∀ b ∈ fp,b ∉ frs X.stack:=fun b hb z=>by
  obtain ⟨_,f1,f2,_⟩:=hf b hb
  rcases List.mem_cons.mp (I.stkSub b z) with e | e
  ·exact f1 e
  ·exact f2 e
 have hinv:∀ x,((relabel scope X.env).names.lookup x=some .cell∨(relabel scope X.env).names.lookup x=some .free)->(x,NameKind.free) ∈ scope.names:=fun x hx=>by
  rcases hx with q | q
  ·exact relabel_mem (.inl rfl) B.nocell q
  ·exact relabel_mem (.inr rfl) B.nocell q
 refine ⟨⟨I.ok.mod,B.kind,I.ok.glob,I.ok.blt,hC,fun x y c h1 h2=>I.ok.inj x y c (B.cell I.ok h1) (B.cell I.ok h2),fun x hx=>closOf_has scope.names [] (.inl (hinv x hx)),fun _ _ z=>absurd z Bool.false_ne_true,I.ok.hd,I.ok.frames, .inl rfl,
  fun b hb=>⟨Nat.ne_of_lt (Nat.lt_of_lt_of_le (hlt b hb) hC),fun x c e=>(hf b hb).2.2.2.2.1 x c (B.cell I.ok e)⟩,I.bs,Nat.le_trans I.ok.bsz I.sz,fun b o e hb=>?_,fun b hb=>nfs b hb,I.stack,I.stkFree⟩,
  rfl,I.bare,Un.kept k,⟨m0,hn,fun i x v e1 e2 _=>B.locs I (fun _ _ _ _ q=>q.keeps k) C m0 i x v e1 e2⟩,fun x c e=>?_,I.hok.fresh hC,fun x c e=>I.freeC x c (B.cell I.ok e),fun p hp=>absurd (show p ∈ ([]:List (Addr × Obj)) from hp) (by simp),I.hok.kept k,?_⟩
 ·rcases (hf b hb).2.2.2.1 with z | z
  ·exact I.ok.noex b o e z
  ·exact absurd (Nat.lt_of_lt_of_le (Heap.lt_size e) (Nat.le_trans I.ok.bsz z)) (Nat.lt_irrefl _)
 ·obtain ⟨v,q⟩:=I.cell x c (B.cell I.ok e)
  exact ⟨v,q.keeps k⟩
 ·show (blkσ own.length cap σ).length=(own ++ capN).length
  rw [blkσ_len,List.length_append,B.len]
theorem Inv.reset {pins':List (Addr × Obj)} {σ':St} {H':Hp} {s':Shared} {C:Addr} (I:Inv X pins σ H s) (B:Blk X.N X.env.scope scope capN cap) (hf:∀ b ∈ fp,FpOk X pins H b) (J:Inv (cxBlk X scope (own ++ capN) C s H fp) pins' σ' H' s') :
  Inv (cxBlk X scope (own ++ capN) C s H fp) pins' (blkσ own.length cap σ) H' s':=by
 obtain ⟨m,hn,_⟩:=J.loc
 refine ⟨J.ok,J.os,J.bare,J.base,⟨m,hn,fun i x v e1 e2 _=>?_⟩,J.cell,J.free,J.freeC,J.pin,J.hok,?_⟩
 ·refine B.locs I (fun y c v' ec ic=>?_) C m i x v e1 e2
  obtain ⟨o,ho,hd⟩:=ic
  have hx:c ∉ fp:=fun z=>(hf c z).2.2.2.2.1 y c ec rfl
  obtain ⟨sl,e⟩:=J.base.any ho (I.freeC y c ec) hx
  exact ⟨_,e,hd⟩
 ·show (blkσ own.length cap σ).length=(own ++ capN).length
  rw [blkσ_len,List.length_append,B.len]
theorem Inv.adopt {D:Addr} {o:HO} (I:Inv X pins σ H s) (hn:H D=none) (h0:X.s₀.heap.objs.size <= D) (hL:D ≠ X.env.locals) (hc:∀ x c,X.env.cells.lookup x=some c->c ≠ D) (hp:∀ p ∈ X.pn ++ pins,p.1 ≠ D)
  (new:ObjOk X.prog X.w (upd H D o) s.heap D o):Inv X pins σ (upd H D o) s:=by
 have ne:∀ b u,H b=some u->b ≠ D:=fun b u e=>ne_of_none e hn
 refine ⟨I.ok,I.os,I.bare,⟨I.base.keep,I.base.slot,fun b ob e n hx=>?_,I.base.there,fun b xs e=>?_,fun b ob u e=>?_,fun b ps e=>?_⟩,I.loc,I.cell,?_,fun x c e=>?_,fun p hp'=>?_,fun b u e=>?_,I.len⟩
 ·rw [upd_ne (Nat.ne_of_lt (Nat.lt_of_lt_of_le (Heap.lt_size e) h0))]
  exact I.base.free b ob e n hx
 ·have q:=I.base.tups b xs e
  rw [upd_ne (ne b _ q)]; exact q
 ·have q:=I.base.frzs b ob u e
  rw [upd_ne (ne b _ q)]; exact q
 ·obtain ⟨more,q⟩:=I.base.tbls b ps e
  exact ⟨more,by rw [upd_ne (ne b _ q)]; exact q⟩
 ·rw [upd_ne (Ne.symm hL)]; exact I.free
 ·rw [upd_ne (hc x c e)]; exact I.freeC x c e
 ·obtain ⟨e,n,r⟩:=I.pin p hp'
  exact ⟨e,by rw [upd_ne (hp p hp')]; exact n,r⟩
 ·by_cases hb:b=D
  ·subst hb; rw [upd_same] at e; cases e; exact new
  ·rw [upd_ne hb] at e
   exact (I.hok b u e).stay (fun _ _ _ q=>q) (fun c q=>by rw [upd_ne (ne c _ q)]; exact q) fun c xs q=>by rw [upd_ne (ne c _ q)]; exact q
end
def CompR (J:It) (g:TG) (tt:TT) (te:TE) (σ0:St) (Q:VK) (H1:Hp):Prop:=∃ W:Nat->Nat->List V->Hp->Prop,(∃ m,W 0 m [] H1)/\∀ i m acc H,W i m acc H ->
 acc.length < sizeLine/\((J.stop i H/\∀ D,H D=none->Q (.ref D) (upd H D (.lst acc)))∨(J.go i H/\∃ N:List V->Hp->Prop,(∀ acc' H',N acc' H'->∃ m',m' < m/\W (i + 1) m' acc' H') /\
  ∀ x H',J.yld i H x H'->g x σ0 H' fun σ2 H2=>tt σ2 H2 fun b H3=>if b=true then te σ2 H3 fun y H4=>N (acc ++ [y]) H4 else N acc H3))
def tComp (wi:TI) (g:TG) (tt:TT) (te:TE) (n:Nat) (cap:List Nat):TE:=fun σ H Q=>wi σ H fun J H1=>CompR J g tt te (blkσ n cap σ) Q H1
section
variable {X:Cx} {tg iter elt:Expr} {ifs:List Expr} {scope:Scope} {pos:Pos} {wi:TI} {g:TG} {tt:TT} {te:TE} {own capN:List Str} {cap:List Nat}
abbrev lobj (its:List Value) (k:Nat):Obj:={ cls := .type "list",data := .seq its.toArray k }
theorem comp_run {pins:List (Addr × Obj)} {s:Shared} {σ:St} {H:Hp} {Q:VK} {it:Addr} {fp:List Addr} {tn:Nat->Heap->Prop} {J:It} (B:Blk X.N X.env.scope scope capN cap) (hc:X.calm=true)
  (hb:∀ (C:Addr) (s:Shared) (H:Hp) (fp:List Addr),PG (cxBlk X scope (own ++ capN) C s H fp) tg g/\PTs (cxBlk X scope (own ++ capN) C s H fp) ifs tt/\PE (cxBlk X scope (own ++ capN) C s H fp) elt te)
  (I:Inv X pins σ H s) (T:Turn X.prog X.w X.K tg J fp it tn) (st:tn 0 s.heap) (hf:∀ b ∈ fp,FpOk X pins H b) {W:Nat->Nat->List V->Hp->Prop} {m0:Nat} (w0:W 0 m0 [] H)
  (turn:∀ i m acc H,W i m acc H->acc.length < sizeLine/\((J.stop i H/\∀ D,H D=none->Q (.ref D) (upd H D (.lst acc)))∨(J.go i H/\∃ N:List V->Hp->Prop,(∀ acc' H',N acc' H'->∃ m',m' < m/\W (i + 1) m' acc' H') /\
   ∀ x H',J.yld i H x H'->g x (blkσ own.length cap σ) H' fun σ2 H2=>tt σ2 H2 fun b H3=>if b=true then te σ2 H3 fun y H4=>N (acc ++ [y]) H4 else N acc H3)))
  {RR:Value->Addr->Result->Shared->Prop}
  (fin:∀ (D C:Addr) (H':Hp) (s':Shared),Q (.ref D) H'->Inv X pins σ H' s'->(∃ m,s'.heap.Ns C m)->H' C=none->C ≠ X.env.locals->X.s₀.heap.objs.size <= C->(∀ x c,X.env.cells.lookup x=some c->c ≠ C)->(∀ p ∈ X.pn ++ pins,p.1 ≠ C) ->
   RR (.ref D) C (.ok .next) s') :
  wpAny (model X.prog X.w) X.A (newList []) (fun acc s3=>wpAny (model X.prog X.w) X.A (newFunctionEnv scope X.env.globals (closOf X.env.cells scope.names []) [] X.env.qual none .none (some X.env)) (fun cenv s4 =>
   codeAny (model X.prog X.w) X.A (.compStart (.ListComp elt [⟨tg,iter,ifs,0⟩] scope pos) 0 (.ref it) acc { cenv with scope:=relabel scope X.env }) (RR acc cenv.locals) s4) X.xe s3) X.xe s:=by
 refine wpAny_newObj_type (wpAny_newFunctionEnv B.nocell (by intro y hy; simp at hy) (fun h1 hns hsb=>?_) B.kind)
 dsimp only at hns hsb ⊢
 generalize hH2:s.heap.push { cls := .type "list",dict:=none,data := .seq ([]:List Value).toArray } = H2 at hns hsb ⊢
 have hCs:H2.objs.size=s.heap.objs.size + 1:=by rw [← hH2,Heap.size_push]
 have hCle:s.heap.objs.size <= H2.objs.size:=by omega
 have ltOf:∀ b ∈ fp,b < s.heap.objs.size:=fun b hb=>by
  obtain ⟨o,e,_⟩:=T.obj 0 s.heap st b hb
  exact Heap.lt_size e
 have old:∀ b o,s.heap.get? b=some o->h1.get? b=some o:=fun b o e =>
  hsb.extBut b o (Nat.ne_of_lt (Nat.lt_of_lt_of_le (Heap.lt_size e) hCle)) (Heap.get?_push_of_some _ (hH2 ▸ Heap.get?_push_of_some _ e))
 have hDC:s.heap.objs.size ≠ H2.objs.size:=by omega
 have hacc:h1.get? s.heap.objs.size=some (lobj [] 0):=hsb.extBut _ _ hDC (Heap.get?_push_of_some _ (hH2 ▸ Heap.get?_push_size _ rfl))
 have I4:Inv (cxBlk X scope (own ++ capN) H2.objs.size s H fp) [] (blkσ own.length cap σ) H { s with heap:=h1,toks:=s.toks + ([]:List (Str × Value)).length }:=I.blk (own:=own) B hCle old hns hf ltOf
 have nfs:∀ b ∈ fp,b ∉ frs X.stack:=fun b hb z=>by
  obtain ⟨_,f1,f2,_⟩:=hf b hb
  rcases List.mem_cons.mp (I.stkSub b z) with e | e
  ·exact f1 e
  ·exact f2 e
 have stackLt:∀ b ∈ frs X.stack,b < s.heap.objs.size:=fun b hb=>by
  obtain ⟨_,o,ho,_⟩:=I.stack.mem hb
  exact Heap.lt_size ho
 have cellLt:∀ x c,X.env.cells.lookup x=some c->c < s.heap.objs.size:=fun x c e=>by
  obtain ⟨v,q⟩:=I.cell x c e
  exact q.lt
 have pinOk:∀ (H':Hp) (h':Heap) (its:List Value) (k:Nat),H' s.heap.objs.size=none->h'.get? s.heap.objs.size=some (lobj its k) ->
   ∀ p ∈ [(s.heap.objs.size,lobj its k)],h'.get? p.1=some p.2/\H' p.1=none/\p.1 ≠ (cxBlk X scope (own ++ capN) H2.objs.size s H fp).env.locals/\p.1 ∉ (cxBlk X scope (own ++ capN) H2.objs.size s H fp).fs/\∀ v,p.2.data ≠ .cell v:=fun H' h' its k hn he p hp=>by
  have e:p=(s.heap.objs.size,lobj its k):=by simpa using hp
  subst e
  exact ⟨he,hn,hDC,fun z=>absurd (stackLt _ z) (Nat.lt_irrefl _),fun v z=>by cases z⟩
 have stat:∀ (H':Hp) (its:List Value) (k:Nat),(∀ b ∈ fp,H' b=none)->∀ b ∈ fp,FpOk (cxBlk X scope (own ++ capN) H2.objs.size s H fp) [(s.heap.objs.size,lobj its k)] H' b:=fun H' its k hn b hb =>
  ⟨hn b hb,Nat.ne_of_lt (Nat.lt_of_lt_of_le (ltOf b hb) hCle),nfs b hb, .inl hb,fun x c e=>(hf b hb).2.2.2.2.1 x c (B.cell I.ok e),fun p hp=>by
   have e:p=(s.heap.objs.size,lobj its k):=by simpa using hp
   subst e
   exact Nat.ne_of_gt (ltOf b hb)⟩
 have loop:∀ s3:Shared,s3 = { s with heap:=h1,toks:=s.toks + ([]:List (Str × Value)).length } ->
   codeAny (model X.prog X.w) X.A (.compLoop (.ListComp elt [⟨tg,iter,ifs,0⟩] scope pos) 0 (.ref it) (.ref s.heap.objs.size) (compEnvC scope (closOf X.env.cells scope.names []) H2.objs.size X.env))
    (RR (.ref s.heap.objs.size) H2.objs.size) s3:=by
  rintro s3 rfl
  refine compLoop_by (fun n s'=>∃ i acc its k H',Inv (cxBlk X scope (own ++ capN) H2.objs.size s H fp) [(s.heap.objs.size,lobj its k)] (blkσ own.length cap σ) H' s'/\tn i s'.heap/\(∀ b ∈ fp,H' b=none)/\Vals acc its/\W i n acc H') ?_ m0
   ⟨0,[],[],0,H,I4.pins_of (pinOk _ _ _ _ (I.hok.fresh (Nat.le_refl _)) hacc),T.keep 0 s.heap h1 st fun b _ o e=>old b o e,fun b hb=>(hf b hb).1, .nil,w0⟩
  rintro n s5 ⟨i,acc,its,k,H5,I5,st5,fr5,rv,w5⟩
  obtain ⟨hsz,hcase⟩:=turn i n acc H5 w5
  obtain ⟨hgt,htt,hte⟩:=hb H2.objs.size s H fp
  rcases hcase with ⟨stop,q⟩ | ⟨go,N,hN,step⟩
  ·refine thn (T.done (cxBlk X scope (own ++ capN) H2.objs.size s H fp) rfl rfl rfl hc i _ s5 _ H5 _ I5 (stat H5 its k fr5) st5 stop) fun r s6 ⟨hr,I6⟩=>?_
   subst hr
   obtain ⟨hD,hDn,_⟩:=I6.pin (s.heap.objs.size,lobj its k) (by simp)
   have J1:Inv X pins σ H5 s6:=I.call' (s':=s6) (ch:=fp) I6.os I6.base I6.hok I6.bare fun b hb=>by
    obtain ⟨_,f1,_,f3,f4,f5⟩:=hf b hb
    exact ⟨f3,f1,f4,f5⟩
   have J2:Inv X pins σ (upd H5 s.heap.objs.size (.lst acc)) s6:=J1.adopt hDn I.sz (Nat.ne_of_gt I.lt) (fun x c e=>Nat.ne_of_lt (cellLt x c e)) (fun p hp=>Nat.ne_of_lt (Heap.lt_size (I.pin p hp).1)) ⟨Nat.le_of_lt hsz,its,k,rv,hD⟩
   obtain ⟨mC,hnC,_⟩:=I6.loc
   refine fin _ _ _ s6 (q _ hDn) J2 ⟨mC,hnC⟩ (by rw [upd_ne (Ne.symm hDC)]; exact I6.free) (Nat.ne_of_gt (Nat.lt_of_lt_of_le I.lt hCle)) (Nat.le_trans I.sz hCle) (fun x c e=>Nat.ne_of_lt (Nat.lt_of_lt_of_le (cellLt x c e) hCle)) fun p hp =>
    Nat.ne_of_lt (Nat.lt_of_lt_of_le (Heap.lt_size (I.pin p hp).1) hCle)
  ·refine thn (T.item (cxBlk X scope (own ++ capN) H2.objs.size s H fp) rfl rfl rfl hc i _ s5 _ H5 _ I5 (stat H5 its k fr5) st5 go) fun r s6 ⟨u,hr,h6⟩=>?_
   subst hr
   refine thn h6 fun _ s7 ⟨x,H7,I7,r7,y7,st7,fr7⟩=>?_
   have I7':=I7.pinned (stat H7 its k fr7) (T.obj _ _ st7)
   refine thn (hgt _ s7 _ H7 x u _ I7' r7 (step x H7 y7)) fun _ s8 ⟨σ8,H8,I8,q8⟩=>?_
   refine thn (htt _ s8 σ8 H8 _ I8 q8) fun b s9 ⟨H9,I9,q9⟩=>?_
   have itk:∀ {H':Hp} {s':Shared} {σ':St},Inv (cxBlk X scope (own ++ capN) H2.objs.size s H fp) (pinsAt fp s7.heap) σ' H' s'->tn (i + 1) s'.heap/\∀ b ∈ fp,H' b=none:=fun {H' s' σ'} K=>by
    refine ⟨T.keep _ _ _ st7 fun b hb o e=>(K.pin (b,o) (mem_pinsAt hb e)).1,fun b hb=>?_⟩
    obtain ⟨o,e,_⟩:=T.obj _ _ st7 b hb
    exact (K.pin (b,o) (mem_pinsAt hb e)).2.1
   cases b with
   | false =>
    rw [if_neg Bool.false_ne_true]
    obtain ⟨m',hm,w9⟩:=hN acc H9 (by simpa using q9)
    have K9:Inv (cxBlk X scope (own ++ capN) H2.objs.size s H fp) (pinsAt fp s7.heap) σ8 H9 s9:=I9.pins_of fun p hp=>I9.pin p (List.mem_append_right _ (List.mem_append_right _ hp))
    obtain ⟨t9,f9⟩:=itk K9
    exact ⟨m',hm,i + 1,acc,its,k,H9,I.reset B hf I9.unpinned,t9,f9,rv,w9⟩
   | true =>
    rw [if_pos rfl]
    have q9':te σ8 H9 fun y H4=>N (acc ++ [y]) H4:=by simpa using q9
    refine thn (hte _ s9 σ8 H9 _ I9 q9') fun yv s10 ⟨y,H10,I10,r10,q10⟩=>?_
    obtain ⟨hD,hDn,_⟩:=I10.pin (s.heap.objs.size,lobj its k) (by simp)
    have hlen:=rv.length
    refine wpAny_list_append_plain ⟨k,hD⟩ (fun h' hpl hsb'=>?_) (by rw [List.size_toArray]; omega)
    obtain ⟨k',hD'⟩:=hpl
    obtain ⟨m',hm,w10⟩:=hN (acc ++ [y]) H10 q10
    have K10:Inv (cxBlk X scope (own ++ capN) H2.objs.size s H fp) (pinsAt fp s7.heap) σ8 H10 s10:=I10.pins_of fun p hp=>I10.pin p (List.mem_append_right _ (List.mem_append_right _ hp))
    have K11:Inv (cxBlk X scope (own ++ capN) H2.objs.size s H fp) (pinsAt fp s7.heap) σ8 H10 { s10 with heap:=h' }:=K10.turned (t':=s10.toks) (it:=s.heap.objs.size) (fun b o hb e=>(hsb'.2 b hb).trans e) hDn hDC (.inr (Nat.le_refl _))
     (fun x c e=>Nat.ne_of_lt (cellLt x c (B.cell I.ok e))) fun p hp=>by
      obtain ⟨hb,_⟩:=of_pinsAt (show p ∈ pinsAt fp s7.heap from hp)
      exact Nat.ne_of_lt (ltOf p.1 hb)
    obtain ⟨t11,f11⟩:=itk K11
    refine ⟨m',hm,i + 1,acc ++ [y],its ++ [yv],k',H10,?_,t11,f11,rv.append (.cons r10 .nil),w10⟩
    refine I.reset B hf (K11.pins_of (pinOk _ _ _ _ hDn ?_))
    show h'.get? s.heap.objs.size=some { cls := .type "list",data := .seq (its ++ [yv]).toArray k' }
    rw [show (its ++ [yv]).toArray=its.toArray.push yv by simp]
    exact hD'
 exact codeAny_compStart_list (loop _ rfl) (T.self X.A 0 _ _ _ (T.keep 0 s.heap h1 st fun b _ o e=>old b o e) (loop _ rfl))
theorem pe_comp (B:Blk X.N X.env.scope scope capN cap) (hc:X.calm=true) (hi:PI X tg iter wi)
  (hb:∀ (C:Addr) (s:Shared) (H:Hp) (fp:List Addr),PG (cxBlk X scope (own ++ capN) C s H fp) tg g/\PTs (cxBlk X scope (own ++ capN) C s H fp) ifs tt/\PE (cxBlk X scope (own ++ capN) C s H fp) elt te)
  (hs:∀ x,foldedSetIterable iter X.env x=pure x:=by intro _; rfl):PE X (.ListComp elt [⟨tg,iter,ifs,0⟩] scope pos) (tComp wi g tt te own.length cap):=by
 intro pins s σ H Q I h
 rw [eval_ListComp]
 refine wpAny_comprehension_free (use:=none) rfl hs (closureFor_of (B.clos I.ok)) B.kind B.loc (thn (hi pins s σ H _ I h) fun v s1 h1=>thn h1 fun itv s2 h2=>?_)
 obtain ⟨it,fp,tn,J,H2,e,I2,T,st2,f2,W,⟨m0,w0⟩,turn⟩:=h2
 subst e
 refine comp_run (own:=own) B hc hb I2 T st2 f2 w0 turn (RR:=fun acc C=>compPost (model X.prog X.w) X.A X.xe none (EP X pins σ Q) acc C) fun D C H' s' q J2 ⟨mC,hnC⟩ fC n1 n2 n3 n4=>?_
 refine ⟨mC,hnC,fun h' hsb=>⟨.ref D,H',?_,rfl,q⟩⟩
 exact J2.turned (t':=s'.toks) (it:=C) (fun b o hb e=>(hsb.2 b hb).trans e) fC n1 (.inr n2) n3 n4
theorem ps_setComp {i:Nat} {x:Str} {px:Pos} {spos:Pos} (B:Blk X.N X.env.scope scope capN cap) (hc:X.calm=true) (hN:X.N.Nodup) (hx:X.N[i]? = some x) (hl:X.env.scope.names.lookup x=some .local) (hi:PI X tg iter wi)
  (hb:∀ (C:Addr) (s:Shared) (H:Hp) (fp:List Addr),PG (cxBlk X scope (own ++ capN) C s H fp) tg g/\PTs (cxBlk X scope (own ++ capN) C s H fp) ifs tt/\PE (cxBlk X scope (own ++ capN) C s H fp) elt te)
  (hsw:swapsWith (.ListComp elt [⟨tg,iter,ifs,0⟩] scope pos) (some (.Name x px)) spos.line X.env=pure true:=by rfl)
  (hs:∀ x,foldedSetIterable iter X.env x=pure x:=by intro _; rfl):PS X (.Assign [.Name x px] (.ListComp elt [⟨tg,iter,ifs,0⟩] scope pos) spos) (tAsg (tComp wi g tt te own.length cap) (gName i)):=by
 intro pins s σ H D0 I h
 rw [exec_Assign_Name_used _ _ _ _ hsw]
 refine wpAny_bind (wpAny_standAt (wpAny_bind ?_))
 show wpAny _ X.A (do
  let _ ← comprehension (.ListComp elt [⟨tg,iter,ifs,0⟩] scope pos) scope X.env _ (newList []) false (eval iter X.env) (some (assign (.Name x px) X.env))) _ _ s
 refine wpAny_bind (wpAny_mono (wpAny_comprehension_free (use:=some (assign (.Name x px) X.env)) (Q:=fun _ s'=>SP X pins D0 .next s') rfl hs (closureFor_of (B.clos I.ok)) B.kind B.loc
  (thn (hi pins s σ H _ I h) fun v s1 h1=>thn h1 fun itv s2 h2=>?_)) (fun _ s' hq=>wpAny_pure (wpAny_pure hq)) fun _ _ e=>e)
 obtain ⟨it,fp,tn,J,H2,e,I2,T,st2,f2,W,⟨m0,w0⟩,turn⟩:=h2
 subst e
 refine comp_run (own:=own) (Q:=fun x H1=>gName i x σ H1 D0.nx) B hc hb I2 T st2 f2 w0 turn (RR:=fun acc C=>compPost (model X.prog X.w) X.A X.xe (some (assign (.Name x px) X.env)) (fun _ s'=>SP X pins D0 .next s') acc C) fun D C H' s' q J2 ⟨mC,hnC⟩ fC n1 n2 n3 n4=>?_
 show wpAny _ X.A (assign (.Name x px) X.env (.ref D)) _ _ s'
 refine wpAny_assign_Name (store_ok2 J2 hN hx (.inl hl) (show RelV (.ref D) (.ref D) from rfl) (fun s'' J3 ⟨a,hsb,ha⟩=>?_) (.inr hl))
 have hCa:C ≠ a:=by
  rcases ha with z | z
  ·rw [z]; exact n1
  ·exact (n3 x a z).symm
 refine ⟨mC,hnC.sameBut hsb hCa,fun h' hsb'=>⟨_,H',?_,q⟩⟩
 exact J3.turned (t':=s''.toks) (it:=C) (fun b o hb e=>(hsb'.2 b hb).trans e) fC n1 (.inr n2) n3 n4
end
end L2
namespace L2
open PySem PySem.Spec PyProof.Rows
mutual
inductive Den (K:PySem.W.Frag) (H:Hp):V->PyData->Prop
 | non:Den K H .non .none
 | bl (b:Bool):Den K H (.bl b) (.bool b)
 | int (i:Int):Den K H (.int i) (.int i)
 | str (x:Str):Den K H (.str x) (.str x)
 | lst {a:Addr} {xs:List V} {ds:List PyData}:SqL K H a xs->Dens K H xs ds->Den K H (.ref a) (.list ds)
 | tup {a:Addr} {xs:List V} {ds:List PyData}:SqT K H a xs->Dens K H xs ds->Den K H (.ref a) (.tuple ds)
inductive Dens (K:PySem.W.Frag) (H:Hp):List V->List PyData->Prop
 | nil:Dens K H [] []
 | cons {x:V} {d:PyData} {xs:List V} {ds:List PyData}:Den K H x d->Dens K H xs ds->Dens K H (x :: xs) (d :: ds)
end
section
variable {X:Cx} {pins:List (Addr × Obj)} {σ:St} {H:Hp} {s:Shared}
mutual
theorem Inv.den (I:Inv X pins σ H s):∀ {x:V} {d:PyData} {u:Value},Den X.K H x d->RelV x u->∃ as,Reads s.heap u d as
 | _,_,_, .non,r=>by cases r; exact ⟨_, .none⟩
 | _,_,_, .bl b,r=>by cases r; exact ⟨_, .bool b⟩
 | _,_,_, .int i,r=>by obtain ⟨t,rfl⟩:=r; exact ⟨_, .int i t⟩
 | _,_,_, .str x,r=>by obtain ⟨t,rfl⟩:=r; exact ⟨_, .str x t⟩
 | _,_,_, .lst hq hd,r=>by
  cases r
  obtain ⟨its,rv,⟨o,n,e,hc,_,hdt⟩,_⟩:=I.list hq
  obtain ⟨as,q⟩:=I.dens hd rv
  exact ⟨_, .list e hc hdt (by simpa using q)⟩
 | _,_,_, .tup hq hd,r=>by
  cases r
  obtain ⟨its,rv,⟨o,e,hc,n,hdt⟩,_⟩:=I.tuple hq
  obtain ⟨as,q⟩:=I.dens hd rv
  exact ⟨_, .tuple e hc hdt (by simpa using q)⟩
theorem Inv.dens (I:Inv X pins σ H s):∀ {xs:List V} {ds:List PyData} {us:List Value},Dens X.K H xs ds->Vals xs us->∃ as,ReadsAll s.heap us ds as
 | _,_,_, .nil, .nil=>⟨_, .nil⟩
 | _,_,_, .cons hd hr, .cons r rr=>by
  obtain ⟨as,q⟩:=I.den hd r
  obtain ⟨bs,q'⟩:=I.dens hr rr
  exact ⟨_, .cons q q'⟩
end
def rEqD (K:PySem.W.Frag):R2:=fun x y H Q=>∃ da db,Den K H x da/\Den K H y db/\SeqAt.shaped da=true/\SeqAt.shaped db=true/\Q (.bl (PyData.eqv da db)) H
def rNeD (K:PySem.W.Frag):R2:=fun x y H Q=>∃ da db,Den K H x da/\Den K H y db/\SeqAt.shaped da=true/\SeqAt.shaped db=true/\Q (.bl (!PyData.eqv da db)) H
end
section
variable {X:Cx}
theorem op_eqD (hu:X.A.units + 64 < cLine):OpR X (compareOp .Eq) (rEqD X.K):=by
 intro pins s σ H x y v u Q I rx ry h
 obtain ⟨da,db,h1,h2,h3,h4,q⟩:=h
 obtain ⟨as,r1⟩:=I.den h1 rx
 obtain ⟨bs,r2⟩:=I.den h2 ry
 exact SeqAt.compareEq_shaped r1 r2 h3 h4 hu ⟨.bl _,H,I,rfl,q⟩
theorem op_neD (hu:X.A.units + 64 < cLine):OpR X (compareOp .NotEq) (rNeD X.K):=by
 intro pins s σ H x y v u Q I rx ry h
 obtain ⟨da,db,h1,h2,h3,h4,q⟩:=h
 obtain ⟨as,r1⟩:=I.den h1 rx
 obtain ⟨bs,r2⟩:=I.den h2 ry
 exact SeqAt.compareNe_shaped r1 r2 h3 h4 hu ⟨.bl _,H,I,rfl,q⟩
theorem dens_ints {K:PySem.W.Frag} {H:Hp}:∀ ns:List Int,Dens K H (ns.map V.int) (ns.map PyData.int)
 | [] => .nil
 | n :: r => .cons (.int n) (dens_ints r)
theorem den_ints {K:PySem.W.Frag} {H:Hp} {a:Addr} {ns:List Int} (h:SqL K H a (ns.map V.int)):Den K H (.ref a) (.list (ns.map PyData.int)) := .lst h (dens_ints ns)
def rEqI (K:PySem.W.Frag):R2:=fun x y H Q=>∃ (p q:Addr) (ns ms:List Int),x = .ref p/\y = .ref q/\SqL K H p (ns.map V.int)/\SqL K H q (ms.map V.int)/\Q (.bl (decide (ns=ms))) H
def rNeI (K:PySem.W.Frag):R2:=fun x y H Q=>∃ (p q:Addr) (ns ms:List Int),x = .ref p/\y = .ref q/\SqL K H p (ns.map V.int)/\SqL K H q (ms.map V.int)/\Q (.bl (!decide (ns=ms))) H
theorem op_eqI (hu:X.A.units + 64 < cLine):OpR X (compareOp .Eq) (rEqI X.K):=by
 intro pins s σ H x y v u Q I rx ry h
 obtain ⟨p,q,ns,ms,rfl,rfl,h1,h2,q⟩:=h
 refine op_eqD hu pins s σ H _ _ v u Q I rx ry ⟨_,_,den_ints h1,den_ints h2,PySem.W.shaped_ints ns,PySem.W.shaped_ints ms,?_⟩
 simp only [PyData.eqv,PySem.W.ked_eqvAll]
 exact q
theorem op_neI (hu:X.A.units + 64 < cLine):OpR X (compareOp .NotEq) (rNeI X.K):=by
 intro pins s σ H x y v u Q I rx ry h
 obtain ⟨p,q,ns,ms,rfl,rfl,h1,h2,q⟩:=h
 refine op_neD hu pins s σ H _ _ v u Q I rx ry ⟨_,_,den_ints h1,den_ints h2,PySem.W.shaped_ints ns,PySem.W.shaped_ints ms,?_⟩
 simp only [PyData.eqv,PySem.W.ked_eqvAll]
 exact q
def rIsi (K:PySem.W.Frag):List V->Hp->VK->Prop:=fun xs H Q =>
 (∃ i,xs=[.int i, .ty "int"]/\Q (.bl true) H)∨(∃ i,xs=[.int i, .ty "bool"]/\Q (.bl false) H)∨(∃ p ys,xs=[.ref p, .ty "list"]/\SqL K H p ys/\Q (.bl true) H)∨(∃ p ys,xs=[.ref p, .ty "tuple"]/\SqT K H p ys/\Q (.bl true) H)
theorem call_isi:CallR X (.builtin "isinstance") (rIsi X.K):=by
 intro pins s σ H xs us Q I r h
 rcases h with ⟨i,rfl,q⟩ | ⟨i,rfl,q⟩ | ⟨p,ys,rfl,hq,q⟩ | ⟨p,ys,rfl,hq,q⟩
 ·cases r with
  | cons r1 r2 =>
   cases r2 with
   | cons r2 r3 =>
    cases r3
    obtain ⟨t,rfl⟩:=r1
    cases r2
    exact IsiPair.int_int ⟨.bl true,H,I,rfl,q⟩
 ·cases r with
  | cons r1 r2 =>
   cases r2 with
   | cons r2 r3 =>
    cases r3
    obtain ⟨t,rfl⟩:=r1
    cases r2
    exact IsiPair.int_bool ⟨.bl false,H,I.tok _,rfl,q⟩
 ·cases r with
  | cons r1 r2 =>
   cases r2 with
   | cons r2 r3 =>
    cases r3
    cases r1
    cases r2
    obtain ⟨its,rv,⟨o,n,e,hc,_⟩,_⟩:=I.list hq
    exact IsiPair.list_list e hc ⟨.bl true,H,I,rfl,q⟩
 ·cases r with
  | cons r1 r2 =>
   cases r2 with
   | cons r2 r3 =>
    cases r3
    cases r1
    cases r2
    obtain ⟨its,rv,⟨o,e,hc,_⟩,_⟩:=I.tuple hq
    exact IsiPair.tuple_tuple e hc ⟨.bl true,H,I,rfl,q⟩
theorem mt_bits:MtR X "int.bit_length" (fun x xs H Q=>∃ i,x = .int i/\xs=[]/\Q (.int (Builtin.Int.intBits i:Nat)) H):=by
 intro pins s σ H x xs v us Q I rx rv h
 obtain ⟨i,rfl,rfl,q⟩:=h
 obtain ⟨t,rfl⟩:=rx
 cases rv
 exact call_int_bit_length ⟨.int _,H,I.tok _,⟨_,rfl⟩,q⟩
theorem Inv.same {pins:List (Addr × Obj)} {σ:St} {H:Hp} {s s':Shared} (I:Inv X pins σ H s) (k:∀ b o,s.heap.get? b=some o->s'.heap.get? b=some o) (g:s'.gens=s.gens) (ho:s'.os=s.os):Inv X pins σ H s':=by
 obtain ⟨hh,gg,dd,tt,oo⟩:=s'
 simp only at k g ho
 subst g
 subst ho
 have J:Inv X pins σ H { s with heap:=hh,toks:=tt }:=I.kept k
 exact ⟨J.ok,J.os,J.bare,J.base,J.loc,J.cell,J.free,J.freeC,J.pin,J.hok,J.len⟩
theorem call_all (hc:X.calm=true):CallR X (.builtin "all") (fun xs H Q=>∃ (p:Addr) (bs:List Bool),xs=[.ref p]/\SqL X.K H p (bs.map V.bl)/\Q (.bl (bs.all id)) H):=by
 intro pins s σ H xs us Q I r h
 obtain ⟨p,bs,rfl,hq,q⟩:=h
 obtain ⟨u,rfl,rx⟩:=vals1 r
 cases rx
 obtain ⟨its,rv,pl,hz⟩:=I.list hq
 have hlen:=rv.length
 rw [List.length_map] at hlen
 have hlt:p < s.heap.objs.size:=by obtain ⟨o,n,e,_⟩:=pl; exact Heap.lt_size e
 have bAt:∀ (i:Nat) (v:Value),its.toArray[i]? = some v->v=Value.bool (bs.getD i false):=fun i v hv=>by
  have hv':its[i]? = some v:=by simpa using hv
  have hi:i < bs.length:=by rw [hlen]; exact (List.getElem?_eq_some_iff.mp hv').1
  obtain ⟨u,hu,ru⟩:=rv.get (i:=i) (x := .bl bs[i]) (by simp [hi])
  rw [hv'] at hu
  cases hu
  rw [List.getD_eq_getElem?_getD,List.getElem?_eq_getElem hi]
  exact ru
 have hh1:X.A.in1.handled=none:=I.ok.hd hc
 refine call_all_walkS (wpAny_pyIter_list pl.isList ⟨s.heap.objs.size,[s.heap.objs.size,p],[s.heap.objs.size],fun a b=>b=a,its.toArray.size,fun i v=>its.toArray[i]? = some v,_,fun i=>bs.getD i false,rfl,
  (Walks.list hh1 _ p (Nat.ne_of_lt hlt) its.toArray).toS,⟨⟨_,Heap.get?_push_size _ rfl,rfl,rfl⟩,pl.isList.push _⟩,fun i v s1 Q1 E1 hv hq1=>?_,fun s' hm=>?_⟩)
 ·rw [bAt i v hv]
  exact wpAny_truthy_bool hq1
 ·have I1:Inv X pins σ H { s with heap:=s.heap.push { cls := .type "list_iterator",data := .fields #[.ref p, .int 0 0] } }:=I.kept (t':=s.toks) fun b o e=>Heap.get?_push_of_some _ e
  refine ⟨.bl _,H,I.same (fun b o e=>hm.heap b o (fun hb=>?_) (Heap.get?_push_of_some _ e)) hm.gens hm.os,rfl,?_⟩
  ·have hb':b=s.heap.objs.size:=by simpa using hb
   exact absurd (Heap.lt_size e) (by rw [hb']; exact Nat.lt_irrefl _)
  ·have e:((List.range its.toArray.size).all fun i=>bs.getD i false)=bs.all id:=by
    rw [List.size_toArray,← hlen]
    clear bAt hlen hq rv q
    have:(List.range bs.length).map (fun i=>bs.getD i false)=bs:=by
     apply List.ext_getElem
     ·simp
     ·intro i h1 h2
      simp [h2]
    conv=>rhs; rw [← this]
    rw [List.all_map]
    rfl
   rw [e]
   exact q
def tRev (K:PySem.W.Frag) (te tk:TE):TE:=fun σ H Q=>te σ H fun x H1=>tk σ H1 fun y H2=>y = .int (-1)/\∃ a xs,x = .ref a/\SqL K H2 a xs/\∀ p,H2 p=none->Q (.ref p) (upd H2 p (.lst xs.reverse))
end
end L2
namespace L2
open PySem PySem.Spec PyProof.Rows
theorem dict_mapFields {o:Obj} {vs:Array Value} (hd:o.data = .fields vs) (f:Array Value->Array Value):(Obj.mapFields f o).dict=o.dict:=by
 obtain ⟨c,d,dt,sl⟩:=o
 cases dt <;> rfl
def Fly (h:Heap) (e:Addr) (cls:Value) (dd:Option Addr) (ch:List Addr):Prop :=
 ∃ oe vs,h.get? e=some oe/\oe.cls=cls/\oe.dict=dd/\oe.data = .fields vs /\
  ((vs[1]? = some .none/\ch=[e])∨∃ T oT ts,vs[1]? = some (.ref T)/\T ≠ e/\h.get? T=some oT/\oT.data = .fields ts/\ts[3]? = some .none/\ch=[e,T])
theorem Fly.rec {h:Heap} {e:Addr} {cls:Value} {dd:Option Addr} {ch:List Addr} (x:Fly h e cls dd ch):∀ b ∈ ch,∃ o vs,h.get? b=some o/\o.data = .fields vs:=by
 obtain ⟨oe,vs,he,_,_,hd,h1 | ⟨T,oT,ts,_,_,hT,hdT,_,rfl⟩⟩:=x
 ·obtain ⟨_,rfl⟩:=h1
  intro b hb
  simp only [List.mem_singleton] at hb
  subst hb
  exact ⟨oe,vs,he,hd⟩
 ·intro b hb
  simp only [List.mem_cons,List.not_mem_nil,or_false] at hb
  rcases hb with rfl | rfl
  ·exact ⟨oe,vs,he,hd⟩
  ·exact ⟨oT,ts,hT,hdT⟩
structure Moved (fs ch:List Addr) (h h':Heap):Prop where
 keep:∀ b o,h.get? b=some o->b ∉ ch->b ∉ fs->h'.get? b=some o
 slot:∀ b o,h.get? b=some o->b ∉ ch->∃ sl,h'.get? b=some { o with slots:=sl }
 there:∀ b o,h.get? b=some o->∃ o',h'.get? b=some o'
section
variable {M:Model} {A:Around} {E:Value->Shared->Prop} {s:Shared}
theorem new_entry {base:Heap} {env:Env} {outer:List Env} {L e:Addr} {oe:Obj} {vs:Array Value} {head:Value} {hadNext:Bool} {Q:Unit->Shared->Prop}
  (hfr:A.frames=some (env :: outer)) (hl:s.heap.FunFrames base (env :: outer)) (hf:env.frame=some L)
  (he:s.heap.get? e=some oe) (hd:oe.data = .fields vs) (hsz:1 < vs.size)
  (h:∀ h',Fly h' e oe.cls oe.dict [e,s.heap.objs.size]->Moved (frs (env :: outer)) [e] s.heap h'->Q () { s with heap:=h' }) :
  wpAny M A (do let a ← frameOf env; let pl ← entryPlaceOf L hadNext; let b ← EntryCells.newEntry head a .none (rawInt L) .none pl; setField (.ref e) 1 b) (fun _ s'=>wpAny M A (setFlight (.ref e) none) Q E s') E s:=by
 have hene:e ∉ (env :: outer).filterMap (·.frame):=fun hm=>by
  obtain ⟨_,o,ho,hnf⟩:=hl.mem hm
  rw [he] at ho; injection ho with ho; subst ho; exact hnf vs hd
 refine wpAny_bind (wpAny_frameOf_fun hfr hl hf fun h₁ hs₁=>?_)
 refine wpAny_bind (wpAny_entryPlaceOf fun pl hpl=>?_)
 unfold EntryCells.newEntry newFields
 refine wpAny_bind (wpAny_newObj_type ?_ (hpl.sizeOk5 _ _ _ _ _))
 have he₁:h₁.get? e=some oe:=(hs₁.2.1 e hene).trans he
 have he₂:=Heap.get?_push_of_some (h:=h₁) { cls := .type "traceback",dict:=none,data := .fields ([head, .ref L, .none,rawInt L, .none] ++ (if pl.isEmpty then List.replicate 6 Value.none else pl)).toArray } he₁
 refine wpAny_setField he₂ hd hsz ?_
 have hTe:h₁.objs.size ≠ e:=Nat.ne_of_gt (Heap.lt_size he₁)
 have hd₃:=Obj.data_mapFields hd (·.setIfInBounds 1 (Value.ref h₁.objs.size))
 have he₃:=Heap.get?_update_self (Obj.mapFields (·.setIfInBounds 1 (Value.ref h₁.objs.size))) he₂ (Obj.isFreed_of_fields hd₃)
 have hT₃:=(Heap.get?_update_other (h₁.push { cls := .type "traceback",dict:=none,data := .fields ([head, .ref L, .none,rawInt L, .none] ++ (if pl.isEmpty then List.replicate 6 Value.none else pl)).toArray })
  (Obj.mapFields (·.setIfInBounds 1 (Value.ref h₁.objs.size))) (Ne.symm hTe)).trans (Heap.get?_push_size h₁ rfl)
 unfold setFlight
 refine wpAny_bind (wpAny_field he₃ hd₃ (x := .ref h₁.objs.size) (by simp [hsz]) ?_)
 rw [if_pos (show (Value.ref h₁.objs.size != Value.none)=true from by simp)]
 refine wpAny_setField hT₃ rfl (by simp only [List.size_toArray,List.length_append,List.length_cons,List.length_nil] <;> omega) (h _ ?_ ?_)
 ·refine ⟨_,_,?_,Obj.cls_mapFields _ _,dict_mapFields hd _,hd₃, .inr ⟨h₁.objs.size,_,_,by simp [hsz],hTe,Heap.get?_update_self _ hT₃ (Obj.isFreed_of_fields (Obj.data_mapFields rfl _)),Obj.data_mapFields rfl _,by first | (simp; done) | (rcases hpl with rfl | ⟨_,_,_,_,_,_,_,rfl⟩ <;> simp),by rw [hs₁.1]⟩⟩
  rw [Heap.get?_update_other _ _ hTe]; exact he₃
 ·have keep:∀ b o,b ≠ e->h₁.get? b=some o ->
    (((h₁.push { cls := .type "traceback",dict:=none,data := .fields ([head, .ref L, .none,rawInt L, .none] ++ (if pl.isEmpty then List.replicate 6 Value.none else pl)).toArray }).update e (Obj.mapFields (·.setIfInBounds 1 (Value.ref h₁.objs.size)))).update h₁.objs.size
     (Obj.mapFields (·.setIfInBounds 3 ((none:Option Addr).elim Value.none fun f=>rawInt f)))).get? b=some o:=fun b o hbe hb=>by
   have hbT:h₁.objs.size ≠ b:=Nat.ne_of_gt (Heap.lt_size hb)
   rw [Heap.get?_update_other _ _ hbT,Heap.get?_update_other _ _ (Ne.symm hbe)]
   exact Heap.get?_push_of_some _ hb
  refine ⟨fun b o hb hc hfs=>keep b o (by simpa using hc) ((hs₁.2.1 b hfs).trans hb),fun b o hb hc=>?_,fun b o hb=>?_⟩
  ·obtain ⟨sl,hs⟩:=hs₁.2.2 b o hb
   exact ⟨sl,keep b _ (by simpa using hc) hs⟩
  ·by_cases hbe:b=e
   ·subst hbe
    exact ⟨_,by rw [Heap.get?_update_other _ _ hTe]; exact he₃⟩
   ·obtain ⟨sl,hs⟩:=hs₁.2.2 b o hb
    exact ⟨_,keep b _ hbe hs⟩
theorem note_step {base:Heap} {env:Env} {outer:List Env} {L e:Addr} {cls:Value} {dd:Option Addr} {ch:List Addr} {Q:Unit->Shared->Prop}
  (hfr:A.frames=some (env :: outer)) (hl:s.heap.FunFrames base (env :: outer)) (hf:env.frame=some L) (x:Fly s.heap e cls dd ch)
  (h:∀ h' ch',Fly h' e cls dd ch'->Moved (frs (env :: outer)) ch s.heap h'->(∀ b ∈ ch',b ∈ ch∨s.heap.objs.size <= b)->Q () { s with heap:=h' }) :
  wpAny M A (noteFrame (.ref e) env) (fun _ s'=>wpAny M A (setFlight (.ref e) none) Q E s') E s:=by
 obtain ⟨oe,vs,he,rfl,rfl,hd,⟨h1,rfl⟩ | ⟨T,oT,ts,h1,hTe,hT,hdT,h3,rfl⟩⟩:=x
 ·unfold noteFrame
  simp only [hf]
  refine wpAny_bind (wpAny_field he hd h1 ?_)
  rw [if_neg (by decide)]
  refine new_entry hfr hl hf he hd (Array.getElem?_eq_some_iff.mp h1).1 fun h' f m=>h h' _ f m fun b hb=>?_
  simp only [List.mem_cons,List.not_mem_nil,or_false] at hb
  rcases hb with rfl | rfl
  ·exact .inl (by simp)
  ·exact .inr (Nat.le_refl _)
 ·unfold noteFrame
  simp only [hf]
  refine wpAny_bind (wpAny_field he hd h1 ?_)
  rw [if_pos (show (Value.ref T != Value.none)=true from by simp)]
  refine wpAny_bind (wpAny_field hT hdT h3 ?_)
  rw [if_neg (show ¬ ((Value.none == rawInt L)=true) from by simp [rawInt])]
  refine wpAny_bind (wpAny_setField hT hdT (Array.getElem?_eq_some_iff.mp h3).1 ?_)
  have other:∀ b,b ≠ T->(s.heap.update T (Obj.mapFields (·.setIfInBounds 3 Value.none))).get? b=s.heap.get? b:=fun b hb=>Heap.get?_update_other _ _ (Ne.symm hb)
  have selfT:=Heap.get?_update_self (Obj.mapFields (·.setIfInBounds 3 Value.none)) hT (Obj.isFreed_of_fields (Obj.data_mapFields hdT _))
  have noRecord:∀ b o,s.heap.get? b=some o->(∀ vs,o.data ≠ .fields vs)->b ≠ T:=fun b o hb hnf q=>by
   rw [q,hT] at hb; injection hb with hb; subst hb; exact hnf ts hdT
  have hsize:(s.heap.update T (Obj.mapFields (·.setIfInBounds 3 Value.none))).objs.size=s.heap.objs.size:=Heap.size_after_update _ _ _
  refine new_entry (s:={ s with heap:=s.heap.update T (Obj.mapFields (·.setIfInBounds 3 Value.none)) }) hfr (hl.of_keeps fun b o hb hnf=>⟨o,(other b (noRecord b o hb hnf)).trans hb,rfl⟩) hf ((other e (Ne.symm hTe)).trans he) hd (Array.getElem?_eq_some_iff.mp h1).1
   fun h' f m=>h h' _ f ⟨fun b o hb hc hfs=>?_,fun b o hb hc=>?_,fun b o hb=>?_⟩ fun b hb=>?_
  ·simp only [List.mem_cons,List.not_mem_nil,or_false,not_or] at hc
   exact m.keep b o ((other b hc.2).trans hb) (by simpa using hc.1) hfs
  ·simp only [List.mem_cons,List.not_mem_nil,or_false,not_or] at hc
   exact m.slot b o ((other b hc.2).trans hb) (by simpa using hc.1)
  ·by_cases hbT:b=T
   ·subst hbT
    exact m.there b _ selfT
   ·exact m.there b o ((other b hbT).trans hb)
  ·simp only [List.mem_cons,List.not_mem_nil,or_false] at hb
   rcases hb with rfl | rfl
   ·exact .inl (by simp)
   ·exact .inr (Nat.le_of_eq hsize.symm)
theorem leave_step {base:Heap} {env:Env} {outer:List Env} {L e:Addr} {cls:Value} {dd:Option Addr} {ch:List Addr} {Q:Unit->Shared->Prop}
  (hfr:A.frames=some (env :: outer)) (hl:s.heap.FunFrames base (env :: outer)) (hf:env.frame=some L) (x:Fly s.heap e cls dd ch)
  (h:∀ h' ch',Fly h' e cls dd ch'->Moved (frs (env :: outer)) ch s.heap h'->(∀ b ∈ ch',b ∈ ch∨s.heap.objs.size <= b)->Q () { s with heap:=h' }) :
  wpAny M A (leaving env (.ref e)) Q E s:=by
 unfold leaving
 exact wpAny_bind (note_step hfr hl hf x h)
end
section
variable {X:Cx} {pins:List (Addr × Obj)} {σ:St} {H:Hp} {s:Shared}
theorem Inv.excStep {h':Heap} {ch:List Addr} (I:Inv X pins σ H s) (m:Moved (frs X.stack) ch s.heap h')
  (hch:∀ b ∈ ch,X.s₀.heap.get? b=none/\H b=none/\(∀ p ∈ X.pn ++ pins,p.1 ≠ b)/\∃ o vs,s.heap.get? b=some o/\o.data = .fields vs) :
  Inv X pins σ H { s with heap:=h' }:=by
 have notF:∀ b o,s.heap.get? b=some o->(∀ vs,o.data ≠ .fields vs)->b ∉ ch:=fun b o hb hn hc=>by
  obtain ⟨_,_,_,o',vs,hb',hd⟩:=hch b hc
  rw [hb] at hb'; cases hb'
  exact hn vs hd
 have cellK:∀ c v,s.heap.IsCell c v->h'.IsCell c v:=fun c v ⟨o,ho,hd⟩=>by
  obtain ⟨sl,e⟩:=m.slot c o ho (notF c o ho fun vs q=>by rw [hd] at q; cases q)
  exact ⟨_,e,hd⟩
 refine ⟨I.ok,I.os,I.bare,⟨fun b o e n hf hx=>?_,fun b o e n hf hx=>?_,I.base.free,fun b o e hx=>?_,I.base.tups,I.base.frzs,I.base.tbls⟩,?_,fun x c hc=>?_,I.free,I.freeC,fun p hp=>?_,fun b u e=>?_,I.len⟩
 ·have e1:=I.base.keep b o e n hf hx
  refine m.keep b o e1 (fun hc=>?_) fun hs=>?_
  ·rw [(hch b hc).1] at e; cases e
  ·rcases List.mem_cons.mp (I.stkSub b hs) with z | z
   ·rw [z] at e
    exact absurd (Heap.lt_size e) (Nat.not_lt.mpr I.ok.above)
   ·exact hf z
 ·obtain ⟨sl,e1⟩:=I.base.slot b o e n hf hx
  obtain ⟨sl2,e2⟩:=m.slot b _ e1 fun hc=>by rw [(hch b hc).1] at e; cases e
  exact ⟨sl2,e2⟩
 ·obtain ⟨o',e1⟩:=I.base.there b o e hx
  exact m.there b o' e1
 ·obtain ⟨mm,⟨o,es,ep,ho,hd,r⟩,hl⟩:=I.loc
  obtain ⟨sl,e⟩:=m.slot _ o ho (notF _ o ho fun vs q=>by rw [hd] at q; cases q)
  refine ⟨mm,⟨_,es,ep,e,hd,r⟩,fun i x v h1 h2 h3=>?_⟩
  obtain ⟨u,ru,lk⟩:=hl i x v h1 h2 h3
  refine ⟨u,ru,?_⟩
  rcases lk with ⟨a,b⟩ | ⟨a,c,hc,hcell⟩
  ·exact .inl ⟨a,b⟩
  ·exact .inr ⟨a,c,hc,cellK c _ hcell⟩
 ·obtain ⟨v,hv⟩:=I.cell x c hc
  exact ⟨v,cellK c v hv⟩
 ·obtain ⟨a,b,c,d,e⟩:=I.pin p hp
  refine ⟨m.keep _ _ a (fun hc=>(hch _ hc).2.2.1 p hp rfl) fun hs=>?_,b,c,d,e⟩
  rcases List.mem_cons.mp (I.stkSub _ hs) with z | z
  ·exact c z
  ·exact d z
 ·refine (I.hok b u e).stay (fun c v hc q=>m.keep c v q (fun z=>?_) fun z=>?_) (fun _ q=>q) fun _ _ q=>q
  ·have n:=(hch c z).2.1
   rcases hc with rfl | hc
   ·rw [e] at n; cases n
   ·rw [hc] at n; cases n
  ·have n:=I.stkFree c z
   rcases hc with rfl | hc
   ·rw [e] at n; cases n
   ·rw [hc] at n; cases n
def CXe (P:Program) (w:World):CXT:=fun outer H s E ev s'=>∃ e cls dd ch H',ev = .ref e/\s'.os=s.os/\AllBare s'.gens/\Un (frs outer) [] H H' s.heap s'.heap/\HOk P w H' s'.heap /\
 Fly s'.heap e cls dd ch/\(∀ b ∈ ch,s.heap.get? b=none/\H' b=none)/\E cls dd H'
def XP (X:Cx) (pins:List (Addr × Obj)) (σ:St) (E:XK) (ev:Value) (s':Shared):Prop:=∃ e cls dd ch H',ev = .ref e/\Inv X pins σ H' s'/\Fly s'.heap e cls dd ch /\
 (∀ b ∈ ch,X.s₀.heap.get? b=none/\H' b=none/\∀ p ∈ X.pn ++ pins,p.1 ≠ b)/\E cls dd H'
theorem Inv.new_of (I:Inv X pins σ H s) (hex:X.ex=[]) {b:Addr} (hb:s.heap.get? b=none):X.s₀.heap.get? b=none:=by
 cases q:X.s₀.heap.get? b with
 | none=>rfl
 | some o =>
  obtain ⟨o',e⟩:=I.base.there b o q (by rw [hex]; simp)
  rw [e] at hb; cases hb
def PassX (X:Cx) (E:XK):Prop:=∀ (pins:List (Addr × Obj)) (σ:St) (ev:Value) (s':Shared),XP X pins σ E ev s'->X.xe ev s'
theorem passX_def {P:Program} {w:World} {K:PySem.W.Frag} {mg:Str->Option Value} {base:Heap} {N:List Str} {qual:Str} {scope:Scope} {f:Addr} {cd:Value} {A:Around} {outer:List Env} {s:Shared} {H:Hp} {E:XK} :
  PassX (cxOf (CXe P w) P w K mg base N qual scope f cd A outer s H E) E:=by
 intro pins σ ev s' x
 obtain ⟨e,cls,dd,ch,H',rfl,I,fly,hch,q⟩:=x
 refine leave_step (base:=base) (outer:=outer) I.ok.frames I.stack rfl fly fun h' ch' fly' m new=>?_
 have I':=I.excStep m fun b hb=>⟨(hch b hb).1,(hch b hb).2.1,(hch b hb).2.2,fly.rec b hb⟩
 refine ⟨e,cls,dd,ch',H',rfl,I'.os,I'.bare,I'.base,I'.hok,fly',fun b hb=>?_,q⟩
 rcases new b hb with z | z
 ·exact ⟨(hch b z).1,(hch b z).2.1⟩
 ·exact ⟨Heap.get?_none_of_le (Nat.le_trans I.sz z),I.hok.fresh z⟩
theorem own_def {P:Program} {w:World} {K:PySem.W.Frag} {mg:Str->Option Value} {base:Heap} {N:List Str} {qual:Str} {scope:Scope} {f:Addr} {cd:Value} {A:Around} {outer:List Env} {s:Shared} {H:Hp} {E:XK} :
  PassesOwn (model P w) (cxOf (CXe P w) P w K mg base N qual scope f cd A outer s H E).A (cxOf (CXe P w) P w K mg base N qual scope f cd A outer s H E).env (cxOf (CXe P w) P w K mg base N qual scope f cd A outer s H E).xe :=
 PassesOwn.leaving (Q₁:=fun e s''=>CXe P w outer H s E e s'')
end
end L2
namespace L2
open PySem PySem.Spec PyProof.Rows
def vErr:List Value:=[.type "ValueError", .type "Exception", .type "BaseException", .type "object"]
def excMro:List Value->Bool
 | []=>false
 | .ref _ :: r=>excMro r
 | l=>l == vErr
theorem refuse_exc (self:Value):∀ {l:List Value},excMro l=true->refuseLoop self "__setattr__" l=pure ()
 | .ref c :: r,e=>by rw [refuseLoop_ref]; exact refuse_exc self e
 | .type a :: r,e=>by
  have e':(Value.type a :: r)=vErr:=beq_iff_eq.mp e
  rw [e']; exact PySem.F.store_ValueError.passes self
 | .none :: r,e=>by have:=beq_iff_eq.mp (show (_ == vErr)=true from e); cases this
 | .bool _ :: r,e=>by have:=beq_iff_eq.mp (show (_ == vErr)=true from e); cases this
 | .int _ _ :: r,e=>by have:=beq_iff_eq.mp (show (_ == vErr)=true from e); cases this
 | .float _ _ :: r,e=>by have:=beq_iff_eq.mp (show (_ == vErr)=true from e); cases this
 | .str _ _ :: r,e=>by have:=beq_iff_eq.mp (show (_ == vErr)=true from e); cases this
 | .bytes _ _ :: r,e=>by have:=beq_iff_eq.mp (show (_ == vErr)=true from e); cases this
 | .builtin _ :: r,e=>by have:=beq_iff_eq.mp (show (_ == vErr)=true from e); cases this
theorem excMro_has:∀ {l:List Value},excMro l=true->l.contains (.type "object")=true/\l.contains (.type "BaseException")=true/\l.isEmpty=false
 | .ref c :: r,e=>by
  obtain ⟨a,b,_⟩:=excMro_has (l:=r) e
  exact ⟨by rw [List.contains_cons,a,Bool.or_true],by rw [List.contains_cons,b,Bool.or_true],rfl⟩
 | .type a :: r,e=>by
  have e':(Value.type a :: r)=vErr:=beq_iff_eq.mp e
  rw [e']; exact ⟨by decide,by decide,rfl⟩
 | .none :: r,e=>by have:=beq_iff_eq.mp (show (_ == vErr)=true from e); cases this
 | .bool _ :: r,e=>by have:=beq_iff_eq.mp (show (_ == vErr)=true from e); cases this
 | .int _ _ :: r,e=>by have:=beq_iff_eq.mp (show (_ == vErr)=true from e); cases this
 | .float _ _ :: r,e=>by have:=beq_iff_eq.mp (show (_ == vErr)=true from e); cases this
 | .str _ _ :: r,e=>by have:=beq_iff_eq.mp (show (_ == vErr)=true from e); cases this
 | .bytes _ _ :: r,e=>by have:=beq_iff_eq.mp (show (_ == vErr)=true from e); cases this
 | .builtin _ :: r,e=>by have:=beq_iff_eq.mp (show (_ == vErr)=true from e); cases this
def exOver (K:PySem.W.Frag) (C:Addr):Bool:=(PySem.W.clsIn K C).any fun cd=>excMro cd.mro
structure XCls (K:PySem.W.Frag) (C:Addr):Prop where
 mro:exOver K C=true
 hd:PySem.W.hasDictIn K C=true
 sa:PySem.W.findIn K (.ref C) "__setattr__" = some (some (.builtin "object.__setattr__"))
 ga:PySem.W.findIn K (.ref C) "__getattribute__" = some (some (.builtin "BaseException.__getattribute__"))
 gn:PySem.W.findIn K (.ref C) "__getattr__" = some none
section
variable {prog:Program} {w:World} {A:Around} {E:Value->Shared->Prop} {s:Shared} {K:PySem.W.Frag} {x C:Addr} {ox:Obj} {name:Str} {v:Value}
open PySem.W in
theorem osa_exc {R:Result->Shared->Prop} {od:Option Obj} {tk:Tok} (X:K.In s.heap) (I:PySem.W.InstAt s.heap x ox C od) (hp:exOver K C=true) (ht:findIn K (.ref C) name=some none)
  (h:∀ b,wpAny (model prog w) A.in1 (Builtin.ObjectAttr.storeInOwnDict (.ref x) (.ref C) (.str name tk) name v b)
   (fun fin s'=>match fin with | .done f=>R (.ok f) s' | .again c'=>c'.quiet=true/\codeAny (model prog w) A c' R s') (fun e s'=>R (.error e) s') s) :
  codeAny (model prog w) A (.call (.builtin "object.__setattr__") ⟨[.ref x, .str name tk,v],[]⟩) R s:=by
 have SF:=PySem.F.store_object
 obtain ⟨cd,hc,ho⟩:=any_some hp
 obtain ⟨h1,h2,ne⟩:=excMro_has ho
 have sub:Looks (model prog w) s.heap (isInstance (.ref x) (.type "object")) true:=I.type.andThen (looks_mroIn X (by unfold mroIn; rw [hc,Option.bind_some,if_neg (by rw [ne]; decide),h1]))
 refine codeAny_call_builtin SF.slot.plain SF.entry (@check_slot (model prog w) _ _ s "object.__setattr__" "object" "__setattr__" (.ref x) [.str name tk,v] [] _ SF.kind SF.split sub (SF.args (.ref x) (.str name tk) v) ?_)
 have hm:Looks (model prog w) s.heap (mroOf (.ref C)) cd.mro:=(looks_clsIn X hc).andThen .now
 have L3:Looks (model prog w) s.heap (Builtin.ObjectAttr.storeTaker? none) none := .now
 rw [osa_eq,refuse_eq]
 refine wpAny_bind (wpAny_bind (I.type.here (wpAny_bind (hm.here ?_))))
 rw [refuse_exc _ ho]
 refine wpAny_pure (wpAny_bind (I.type.here (wpAny_bind ((looks_findIn X ht).here (wpAny_bind (L3.here ?_))))))
 exact h _
theorem set_exc0 {vs:Array Value} {Q:Unit->Shared->Prop} (X:K.In s.heap) (hx:s.heap.get? x=some ⟨.ref C,none, .fields vs,#[]⟩) (c:XCls K C) (ht:PySem.W.findIn K (.ref C) name=some none)
  (h:∀ h' t',h'.get? x=some ⟨.ref C,some s.heap.objs.size, .fields vs,#[]⟩->h'.Ns1 s.heap.objs.size (fun y=>if y=name then some v else none) ->
   (∀ b o,b ≠ x->s.heap.get? b=some o->h'.get? b=some o)->Q () { s with heap:=h',toks:=t' }) :
  wpAny (model prog w) A (setAttr (.ref x) name v) Q E s:=by
 have I:PySem.W.InstAt s.heap x ⟨.ref C,none, .fields vs,#[]⟩ C none:=⟨hx,rfl,rfl,True.intro⟩
 refine PySem.W.set_plain X I c.sa (osa_exc (s:={ s with toks:=s.toks + 1 }) X I c.mro ht fun b=>?_)
 obtain ⟨cd,hc,hd'⟩:=PySem.W.any_some c.hd
 obtain ⟨hp,g,d,t,os⟩:=s
 dsimp only at X hx h I ⊢
 refine wpAny_bind (wpAny_pure (wpAny_bind (wpAny_bind (wpAny_loadPart hx (wpAny_bind (PySem.W.Looks.here (s:=⟨hp,g,d,t + 1,os⟩) (PySem.W.looks_clsIn X hc) ?_))))))
 rw [hd']
 have hx₁:(hp.push { cls := .type "dict",data := .dict #[] }).get? x=some ⟨.ref C,none, .fields vs,#[]⟩:=Heap.get?_push_of_some _ hx
 have hxs:x ≠ hp.objs.size:=Nat.ne_of_lt (Heap.lt_size hx)
 rw [if_neg (by decide)]
 dsimp only
 rw [if_neg (by simp [typeHasDict])]
 refine wpAny_bind (wpAny_alloc' ?_)
 refine wpAny_bind (wpAny_update' hx₁ ?_)
 refine wpAny_pure ?_
 have hgd:((hp.push { cls := .type "dict",data := .dict #[] }).update x fun o=>{ cls:=o.cls,dict:=some hp.objs.size,data:=o.data,slots:=o.slots }).get? hp.objs.size
   = some { cls := .type "dict",data := .dict #[] } :=
  (Heap.get?_update_ne _ _ _ _ hxs.symm).trans (Heap.get?_push_at rfl rfl)
 have hnd:((hp.push { cls := .type "dict",data := .dict #[] }).update x fun o=>{ cls:=o.cls,dict:=some hp.objs.size,data:=o.data,slots:=o.slots }).Ns hp.objs.size (fun _=>none) :=
  ⟨_,#[],_,hgd,rfl,fun e he=>absurd he (by simp),fun _=>rfl⟩
 show wpAny _ _ (Builtin.ObjectAttr.storeInDict hp.objs.size (.str name t) name v) _ _ _
 unfold Builtin.ObjectAttr.storeInDict Builtin.ObjectAttr.newKeyGuard
 refine wpAny_bind (wpAny_pure (wpAny_bind (wpAny_nsSet1 (Heap.Ns1.of_empty hnd) fun h' hn' hs=>?_)))
 obtain ⟨oD,esD,epD,hoD,hdD,hcD⟩:=hn'.count (Within.cons name v Within.nil)
 refine wpAny_bind (wpAny_lookBehind hoD (by rw [hdD]; exact pastItsLine_dict (Nat.le_trans hcD (by rw [List.length_cons,List.length_nil,sizeLine_eq]; omega))) ?_)
 refine wpAny_pure (h h' _ ?_ hn' fun b o hbx hb=>?_)
 ·exact (hs.2 x hxs).trans (Heap.get?_update_self _ hx₁ rfl)
 ·exact (hs.2 b (Nat.ne_of_lt (Heap.lt_size hb))).trans ((Heap.get?_update_ne _ _ _ _ hbx).trans (Heap.get?_push_of_some _ hb))
open PySem.W in
end
end L2
namespace PySem
section
variable {prog:Program} {w:World} {A:Around} {E:Value->Shared->Prop} {h:Heap} {g:Array GenState} {d:Drawn} {t:Nat} {os:OsState}
variable {nm q:Str} {C N:Addr} {bs bm bmB:List Value} {hdct:Bool} {sn:List Str} {sub:List Value} {ab:Bool} {col:Option Bool} {dd:Option Addr} {k0 k1 k2 k3 k5:Option Value} {B newId initId:String}
theorem y_type_call_initT (F:ExcBaseFacts B newId initId bmB) (T:OwnTail h bmB bm) {mN:Str->Option Value} {rest:List Value} {fI:Addr} {oI:Obj} {Q:Fin->Shared->Prop}
  (hC:h.get? C=some (excClassObj nm q C N bs bm hdct sn sub ab col dd k0 k1 k2 k3 k5 newId)) (hn:h.Ns N mN) (hi:mN "__init__" = some (.ref fI))
  (hfI:h.get? fI=some oI) (hfc:oI.cls = .type "function")
  (hq:wpAny (model prog w) A (call (.ref fI) (.ref (h.objs.size + 1) :: rest)) (fun r s'=>r = .none/\Q (.done (.ret (.ref (h.objs.size + 1)))) s') E
   ⟨(h.push { cls := .type "tuple",data := .seq rest.toArray }).push { cls := .ref C,data := .fields #[.ref h.objs.size, .none, .none, .none, .bool false, .none] },g,d,t,os⟩) (hrest:rest.length <= sizeLine:=by size_fits) :
  wpAny (model prog w) A (Builtin.«type.__call__» ⟨.ref C :: rest,[]⟩) Q E ⟨h,g,d,t,os⟩:=by
 repeat (first | with_reducible refine wpAny_loadPart_at hC ?_ | with_reducible refine wpAny_madeBy_exc hC ?_ | wp_step)
 refine codeAny_call_builtin_code (Code.quiet_builtin _ F.quiet) (wpAny_check_new_subT F T hC ?_)
 refine codeAny_exc_new_subT F T hC ?_ hrest
 show wpAny _ _ _ _ _ _
 have hC₁:=Heap.get?_push_of_some { cls := .ref C,data := .fields #[.ref h.objs.size, .none, .none, .none, .bool false, .none] }
  (Heap.get?_push_of_some { cls := .type "tuple",data := .seq rest.toArray } hC)
 have hfI₁:=Heap.get?_push_of_some { cls := .ref C,data := .fields #[.ref h.objs.size, .none, .none, .none, .bool false, .none] }
  (Heap.get?_push_of_some { cls := .type "tuple",data := .seq rest.toArray } hfI)
 have hn₁:((h.push { cls := .type "tuple",data := .seq rest.toArray }).push { cls := .ref C,data := .fields #[.ref h.objs.size, .none, .none, .none, .bool false, .none] }).Ns N mN :=
  let ⟨o,es,ep,e,r⟩:=hn; ⟨o,es,ep,Heap.get?_push_of_some _ (Heap.get?_push_of_some _ e),r⟩
 have hget:((h.push { cls := .type "tuple",data := .seq rest.toArray }).push
   { cls := .ref C,data := .fields #[.ref h.objs.size, .none, .none, .none, .bool false, .none] }).get? (h.objs.size + 1)=some
   { cls := .ref C,data := .fields #[.ref h.objs.size, .none, .none, .none, .bool false, .none] }:=by heap_get
 have hcC:(Value.ref C :: bm).contains (.ref C)=true:=by simp
 have T₁:=T.keeps (h':=(h.push { cls := .type "tuple",data := .seq rest.toArray }).push { cls := .ref C,data := .fields #[.ref h.objs.size, .none, .none, .none, .bool false, .none] })
  fun b o e=>Heap.get?_push_of_some _ (Heap.get?_push_of_some _ e)
 unfold isInstance
 repeat (first | with_reducible refine wpAny_loadPart_at hget ?_ | (with_reducible refine wpAny_isSubtype_exc hC₁ ?_; rw [hcC]) | wp_step)
 show wpAny _ _ (typeLookup (.ref C) _) _ _ _
 refine wpAny_typeLookup_tail hC₁ hn₁ T₁ F.mroIs F.init.lookup ?_
 rw [hi]
 refine wpAny_holding (wpAny_bind ?_)
 unfold bindSpecial
 refine wpAny_bind (wpAny_typeOf (T := "function") ⟨_,hfI₁,hfc⟩ ?_)
 rw [if_pos (by decide)]
 refine wpAny_pure (wpAny_bind (wpAny_mono hq (fun r s' hr=>?_) fun _ _ x=>x))
 obtain ⟨rfl,hQ⟩:=hr
 wp_walk
 exact hQ
theorem y_call_initT (F:ExcBaseFacts B newId initId bmB) (T:OwnTail h bmB bm) {mN:Str->Option Value} {rest:List Value} {fI:Addr} {oI:Obj} {Q:Value->Shared->Prop}
  (hC:h.get? C=some (excClassObj nm q C N bs bm hdct sn sub ab col dd k0 k1 k2 k3 k5 newId)) (hn:h.Ns N mN) (hi:mN "__init__" = some (.ref fI))
  (hfI:h.get? fI=some oI) (hfc:oI.cls = .type "function")
  (hq:wpAny (model prog w) (A.under (.builtin "type.__call__" ⟨.ref C :: rest,[]⟩)) (call (.ref fI) (.ref (h.objs.size + 1) :: rest)) (fun r s'=>r = .none/\Q (.ref (h.objs.size + 1)) s') E
   ⟨(h.push { cls := .type "tuple",data := .seq rest.toArray }).push { cls := .ref C,data := .fields #[.ref h.objs.size, .none, .none, .none, .bool false, .none] },g,d,t,os⟩) (hrest:rest.length <= sizeLine:=by size_fits) :
  wpAny (model prog w) A (call (.ref C) rest) Q E ⟨h,g,d,t,os⟩:=by
 have f1:=tc_lookup
 have f2:=tc_bind (.ref C)
 have hT:(⟨h,g,d,t,os⟩:Shared).TypeIs (.ref C) "type":=⟨_,hC,rfl⟩
 refine wpAny_call (codeAny_of_tree ?_)
 show wpAny _ _ (callAny (.ref C) _) _ _ _
 repeat (any_goals (first | assumption | with_reducible refine wpAny_loadPart_at hC ?_ | wp_step))
 refine ⟨rfl,?_⟩
 refine codeAny_call_builtin_at (Code.quiet_builtin _ (by decide +kernel)) entry_typeCall (wpAny_check_type_call_sub hC (y_type_call_initT (hrest:=hrest) F T hC hn hi hfI hfc ?_))
 exact hq
end
section
variable {M:Model} {A:Around} {E:Value->Shared->Prop} {env:Env}
variable {nm q:Str} {C N:Addr} {bs bm:List Value} {hdct:Bool} {sn:List Str} {sub:List Value} {ab:Bool} {col:Option Bool} {dd:Option Addr} {k0 k1 k2 k3 k5:Option Value} {newId:String}
theorem y_raise_made {s:Shared} {x:Sem Value} {Q:Flow->Shared->Prop} (hh:A.handled=none)
  (h:wpAny M A x (fun v s₁=>∃ e t de nm q N bs bm hdct sn sub ab col dd k0 k1 k2 k3 k5 newId,v = .ref e/\bm.contains (.type "BaseException")=true/\s₁.heap.get? C=some (excClassObj nm q C N bs bm hdct sn sub ab col dd k0 k1 k2 k3 k5 newId) /\
   s₁.heap.get? e=some { cls := .ref C,dict:=de,data := .fields #[.ref t, .none, .none, .none, .bool false, .none] }/\E (.ref e) s₁) E s) :
  wpAny M A (raiseStmt env (some x) none) Q E s:=by
 unfold raiseStmt
 refine wpAny_bind (wpAny_mono h (fun v s₁ h₁=>?_) fun _ _ x=>x)
 obtain ⟨e,t,de,nm,q,N,bs,bm,hdct,sn,sub,ab,col,dd,k0,k1,k2,k3,k5,newId,rfl,hbase,hC,he,hE⟩:=h₁
 have hcB:(Value.ref C :: bm).contains (.type "BaseException")=true:=by rw [List.contains_cons,hbase,Bool.or_true]
 obtain ⟨hp,g,d,tk,os⟩:=s₁
 repeat (first | with_reducible refine wpAny_loadPart_at he ?_ | with_reducible refine wpAny_loadPart_at hC ?_ | (with_reducible refine wpAny_isSubtype_exc hC ?_; rw [hcB]) | wp_step)
 exact wpAny_raiseNew_none hh hE
end
end PySem
namespace L2
open PySem PySem.Spec PyProof.Rows
def excInI (K:PySem.W.Frag) (C:Addr) (init:Option Value):Bool:=match K.lookup C with
 | some ⟨.type "type",_, .cls cd,sl⟩=>(match cd.mro,sl.toList with
  | .ref C' :: bm,[_,_,_,_,some (.builtin n),_]=>C' == C && n == "ValueError.__new__" && !cd.hasDel && PySem.W.tailIn K vErr bm && PySem.W.nsOkIn K cd.ns && PySem.W.nsIn K cd.ns "__init__" == some init
  | _,_=>false)
 | _=>false
theorem nsMap_some_of_in {K:PySem.W.Frag} {h:Heap} {N:Addr} {x:Str} {v:Value} (X:K.In h) (e:PySem.W.nsOkIn K N=true) (q:PySem.W.nsIn K N x=some (some v)):h.nsMap N x=some v:=by
 have G:h.Ns N (h.nsMap N) := .of_isNs (PySem.W.isNs_of_in X e)
 generalize h.nsMap N=m at G ⊢
 obtain ⟨o,es,ep,ho,hd,_,hf⟩:=G
 unfold PySem.W.nsIn at q
 split at q
 ·rename_i c d es' n' sl z
  have:=X _ _ z
  rw [ho] at this
  cases this
  cases hd
  split at q
  ·rename_i en he
   cases q
   rw [← hf]
   unfold nsFind findBy
   rw [← Array.find?_toList,he]
   rfl
  ·split at q <;> cases q
 ·cases q
theorem excI_of {K:PySem.W.Frag} {h:Heap} {C:Addr} {init:Option Value} (X:K.In h) (q:excInI K C init=true):∃ bm N nm qn bs hdct sn sub ab col dd k0 k1 k2 k3 k5 mN,
  h.get? C=some (excClassObj nm qn C N bs bm hdct sn sub ab col dd k0 k1 k2 k3 k5 "ValueError.__new__")/\h.Ns N mN/\mN "__init__" = init/\OwnTail h vErr bm:=by
 unfold excInI at q
 split at q
 ·rename_i dd cd sl ho
  split at q
  ·rename_i C' bm k0 k1 k2 k3 n k5 hm hs
   simp only [Bool.and_eq_true,beq_iff_eq,Bool.not_eq_true'] at q
   obtain ⟨⟨⟨⟨⟨rfl,rfl⟩,hdel⟩,ht⟩,hok⟩,hni⟩:=q
   obtain ⟨nm,bs,mro,ns,qn,hd,sn,sub,ab,col,del⟩:=cd
   dsimp only at hm hdel hok hni
   subst hm hdel
   have hsl:sl = #[k0,k1,k2,k3,some (.builtin "ValueError.__new__"),k5]:=by
    obtain ⟨l⟩:=sl
    simp only at hs
    rw [hs]
   subst hsl
   refine ⟨bm,ns,nm,qn,bs,hd,sn,sub,ab,col,dd,k0,k1,k2,k3,k5,_,X _ _ ho, .of_isNs (PySem.W.isNs_of_in X hok),?_,PySem.W.tail_of_in X ht⟩
   cases init with
   | none=>exact PySem.W.nsMap_none_of_in X hok hni
   | some v=>exact nsMap_some_of_in X hok hni
  ·cases q
 ·cases q
theorem vErr_base {h:Heap} {bm:List Value} (T:OwnTail h vErr bm):bm.contains (.type "BaseException")=true:=T.hasType (by decide)
def excObj (C t:Addr) (dd:Option Addr):Obj:={ cls := .ref C,dict:=dd,data := .fields #[.ref t, .none, .none, .none, .bool false, .none] }
abbrev TX:=St->Hp->(Option Addr->Hp->Prop)->Prop
def PX (X:Cx) (e:Expr) (C:Addr) (t:TX):Prop :=
 ∀ (pins:List (Addr × Obj)) (s:Shared) (σ:St) (H:Hp) (R:Option Addr->Hp->Prop),Inv X pins σ H s->t σ H R->wpAny (model X.prog X.w) X.A (eval e X.env)
  (fun u s'=>∃ ea dd tt H',u = .ref ea/\Inv X pins σ H' s'/\s'.heap.get? ea=some (excObj C tt dd)/\X.s₀.heap.get? ea=none/\H' ea=none/\(∀ p ∈ X.pn ++ pins,p.1 ≠ ea)/\R dd H') X.xe s
theorem HOk.at {P:Program} {w:World} {H:Hp} {h:Heap} {a:Addr} {o:HO} (x:HOk P w H h) (e:H a=some o):∃ ob,h.get? a=some ob:=by
 have q:=x a o e
 have all:∀ o,ObjOk P w H h a o->∃ ob,h.get? a=some ob:=by
  intro o
  induction o with
  | lst xs=>intro ⟨_,its,n,_,e⟩; exact ⟨_,e⟩
  | tup xs=>intro ⟨_,its,_,ob,e,_⟩; exact ⟨_,e⟩
  | dK kvs=>intro ⟨_,_,vs,_,q⟩; obtain ⟨o,es,ep,e,_⟩:=q; exact ⟨_,e⟩
  | dT kvs=>intro ⟨_,_,xs,_,o,es,ep,e,_⟩; exact ⟨_,e⟩
  | set S n=>intro q; obtain ⟨o,_,_,_,e,_⟩:=q; exact ⟨_,e⟩
  | ins C dx fs=>intro ⟨_,_,_,e,_⟩; exact ⟨_,e⟩
  | own x=>intro ⟨o,e⟩; exact ⟨_,e⟩
  | xd fs=>intro ⟨mA,⟨o,es,ep,e,_⟩,_⟩; exact ⟨_,e⟩
  | rng lo hi=>intro ⟨_,_,_,e⟩; exact ⟨_,e⟩
  | frz o u ih=>intro ⟨e,_⟩; exact ⟨_,e⟩
  | tbl ps=>intro e; exact ⟨_,e⟩
  | met f x=>intro e; exact ⟨_,e⟩
  | ext φ=>intro ⟨_,e,_⟩; exact e
 exact all o q
theorem HOk.none_of {P:Program} {w:World} {H:Hp} {h:Heap} {a:Addr} (x:HOk P w H h) (e:h.get? a=none):H a=none:=by
 cases q:H a with
 | none=>rfl
 | some o =>
  obtain ⟨ob,z⟩:=x.at q
  rw [e] at z; cases z
def del (H:Hp) (a:Addr):Hp:=fun b=>if b=a then none else H b
theorem del_same {H:Hp} {a:Addr}:del H a a=none:=if_pos rfl
theorem del_ne {H:Hp} {a b:Addr} (h:b ≠ a):del H a b=H b:=if_neg h
theorem Inv.drop {X:Cx} {pins:List (Addr × Obj)} {σ:St} {H:Hp} {s:Shared} {a:Addr} {φ:Heap->Prop} (I:Inv X pins σ H s) (e:H a=some (.ext φ)):Inv X pins σ (del H a) s:=by
 have nx:∀ b u,H b=some u->(∀ φ,u ≠ .ext φ)->b ≠ a:=fun b u q n z=>by rw [z,e] at q; cases q; exact n φ rfl
 have nn:∀ b,H b=none->del H a b=none:=fun b q=>by unfold del; split <;> first | rfl | exact q
 refine ⟨I.ok,I.os,I.bare,⟨I.base.keep,I.base.slot,fun b o h1 h2 h3=>nn b (I.base.free b o h1 h2 h3),I.base.there,fun b xs q=>?_,fun b o u q=>?_,fun b ps q=>?_⟩,I.loc,I.cell,nn _ I.free,fun x c h=>nn _ (I.freeC x c h),fun p hp=>?_,fun b u q=>?_,I.len⟩
 ·have z:=I.base.tups b xs q
  rw [del_ne (nx b _ z fun φ h=>by cases h)]; exact z
 ·have z:=I.base.frzs b o u q
  rw [del_ne (nx b _ z fun φ h=>by cases h)]; exact z
 ·obtain ⟨more,z⟩:=I.base.tbls b ps q
  exact ⟨more,by rw [del_ne (nx b _ z fun φ h=>by cases h)]; exact z⟩
 ·obtain ⟨h1,h2,h3⟩:=I.pin p hp
  exact ⟨h1,nn _ h2,h3⟩
 ·have hb:b ≠ a:=fun z=>by rw [z,del_same] at q; cases q
  rw [del_ne hb] at q
  refine (I.hok b u q).stay (fun c v _ z=>z) (fun c z=>?_) fun c xs z=>?_
  ·rw [del_ne (nx c _ z fun φ h=>by cases h)]; exact z
  ·rw [del_ne (nx c _ z fun φ h=>by cases h)]; exact z
section
variable {X:Cx} {C f:Addr} {x:Str} {p pos apos:Pos} {e:Expr} {es:List Expr} {t:TA}
def tXmake (t:TA):TX:=fun σ H R=>t σ H fun vs H1=>vs.length <= sizeLine/\R none H1
theorem px_plain (hq:excInI X.K C none=true) (kp:PySem.W.keepIn X.K (.ref C)=true) (hex:X.ex=[]) (hg:Gl X x) (hm:X.mg x=some (.ref C)) (ha:PA X (e :: es) t)
  (hdb:(x == ("__debug__":Str))=false:=by decide) (he:starEach (e :: es) X.env=(false,eval e X.env) :: starEach es X.env:=by rfl) (hpl:(backTo pos (starEach es X.env)).any (·.1)=false:=by rfl) :
  PX X (.Call (.Name x p) (e :: es) [] pos) C (tXmake t):=by
 intro pins s σ H R I h
 refine wpAny_Call_Name_kw (ld_glob I hg hm ?_ hdb)
 refine PySem.W.callWith_K (h₀:=X.base) I.ok.mod.kin kp (thn (ha pos pins s σ H _ I h) fun us s1 ⟨vs,H1,I1,r,hl,q⟩=>⟨I1.kIn,?_⟩) he hpl
 obtain ⟨bm,N,nm,qn,bs,hdct,sn,sub,ab,col,dd,k0,k1,k2,k3,k5,mN,hC,hn,hni,T⟩:=excI_of I1.kIn hq
 obtain ⟨hp,g,d,tk,os⟩:=s1
 refine wpAny_call_exc_subT (hrest:=by show us.length <= _; rw [← r.length]; exact hl) PySem.F.excBase_ValueError T hC hn hni fun h' ea hmade=>?_
 obtain ⟨tt,ht,_,_⟩:=hmade.there
 refine ⟨ea,none,tt,H1,rfl,I1.kept (t':=tk) hmade.keeps,ht,I1.new_of hex hmade.new,I1.hok.none_of hmade.new,fun p hp z=>?_,q⟩
 have:=(I1.pin p hp).1
 rw [z] at this
 have h2:=hmade.new
 rw [this] at h2
 cases h2
def ExcAt (e C t:Addr) (dd:Option Addr):HO := .ext fun h=>h.get? e=some (excObj C t dd)
theorem excAt_ok {P:Program} {w:World} {H:Hp} {h:Heap} {e C t:Addr} {dd:Option Addr} (q:h.get? e=some (excObj C t dd)):ObjOk P w H h e (ExcAt e C t dd) :=
 ⟨q,⟨_,q⟩,fun h1 h2 a b=>b _ a⟩
def tXinit (C:Addr) (sp:Sp) (t:TA):TX:=fun σ H R=>t σ H fun vs H1=>vs.length <= sizeLine/\∀ e tt,H1 e=none->sp (.ref e :: vs) (upd H1 e (ExcAt e C tt none)) (fun v H2=>v = .non/\∃ dd,H2 e=some (ExcAt e C tt dd)/\R dd (del H2 e)) E0
theorem px_init {k:Nat} {fd:FuncData} {ps:List Str} {sp:Sp} (hq:excInI X.K C (some (.ref f))=true) (hf:PySem.W.isFn X.K (.ref f)=true) (kp:PySem.W.keepIn X.K (.ref C)=true) (F:FnOk X.prog X.w X.K X.mg X.base CX0 k f fd ps sp) (hr:Room (k + 1) X.A) (hb:Binds X.K fd ps [])
  (hg:Gl X x) (hm:X.mg x=some (.ref C)) (ha:PA X (e :: es) t)
  (hdb:(x == ("__debug__":Str))=false:=by decide) (he:starEach (e :: es) X.env=(false,eval e X.env) :: starEach es X.env:=by rfl) (hpl:(backTo pos (starEach es X.env)).any (·.1)=false:=by rfl) :
  PX X (.Call (.Name x p) (e :: es) [] pos) C (tXinit C sp t):=by
 intro pins s σ H R I h
 refine wpAny_Call_Name_kw (ld_glob I hg hm ?_ hdb)
 refine PySem.W.callWith_K (h₀:=X.base) I.ok.mod.kin kp (thn (ha pos pins s σ H _ I h) fun us s1 ⟨vs,H1,I1,r,hl,q⟩=>⟨I1.kIn,?_⟩) he hpl
 obtain ⟨bm,N,nm,qn,bs,hdct,sn,sub,ab,col,dd,k0,k1,k2,k3,k5,mN,hC,hn,hni,T⟩:=excI_of I1.kIn hq
 obtain ⟨oI,hoI,hcI⟩:∃ oI,s1.heap.get? f=some oI/\oI.cls = .type "function":=by
  have z:=beq_iff_eq.mp hf
  obtain ⟨o,ho,z⟩:=Option.map_eq_some_iff.mp (show (X.K.lookup f).map (·.cls)=some (.type "function") from z)
  exact ⟨o,I1.kIn _ _ ho,z⟩
 obtain ⟨hp,g,d,tk,os⟩:=s1
 dsimp only at hC hn T hoI
 refine y_call_initT (hrest:=by show us.length <= _; rw [← r.length]; exact hl) PySem.F.excBase_ValueError T hC hn hni hoI hcI ?_
 have nE:hp.objs.size <= hp.objs.size + 1:=Nat.le_succ _
 have hq2:=q (hp.objs.size + 1) hp.objs.size (I1.hok.fresh nE)
 have hget:((hp.push { cls := .type "tuple",data := .seq us.toArray }).push (excObj C hp.objs.size none)).get? (hp.objs.size + 1)=some (excObj C hp.objs.size none):=by
  have:=Heap.get?_push_size (hp.push { cls := .type "tuple",data := .seq us.toArray }) (o:=excObj C hp.objs.size none) rfl
  rwa [Heap.size_push] at this
 have I2:Inv X pins σ (upd H1 (hp.objs.size + 1) (ExcAt (hp.objs.size + 1) C hp.objs.size none)) ⟨(hp.push { cls := .type "tuple",data := .seq us.toArray }).push (excObj C hp.objs.size none),g,d,tk,os⟩ :=
  I1.laid (t':=tk) (fun b u z=>Heap.get?_push_of_some _ (Heap.get?_push_of_some _ z)) nE (excAt_ok hget)
 have r2:Vals (V.ref (hp.objs.size + 1) :: vs) (Value.ref (hp.objs.size + 1) :: us) := .cons rfl r
 have hl2:(Value.ref (hp.objs.size + 1) :: us ++ []).length=ps.length:=by
  have e:=r2.length
  rw [F.len _ _ _ _ hq2] at e
  rw [List.append_nil]; exact e.symm
 have hb2:=hb ⟨(hp.push { cls := .type "tuple",data := .seq us.toArray }).push (excObj C hp.objs.size none),g,d,tk,os⟩ (Value.ref (hp.objs.size + 1) :: us) I2.kIn hl2
 rw [List.append_nil] at hb2
 refine wpAny_call (codeAny_mono (F.run _ X.stack _ _ ⟨Value.ref (hp.objs.size + 1) :: us,[]⟩ (Value.ref (hp.objs.size + 1) :: us) _ _ E0 (hr.make C us []) (I2.env0.make C us []) hb2 r2 hq2) fun rr s' hq'=>?_)
 cases rr with
 | error e=>exact hq'.elim
 | ok fl =>
  cases fl with
  | ret u =>
   obtain ⟨v,H',I3,rv,ev,de,hde,q3⟩:=I2.after hq'
   subst ev
   refine ⟨rv,hp.objs.size + 1,de,hp.objs.size,del H' (hp.objs.size + 1),rfl,I3.drop hde,(I3.hok _ _ hde).1,Heap.get?_none_of_le (Nat.le_trans I1.sz nE),del_same,fun p hp' z=>?_,q3⟩
   have:=Heap.lt_size (I1.pin p hp').1
   rw [z] at this
   exact absurd this (Nat.not_lt.mpr nE)
  | next=>exact False.elim hq'
  | brk=>exact False.elim hq'
  | cont=>exact False.elim hq'
def tRaise (C:Addr) (E:XK) (t:TX):TS:=fun _ σ H=>t σ H fun dd H1=>E (.ref C) dd H1
theorem ps_raise {E:XK} {tx:TX} {init:Option Value} (hc:X.calm=true) (hq:excInI X.K C init=true) (hx:PassX X E) (h:PX X e C tx):PS X (.Raise (some e) none pos) (tRaise C E tx):=by
 intro pins s σ H D I hw
 rw [arm_exec_Raise]
 have key:wpAny (model X.prog X.w) X.A (eval e X.env) (fun v s₁=>∃ ea t de nm q N bs bm hdct sn sub ab col dd k0 k1 k2 k3 k5 newId,v = .ref ea/\bm.contains (.type "BaseException")=true/\s₁.heap.get? C=some (excClassObj nm q C N bs bm hdct sn sub ab col dd k0 k1 k2 k3 k5 newId) /\
   s₁.heap.get? ea=some { cls := .ref C,dict:=de,data := .fields #[.ref t, .none, .none, .none, .bool false, .none] }/\X.xe (.ref ea) s₁) X.xe s:=by
  refine thn (h pins s σ H _ I hw) fun u s1 ⟨ea,dd,tt,H',eu,I1,ho,hn,hh,hp,q⟩=>?_
  obtain ⟨bm,N,nm,qn,bs,hdct,sn,sub,ab,col,ddc,k0,k1,k2,k3,k5,mN,hC,hns,hni,T⟩:=excI_of I1.kIn hq
  refine ⟨ea,tt,dd,nm,qn,N,bs,bm,hdct,sn,sub,ab,col,ddc,k0,k1,k2,k3,k5,_,eu,vErr_base T,hC,ho,hx pins σ _ _ ⟨ea, .ref C,dd,[ea],H',rfl,I1,⟨_,_,ho,rfl,rfl,rfl, .inl ⟨rfl,rfl⟩⟩,fun b hb=>?_,q⟩⟩
  simp only [List.mem_singleton] at hb
  subst hb
  exact ⟨hn,hh,hp⟩
 first
  | refine wpAny_bind (wpAny_standAt (y_raise_made (C:=C) (I.ok.hd hc) (wpAny_bind (wpAny_mono key (fun v s₃ h₃=>wpAny_bind (wpAny_standAt (wpAny_pure h₃))) fun _ _ x=>x))))
  | (simp only [evalOpt,Option.map]; refine wpAny_bind (wpAny_standAt (y_raise_made (C:=C) (I.ok.hd hc) (wpAny_bind (wpAny_mono key (fun v s₃ h₃=>wpAny_bind (wpAny_standAt (wpAny_pure h₃))) fun _ _ x=>x)))))
end
end L2
namespace L2
open PySem PySem.Spec PyProof.Rows
section
variable {prog:Program} {w:World} {A:Around} {E:Value->Shared->Prop} {s:Shared} {K:PySem.W.Frag} {x C:Addr} {ox:Obj} {od:Option Obj} {name:Str} {v:Value}
open PySem.W in
structure XIsi (K:PySem.W.Frag) (C:Addr):Prop where
 at_:PySem.W.findIn K (.ref C) "__class__" = some (some (.builtin "object.__class__"))
 get:PySem.W.specialIn K (.builtin "object.__class__") "__get__" = some (some (.builtin "getset_descriptor.__get__"))
 tak:PySem.W.takesIn K (.builtin "object.__class__")=some true
open PySem.W in
end
abbrev Cx.hand (X:Cx) (ea:Addr) (oe:Obj):Cx:={ X with A:=X.A.mark (some (.ref ea)),calm:=false,pn:=(ea,oe) :: X.pn,xe:=fun _ _=>False }
section
variable {X:Cx} {pins:List (Addr × Obj)} {σ:St} {H:Hp} {s:Shared} {ea:Addr} {oe:Obj}
def ValC:V->Value->Prop
 | .ref a,u=>u = .ref a
 | .ty n,u=>u = .type n
 | _,_=>False
def DictAt (H:Hp):Option Addr->Prop
 | none=>True
 | some d=>∃ fs,H d=some (.xd fs)
def rIsX (X:Cx):List V->Hp->VK->Prop:=fun xs H Q=>∃ ea oe c cv C vs b,xs=[.ref ea,c]/\ValC c cv/\(ea,oe) ∈ X.pn/\oe.cls = .ref C/\oe.data = .fields vs/\DictAt H oe.dict/\XCls X.K C/\XIsi X.K C/\PySem.W.kitOne X.K (.ref C) cv=some b/\Q (.bl b) H
def tXFld (X:Cx) (ta:TE) (f:Str):TE:=fun σ H Q=>ta σ H fun x H1=>∃ ea oe C vs d fs v,x = .ref ea/\(ea,oe) ∈ X.pn/\oe.cls = .ref C/\oe.data = .fields vs/\oe.dict=some d/\H1 d=some (.xd fs)/\XCls X.K C/\PySem.W.findIn X.K (.ref C) f=some none/\fs.lookup f=some v/\Q v H1
end
end L2
namespace L2
open PySem PySem.Spec PyProof.Rows
def sFldX (K:PySem.W.Frag) (ta tv:TE) (f:Str):TS:=fun D σ H=>tv σ H fun y H1=>ta σ H1 fun x H2=>∃ a C tt,x = .ref a/\H2 a=some (ExcAt a C tt none)/\XCls K C/\PySem.W.findIn K (.ref C) f=some none /\
 ∀ d,H2 d=none->D.nx σ (upd (upd H2 d (.xd [(f,y)])) a (ExcAt a C tt (some d)))
section
variable {X:Cx} {o e value:Expr} {f:Str} {pos pos':Pos} {ta tv:TE}
theorem ps_fldX (ha:PE X o ta) (hv:PE X value tv) (hs:swapsWith value (some (.Attribute o f pos')) pos.line X.env=pure false):PS X (.Assign [.Attribute o f pos'] value pos) (sFldX X.K ta tv f):=by
 intro pins s σ H D I h
 refine plainObj_wpAny_Assign_Attribute (thn (hv pins s σ H _ I h) fun u s1 ⟨y,H1,I1,ry,q⟩=>thn (ha pins s1 σ H1 _ I1 q) fun ov s2 ⟨x,H2,I2,rx,a,C,tt,ex,ea,c,n,q2⟩=>?_) hs
 subst ex
 obtain rfl:ov=Value.ref a:=rx
 have ho:s2.heap.get? a=some (excObj C tt none):=(I2.hok a _ ea).1
 have hlt:a < s2.heap.objs.size:=Heap.lt_size ho
 refine set_exc0 I2.kIn ho c n fun h' t' hx' hn' hk=>⟨σ,_,?_,q2 s2.heap.objs.size (I2.hok.fresh (Nat.le_refl _))⟩
 obtain ⟨od,es,ep,hod,r⟩:=id hn'
 have hfr:od.isFreed=false:=(Heap.get?_some_iff.mp hod).2
 have hpush:(s2.heap.push od).get? s2.heap.objs.size=some od:=Heap.get?_push_size s2.heap hfr
 have I3:=I2.laid (a:=s2.heap.objs.size) (o := .xd [(f,y)]) (h':=s2.heap.push od) (t':=s2.toks) (fun b u z=>Heap.get?_push_of_some _ z) (Nat.le_refl _)
  ⟨_,hn'.at (fun o z=>by rw [hod] at z; cases z; exact hpush),fun g=>by
   by_cases hg:g=f
   ·have hb:(g == f)=true:=beq_iff_eq.mpr hg
    simp only [List.lookup,hb,if_pos hg]
    exact ry
   ·have hb:(g == f)=false:=beq_eq_false_iff_ne.mpr hg
    simp only [List.lookup,hb,if_neg hg]
    trivial⟩
 have hne:a ≠ s2.heap.objs.size:=Nat.ne_of_lt hlt
 refine I3.write (x:=a) (e:=a) (h':=h') (t':=t') (by rw [upd_ne hne,ea]; exact True.intro) (.inl rfl) (fun b u hb z=>?_) ⟨_,hx'⟩ (excAt_ok hx')
 by_cases hbs:b=s2.heap.objs.size
 ·subst hbs
  have z':(s2.heap.push od).get? s2.heap.objs.size=some u:=z
  rw [hpush] at z'
  cases z'
  exact hod
 ·have z':s2.heap.get? b=some u:=by
   have z0:(s2.heap.push od).get? b=some u:=z
   exact (Heap.get?_push_cases z0).elim (fun w=>absurd w.1 hbs) fun w=>w
  exact hk b u hb z'
end
section
variable {P:Program} {w:World} {K:PySem.W.Frag} {mg:Str->Option Value} {base:Heap}
theorem Fun.okX {x qual:Str} {st:Stmt} {f:Addr} {fd:FuncData} {N ps:List Str} {k:Nat} {sp:Sp} (F:Fun K x qual st f fd) (S:FnScope N ps (defScope st)) (len:∀ vs H Q E,sp vs H Q E->vs.length=ps.length)
  (hbody:∀ (cdv:Value) (A:Around) (outer:List Env) (s:Shared) (H:Hp) (vs:List V) (Q:VK) (E:XK),Room k (A.deeper (envOfC qual (defScope st) s.heap.objs.size f cdv))->sp vs H Q E ->
   ∃ t,PSs (cxOf (CXe P w) P w K mg base N qual (defScope st) f cdv A outer s H E) (defBody st) t/\t { nx:=fun _ H'=>Q .non H',rt:=Q } (start N vs) H):FnOk P w K mg base (CXe P w) (k + 1) f fd ps sp:=by
 obtain ⟨oc,od,kV,doc,pm,an,cdv,ct,osl,rfl,lk,hcd⟩:=F.ex
 exact fn_of lk hcd S len fun A outer s H vs Q E hr hsp=>hbody cdv A outer s H vs Q E hr hsp
end
theorem passE0 {P:Program} {w:World} {X:Cx}:Passes (CXe P w) X E0:=fun _ _ _ _ _ _ _ ⟨_,_,_,_,_,_,_,_,_,_,_,_,h⟩=>h.elim
def PEx (X:Cx) (e:Expr) (t:St->Hp->VK->XK->Prop):Prop :=
 ∀ (pins:List (Addr × Obj)) (s:Shared) (σ:St) (H:Hp) (Q:VK) (E:XK),Inv X pins σ H s->t σ H Q E->wpAny (model X.prog X.w) X.A (eval e X.env) (EP X pins σ Q) (XP X pins σ E) s
section
variable {X:Cx} {k:Nat} {f C:Addr} {fd:FuncData} {ps:List Str} {sp:Sp} {dvs:List V} {ds:List Value} {x m:Str} {p pos apos:Pos} {e o:Expr} {es:List Expr} {ta:TE} {t:TA}
end
def PBx (X:Cx) (body:List Stmt) (t:Ends->St->Hp->(St->XK)->Prop):Prop :=
 ∀ (pins:List (Addr × Obj)) (s:Shared) (σ:St) (H:Hp) (D:Ends) (E:St->XK),Inv X pins σ H s->t D σ H E->wpAny (model X.prog X.w) X.A (execs body X.env) (SP X pins D) (fun ev s'=>∃ σ',XP X pins σ' (E σ') ev s') s
section
variable {X:Cx} {e:Expr} {t:St->Hp->VK->XK->Prop} {pos tpos:Pos} {n:Str} {i:Nat}
end
section
variable {M:Model} {A:Around} {E:Value->Shared->Prop} {s:Shared}
end
def tTryAs (K:PySem.W.Frag) (c:Value) (i:Nat) (tb:Ends->St->Hp->(St->XK)->Prop) (th:Addr->Obj->TS):TS:=fun D σ H =>
 tb D σ H fun σ' cls dd H'=>PySem.W.exmOne K cls c=some true/\∀ ea oe vs,oe.cls=cls->oe.dict=dd->oe.data = .fields vs->H' ea=none ->
  th ea oe { nx:=fun σ2 H2=>D.nx (σ2.set i none) H2,rt:=D.rt,bk:=fun σ2 H2=>D.bk (σ2.set i none) H2,ct:=fun σ2 H2=>D.ct (σ2.set i none) H2 } (σ'.set i (some (.ref ea))) H'
end L2
namespace PySem
open Sem (wp)
open AutoSeq1 (wpAny_loadPart')
theorem y_meets_enumerate_newT (l:Addr) (items:Array Value) (n:Nat) (dct:Option Addr) (sl:Array (Option Value)) :
  Meets (Builtin.«enumerate.__new__» ⟨[.type "enumerate", .ref l],[]⟩) (fun _ R s=>s.heap.get? l=some { cls := .type "tuple",dict:=dct,data := .seq items n,slots:=sl } /\
   R (.ok (.ret (.ref (s.heap.push { cls := .type "tuple_iterator",data := .fields #[.ref l, .int 0 0] }).objs.size)))
    { s with heap:=(s.heap.push { cls := .type "tuple_iterator",data := .fields #[.ref l, .int 0 0] }).push { cls := .type "enumerate",data := .fields #[.none, .bool false, .ref s.heap.objs.size,rawInt 0, .none, .none] } }) :=
 .of_wp fun prog w A R s h=>by
  obtain ⟨hp,g,d,tk,os⟩:=s; obtain ⟨hl,h⟩:=h
  have hsub:=sub_enumerate
  have hL:Heap.IsTuple (Shared.heap ⟨hp,g,d,tk,os⟩) l items:=⟨_,hl,rfl,n,rfl⟩
  wp_walk using wpAny_loadPart' hl
  refine wpAny_stack_any fun st=>wpAny_pure ?_
  split
  ·rename_i c _ _ _ _ _
   cases (c == Value.type "enumerate")
   ·wp_walk using wpAny_loadPart' hl,wpAny_pyIter_tuple hL
    exact ⟨_,rfl,h⟩
   ·wp_walk using wpAny_loadPart' hl,wpAny_pyIter_tuple hL
    exact ⟨_,rfl,h⟩
  ·wp_walk using wpAny_loadPart' hl,wpAny_pyIter_tuple hL
   exact ⟨_,rfl,h⟩
section
variable {prog:Program} {w:World} {A:Around} {E:Value->Shared->Prop} {s:Shared}
theorem y_call_enumerate_tuple {l:Addr} {items:Array Value} {Q:Value->Shared->Prop} (hL:s.heap.IsTuple l items)
  (h:∀ h',IsEnum h' (s.heap.objs.size + 1) s.heap.objs.size 0 .none->h'.IsTupleIter s.heap.objs.size l 0->h'.objs.size=s.heap.objs.size + 2 ->
   (∀ b o,s.heap.get? b=some o->h'.get? b=some o)->Q (.ref (s.heap.objs.size + 1)) { s with heap:=h' }) :
  wpAny (model prog w) A (call (.type "enumerate") [.ref l]) Q E s:=by
 obtain ⟨⟨c,dct,dt,sl⟩,hl,hc,n,hd⟩:=hL
 replace hc:c = .type "tuple":=hc
 replace hd:dt = .seq items n:=hd
 subst hc hd
 refine callType_new F.called_enumerate (by decide) (F.typeCall_enumerate_1 _) (F.newCall_enumerate_1 _) (fun obj=>F.args_object_init_2 obj _) F.entry_enumerate_new
  (y_meets_enumerate_newT l items n dct sl) ⟨hl,?_⟩
 have hz:(s.heap.push { cls := .type "tuple_iterator",data := .fields #[.ref l, .int 0 0] }).objs.size=s.heap.objs.size + 1:=Heap.size_push ..
 show _/\_
 rw [hz]
 have he:IsEnum ((s.heap.push { cls := .type "tuple_iterator",data := .fields #[.ref l, .int 0 0] }).push
   { cls := .type "enumerate",data := .fields #[.none, .bool false, .ref s.heap.objs.size,rawInt 0, .none, .none] }) (s.heap.objs.size + 1) s.heap.objs.size 0 .none:=by
  have:=Heap.get?_push_size (s.heap.push { cls := .type "tuple_iterator",data := .fields #[.ref l, .int 0 0] })
   (o:={ cls := .type "enumerate",data := .fields #[.none, .bool false, .ref s.heap.objs.size,rawInt 0, .none, .none] }) rfl
  rw [hz] at this; exact this
 refine ⟨⟨_,he,rfl⟩,h _ he ⟨_,Heap.get?_push_of_some _ (Heap.get?_push_size _ rfl),rfl,rfl⟩ (by rw [Heap.size_push,hz]) fun b o x=>Heap.get?_push_of_some _ (Heap.get?_push_of_some _ x)⟩
theorem y_nextOf_tuple_item {it l:Addr} {i:Nat} {items} {x:Value} {Q:Value->Shared->Prop} (hit:s.heap.IsTupleIter it l i)
  (hl:s.heap.IsTuple l items) (hx:items[i]? = some x)
  (hQ:∀ h',h'.IsTupleIter it l (i + 1)->Heap.SameBut it s.heap h'->Q x { s with heap:=h' }) :
  wpAny (model prog w) A (Builtin.SmallTypes.nextOf (.ref it)) Q E s:=by
 obtain ⟨o,ho,hc,hd⟩:=id hit
 obtain ⟨ol,hol,_,nl,hdl⟩:=hl
 unfold Builtin.SmallTypes.nextOf
 refine wpAny_bind (wpAny_callSpecial?_slot (name:=Str.ofString "__next__") hit.typeIs F.slot_tuple_iterator_next
  (wpAny_call_entry F.slot_tuple_iterator_next hit.typeIs F.entry_tuple_iterator_next ?_ (F.args_tuple_iterator_next_1 _)))
 show wpAny _ _ (field (.ref it) 0 >>= _) _ _ s
 refine wpAny_bind (wpAny_field ho hd (x := .ref l) rfl ?_)
 show wpAny _ _ (if (Value.ref l == Value.none)=true then _ else _) _ _ s
 rw [if_neg (show ¬ ((Value.ref l == Value.none)=true) from Bool.false_ne_true)]
 show wpAny _ _ (field (.ref it) 1 >>= _) _ _ s
 refine wpAny_bind (wpAny_field ho hd (x := .int i 0) rfl ?_)
 show wpAny _ _ (seqItems? (.ref l) >>= _) _ _ s
 refine wpAny_bind (wpAny_seqItems hol hdl ?_)
 simp only [Int.toNat_natCast,hx]
 refine wpAny_bind (wpAny_setField ho hd (by simp) (wpAny_pure ⟨x,rfl,wpAny_pure (hQ _ ?_ (Heap.SameBut.update ..))⟩))
 exact ⟨_,Heap.get?_update_self _ ho (Obj.isFreed_of_fields (Obj.data_mapFields hd _)),(Obj.cls_mapFields ..).trans hc,by
  rw [Obj.data_mapFields hd]; simp [rawInt]⟩
theorem y_nextOf_tuple_end {it l:Addr} {i:Nat} {items} {Q:Value->Shared->Prop} (hh:A.handled=none)
  (hit:s.heap.IsTupleIter it l i) (hl:s.heap.IsTuple l items) (hx:items[i]? = none)
  (hE:∀ h' e,Heap.ExtBut it s.heap h'->(∃ o,h'.get? e=some o/\o.cls = .type "StopIteration")->E (.ref e) { s with heap:=h' }) :
  wpAny (model prog w) A (Builtin.SmallTypes.nextOf (.ref it)) Q E s:=by
 obtain ⟨o,ho,hc,hd⟩:=id hit
 obtain ⟨ol,hol,_,nl,hdl⟩:=hl
 unfold Builtin.SmallTypes.nextOf
 refine wpAny_bind (wpAny_callSpecial?_slot (name:=Str.ofString "__next__") hit.typeIs F.slot_tuple_iterator_next
  (wpAny_call_entry F.slot_tuple_iterator_next hit.typeIs F.entry_tuple_iterator_next ?_ (F.args_tuple_iterator_next_1 _)))
 show wpAny _ _ (field (.ref it) 0 >>= _) _ _ s
 refine wpAny_bind (wpAny_field ho hd (x := .ref l) rfl ?_)
 show wpAny _ _ (if (Value.ref l == Value.none)=true then _ else _) _ _ s
 rw [if_neg (show ¬ ((Value.ref l == Value.none)=true) from Bool.false_ne_true)]
 show wpAny _ _ (field (.ref it) 1 >>= _) _ _ s
 refine wpAny_bind (wpAny_field ho hd (x := .int i 0) rfl ?_)
 show wpAny _ _ (seqItems? (.ref l) >>= _) _ _ s
 refine wpAny_bind (wpAny_seqItems hol hdl ?_)
 simp only [Int.toNat_natCast,hx]
 refine wpAny_bind (wpAny_rule (wpAny_bind (wpAny_setField ho hd (by simp) ?_)))
 show wpAny _ _ (newExc (.type "StopIteration") [] >>= _) _ _ _
 refine wpAny_bind ?_
 simp only [newExc,newTuple]
 refine wpAny_bind (wpAny_newObj_type ?_ (by size_fits))
 refine wpAny_bind (m:=firstArgMember _ _) (wpAny_of_eq (a:=Value.none) (by first | rfl | (simp only [firstArgMember]; rfl)) ?_)
 refine wpAny_newObj_type ?_ (by size_fits)
 simp only [raiseNew]
 refine wpAny_bind (wpAny_handled ?_)
 first | rw [show A.in1.handled=none from hh] | rw [hh]
 refine wpAny_bind (wpAny_pure (wpAny_throw ?_))
 exact hE _ _ (((Heap.SameBut.update ..).extBut.push _).push _) ⟨_,Heap.get?_push_size _ rfl,rfl⟩
end
theorem y_Draws_tuple {prog:Program} {w:World} {A:Around} (hh:A.handled=none) (it l:Addr) (hne:l ≠ it) (items:Array Value) :
  Draws prog w A it [it,l] items.size (fun i v=>items[i]? = some v) (fun i h=>h.IsTupleIter it l i/\h.IsTuple l items) where
 live:=fun _ _ st=>let ⟨o,ho,_⟩:=st.1; ⟨o,ho⟩
 frame:=fun _ _ _ st hk=>⟨st.1.at fun o e=>hk it (by simp) o e,let ⟨o,ho,r⟩:=st.2; ⟨o,hk l (by simp) o ho,r⟩⟩
 item:=fun i s Q E hi st hQ=>by
  refine y_nextOf_tuple_item st.1 st.2 (x:=items[i]) (by simp [hi]) fun h' hit' hs'=>?_
  exact hQ _ h' s.toks (by simp [hi]) ⟨hit',let ⟨o,ho,r⟩:=st.2; ⟨o,hs'.extBut l o hne ho,r⟩⟩ hs'
 done:=fun s Q E st hE=>y_nextOf_tuple_end hh st.1 st.2 (by simp) hE
end PySem
namespace L2
open PySem PySem.Spec PyProof.Rows
section
variable {X:Cx} {pins:List (Addr × Obj)} {σ:St} {H:Hp} {s:Shared}
theorem Inv.drawn2 {h':Heap} {t':Nat} {a b p:Addr} {xs:List V} {us:List Value} (I:Inv X pins σ H s) (fa:FpOk X pins H a) (fb:FpOk X pins H b) (hp:s.heap.objs.size <= p)
  (k:∀ c o,c ≠ a->c ≠ b->s.heap.get? c=some o->h'.get? c=some o) (ka:∃ o,h'.get? a=some o) (kb:∃ o,h'.get? b=some o) (hl:xs.length <= sizeLine) (r:Vals xs us) (ht:IsTupN h' p us.toArray) :
  Inv X pins σ (upd H p (.tup xs)) { s with heap:=h',toks:=t' }:=by
 have hf:H p=none:=I.hok.fresh hp
 have nt:∀ c u,H c=some u->c ≠ p:=fun c u q z=>by rw [z,hf] at q; cases q
 have lt:∀ c o,s.heap.get? c=some o->c ≠ p:=fun c o q=>Nat.ne_of_lt (Nat.lt_of_lt_of_le (Heap.lt_size q) hp)
 have ne:∀ c,c ∉ [a,b]->c ≠ a/\c ≠ b:=fun c hc=>by simpa using hc
 refine I.call (g':=s.gens) (d':=s.drawn) (ch:=[a,b]) ⟨fun c o e n h1 h2=>k c o (ne c h2).1 (ne c h2).2 e,fun c o e n h1 h2=>⟨o.slots,k c o (ne c h2).1 (ne c h2).2 e⟩,fun c o e n h2=>by rw [upd_ne (lt c o e)]; exact n,
  fun c o e h2=>⟨o,k c o (ne c h2).1 (ne c h2).2 e⟩,fun c ys q=>by rw [upd_ne (nt c _ q)]; exact q,fun c o u q=>by rw [upd_ne (nt c _ q)]; exact q,fun c ps q=>⟨#[],by rw [upd_ne (nt c _ q),q]; simp⟩⟩ (fun c u q=>?_) I.bare fun c hc=>?_
 ·by_cases hc:c=p
  ·subst hc
   rw [upd_same] at q
   cases q
   exact ⟨hl,us,r,ht⟩
  ·rw [upd_ne hc] at q
   refine (I.hok c u q).stay (fun d v hd z=>?_) (fun d z=>by rw [upd_ne (nt d _ z)]; exact z) fun d ys z=>by rw [upd_ne (nt d _ z)]; exact z
   have nd:∀ e,H e=none->d ≠ e:=fun e he w=>by
    rcases hd with rfl | hd
    ·rw [w,he] at q; cases q
    ·rw [w,he] at hd; cases hd
   exact k d v (nd a fa.1) (nd b fb.1) z
 ·have hc':c=a∨c=b:=by simpa using hc
  rcases hc' with rfl | rfl
  ·obtain ⟨_,f1,_,f3,f4,f5⟩:=fa; exact ⟨f3,f1,f4,f5⟩
  ·obtain ⟨_,f1,_,f3,f4,f5⟩:=fb; exact ⟨f3,f1,f4,f5⟩
theorem Inv.turned2 {h':Heap} {t':Nat} {a b:Addr} (I:Inv X pins σ H s) (fa:FpOk X pins H a) (fb:FpOk X pins H b)
  (k:∀ c o,c ≠ a->c ≠ b->s.heap.get? c=some o->h'.get? c=some o):Inv X pins σ H { s with heap:=h',toks:=t' }:=by
 have ne:∀ c,c ∉ [a,b]->c ≠ a/\c ≠ b:=fun c hc=>by simpa using hc
 refine I.call (g':=s.gens) (d':=s.drawn) (ch:=[a,b]) ⟨fun c o e n h1 h2=>k c o (ne c h2).1 (ne c h2).2 e,fun c o e n h1 h2=>⟨o.slots,k c o (ne c h2).1 (ne c h2).2 e⟩,fun c o e n h2=>n,
  fun c o e h2=>⟨o,k c o (ne c h2).1 (ne c h2).2 e⟩,fun c ys q=>q,fun c o u q=>q,fun c ps q=>⟨#[],by rw [q]; simp⟩⟩ (fun c u q=>?_) I.bare fun c hc=>?_
 ·refine (I.hok c u q).stay (fun d v hd z=>?_) (fun d z=>z) fun d ys z=>z
  have nd:∀ e,H e=none->d ≠ e:=fun e he w=>by
   rcases hd with rfl | hd
   ·rw [w,he] at q; cases q
   ·rw [w,he] at hd; cases hd
  exact k d v (nd a fa.1) (nd b fb.1) z
 ·have hc':c=a∨c=b:=by simpa using hc
  rcases hc' with rfl | rfl
  ·obtain ⟨_,f1,_,f3,f4,f5⟩:=fa; exact ⟨f3,f1,f4,f5⟩
  ·obtain ⟨_,f1,_,f3,f4,f5⟩:=fb; exact ⟨f3,f1,f4,f5⟩
theorem enum_item {e it:Addr} {fp:List Addr} {n i:Nat} {P:Nat->Value->Prop} {Sx:Nat->Heap->Prop} {old:Value} {xs:List V} {E:Value->Shared->Prop} {elts:List Expr} {kk:Nat} {pos:Pos}
  (D:Draws X.prog X.w X.A.in1 it fp n P Sx) (I:Inv X pins σ H s) (he:IsEnum s.heap e it i old) (hst:Sx i s.heap) (hlt:i < n) (hne:e ≠ it) (hef:e ∉ fp) (fe:FpOk X pins H e) (fi:FpOk X pins H it)
  (hP:∀ v,P i v->∃ x,xs[i]? = some x/\RelV x v) :
  wpAny (model X.prog X.w) X.A (pyNext (.ref e)) (fun r s1=>∃ u,r=some u/\wpAny (model X.prog X.w) X.A (letOwnedTupleGo (.Tuple elts kk pos) (.ref e) u) (fun _ s2=>∃ p x,xs[i]? = some x/\H p=none/\u = .ref p /\
   Inv X pins σ (upd H p (.tup [.int i,x])) s2/\(∃ old,IsEnum s2.heap e it ((i + 1:Nat):Int) old)/\Sx (i + 1) s2.heap/\p ≠ e/\p ≠ it) E s1) E s:=by
 refine wpAny_pyNext_enum_itemD D he hst hlt hne hef fun x h' tk hx ho hs' hT hsz hk=>⟨_,rfl,?_⟩
 refine wpAny_letOwnedTupleGo_enum ho fun h2 he2 hs2=>?_
 obtain ⟨y,hy,ry⟩:=hP x hx
 have hee:e < s.heap.objs.size:=Heap.lt_size he
 have hie:it < s.heap.objs.size:=by obtain ⟨_,z⟩:=D.live _ _ hst; exact Heap.lt_size z
 have hst2:Sx (i + 1) h2:=D.frame _ _ _ hs' fun b hb o z=>(hs2.2 b fun q=>hef (q ▸ hb)).trans z
 refine ⟨s.heap.objs.size,y,hy,I.hok.fresh (Nat.le_refl _),rfl,?_,⟨x,by simpa using he2⟩,hst2,Nat.ne_of_gt hee,Nat.ne_of_gt hie⟩
 refine Inv.drawn2 (s:=s) (h':=h2) (t':=tk + 1) I fe fi (Nat.le_refl _) (fun c o h1 h2' z=>(hs2.2 c h1).trans (hk c o h1 h2' z)) ⟨_,he2⟩ (let ⟨o,z⟩:=D.live _ _ hst2; ⟨o,z⟩) (by show 2 <= sizeLine; decide) (us:=[.int i tk,x]) (.cons ⟨tk,rfl⟩ (.cons ry .nil)) ?_
 exact ⟨_,(hs2.2 _ (Nat.ne_of_gt hee)).trans hT,⟨rfl,_,rfl⟩,rfl⟩
end
def Ite (sq:Hp->List V->Prop):It :=
 ⟨fun i H=>∃ xs x,sq H xs/\xs[i]? = some x,fun i H v H'=>∃ p,H p=none/\v = .ref p/\∀ xs,sq H xs->∃ x,xs[i]? = some x/\H' = upd H p (.tup [.int i,x]),fun i H=>∃ xs,sq H xs/\xs.length=i⟩
theorem turn_enumL {P:Program} {w:World} {K:PySem.W.Frag} {elts:List Expr} {kk:Nat} {pos:Pos} (a e it:Addr) (hne:e ≠ it):Turn P w K (.Tuple elts kk pos) (Ite fun H=>SqL K H a) [e,it] e (fun i h=>(∃ old,IsEnum h e it (i:Int) old)/\h.IsListIter it a i) where
 mem:=by simp
 obj:=fun i h st b hb=>by
  obtain ⟨⟨old,he⟩,o,ho,c,d⟩:=st
  have hb':b=e∨b=it:=by simpa using hb
  rcases hb' with rfl | rfl
  ·exact ⟨_,he,fun v z=>by have z':Data.fields _=Data.cell v:=z; cases z'⟩
  ·exact ⟨o,ho,fun v z=>by rw [d] at z; cases z⟩
 keep:=fun i h h' st k=>by
  obtain ⟨⟨old,he⟩,hi⟩:=st
  exact ⟨⟨old,k e (by simp) _ he⟩,hi.at fun o z=>k it (by simp) o z⟩
 item:=by
  intro X hP hw hK hc i pins s σ H E I hf st hg
  subst hP hw hK
  obtain ⟨xs,x,hq,hx⟩:=hg
  obtain ⟨its,rv,p,hz⟩:=I.list hq
  obtain ⟨⟨old,he⟩,hi⟩:=st
  have hl:i < its.toArray.size:=by
   have:=(List.getElem?_eq_some_iff.mp hx).1
   have l2:=rv.length
   simp; omega
  have hae:e ≠ a:=by
   rintro rfl
   obtain ⟨o,ho,hcl,_⟩:=p.isList
   rw [he] at ho; cases ho
   injection hcl with z; exact absurd z (by decide)
  have hai:a ≠ it:=by
   rintro rfl
   obtain ⟨o,ho,hcl,_⟩:=p.isList
   obtain ⟨o2,ho2,hc2,_⟩:=hi
   rw [ho] at ho2; cases ho2; rw [hcl] at hc2
   injection hc2 with z; exact absurd z (by decide)
  refine thn (enum_item (xs:=xs) (Draws.list (A:=X.A.in1) (I.ok.hd hc) it a hai its.toArray) I he ⟨hi,p.isList⟩ hl hne (by simp only [List.mem_cons,List.not_mem_nil,or_false,not_or]; exact ⟨hne,hae⟩) (hf e (by simp)) (hf it (by simp)) fun v hv=>?_) fun r s1 ⟨u,hr,h1⟩=>⟨u,hr,thn h1 fun _ s2 ⟨q,y,hy,hqn,hu,I2,he2,hs2,n1,n2⟩=>?_⟩
  ·obtain ⟨u,hu,ru⟩:=rv.get hx
   have e1:its[i]? = some v:=by simpa using hv
   rw [hu] at e1; cases e1
   exact ⟨x,hx,ru⟩
  ·refine ⟨.ref q,_,I2,hu,⟨q,hqn,rfl,fun zs hz'=>⟨y,by rw [I.list_inj hz' hq]; exact hy,rfl⟩⟩,⟨he2,hs2.1⟩,fun b hb=>?_⟩
   have hb':b=e∨b=it:=by simpa using hb
   rcases hb' with rfl | rfl
   ·rw [upd_ne (Ne.symm n1)]; exact (hf b (by simp)).1
   ·rw [upd_ne (Ne.symm n2)]; exact (hf b (by simp)).1
 done:=by
  intro X hP hw hK hc i pins s σ H E I hf st hg
  subst hP hw hK
  obtain ⟨xs,hq,hx⟩:=hg
  obtain ⟨its,rv,p,hz⟩:=I.list hq
  obtain ⟨⟨old,he⟩,hi⟩:=st
  have hl:i=its.toArray.size:=by have l2:=rv.length; simp; omega
  have hai:a ≠ it:=by
   rintro rfl
   obtain ⟨o,ho,hcl,_⟩:=p.isList
   obtain ⟨o2,ho2,hc2,_⟩:=hi
   rw [ho] at ho2; cases ho2; rw [hcl] at hc2
   injection hc2 with z; exact absurd z (by decide)
  refine wpAny_pyNext_enum_endD (Draws.list (A:=X.A.in1) (I.ok.hd hc) it a hai its.toArray) he (by rw [← hl]; exact ⟨hi,p.isList⟩) fun h' hx'=>⟨rfl,?_⟩
  exact I.turned2 (t':=s.toks) (hf e (by simp)) (hf it (by simp)) fun c o h1 h2 z=>hx' c o h2 z
 self:=fun _ _ _ _ _ st h=>by
  obtain ⟨⟨old,he⟩,_⟩:=st
  exact wpAny_pyIter_enum he h
theorem turn_enumT {P:Program} {w:World} {K:PySem.W.Frag} {elts:List Expr} {kk:Nat} {pos:Pos} (a e it:Addr) (hne:e ≠ it):Turn P w K (.Tuple elts kk pos) (Ite fun H=>SqT K H a) [e,it] e (fun i h=>(∃ old,IsEnum h e it (i:Int) old)/\h.IsTupleIter it a i) where
 mem:=by simp
 obj:=fun i h st b hb=>by
  obtain ⟨⟨old,he⟩,o,ho,c,d⟩:=st
  have hb':b=e∨b=it:=by simpa using hb
  rcases hb' with rfl | rfl
  ·exact ⟨_,he,fun v z=>by have z':Data.fields _=Data.cell v:=z; cases z'⟩
  ·exact ⟨o,ho,fun v z=>by rw [d] at z; cases z⟩
 keep:=fun i h h' st k=>by
  obtain ⟨⟨old,he⟩,hi⟩:=st
  exact ⟨⟨old,k e (by simp) _ he⟩,hi.at fun o z=>k it (by simp) o z⟩
 item:=by
  intro X hP hw hK hc i pins s σ H E I hf st hg
  subst hP hw hK
  obtain ⟨xs,x,hq,hx⟩:=hg
  obtain ⟨its,rv,p,hz⟩:=I.tuple hq
  have pt:s.heap.IsTuple a its.toArray:=p
  obtain ⟨⟨old,he⟩,hi⟩:=st
  have hl:i < its.toArray.size:=by
   have:=(List.getElem?_eq_some_iff.mp hx).1
   have l2:=rv.length
   simp; omega
  have hae:e ≠ a:=by
   rintro rfl
   obtain ⟨o,ho,hcl,_⟩:=pt
   rw [he] at ho; cases ho
   injection hcl with z; exact absurd z (by decide)
  have hai:a ≠ it:=by
   rintro rfl
   obtain ⟨o,ho,hcl,_⟩:=pt
   obtain ⟨o2,ho2,hc2,_⟩:=hi
   rw [ho] at ho2; cases ho2; rw [hcl] at hc2
   injection hc2 with z; exact absurd z (by decide)
  refine thn (enum_item (xs:=xs) (y_Draws_tuple (A:=X.A.in1) (I.ok.hd hc) it a hai its.toArray) I he ⟨hi,pt⟩ hl hne (by simp only [List.mem_cons,List.not_mem_nil,or_false,not_or]; exact ⟨hne,hae⟩) (hf e (by simp)) (hf it (by simp)) fun v hv=>?_) fun r s1 ⟨u,hr,h1⟩=>⟨u,hr,thn h1 fun _ s2 ⟨q,y,hy,hqn,hu,I2,he2,hs2,n1,n2⟩=>?_⟩
  ·obtain ⟨u,hu,ru⟩:=rv.get hx
   have e1:its[i]? = some v:=by simpa using hv
   rw [hu] at e1; cases e1
   exact ⟨x,hx,ru⟩
  ·refine ⟨.ref q,_,I2,hu,⟨q,hqn,rfl,fun zs hz'=>⟨y,by rw [I.tuple_inj hz' hq]; exact hy,rfl⟩⟩,⟨he2,hs2.1⟩,fun b hb=>?_⟩
   have hb':b=e∨b=it:=by simpa using hb
   rcases hb' with rfl | rfl
   ·rw [upd_ne (Ne.symm n1)]; exact (hf b (by simp)).1
   ·rw [upd_ne (Ne.symm n2)]; exact (hf b (by simp)).1
 done:=by
  intro X hP hw hK hc i pins s σ H E I hf st hg
  subst hP hw hK
  obtain ⟨xs,hq,hx⟩:=hg
  obtain ⟨its,rv,p,hz⟩:=I.tuple hq
  have pt:s.heap.IsTuple a its.toArray:=p
  obtain ⟨⟨old,he⟩,hi⟩:=st
  have hl:i=its.toArray.size:=by have l2:=rv.length; simp; omega
  have hai:a ≠ it:=by
   rintro rfl
   obtain ⟨o,ho,hcl,_⟩:=pt
   obtain ⟨o2,ho2,hc2,_⟩:=hi
   rw [ho] at ho2; cases ho2; rw [hcl] at hc2
   injection hc2 with z; exact absurd z (by decide)
  refine wpAny_pyNext_enum_endD (y_Draws_tuple (A:=X.A.in1) (I.ok.hd hc) it a hai its.toArray) he (by rw [← hl]; exact ⟨hi,pt⟩) fun h' hx'=>⟨rfl,?_⟩
  exact I.turned2 (t':=s.toks) (hf e (by simp)) (hf it (by simp)) fun c o h1 h2 z=>hx' c o h2 z
 self:=fun _ _ _ _ _ st h=>by
  obtain ⟨⟨old,he⟩,_⟩:=st
  exact wpAny_pyIter_enum he h
section
variable {X:Cx} {elts:List Expr} {kk:Nat} {tpos p pos:Pos} {a:Expr} {ta:TE}
def iEnL (K:PySem.W.Frag) (t:TA):TI:=fun σ H R=>t σ H fun vs H1=>∃ a,vs=[.ref a]/\(∃ xs,SqL K H1 a xs)/\R (Ite fun H=>SqL K H a) H1
def iEnT (K:PySem.W.Frag) (t:TA):TI:=fun σ H R=>t σ H fun vs H1=>∃ a,vs=[.ref a]/\(∃ xs,SqT K H1 a xs)/\R (Ite fun H=>SqT K H a) H1
theorem pi_enumL {t:TA} (hg:Gl X "enumerate") (hm:X.mg "enumerate" = none) (ha:PA X [a] t) (hs:starEach [a] X.env=[(false,eval a X.env)]:=by rfl):PI X (.Tuple elts kk tpos) (.Call (.Name "enumerate" p) [a] [] pos) (iEnL X.K t):=by
 intro pins s σ H R I h
 refine Call_ (ld_blt I hg hm boot_enumerate (PyProof.Rows.callWith_type1 (thn (ha pos pins s σ H _ I h) fun us s1 ⟨vs,H1,I1,r1,q1⟩=>?_) hs rfl))
 obtain ⟨l,e,⟨xs,hq⟩,q⟩:=q1
 subst e
 cases r1 with
 | cons r rr =>
  cases rr
  cases r
  obtain ⟨its,rv,pp,hz⟩:=I1.list hq
  refine call_enumerate_list pp.isList fun h' he hit hsz hk=>?_
  have I2:Inv X pins σ H1 { s1 with heap:=h' }:=I1.kept (t':=s1.toks) hk
  refine wpAny_pyIter_enum (s:={ s1 with heap:=h' }) he ?_
  refine ⟨_,_,_,_,H1,rfl,I2,turn_enumL l _ s1.heap.objs.size (Nat.succ_ne_self _),⟨⟨_,he⟩,hit⟩,fun b hb=>?_,q⟩
  have hb':b=s1.heap.objs.size + 1∨b=s1.heap.objs.size:=by simpa using hb
  have hle:s1.heap.objs.size <= b:=by
   rcases hb' with e | e
   ·rw [e]; exact Nat.le_succ _
   ·rw [e]; exact Nat.le_refl _
  exact I1.fpOk hle (I1.hok.fresh hle)
theorem pi_enumT {t:TA} (hg:Gl X "enumerate") (hm:X.mg "enumerate" = none) (ha:PA X [a] t) (hs:starEach [a] X.env=[(false,eval a X.env)]:=by rfl):PI X (.Tuple elts kk tpos) (.Call (.Name "enumerate" p) [a] [] pos) (iEnT X.K t):=by
 intro pins s σ H R I h
 refine Call_ (ld_blt I hg hm boot_enumerate (PyProof.Rows.callWith_type1 (thn (ha pos pins s σ H _ I h) fun us s1 ⟨vs,H1,I1,r1,q1⟩=>?_) hs rfl))
 obtain ⟨l,e,⟨xs,hq⟩,q⟩:=q1
 subst e
 cases r1 with
 | cons r rr =>
  cases rr
  cases r
  obtain ⟨its,rv,pp,hz⟩:=I1.tuple hq
  refine y_call_enumerate_tuple (show s1.heap.IsTuple l its.toArray from pp) fun h' he hit hsz hk=>?_
  have I2:Inv X pins σ H1 { s1 with heap:=h' }:=I1.kept (t':=s1.toks) hk
  refine wpAny_pyIter_enum (s:={ s1 with heap:=h' }) he ?_
  refine ⟨_,_,_,_,H1,rfl,I2,turn_enumT l _ s1.heap.objs.size (Nat.succ_ne_self _),⟨⟨_,he⟩,hit⟩,fun b hb=>?_,q⟩
  have hb':b=s1.heap.objs.size + 1∨b=s1.heap.objs.size:=by simpa using hb
  have hle:s1.heap.objs.size <= b:=by
   rcases hb' with e | e
   ·rw [e]; exact Nat.le_succ _
   ·rw [e]; exact Nat.le_refl _
  exact I1.fpOk hle (I1.hok.fresh hle)
end
theorem for_enum {sq:Hp->List V->Prop} {xs:List V} {g:TG} {tb:TS} {D:Ends} {σ:St} {H:Hp} (Pv:Nat->St->Hp->Prop) (h0:Pv 0 σ H) (hl:∀ i σ H,i <= xs.length->Pv i σ H->sq H xs)
  (hs:∀ i x p σ H,xs[i]? = some x->Pv i σ H->H p=none->g (.ref p) σ (upd H p (.tup [.int i,x])) fun σ2 H2=>tb { D with nx:=Pv (i + 1),ct:=Pv (i + 1),bk:=D.nx } σ2 H2) (hd:∀ σ H,Pv xs.length σ H->D.nx σ H) :
  ∃ W:Nat->Nat->St->Hp->Prop,(∃ m,W 0 m σ H)/\∀ i m σ H,W i m σ H ->
   ((Ite sq).stop i H/\D.nx σ H)∨((Ite sq).go i H/\∃ N:St->Hp->Prop,(∀ σ' H',N σ' H'->∃ m',m' < m/\W (i + 1) m' σ' H')/\∀ x H',(Ite sq).yld i H x H'->g x σ H' fun σ2 H2=>tb { D with nx:=N,ct:=N,bk:=D.nx } σ2 H2):=by
 refine ⟨fun i m σ H=>m=xs.length - i/\i <= xs.length/\Pv i σ H,⟨xs.length,by simp,Nat.zero_le _,h0⟩,?_⟩
 rintro i m σ H ⟨rfl,hi,p⟩
 have q:=hl i σ H hi p
 by_cases hlt:i < xs.length
 ·refine .inr ⟨⟨xs,xs[i],q,by simp [hlt]⟩,Pv (i + 1),fun σ' H' p'=>⟨xs.length - (i + 1),by omega,rfl,hlt,p'⟩,fun x H' y=>?_⟩
  obtain ⟨pp,hn,rfl,hx⟩:=y
  obtain ⟨x',hx',e⟩:=hx xs q
  subst e
  exact hs i x' pp σ H hx' p hn
 ·have e:i=xs.length:=by omega
  subst e
  exact .inl ⟨⟨xs,q,rfl⟩,hd σ H p⟩
end L2
namespace L2
open PySem PySem.Spec PyProof.Rows
def Shp (d:PyData) (m:Nat):Prop:=d.canLay0=true/\d.depth <= m
theorem Shp.shaped {d:PyData} {m:Nat} (h:Shp d m) (hm:m <= 64):SeqAt.shaped d=true:=by
 unfold SeqAt.shaped
 rw [h.1,decide_eq_true (Nat.le_trans h.2 hm)]; rfl
theorem shp_int (i:Int):Shp (.int i) 0:=⟨by simp [PyData.canLay0],by simp [PyData.depth]⟩
theorem shpAll {m:Nat}:∀ {ds:List PyData},(∀ d ∈ ds,Shp d m)->PyData.canLayAll0 ds=true/\PyData.depthAll ds <= m
 | [],_=>⟨by simp [PyData.canLayAll0],by simp [PyData.depthAll]⟩
 | d :: r,h=>by
  obtain ⟨a,b⟩:=shpAll (ds:=r) fun z hz=>h z (List.mem_cons_of_mem _ hz)
  obtain ⟨c,e⟩:=h d List.mem_cons_self
  exact ⟨by simp [PyData.canLayAll0,c,a],by simp only [PyData.depthAll]; omega⟩
theorem shp_list {m:Nat} {ds:List PyData} (h:∀ d ∈ ds,Shp d m):Shp (.list ds) (m + 1):=by
 obtain ⟨a,b⟩:=shpAll h
 exact ⟨by simp [PyData.canLay0,a],by simp only [PyData.depth]; omega⟩
theorem shp_tuple {m:Nat} {ds:List PyData} (h:∀ d ∈ ds,Shp d m):Shp (.tuple ds) (m + 1):=by
 obtain ⟨a,b⟩:=shpAll h
 exact ⟨by simp [PyData.canLay0,a],by simp only [PyData.depth]; omega⟩
end L2
namespace L2
open PySem
theorem comp_rng {n:Nat} {lo:Int} {g:TG} {tt:TT} {te:TE} {σ0:St} {H:Hp} {Q:VK} (p:Nat->Bool) (f:Nat->V) (hn:n < sizeLine)
  (hs:∀ (i:Nat) (acc:List V) (N:List V->Hp->Prop),i < n->N (if p i then acc ++ [f i] else acc) H->g (.int (lo + i)) σ0 H fun σ2 H2=>tt σ2 H2 fun b H3=>if b=true then te σ2 H3 fun y H4=>N (acc ++ [y]) H4 else N acc H3)
  (hq:∀ D,H D=none->Q (.ref D) (upd H D (.lst (((List.range n).filter p).map f)))) :
  CompR (Itr lo n) g tt te σ0 Q H:=by
 refine ⟨fun i m acc H'=>m=n - i/\i <= n/\H' = H/\acc=((List.range i).filter p).map f,⟨n,by simp,Nat.zero_le _,rfl,rfl⟩,?_⟩
 rintro i m acc H' ⟨rfl,hi,rfl,rfl⟩
 have hl:(((List.range i).filter p).map f).length < sizeLine:=by
  rw [List.length_map]
  have:=List.length_filter_le p (List.range i)
  rw [List.length_range] at this
  omega
 refine ⟨hl,?_⟩
 by_cases hlt:i < n
 ·refine .inr ⟨hlt,fun acc' H2=>H2=H'/\acc' = ((List.range (i + 1)).filter p).map f,fun acc' H2 ⟨h1,h2⟩=>⟨n - (i + 1),by omega,rfl,hlt,h1,h2⟩,fun x H2 y=>?_⟩
  obtain ⟨e,y⟩:=y
  subst e y
  refine hs i _ (fun acc' H3=>H3=H2/\acc' = ((List.range (i + 1)).filter p).map f) hlt ⟨rfl,?_⟩
  rw [List.range_succ,List.filter_append]
  cases hp:p i with
  | true=>simp [hp]
  | false=>simp [hp]
 ·have e:i=n:=by omega
  subst e
  exact .inl ⟨Nat.le_refl _,hq⟩
theorem comp_lst {K:PySem.W.Frag} {a:Addr} {xs:List V} {g:TG} {tt:TT} {te:TE} {σ0:St} {H:Hp} {Q:VK} (p:V->Bool) (f:V->V) (hn:xs.length < sizeLine) (ha:SqL K H a xs)
  (hs:∀ (x:V) (acc:List V) (N:List V->Hp->Prop),x ∈ xs->N (if p x then acc ++ [f x] else acc) H->g x σ0 H fun σ2 H2=>tt σ2 H2 fun b H3=>if b=true then te σ2 H3 fun y H4=>N (acc ++ [y]) H4 else N acc H3)
  (hq:∀ D,H D=none->Q (.ref D) (upd H D (.lst ((xs.filter p).map f)))) :
  CompR (Itl K a) g tt te σ0 Q H:=by
 refine ⟨fun i m acc H'=>m=xs.length - i/\i <= xs.length/\H' = H/\acc=((xs.take i).filter p).map f,⟨xs.length,by simp,Nat.zero_le _,rfl,rfl⟩,?_⟩
 rintro i m acc H' ⟨rfl,hi,rfl,rfl⟩
 have hl:(((xs.take i).filter p).map f).length < sizeLine:=by
  rw [List.length_map]
  have h1:=List.length_filter_le p (xs.take i)
  have h2:=List.length_take_le i xs
  omega
 refine ⟨hl,?_⟩
 by_cases hlt:i < xs.length
 ·refine .inr ⟨⟨xs,xs[i],ha,by simp [hlt]⟩,fun acc' H2=>H2=H'/\acc' = ((xs.take (i + 1)).filter p).map f,fun acc' H2 ⟨h1,h2⟩=>⟨xs.length - (i + 1),by omega,rfl,hlt,h1,h2⟩,fun x H2 y=>?_⟩
  obtain ⟨e,y⟩:=y
  subst e
  have hx:=y xs ha
  refine hs x _ (fun acc' H3=>H3=H2/\acc' = ((xs.take (i + 1)).filter p).map f) (List.mem_of_getElem? hx) ⟨rfl,?_⟩
  rw [List.take_succ,hx,List.filter_append]
  cases hp:p x with
  | true=>simp [hp]
  | false=>simp [hp]
 ·have e:i=xs.length:=by omega
  subst e
  rw [List.take_length]
  exact .inl ⟨⟨xs,ha,Nat.le_refl _⟩,hq⟩
theorem inV_int (k:Int):∀ ns:List Int,inV (.int k) (ns.map V.int)=decide (k ∈ ns)
 | []=>by simp [inV]
 | n :: r=>by
  have ih:=inV_int k r
  unfold inV at ih ⊢
  rw [List.map_cons,List.any_cons,ih]
  show ((n == k) || decide (k ∈ r))=decide (k ∈ n :: r)
  by_cases h:k=n
  ·subst h; simp
  ·have h':¬ n=k:=fun z=>h z.symm
   simp [h,h']
theorem flat_ints:∀ ns:List Int,(ns.map V.int).all flatV=true
 | []=>rfl
 | n :: r=>by rw [List.map_cons,List.all_cons,flat_ints r]; rfl
end L2
namespace L2
open PySem
def isOpt:Option Int->Value->Bool
 | none,v=>v == .none
 | some k,v=>Value.isInt k v
def optHash:Option Int->Int
 | none=>4238894112
 | some k=>hashInt k
theorem isOpt_shape {k:Option Int} {v:Value} (h:isOpt k v=true):(k=none/\v = .none)∨∃ i t,k=some i/\v = .int i t:=by
 cases k with
 | none=>exact .inl ⟨rfl,eq_of_beq h⟩
 | some i=>obtain ⟨t,e⟩:=Value.isInt_shape h; exact .inr ⟨i,t,rfl,e⟩
section
variable {prog:Program} {w:World} {A:Around} {E:Value->Shared->Prop} {s:Shared}
theorem hash_none {Q:Int->Shared->Prop} (h:Q 4238894112 { s with toks:=s.toks + 1 }):wpAny (model prog w) A (pyHash .none) Q E s:=by
 have hT:s.TypeIs .none "NoneType":=rfl
 unfold pyHash
 have hv:[Value.none].any Value.onHeap=false:=rfl
 refine wpAny_bind ?_
 rw [cRoomFor,if_neg (by rw [hv]; exact Bool.false_ne_true)]; refine wpAny_pure ?_
 refine wpAny_bind (wpAny_specialOf hT F.slot_NoneType_hash.lookup ?_)
 show wpAny _ _ (if (some (Value.builtin "NoneType.__hash__") == some Value.none)=true then _ else _) Q E s
 rw [if_neg (by rw [beq_builtin_none]; exact Bool.false_ne_true)]
 refine wpAny_bind (wpAny_specialOf hT F.slot_NoneType_hash.lookup ?_)
 show wpAny _ _ (callSpecialIfBoundUnlessNone? .none "__hash__" _ >>= _) Q E s
 refine wpAny_bind (wpAny_callSpecialIfBoundUnlessNone?_slot hT F.slot_NoneType_hash (wpAny_call_entry F.slot_NoneType_hash hT F.entry_NoneType_hash
  (show wpAny _ _ (do ret (← mkInt 4238894112)) _ _ s from wpAny_ret_mkInt ?_) (F.args_NoneType_hash_1 _)))
 exact wpAny_pure h
theorem eq_opt {a b:Option Int} {u v:Value} {Q:Bool->Shared->Prop} (hu:isOpt a u=true) (hv:isOpt b v=true) (h:Q (decide (a=b)) s):wpAny (model prog w) A (PySem.eqBool u v) Q E s:=by
 rcases isOpt_shape hu with ⟨rfl,rfl⟩ | ⟨i,t,rfl,rfl⟩ <;> rcases isOpt_shape hv with ⟨rfl,rfl⟩ | ⟨j,t',rfl,rfl⟩
 ·unfold eqBool
  refine wpAny_holding ?_
  refine wpAny_ite_split (fun _=>wpAny_bind (wpAny_rule (wpAny_pure (by simpa using h)))) (fun n=>absurd rfl n)
 ·exact PySem.SeqAt.EqAt.none_int j t' prog w E Q (by simpa using h)
 ·exact PySem.SeqAt.EqAt.int_none i t prog w E Q (by simpa using h)
 ·refine wpAny_eqBool_int ?_
  have e:(i == j)=decide (some i=some j):=by
   by_cases q:i=j
   ·simp [q]
   ·simp [q]
  rw [e]; exact h
end
def optKind (prog:Program) (w:World):KeyKind prog w (Option Int) where
 is:=isOpt
 hash:=optHash
 inj:=fun v a b ha hb=>by
  rcases isOpt_shape ha with ⟨rfl,rfl⟩ | ⟨i,t,rfl,rfl⟩ <;> rcases isOpt_shape hb with ⟨rfl,e⟩ | ⟨j,t',rfl,e⟩
  ·rfl
  ·cases e
  ·cases e
  ·cases e; rfl
 byValue:=fun k v h=>by
  rcases isOpt_shape h with ⟨_,rfl⟩ | ⟨i,t,_,rfl⟩ <;> rfl
 pyHash:=fun {A E s k v Q} hv h=>by
  rcases isOpt_shape hv with ⟨rfl,rfl⟩ | ⟨i,t,rfl,rfl⟩
  ·exact hash_none h
  ·exact wpAny_pyHash_int h
 eqBool:=fun hu hv h=>eq_opt hu hv h
 «strs»:=fun k x t v h=>by
  rcases isOpt_shape h with ⟨_,e⟩ | ⟨i,t,_,e⟩ <;> cases e
end L2
namespace L2
open PySem PySem.Spec PyProof.Rows
abbrev Oks:=List (Option Int)
def okV:Option Int->V
 | none => .non
 | some i => .int i
abbrev Ent:=Oks × Addr × V
abbrev EntR (p:Ent) (q:Oks × Addr × Value):Prop:=p.1=q.1/\p.2.1=q.2.1/\RelV p.2.2 q.2.2
def DicP (P:Program) (w:World) (a:Addr) (kvs:List Ent):Heap->Prop:=fun h=>kvs.length <= sizeLine/\(a == sysModules)=false/\∃ xs,Paired EntR kvs xs /\
 ∃ o es ep,h.get? a=some o/\o.ExactDict/\o.data = .dict es ep/\es.toList=xs.map (entryOfKey (tupleKind (optKind P w)))/\(xs.map (·.1)).Nodup
def DicO (P:Program) (w:World) (a:Addr) (kvs:List Ent):HO := .ext (DicP P w a kvs)
def DicAt (P:Program) (w:World) (H:Hp) (a:Addr) (kvs:List Ent):Prop:=H a=some (DicO P w a kvs)/\∀ x ∈ kvs,H x.2.1=some (.tup (x.1.map okV))
theorem DicAt.same {P:Program} {w:World} {H H':Hp} {a:Addr} {kvs:List Ent} (h:DicAt P w H a kvs) (s:Same H H'):DicAt P w H' a kvs:=⟨s _ _ h.1,fun x hx=>s _ _ (h.2 x hx)⟩
def valO (kvs:List Ent) (k:Oks):Option V:=(kvs.find? fun x=>decide (x.1=k)).map (·.2.2)
def putE (k:Oks) (v:V) (x:Ent):Ent:=if x.1=k then (x.1,x.2.1,v) else x
def putO (kvs:List Ent) (k:Oks) (b:Addr) (v:V):List Ent:=if (valO kvs k).isSome then kvs.map (putE k v) else kvs ++ [(k,b,v)]
theorem valO_nil {k:Oks}:valO [] k=none:=rfl
theorem valO_cons {x:Ent} {kvs:List Ent} {k:Oks}:valO (x :: kvs) k=if x.1=k then some x.2.2 else valO kvs k:=by
 unfold valO
 rw [List.find?_cons]
 by_cases h:x.1=k
 ·rw [decide_eq_true h,if_pos h]; rfl
 ·rw [decide_eq_false h,if_neg h]
theorem valO_map {kvs:List Ent} {k k':Oks} {v:V}:valO (kvs.map (putE k v)) k' = if k' = k then (valO kvs k).map (fun _=>v) else valO kvs k':=by
 induction kvs with
 | nil=>rw [List.map_nil,valO_nil,valO_nil]; split <;> rfl
 | cons x kvs ih =>
  rw [List.map_cons,valO_cons,ih,valO_cons,valO_cons]
  unfold putE
  by_cases h:x.1=k <;> by_cases h':k' = k
  ·have:x.1=k':=h.trans h'.symm
   simp [h,h']
  ·have:¬ x.1=k':=fun z=>h' (z.symm.trans h)
   rw [if_pos h,if_neg h',if_neg this,if_neg this,if_neg h']
  ·subst h'
   simp [h]
  ·simp [h,h']
theorem valO_append {kvs:List Ent} {k k':Oks} {b:Addr} {v:V} (h:valO kvs k=none):valO (kvs ++ [(k,b,v)]) k' = if k' = k then some v else valO kvs k':=by
 induction kvs with
 | nil =>
  rw [List.nil_append,valO_cons,valO_nil]
  by_cases e:k' = k
  ·rw [if_pos e,if_pos e.symm]
  ·rw [if_neg e,if_neg (Ne.symm e)]
 | cons x kvs ih =>
  rw [valO_cons] at h
  by_cases hx:x.1=k
  ·rw [if_pos hx] at h; cases h
  ·rw [if_neg hx] at h
   rw [List.cons_append,valO_cons,ih h,valO_cons]
   by_cases e:k' = k
   ·subst e; rw [if_neg hx,if_pos rfl,if_pos rfl]
   ·rw [if_neg e,if_neg e]
theorem valO_put {kvs:List Ent} {k k':Oks} {b:Addr} {v:V}:valO (putO kvs k b v) k' = if k' = k then some v else valO kvs k':=by
 unfold putO
 cases h:valO kvs k with
 | none=>rw [if_neg (by simp)]; exact valO_append h
 | some u =>
  rw [if_pos (by simp),valO_map,h]; rfl
theorem putO_length {kvs:List Ent} {k:Oks} {b:Addr} {v:V}:(putO kvs k b v).length <= kvs.length + 1:=by
 unfold putO
 split
 ·rw [List.length_map]; omega
 ·rw [List.length_append]; exact Nat.le_refl _
theorem putO_keys {kvs:List Ent} {k:Oks} {b:Addr} {v:V} {F:Oks->Addr->Prop} (h:∀ x ∈ kvs,F x.1 x.2.1) (hk:F k b):∀ x ∈ putO kvs k b v,F x.1 x.2.1:=by
 intro x hx
 unfold putO at hx
 split at hx
 ·obtain ⟨y,hy,rfl⟩:=List.mem_map.mp hx
  unfold putE
  split
  ·exact h y hy
  ·exact h y hy
 ·rcases List.mem_append.mp hx with q | q
  ·exact h x q
  ·rw [List.mem_singleton.mp q]; exact hk
theorem ent_val {kvs:List Ent} {xs:List (Oks × Addr × Value)} (r:Paired EntR kvs xs) (k:Oks):RelO (valO kvs k) ((atKey xs k).map (·.2)):=by
 induction r with
 | nil=>exact True.intro
 | @cons p q _ _ h1 _ ih =>
  rw [valO_cons]
  unfold atKey at ih ⊢
  rw [List.find?_cons]
  by_cases e:p.1=k
  ·rw [if_pos e,decide_eq_true (h1.1.symm.trans e)]; exact h1.2.2
  ·rw [if_neg e,decide_eq_false (fun z=>e (h1.1.trans z))]; exact ih
theorem relO_isSome {o:Option V} {u:Option Value} (r:RelO o u):o.isSome=u.isSome:=by
 cases o <;> cases u <;> first | rfl | exact r.elim
theorem relO_getD {o:Option V} {u:Option Value} {d:V} {r:Value} (h:RelO o u) (hd:RelV d r):RelV (o.getD d) (u.getD r):=by
 cases o <;> cases u <;> first | exact hd | exact h | exact h.elim
theorem ent_map {kvs:List Ent} {xs:List (Oks × Addr × Value)} {k:Oks} {v:V} {u:Value} (r:Paired EntR kvs xs) (hv:RelV v u):Paired EntR (kvs.map (putE k v)) (xs.map (putAt k u)):=by
 induction r with
 | nil=>exact .nil
 | @cons p q _ _ h1 _ ih =>
  refine .cons ?_ ih
  unfold putE putAt
  by_cases e:p.1=k
  ·rw [if_pos e,if_pos (h1.1.symm.trans e)]; exact ⟨h1.1,h1.2.1,hv⟩
  ·rw [if_neg e,if_neg (fun z=>e (h1.1.trans z))]; exact h1
theorem ent_snoc {kvs:List Ent} {xs:List (Oks × Addr × Value)} {p:Ent} {q:Oks × Addr × Value} (r:Paired EntR kvs xs) (h:EntR p q):Paired EntR (kvs ++ [p]) (xs ++ [q]):=by
 induction r with
 | nil=>exact .cons h .nil
 | cons h1 _ ih=>exact .cons h1 ih
theorem ent_put {kvs:List Ent} {xs:List (Oks × Addr × Value)} {k:Oks} {b:Addr} {v:V} {u:Value} (r:Paired EntR kvs xs) (hv:RelV v u):Paired EntR (putO kvs k b v) (storedH xs k b u):=by
 have h:=relO_isSome (ent_val r k)
 rw [Option.isSome_map] at h
 unfold putO storedH
 rw [h]
 split
 ·exact ent_map r hv
 ·exact ent_snoc r ⟨rfl,rfl,hv⟩
section
variable {P:Program} {w:World} {H:Hp} {h:Heap} {a b:Addr} {kvs:List Ent} {k:Oks}
theorem opt_items:∀ {k:Oks} {us:List Value},Vals (k.map okV) us->ItemsAre (optKind P w) k us
 | [],_, .nil => .nil
 | none :: _,_, .cons r t => .cons (by have e:_=Value.none:=r; subst e; rfl) (opt_items t)
 | some i :: _,_, .cons r t => .cons (by obtain ⟨tk,e⟩:=(show ∃ t,_=Value.int i t from r); subst e; exact beq_self_eq_true i) (opt_items t)
theorem opt_key (ok:HOk P w H h) (e:H b=some (.tup (k.map okV))):(tupleKind (optKind P w)).is h k b:=by
 obtain ⟨_,its,r,o,ho,⟨hc,n,hd⟩,_⟩:=ok _ _ e
 exact ⟨o,its.toArray,n,ho,hc,hd,opt_items r⟩
theorem dicO_of (ok:HOk P w H h) (e:DicAt P w H a kvs):kvs.length <= sizeLine/\(a == sysModules)=false/\∃ xs,Paired EntR kvs xs/\h.DictOfH (tupleKind (optKind P w)) a xs:=by
 obtain ⟨e,ek⟩:=e
 obtain ⟨⟨z,hs,xs,r,o,es,ep,h1,h2,h3,h4,h5⟩,_⟩:=ok _ _ e
 refine ⟨z,hs,xs,r,o,es,ep,h1,h2,h3,h4,?_,h5⟩
 have all:∀ {kvs:List Ent} {xs:List (Oks × Addr × Value)},Paired EntR kvs xs->(∀ x ∈ kvs,H x.2.1=some (.tup (x.1.map okV)))->∀ x ∈ xs,(tupleKind (optKind P w)).is h x.1 x.2.1:=by
  intro kvs xs r
  induction r with
  | nil=>intro _ x hx; cases hx
  | @cons p q _ _ h1 _ ih =>
   intro hk x hx
   rcases List.mem_cons.mp hx with rfl | hx
   ·have:=hk p List.mem_cons_self
    rw [h1.1,h1.2.1] at this
    exact opt_key ok this
   ·exact ih (fun y hy=>hk y (List.mem_cons_of_mem _ hy)) x hx
 exact all r ek
theorem dicO_stab (h1 h2:Heap) (p:DicP P w a kvs h1) (st:∀ o,h1.get? a=some o->h2.get? a=some o):DicP P w a kvs h2:=by
 obtain ⟨z,hs,xs,r,o,es,ep,q,c⟩:=p
 exact ⟨z,hs,xs,r,o,es,ep,st _ q,c⟩
theorem dicO_new (hb:sysModules < h.objs.size):ObjOk P w H (h.push { cls := .type "dict",data := .dict #[] }) h.objs.size (DicO P w h.objs.size []) :=
 ⟨⟨Nat.zero_le _,beq_eq_false_iff_ne.mpr (Ne.symm (Nat.ne_of_lt hb)),[], .nil,_,#[],0,Heap.get?_push_size _ rfl,⟨rfl,rfl,rfl⟩,rfl,rfl,List.nodup_nil⟩,⟨_,Heap.get?_push_size _ rfl⟩,fun _ _=>dicO_stab _ _⟩
end
def OGet (P:Program) (w:World) (H:Hp) (a:Addr) (y:V) (r:Option V):Prop:=∃ kvs k b,DicAt P w H a kvs/\y = .ref b/\H b=some (.tup (k.map okV))/\r=valO kvs k
section
variable {X:Cx} {pins:List (Addr × Obj)} {σ:St} {H:Hp} {s:Shared} {a b:Addr} {y v d:V} {u r:Value} {o:Option V} {A:Around} {E:Value->Shared->Prop}
theorem big_of (I:Inv X pins σ H s):sysModules < s.heap.objs.size :=
 Nat.lt_trans (by decide) (show mainGlobals < s.heap.objs.size from (I.mod.glob.keeps I.bk).lt)
theorem o_in {Q:Value->Shared->Prop} (hu:A.units + 1 < cLine) (I:Inv X pins σ H s) (g:OGet X.prog X.w H a y o) (ry:RelV y u) (h:∀ s',Inv X pins σ H s'->Q (.bool o.isSome) s') :
  wpAny (model X.prog X.w) A (compareOp .In u (.ref a)) Q E s:=by
 obtain ⟨kvs,k,b,e,rfl,eb,rfl⟩:=g
 cases (show u=Value.ref b from ry)
 obtain ⟨_,hd,xs,rel,dd⟩:=dicO_of I.hok e
 refine wpAny_in_heap (tupleKind_room_in1 hu) (opt_key I.hok eb) hd dd ?_
 have q:=relO_isSome (ent_val rel k)
 rw [Option.isSome_map] at q
 rw [← q]
 exact h _ (I.tok _)
theorem o_get2 {Q:Value->Shared->Prop} (hu:A.units + 1 < cLine) (I:Inv X pins σ H s) (g:OGet X.prog X.w H a y o) (ry:RelV y u) (rd:RelV d r) (h:∀ w' s',Inv X pins σ H s'->RelV (o.getD d) w'->Q w' s') :
  wpAny (model X.prog X.w) A (call (.builtin "dict.get") [.ref a,u,r]) Q E s:=by
 obtain ⟨kvs,k,b,e,rfl,eb,rfl⟩:=g
 cases (show u=Value.ref b from ry)
 obtain ⟨_,hd,xs,rel,dd⟩:=dicO_of I.hok e
 exact call_meetsIn PySem.F.slot_dict_get dd.typeIs PySem.F.entry_dict_get (PySem.F.args_dict_get_3 _ _ _) (meetsH_dict_get_default (tupleKind (optKind X.prog X.w)) a b hd r)
  ⟨tupleKind_room_in1 hu,k,xs,opt_key I.hok eb,dd,h _ _ (I.tok _) (relO_getD (ent_val rel k) rd)⟩
theorem o_set {kvs:List Ent} {k:Oks} {Q:Unit->Shared->Prop} (hu:A.units + 1 < cLine) (I:Inv X pins σ H s) (e:DicAt X.prog X.w H a kvs) (eb:H b=some (.tup (k.map okV))) (hl:kvs.length < sizeLine) (rv:RelV v r)
  (h:∀ s',Inv X pins σ (upd H a (DicO X.prog X.w a (putO kvs k b v))) s'->Q () s'):wpAny (model X.prog X.w) A (setItem (.ref a) (.ref b) r) Q E s:=by
 obtain ⟨z,hd,xs,rel,dd⟩:=dicO_of I.hok e
 have hz:xs.length <= sizeLine:=by rw [← Paired.length rel]; exact z
 have hl':(putO kvs k b v).length <= sizeLine:=Nat.le_trans putO_length hl
 refine wpAny_setItem_heap (hsz:=hz) (tupleKind_room_in1 hu) (opt_key I.hok eb) dd fun h' dd' hs=>h _ ?_
 obtain ⟨q,es,ep,hq,h2,h3,h4,_,h5⟩:=dd'
 exact I.write (x:=a) (e:=a) (by rw [e.1]; exact True.intro) (.inl rfl) (fun c q hc z=>(hs.2 c hc).trans z) ⟨q,hq⟩
  ⟨⟨hl',hd,_,ent_put rel rv,q,es,ep,hq,h2,h3,h4,h5⟩,⟨q,hq⟩,fun _ _=>dicO_stab _ _⟩
theorem dicO_type {kvs:List Ent} (I:Inv X pins σ H s) (e:DicAt X.prog X.w H a kvs):s.TypeIs (.ref a) "dict"/\∀ b,Value.ref a = .ref b->∃ ob,s.heap.get? b=some ob/\ob.dict=none:=by
 obtain ⟨_,_,xs,_,dd⟩:=dicO_of I.hok e
 refine ⟨dd.typeIs,fun b q=>?_⟩
 cases q
 obtain ⟨ob,_,_,h1,h2,_⟩:=dd
 exact ⟨ob,h1,h2.2.1⟩
end
def tONew (P:Program) (w:World):TE:=fun _ H Q=>∀ p,H p=none->Q (.ref p) (upd H p (DicO P w p []))
def tOIn (P:Program) (w:World) (ty td:TE):TE:=fun σ H Q=>ty σ H fun y H1=>td σ H1 fun x H2=>∃ a o,x = .ref a/\OGet P w H2 a y o/\Q (.bl o.isSome) H2
def tONotIn (P:Program) (w:World) (ty td:TE):TE:=fun σ H Q=>ty σ H fun y H1=>td σ H1 fun x H2=>∃ a o,x = .ref a/\OGet P w H2 a y o/\Q (.bl (!o.isSome)) H2
def sOPut (P:Program) (w:World) (td ty tv:TE):TS:=fun D σ H=>tv σ H fun v H1=>td σ H1 fun x H2=>ty σ H2 fun y H3=>∃ a kvs k b,x = .ref a/\DicAt P w H3 a kvs/\y = .ref b/\H3 b=some (.tup (k.map okV))/\kvs.length < sizeLine/\D.nx σ (upd H3 a (DicO P w a (putO kvs k b v)))
def tOGet2 (P:Program) (w:World) (td:TE) (t:TA):TE:=fun σ H Q=>td σ H fun x H1=>∃ a kvs,x = .ref a/\DicAt P w H1 a kvs/\t σ H1 fun xs H2=>∃ y z o,xs=[y,z]/\OGet P w H2 a y o/\Q (o.getD z) H2
section
variable {X:Cx} {o i e f value:Expr} {pos pos' apos cpos:Pos} {td ty tv tx:TE}
theorem pe_onew:PE X (.Dict [] [] pos) (tONew X.prog X.w):=fun pins s σ H Q I h =>
 wpAny_Dict_empty ⟨.ref s.heap.objs.size,_,I.laid (a:=s.heap.objs.size) (o:=DicO X.prog X.w s.heap.objs.size []) (t':=s.toks) (fun _ _ q=>Heap.get?_push_of_some _ q) (Nat.le_refl _) (dicO_new (big_of I)),rfl,h _ (I.hok.fresh (Nat.le_refl _))⟩
theorem pc_oin (hu:X.A.units + 1 < cLine) (hi:PE X i ty) (ho:PE X o td):PC X .In i o (tOIn X.prog X.w ty td):=by
 intro pins s σ H Q I h
 refine thn (hi pins s σ H _ I h) fun iv s1 ⟨y,H1,I1,ry,q1⟩=>thn (ho pins s1 σ H1 _ I1 q1) fun u s2 ⟨x,H2,I2,rx,a,ov,ex,g,q2⟩=>?_
 subst ex
 obtain rfl:u=Value.ref a:=rx
 exact o_in hu I2 g ry fun s3 I3=>⟨.bl ov.isSome,H2,I3,rfl,q2⟩
theorem ps_oput (hu:X.A.units + 1 < cLine) (ho:PE X o td) (hi:PE X i ty) (hv:PE X value tv) (hs:swapsWith value (some (.Subscript o i pos')) pos.line X.env=pure false) :
  PS X (.Assign [.Subscript o i pos'] value pos) (sOPut X.prog X.w td ty tv):=by
 intro pins s σ H D I h
 refine wpAny_Assign_Subscript (thn (hv pins s σ H _ I h) fun r s1 ⟨v,H1,I1,rv,q1⟩=>thn (ho pins s1 σ H1 _ I1 q1) fun u s2 ⟨x,H2,I2,rx,q2⟩=>thn (hi pins s2 σ H2 _ I2 q2) fun iv s3 ⟨y,H3,I3,ry,a,kvs,k,b,ex,e,ey,eb,hl,q3⟩=>?_) hs
 subst ex ey
 obtain rfl:u=Value.ref a:=rx
 obtain rfl:iv=Value.ref b:=ry
 exact o_set hu I3 e eb hl rv fun s4 I4=>⟨σ,_,I4,q3⟩
theorem pe_oget2 {es:List Expr} {t:TA} (hu:X.A.units + 1 < cLine) (ho:PE X o td) (ha:PA X (e :: es) t)
  (h1:attributeBase o "get" X.env (eval o X.env)=eval o X.env:=by rfl)
  (h2:((backTo cpos (starEach (e :: es) X.env)).all (fun x=>!x.1) && (backToKw cpos (keywordEach [] X.env)).all (fun x=>x.1.isSome) && decide ((e :: es).length + ([]:List Keyword).length + (if ([]:List Keyword).isEmpty then 0 else 1) < 30))=true:=by rfl)
  (h3:(apos.endLine == cpos.line)=true:=by rfl) (h4:starEach (e :: es) X.env=(false,eval e X.env) :: starEach es X.env:=by rfl) (h5:(backTo cpos (starEach es X.env)).any (·.1)=false:=by rfl) :
  PE X (.Call (.Attribute o "get" apos) (e :: es) [] cpos) (tOGet2 X.prog X.w td t):=by
 intro pins s σ H Q I h
 refine wpAny_Call_method_late h1 h2 h3 rfl (thn (ho pins s σ H _ I h) fun v s1 ⟨x,H1,I1,r1,a,kvs,ex,e1,q1⟩=>?_)
 subst ex
 obtain rfl:v=Value.ref a:=r1
 obtain ⟨t1,t2⟩:=dicO_type I1 e1
 refine ⟨"dict", "dict.get",PySem.F.plainAttrs_dict,PySem.F.slot_dict_get,PySem.F.type_dict_get,t1,t2,?_⟩
 have hA:=ha cpos pins s1 σ H1 _ I1 q1
 rw [h4] at hA ⊢
 refine Calls.callWith_builtin (by show (false || (backTo cpos (starEach es X.env)).any (·.1))=false; rw [h5] <;> rfl) (Calls.evalArgs_plain ?_)
 refine thn hA fun us s2 ⟨vs,H2,I2,r2,y,z,ov,evs,g,q2⟩=>?_
 subst evs
 cases r2 with
 | cons ry r2=>cases r2 with
  | cons rz r2=>cases r2 with
   | nil=>exact o_get2 hu I2 g ry rz fun w' s4 I4 rw'=>⟨_,H2,I4,rw',q2⟩
end
end L2
namespace L2
open PySem PySem.Spec PyProof.Rows
structure CMeth (K:PySem.W.Frag) (C:Addr) (m:Str) (f:Addr):Prop where
 reads:PySem.W.readsIn K C (.type "type")=true
 found:PySem.W.findCls K (.ref C) (.type "type") m=some (.val (.ref f))
 spec:PySem.W.specialIn K (.ref C) "__getattribute__" = some (some (.builtin "type.__getattribute__"))
 kp:PySem.W.keepIn K (.ref f)=true
def tCMeth (C:Addr) (sp:Sp) (dvs:List V) (E:XK) (ta:TE) (t:TA):TE:=fun σ H Q=>ta σ H fun x H1=>x = .ref C/\t σ H1 fun vs H2=>sp (vs ++ dvs) H2 Q E
section
variable {X:Cx} {CX:CXT} {k:Nat} {f C:Addr} {fd:FuncData} {ps:List Str} {sp:Sp} {dvs:List V} {ds:List Value} {E:XK} {x m:Str} {p pos apos:Pos} {e o:Expr} {es:List Expr} {ta:TE} {t:TA}
theorem pe_cmeth {pl:Sem Bool} (he:PE X o ta) (hm:CMeth X.K C m f) (F:FnOk X.prog X.w X.K X.mg X.base CX k f fd ps sp) (hr:Room k X.A) (hb:Binds X.K fd ps ds) (hd:Vals dvs ds) (hx:Passes CX X E) (ha:PA X (e :: es) t)
  (h1:starEach (e :: es) X.env=(false,eval e X.env) :: starEach es X.env:=by rfl) (h2:(backTo pos (starEach es X.env)).any (·.1)=false:=by rfl)
  (ht:eval (.Call (.Attribute o m apos) (e :: es) [] pos) X.env=(do
   let ov ← eval o X.env
   standAt apos.atName
   let (f,first) ← holding [ov] (getMethod ov m pl)
   callWith pos f first (backTo pos (starEach (e :: es) X.env)) (backToKw pos (keywordEach [] X.env))):=by rfl) :
  PE X (.Call (.Attribute o m apos) (e :: es) [] pos) (tCMeth C sp dvs E ta t):=by
 intro pins s σ H Q I h
 refine PySem.W.methodCall_KW (pl:=pl) (thn (he pins s σ H _ I h) fun u s1 ⟨x,H1,I1,rx,ex,q⟩=>?_) ht
 subst ex
 obtain rfl:u=Value.ref C:=rx
 refine PySem.W.method_cls I1.kIn hm.spec (PySem.W.cls_value I1.kIn hm.reads hm.found rfl ?_)
 refine PySem.W.callWith_K (first:=[]) (h₀:=X.base) I.ok.mod.kin hm.kp (thn (ha pos pins _ σ H1 _ (I1.tok _) q) fun us s2 ⟨vs,H2,I2,r,q2⟩=>⟨I2.kIn,?_⟩) h1 h2
 exact run_fn F hr hb hd hx I2 r q2
end
section
variable {X:Cx}
def rIsXs (X:Cx):List V->Hp->VK->Prop:=fun xs H Q=>∃ ea oe tp cs cvs C vs b,xs=[.ref ea, .ref tp]/\H tp=some (.tup cs)/\Paired ValC cs cvs/\(ea,oe) ∈ X.pn/\oe.cls = .ref C/\oe.data = .fields vs/\DictAt H oe.dict/\XCls X.K C/\XIsi X.K C/\PySem.W.kitAny X.K (.ref C) cvs=some b/\Q (.bl b) H
end
end L2
namespace L2
open PySem PySem.Spec PyProof.Rows
def Itv (K:PySem.W.Frag) (a:Addr) (n:Nat):It :=
 ⟨fun i H=>∃ xs x,SqL K H a xs/\xs.length=n/\i < n/\xs[n - 1 - i]? = some x,fun i H x H'=>H' = H/\∀ xs,SqL K H a xs->xs[n - 1 - i]? = some x,fun i _=>i=n⟩
section
variable {X:Cx} {tg:Expr}
def iRev (K:PySem.W.Frag) (ta:TA):TI:=fun σ H R=>ta σ H fun vs H1=>∃ a xs,vs=[.ref a]/\SqL K H1 a xs/\R (Itv K a xs.length) H1
def rLIx:V->List V->Hp->VK->Prop:=fun x vs H Q=>∃ (l:Addr) (ns:List Int) (k:Int),x = .ref l/\vs=[.int k]/\H l=some (.lst (ns.map V.int))/\k ∈ ns/\ns.length <= 100000/\Q (.int (ns.idxOf k:Nat)) H
theorem mt_lindex:MtR X "list.index" rLIx:=by
 intro pins s σ H x vs v us Q I rx rv h
 obtain ⟨l,ns,k,rfl,rfl,hH,hk,hlen,q⟩:=h
 cases rx
 obtain ⟨u,rfl,ru⟩:=rv.one
 obtain ⟨t,rfl⟩:=ru
 obtain ⟨z,its,n,r,hl,e⟩:=I.lstM hH
 have hi:IntsAre its.toArray.toList ns:=intsAre_of r
 have hlen':its.length=ns.length:=by rw [← r.length,List.length_map]
 have hj:ns.idxOf k < ns.length:=List.idxOf_lt_length_of_mem hk
 have at_:∀ m (hm:m < its.toArray.size),∃ t,its.toArray[m]=Value.int (ns[m]'(by simpa [hlen'] using hm)) t:=fun m hm=>by
  have hm':m < its.length:=by simpa using hm
  have hv:(ns.map V.int)[m]? = some (V.int (ns[m]'(by omega))):=by simp [show m < ns.length by omega]
  obtain ⟨w',hw,rw'⟩:=r.get hv
  obtain ⟨t',rfl⟩:=rw'
  refine ⟨t',?_⟩
  have:its[m]? = some its[m]:=List.getElem?_eq_getElem hm'
  rw [this] at hw
  simpa using Option.some.inj hw
 let e':Value->Bool:=fun y=>Value.isInt k y
 refine call_meets PySem.F.slot_list_index ⟨_,e,rfl⟩ PySem.F.entry_list_index (PySem.F.args_list_index_2 _ _)
  (SeqAt.list_indexAt l its.toArray n none #[] (.int k t) e' (ns.idxOf k) (by simpa [hlen'] using hj) (by omega) ?_ ?_) ⟨e,fun y hy=>?_,?_⟩
 ·obtain ⟨t',et⟩:=at_ (ns.idxOf k) (by simpa [hlen'] using hj)
  show Value.isInt k (its.toArray[ns.idxOf k]'(by simpa [hlen'] using hj))=true
  rw [et,List.getElem_idxOf]
  simp [Value.isInt]
 ·intro m hm hmj
  obtain ⟨t',et⟩:=at_ m hm
  show Value.isInt k its.toArray[m]=false
  rw [et]
  have hne:ns[m]'(by simpa [hlen'] using hm) ≠ k:=fun z=>by
   have:=List.not_of_lt_findIdx (p:=fun x=>x == k) (xs:=ns) (i:=m) hmj
   rw [z] at this
   simp at this
  simp only [Value.isInt,beq_eq_false_iff_ne,ne_eq]
  first | exact hne | exact fun z=>hne z.symm
 ·have hm:y ∈ its:=by simpa using hy
  obtain ⟨m,hm',em⟩:=List.getElem_of_mem hm
  obtain ⟨t',et⟩:=at_ m (by simpa using hm')
  have ey:y=Value.int (ns[m]'(by omega)) t':=by rw [← em]; simpa using et
  subst ey
  intro prog w E Q' hQ'
  refine wpAny_eqBool_int ?_
  have:(ns[m]'(by omega) == k)=Value.isInt k (Value.int (ns[m]'(by omega)) t'):=by simp [Value.isInt,Bool.beq_comm]
  rw [this]
  exact hQ'
 ·exact ⟨.int (ns.idxOf k:Nat),H,I.tok _,⟨_,rfl⟩,q⟩
def rIsV (K:PySem.W.Frag):List V->Hp->VK->Prop:=fun xs H Q=>∃ (v:V) (t:Value) (c:String) (b:Bool),xs=[v, .ty c]/\TyOf K H v t/\PySem.W.kitOne K t (.type c)=some b/\Q (.bl b) H
end
end L2
namespace L2
open PySem PySem.Spec PyProof.Rows
section
variable {κ:Type} [DecidableEq κ]
def valV (kvs:List (κ × V)) (k:κ):Option V:=(kvs.find? fun kv=>decide (kv.1=k)).map (·.2)
def putK (kvs:List (κ × V)) (k:κ) (v:V):List (κ × V) :=
 if (kvs.any fun kv=>decide (kv.1=k))=true then kvs.map (fun kv=>if kv.1=k then (kv.1,v) else kv) else kvs ++ [(k,v)]
def dropK (kvs:List (κ × V)) (k:κ):List (κ × V):=kvs.filter fun kv=>decide (kv.1 ≠ k)
theorem valV_pos {p:κ × V} {r:List (κ × V)} {k:κ} (e:p.1=k):valV (p :: r) k=some p.2:=by simp [valV,List.find?_cons,e]
theorem valV_neg {p:κ × V} {r:List (κ × V)} {k:κ} (e:¬ p.1=k):valV (p :: r) k=valV r k:=by simp [valV,List.find?_cons,e]
theorem valV_any (k:κ):∀ kvs:List (κ × V),(kvs.any fun kv=>decide (kv.1=k))=(valV kvs k).isSome
 | []=>rfl
 | p :: r=>by
  rw [List.any_cons]
  by_cases e:p.1=k
  ·simp only [valV_pos e,decide_eq_true e,Bool.true_or,Option.isSome_some]
  ·rw [valV_neg e,decide_eq_false e,Bool.false_or]; exact valV_any k r
theorem length_putK (kvs:List (κ × V)) (k:κ) (v:V):(putK kvs k v).length <= kvs.length + 1:=by
 unfold putK
 split
 ·rw [List.length_map]; omega
 ·rw [List.length_append,List.length_cons,List.length_nil]; omega
theorem putK_new {kvs:List (κ × V)} {k:κ} (v:V) (h:valV kvs k=none):putK kvs k v=kvs ++ [(k,v)]:=by
 unfold putK
 rw [valV_any,h]
 exact if_neg (by decide)
theorem RelO.isSome_eq {o:Option V} {u:Option Value} (r:RelO o u):o.isSome=u.isSome:=by
 cases o with
 | none=>cases u with
  | none=>rfl
  | some _=>exact (show False from r).elim
 | some _=>cases u with
  | none=>exact (show False from r).elim
  | some _=>rfl
theorem KV.val {kvs:List (κ × V)} {vs:List (κ × Value)} (r:KV kvs vs) (k:κ):RelO (valV kvs k) (valueAt vs k):=by
 unfold KV at r
 induction r with
 | nil=>exact True.intro
 | @cons p q ps qs h t ih =>
  obtain ⟨h1,h2⟩:=h
  by_cases e:p.1=k
  ·have e':q.1=k:=h1.symm.trans e
   have b:valueAt (q :: qs) k=some q.2:=by simp [valueAt,List.find?_cons,e']
   rw [valV_pos e,b]; exact h2
  ·have e':¬ q.1=k:=fun z=>e (h1.trans z)
   have b:valueAt (q :: qs) k=valueAt qs k:=by simp [valueAt,List.find?_cons,e']
   rw [valV_neg e,b]; exact ih
theorem KV.any {kvs:List (κ × V)} {vs:List (κ × Value)} (r:KV kvs vs) (k:κ):(kvs.any fun kv=>decide (kv.1=k))=vs.any fun kv=>decide (kv.1=k):=by
 unfold KV at r
 induction r with
 | nil=>rfl
 | cons h t ih=>rw [List.any_cons,List.any_cons,ih,h.1]
theorem KV.repl {kvs:List (κ × V)} {vs:List (κ × Value)} (r:KV kvs vs) (k:κ) {y:V} {u:Value} (ry:RelV y u) :
  KV (kvs.map fun kv=>if kv.1=k then (kv.1,y) else kv) (vs.map fun kv=>if kv.1=k then (kv.1,u) else kv):=by
 unfold KV at r ⊢
 induction r with
 | nil=>exact .nil
 | @cons p q ps qs h t ih =>
  rw [List.map_cons,List.map_cons]
  refine .cons ?_ ih
  obtain ⟨h1,h2⟩:=h
  by_cases e:p.1=k
  ·rw [if_pos e,if_pos (h1.symm.trans e)]; exact ⟨h1,ry⟩
  ·rw [if_neg e,if_neg (fun z=>e (h1.trans z))]; exact ⟨h1,h2⟩
theorem KV.put {kvs:List (κ × V)} {vs:List (κ × Value)} (r:KV kvs vs) (k:κ) {y:V} {u:Value} (ry:RelV y u):KV (putK kvs k y) (stored vs k u):=by
 unfold putK stored
 rw [r.any k]
 by_cases e:(vs.any fun kv=>decide (kv.1=k))=true
 ·rw [if_pos e,if_pos e]; exact r.repl k ry
 ·rw [if_neg e,if_neg e]; exact Paired.snoc r ⟨rfl,ry⟩
theorem KV.keys {kvs:List (κ × V)} {vs:List (κ × Value)} (r:KV kvs vs):kvs.map (·.1)=vs.map (·.1):=by
 unfold KV at r
 induction r with
 | nil=>rfl
 | cons h t ih=>rw [List.map_cons,List.map_cons,ih,h.1]
theorem KV.length {kvs:List (κ × V)} {vs:List (κ × Value)} (r:KV kvs vs):kvs.length=vs.length:=Paired.length r
end
theorem kV_is {P:Program} {w:World} {k:Key} {u:Value} (r:RelV (kV k) u):(mixKind P w).is k u=true:=by
 cases k with
 | inl i=>obtain ⟨t,e⟩:=(show ∃ t,u=Value.int i t from r); subst e; exact mixKind_int P w i t
 | inr x=>obtain ⟨t,e⟩:=(show ∃ t,u=Value.str x t from r); subst e; exact mixKind_str P w x t
theorem items_are {P:Program} {w:World}:∀ {ks:List Key} {us:List Value},Vals (ks.map kV) us->ItemsAre (mixKind P w) ks us
 | [],_,r=>by rw [List.map_nil] at r; cases r; exact .nil
 | k :: ks,_,r=>by
  rw [List.map_cons] at r
  cases r with
  | cons h t=>exact .cons (kV_is h) (items_are t)
abbrev KT (H:Hp):List (List Key × V)->List (List Key × Addr × Value)->Prop:=Paired fun p q=>p.1=q.1/\H q.2.1=some (.tup (p.1.map kV))/\RelV p.2 q.2.2
theorem KT.val {H:Hp} {kvs:List (List Key × V)} {xs:List (List Key × Addr × Value)} (r:KT H kvs xs) (k:List Key):RelO (valV kvs k) ((atKey xs k).map (·.2)):=by
 induction r with
 | nil=>exact True.intro
 | @cons p q ps qs h t ih =>
  obtain ⟨h1,_,h2⟩:=h
  by_cases e:p.1=k
  ·have e':q.1=k:=h1.symm.trans e
   have b:atKey (q :: qs) k=some q.2:=by simp [atKey,List.find?_cons,e']
   rw [valV_pos e,b]; exact h2
  ·have e':¬ q.1=k:=fun z=>e (h1.trans z)
   have b:atKey (q :: qs) k=atKey qs k:=by simp [atKey,List.find?_cons,e']
   rw [valV_neg e,b]; exact ih
theorem KT.repl {H:Hp} {kvs:List (List Key × V)} {xs:List (List Key × Addr × Value)} (r:KT H kvs xs) (k:List Key) {y:V} {u:Value} (ry:RelV y u) :
  KT H (kvs.map fun kv=>if kv.1=k then (kv.1,y) else kv) (xs.map (putAt k u)):=by
 induction r with
 | nil=>exact .nil
 | @cons p q ps qs h t ih =>
  rw [List.map_cons,List.map_cons]
  refine .cons ?_ ih
  obtain ⟨h1,h2,h3⟩:=h
  unfold putAt
  by_cases e:p.1=k
  ·rw [if_pos e,if_pos (h1.symm.trans e)]; exact ⟨h1,h2,ry⟩
  ·rw [if_neg e,if_neg (fun z=>e (h1.trans z))]; exact ⟨h1,h2,h3⟩
theorem KT.put {H:Hp} {kvs:List (List Key × V)} {xs:List (List Key × Addr × Value)} (r:KT H kvs xs) (k:List Key) {b:Addr} {y:V} {u:Value} (hb:H b=some (.tup (k.map kV))) (ry:RelV y u) :
  KT H (putK kvs k y) (storedH xs k b u):=by
 have e:(kvs.any fun kv=>decide (kv.1=k))=(atKey xs k).isSome:=by
  rw [valV_any,(r.val k).isSome_eq,Option.isSome_map]
 unfold putK storedH
 rw [e]
 by_cases q:(atKey xs k).isSome=true
 ·rw [if_pos q,if_pos q]; exact r.repl k ry
 ·rw [if_neg q,if_neg q]; exact Paired.snoc r ⟨rfl,hb,ry⟩
theorem KT.keeps {H H':Hp} {kvs:List (List Key × V)} {xs:List (List Key × Addr × Value)} (r:KT H kvs xs) (ht:∀ b ys,H b=some (.tup ys)->H' b=some (.tup ys)):KT H' kvs xs :=
 Paired.mapP r fun _ _ z=>⟨z.1,ht _ _ z.2.1,z.2.2⟩
section
variable {P:Program} {w:World} {H:Hp} {h:Heap} {a:Addr}
theorem rd_of {u:HO} (ok:HOk P w H h) (e:Rd H a u):ObjOk P w H h a u:=e.ok ok
theorem dk_rd {kvs:List (Key × V)} (ok:HOk P w H h) (e:Rd H a (.dK kvs)):kvs.length <= sizeLine/\(a == sysModules)=false/\∃ vs,KV kvs vs/\h.DictOf (mixKind P w) a vs :=
 show ObjOk P w H h a (.dK kvs) from rd_of ok e
theorem dk_of {kvs:List (Key × V)} (ok:HOk P w H h) (e:H a=some (.dK kvs)):kvs.length <= sizeLine/\(a == sysModules)=false/\∃ vs,KV kvs vs/\h.DictOf (mixKind P w) a vs:=dk_rd ok (.inl e)
theorem key_of {ks:List Key} (ok:HOk P w H h) (e:H a=some (.tup (ks.map kV))):(tupleKind (mixKind P w)).is h ks a:=by
 obtain ⟨_,its,r,o,h1,⟨h2,n,h3⟩,_⟩:=(show ObjOk P w H h a (.tup (ks.map kV)) from ok a _ e)
 exact ⟨o,its.toArray,n,h1,h2,h3,by simpa using items_are r⟩
theorem dt_rd {kvs:List (List Key × V)} (ok:HOk P w H h) (e:Rd H a (.dT kvs)):kvs.length <= sizeLine/\(a == sysModules)=false /\
  ∃ xs,KT H kvs xs/\h.DictOfH (tupleKind (mixKind P w)) a xs:=by
 obtain ⟨z,y,xs,r,o,es,ep,h1,h2,h3,h4,h5⟩:=(show ObjOk P w H h a (.dT kvs) from rd_of ok e)
 refine ⟨z,y,xs,r,o,es,ep,h1,h2,h3,h4,fun x hx=>?_,h5⟩
 have all:∀ {l:List (List Key × V)} {m:List (List Key × Addr × Value)},KT H l m->∀ x ∈ m,(tupleKind (mixKind P w)).is h x.1 x.2.1:=by
  intro l m q
  induction q with
  | nil=>intro x hx; exact nomatch hx
  | @cons p q ps qs hq t ih =>
   intro x hx
   rcases List.mem_cons.mp hx with e | hx
   ·subst e
    exact key_of ok (by rw [← hq.1]; exact hq.2.1)
   ·exact ih x hx
 exact all r x hx
theorem dt_of {kvs:List (List Key × V)} (ok:HOk P w H h) (e:H a=some (.dT kvs)):kvs.length <= sizeLine/\(a == sysModules)=false /\
  ∃ xs,KT H kvs xs/\h.DictOfH (tupleKind (mixKind P w)) a xs:=dt_rd ok (.inl e)
end
def DGet (H:Hp) (a:Addr) (y:V) (r:Option V):Prop :=
 (∃ kvs k,Rd H a (.dK kvs)/\y=kV k/\r=valV kvs k)∨∃ kvs k b,Rd H a (.dT kvs)/\y = .ref b/\H b=some (.tup (k.map kV))/\r=valV kvs k
def DPut (H:Hp) (a:Addr) (y v:V) (H':Hp):Prop :=
 (∃ kvs k,H a=some (.dK kvs)/\y=kV k/\kvs.length < sizeLine/\H' = upd H a (.dK (putK kvs k v))) ∨
 ∃ kvs k b,H a=some (.dT kvs)/\y = .ref b/\H b=some (.tup (k.map kV))/\kvs.length < sizeLine/\H' = upd H a (.dT (putK kvs k v))
theorem DGet.k {H:Hp} {a:Addr} {kvs:List (Key × V)} {k:Key} (e:H a=some (.dK kvs)):DGet H a (kV k) (valV kvs k) := .inl ⟨kvs,k, .inl e,rfl,rfl⟩
theorem DPut.k {H:Hp} {a:Addr} {kvs:List (Key × V)} {k:Key} {v:V} (e:H a=some (.dK kvs)) (hl:kvs.length < sizeLine):DPut H a (kV k) v (upd H a (.dK (putK kvs k v))) := .inl ⟨kvs,k,e,rfl,hl,rfl⟩
section
variable {X:Cx} {pins:List (Addr × Obj)} {σ:St} {H:Hp} {s:Shared} {a:Addr} {y v:V} {u r:Value} {o:Option V} {A:Around} {E:Value->Shared->Prop}
theorem Inv.big (I:Inv X pins σ H s):sysModules < s.heap.objs.size:=by
 have h:mainGlobals < s.heap.objs.size:=(I.mod.glob.keeps I.bk).lt
 exact Nat.lt_trans (by decide) h
theorem d_getItem {Q:Value->Shared->Prop} (hu:A.units + 1 < cLine) (I:Inv X pins σ H s) (g:DGet H a y (some v)) (ry:RelV y u) (h:∀ w' s',Inv X pins σ H s'->RelV v w'->Q w' s') :
  wpAny (model X.prog X.w) A (getItem (.ref a) u) Q E s:=by
 rcases g with ⟨kvs,k,e,ey,l⟩ | ⟨kvs,k,b,e,ey,eb,l⟩
 ·subst ey
  obtain ⟨z,hd,vs,rel,dd⟩:=dk_rd I.hok e
  obtain ⟨w',hw,rw'⟩:=RelO.some_of (v:=v) (o:=valueAt vs k) (by rw [l]; exact rel.val k)
  exact wpAny_getItem_of (kV_is ry) dd.mapOf hw (h w' _ (I.tok _) rw')
 ·subst ey
  cases (show u=Value.ref b from ry)
  obtain ⟨z,hd,xs,rel,dd⟩:=dt_rd I.hok e
  obtain ⟨w',hw,rw'⟩:=RelO.some_of (v:=v) (o:=(atKey xs k).map (·.2)) (by rw [l]; exact rel.val k)
  obtain ⟨p,hp,hp2⟩:=Option.map_eq_some_iff.mp hw
  refine wpAny_getItem_heap (tupleKind_room_in1 hu) (key_of I.hok eb) dd hp ?_
  rw [hp2]
  exact h w' _ (I.tok _) rw'
theorem d_in {Q:Value->Shared->Prop} (hu:A.units + 1 < cLine) (I:Inv X pins σ H s) (g:DGet H a y o) (ry:RelV y u) (h:∀ s',Inv X pins σ H s'->Q (.bool o.isSome) s') :
  wpAny (model X.prog X.w) A (compareOp .In u (.ref a)) Q E s:=by
 rcases g with ⟨kvs,k,e,ey,l⟩ | ⟨kvs,k,b,e,ey,eb,l⟩
 ·subst ey
  obtain ⟨z,hd,vs,rel,dd⟩:=dk_rd I.hok e
  refine wpAny_in_of (kV_is ry) hd dd.mapOf ?_
  rw [← (rel.val k).isSome_eq,← l]
  exact h _ (I.tok _)
 ·subst ey
  cases (show u=Value.ref b from ry)
  obtain ⟨z,hd,xs,rel,dd⟩:=dt_rd I.hok e
  refine wpAny_in_heap (tupleKind_room_in1 hu) (key_of I.hok eb) hd dd ?_
  have q:=(rel.val k).isSome_eq
  rw [Option.isSome_map] at q
  rw [← q,← l]
  exact h _ (I.tok _)
theorem d_notIn {Q:Value->Shared->Prop} (hu:A.units + 1 < cLine) (I:Inv X pins σ H s) (g:DGet H a y o) (ry:RelV y u) (h:∀ s',Inv X pins σ H s'->Q (.bool (!o.isSome)) s') :
  wpAny (model X.prog X.w) A (compareOp .NotIn u (.ref a)) Q E s:=by
 rcases g with ⟨kvs,k,e,ey,l⟩ | ⟨kvs,k,b,e,ey,eb,l⟩
 ·subst ey
  obtain ⟨z,hd,vs,rel,dd⟩:=dk_rd I.hok e
  refine wpAny_notIn_of (kV_is ry) hd dd.mapOf ?_
  rw [← (rel.val k).isSome_eq,← l]
  exact h _ (I.tok _)
 ·subst ey
  cases (show u=Value.ref b from ry)
  obtain ⟨z,hd,xs,rel,dd⟩:=dt_rd I.hok e
  refine wpAny_notIn_heap (tupleKind_room_in1 hu) (key_of I.hok eb) hd dd ?_
  have q:=(rel.val k).isSome_eq
  rw [Option.isSome_map] at q
  rw [← q,← l]
  exact h _ (I.tok _)
theorem d_write {h':Heap} {t':Nat} {ob:HO} (I:Inv X pins σ H s) (mu:Mut (H a)) (hs:Heap.SameBut a s.heap h') (he:∃ q,h'.get? a=some q) (new:ObjOk X.prog X.w (upd H a ob) h' a ob) :
  Inv X pins σ (upd H a ob) { s with heap:=h',toks:=t' } :=
 I.write (x:=a) (e:=a) mu (.inl rfl) (fun b q hb z=>(hs.2 b hb).trans z) he new
theorem dk_new {P:Program} {w:World} {H':Hp} {h':Heap} {kvs:List (Key × V)} {vs:List (Key × Value)} (z:kvs.length <= sizeLine) (hd:(a == sysModules)=false) (rel:KV kvs vs) (dd:h'.DictOf (mixKind P w) a vs) :
  ObjOk P w H' h' a (.dK kvs):=⟨z,hd,vs,rel,dd⟩
theorem d_setItem {H':Hp} {Q:Unit->Shared->Prop} (hu:A.units + 1 < cLine) (I:Inv X pins σ H s) (g:DPut H a y v H') (ry:RelV y u) (rv:RelV v r) (h:∀ s',Inv X pins σ H' s'->Q () s') :
  wpAny (model X.prog X.w) A (setItem (.ref a) u r) Q E s:=by
 rcases g with ⟨kvs,k,e,ey,l,eH⟩ | ⟨kvs,k,b,e,ey,eb,l,eH⟩
 ·subst ey eH
  obtain ⟨z,hd,vs,rel,dd⟩:=dk_of I.hok e
  have hz:vs.length <= sizeLine:=by rw [← rel.length]; exact z
  have hl:(putK kvs k v).length <= sizeLine:=by have:=length_putK kvs k v; omega
  refine wpAny_setItem_pairs (hsz:=hz) (kV_is ry) dd fun h' dd' hs=>h _ ?_
  have he:∃ q,h'.get? a=some q:=let ⟨q,_,_,hq,_⟩:=dd'; ⟨q,hq⟩
  exact d_write I (by rw [e]; exact True.intro) hs he (dk_new hl hd (rel.put k rv) dd')
 ·subst ey eH
  cases (show u=Value.ref b from ry)
  obtain ⟨z,hd,xs,rel,dd⟩:=dt_of I.hok e
  have hz:xs.length <= sizeLine:=by rw [← Paired.length rel]; exact z
  have hl:(putK kvs k v).length <= sizeLine:=by have:=length_putK kvs k v; omega
  refine wpAny_setItem_heap (hsz:=hz) (tupleKind_room_in1 hu) (key_of I.hok eb) dd fun h' dd' hs=>h _ ?_
  obtain ⟨q,es,ep,hq,h2,h3,h4,_,h5⟩:=dd'
  refine d_write I (by rw [e]; exact True.intro) hs ⟨q,hq⟩ ⟨hl,hd,_,(rel.put k eb rv).keeps fun c ys ec=>?_,q,es,ep,hq,h2,h3,h4,h5⟩
  rw [upd_ne (ne_of ec e (fun z=>nomatch z))]
  exact ec
end
section
variable {X:Cx} {pins:List (Addr × Obj)} {σ:St} {H:Hp} {s:Shared} {a:Addr} {kvs:List (Key × V)} {k:Key} {u:Value} {A:Around} {E:Value->Shared->Prop}
theorem d_len {Q:Value->Shared->Prop} (I:Inv X pins σ H s) (e:Rd H a (.dK kvs)) (h:∀ t s',Inv X pins σ H s'->Q (.int kvs.length t) s'):wpAny (model X.prog X.w) A (call (.builtin "len") [.ref a]) Q E s:=by
 obtain ⟨z,hd,vs,rel,dd⟩:=dk_rd I.hok e
 refine call_len_dict hd dd (by rw [← rel.length]; rw [sizeLine_eq] at z; omega) ?_
 rw [← rel.length]
 exact h _ _ (I.tok _)
end
def NoSl (i:Expr):Prop:=∀ ov iv,subscripted i false ov iv=operate [ov,iv] (getItem ov iv)
theorem subD_of {prog:Program} {w:World} {A:Around} {E:Value->Shared->Prop} {s:Shared} {env:Env} {value slice:Expr} {pos:Pos} {T id:String} {Q:Value->Shared->Prop}
  (hl:typeLookup (.type T) "__getitem__" = pure (some (.builtin id))) (hs:NoSl slice)
  (h:wpAny (model prog w) A (eval value env) (fun o s₁=>wpAny (model prog w) A (eval slice env) (fun i s₂=>s₂.TypeIs o T/\wpAny (model prog w) A (getItem o i) Q E s₂) E s₁) E s) :
  wpAny (model prog w) A (eval (.Subscript value slice pos) env) Q E s:=by
 refine Subscript_ (wpAny_mono h (fun o s₁ h₁=>wpAny_mono h₁ (fun i s₂ h₂=>?_) fun _ _ x=>x) fun _ _ x=>x)
 obtain ⟨hT,h₂⟩:=h₂
 unfold subscriptTail
 refine wpAny_bind ?_
 rw [getitemInPython_of_ne hT.not_modules]
 refine wpAny_bind (wpAny_specialOf hT hl ?_)
 have fin:wpAny (model prog w) A (subscripted slice false o i) (fun r s₃=>wpAny (model prog w) A (letTemporaryGo value o r >>= fun _=>pure r) Q E s₃) E s₂:=by
  rw [hs o i]
  exact wpAny_operating (wpAny_mono h₂ (fun r s₃ h₃=>wpAny_bind (wpAny_letTemporaryGo (wpAny_pure h₃))) fun _ _ x=>x)
 first
  | exact wpAny_pure (wpAny_bind fin)
  | exact wpAny_bind (wpAny_pure (wpAny_bind fin))
  | exact wpAny_bind fin
theorem dict_typeIs {X:Cx} {pins:List (Addr × Obj)} {σ:St} {H:Hp} {s:Shared} {a:Addr} {y:V} {o:Option V} (I:Inv X pins σ H s) (g:DGet H a y o):s.TypeIs (.ref a) "dict":=by
 rcases g with ⟨kvs,k,e,_,_⟩ | ⟨kvs,k,b,e,_,_,_⟩
 ·obtain ⟨_,_,vs,_,dd⟩:=dk_rd I.hok e
  exact dd.typeIs
 ·obtain ⟨_,_,xs,_,dd⟩:=dt_rd I.hok e
  exact dd.typeIs
def tDGet (td ty:TE):TE:=fun σ H Q=>td σ H fun x H1=>ty σ H1 fun y H2=>∃ a v,x = .ref a/\DGet H2 a y (some v)/\Q v H2
def tDIn (ty td:TE):TE:=fun σ H Q=>ty σ H fun y H1=>td σ H1 fun x H2=>∃ a o,x = .ref a/\DGet H2 a y o/\Q (.bl o.isSome) H2
def tDNotIn (ty td:TE):TE:=fun σ H Q=>ty σ H fun y H1=>td σ H1 fun x H2=>∃ a o,x = .ref a/\DGet H2 a y o/\Q (.bl (!o.isSome)) H2
def sDPut (td ty tv:TE):TS:=fun D σ H=>tv σ H fun v H1=>td σ H1 fun x H2=>ty σ H2 fun y H3=>∃ a H4,x = .ref a/\DPut H3 a y v H4/\D.nx σ H4
def sDAug (td ty tv:TE) (rd:V->V->Hp->VK->Prop):TS:=fun D σ H=>td σ H fun x H1=>ty σ H1 fun y H2=>∃ a v,x = .ref a/\DGet H2 a y (some v) /\
 tv σ H2 fun y2 H3=>rd v y2 H3 fun z H4=>∃ H5,DPut H4 a y z H5/\D.nx σ H5
def sDDel (td ty:TE):TS:=fun D σ H=>td σ H fun x H1=>ty σ H1 fun y H2=>∃ a kvs k,x = .ref a/\H2 a=some (.dK kvs)/\y=kV k/\(valV kvs k).isSome=true/\D.nx σ (upd H2 a (.dK (dropK kvs k)))
section
variable {X:Cx} {o i e value:Expr} {pos pos' tpos:Pos} {td ty tv:TE}
theorem pe_dget (hu:X.A.units + 1 < cLine) (ho:PE X o td) (hi:PE X i ty) (hs:NoSl i):PE X (.Subscript o i pos) (tDGet td ty):=by
 intro pins s σ H Q I h
 refine subD_of PySem.F.slot_dict_getitem.lookup hs (thn (ho pins s σ H _ I h) fun u s1 ⟨x,H1,I1,rx,q1⟩=>thn (hi pins s1 σ H1 _ I1 q1) fun iv s2 ⟨y,H2,I2,ry,a,v,ex,g,q2⟩=>?_)
 subst ex
 obtain rfl:u=Value.ref a:=rx
 exact ⟨dict_typeIs I2 g,d_getItem hu I2 g ry fun w' s3 I3 rw'=>⟨v,H2,I3,rw',q2⟩⟩
theorem pc_din (hu:X.A.units + 1 < cLine) (hi:PE X i ty) (ho:PE X o td):PC X .In i o (tDIn ty td):=by
 intro pins s σ H Q I h
 refine thn (hi pins s σ H _ I h) fun iv s1 ⟨y,H1,I1,ry,q1⟩=>thn (ho pins s1 σ H1 _ I1 q1) fun u s2 ⟨x,H2,I2,rx,a,ov,ex,g,q2⟩=>?_
 subst ex
 obtain rfl:u=Value.ref a:=rx
 exact d_in hu I2 g ry fun s3 I3=>⟨.bl ov.isSome,H2,I3,rfl,q2⟩
theorem pc_dnotin (hu:X.A.units + 1 < cLine) (hi:PE X i ty) (ho:PE X o td):PC X .NotIn i o (tDNotIn ty td):=by
 intro pins s σ H Q I h
 refine thn (hi pins s σ H _ I h) fun iv s1 ⟨y,H1,I1,ry,q1⟩=>thn (ho pins s1 σ H1 _ I1 q1) fun u s2 ⟨x,H2,I2,rx,a,ov,ex,g,q2⟩=>?_
 subst ex
 obtain rfl:u=Value.ref a:=rx
 exact d_notIn hu I2 g ry fun s3 I3=>⟨.bl (!ov.isSome),H2,I3,rfl,q2⟩
theorem ps_dput (hu:X.A.units + 1 < cLine) (ho:PE X o td) (hi:PE X i ty) (hv:PE X value tv) (hs:swapsWith value (some (.Subscript o i pos')) pos.line X.env=pure false) :
  PS X (.Assign [.Subscript o i pos'] value pos) (sDPut td ty tv):=by
 intro pins s σ H D I h
 refine wpAny_Assign_Subscript (thn (hv pins s σ H _ I h) fun r s1 ⟨v,H1,I1,rv,q1⟩=>thn (ho pins s1 σ H1 _ I1 q1) fun u s2 ⟨x,H2,I2,rx,q2⟩=>thn (hi pins s2 σ H2 _ I2 q2) fun iv s3 ⟨y,H3,I3,ry,a,H4,ex,g,q3⟩=>?_) hs
 subst ex
 obtain rfl:u=Value.ref a:=rx
 exact d_setItem hu I3 g ry rv fun s4 I4=>⟨σ,H4,I4,q3⟩
end
theorem dk_empty {P:Program} {w:World} {H:Hp} (h:Heap) (hb:sysModules < h.objs.size):ObjOk P w H (h.push { cls := .type "dict",data := .dict #[] }) h.objs.size (.dK []) :=
 ⟨Nat.zero_le _,beq_eq_false_iff_ne.mpr (Ne.symm (Nat.ne_of_lt hb)),[], .nil,Heap.DictOf.new h⟩
def tDNewK:TE:=fun _ H Q=>∀ p,H p=none->Q (.ref p) (upd H p (.dK []))
def tDNewT:TE:=fun _ H Q=>∀ p,H p=none->Q (.ref p) (upd H p (.dT []))
section
variable {X:Cx} {pos:Pos}
theorem pe_dnewK:PE X (.Dict [] [] pos) tDNewK:=fun pins s σ H Q I h =>
 wpAny_Dict_empty ⟨.ref s.heap.objs.size,_,I.laid (a:=s.heap.objs.size) (o := .dK []) (t':=s.toks) (fun _ _ q=>Heap.get?_push_of_some _ q) (Nat.le_refl _) (dk_empty s.heap I.big),rfl,h _ (I.hok.fresh (Nat.le_refl _))⟩
end
def tPairs:List (TE × TE)->St->Hp->(List (V × V)->Hp->Prop)->Prop
 | [],_,H,Q=>Q [] H
 | (tk,tv) :: r,σ,H,Q=>tk σ H fun x H1=>tv σ H1 fun y H2=>tPairs r σ H2 fun ps H3=>Q ((x,y) :: ps) H3
abbrev VV:List (V × V)->List (Value × Value)->Prop:=Paired fun p q=>RelV p.1 q.1/\RelV p.2 q.2
def PPs (X:Cx) (pos:Pos) (keys:List (Option Expr)) (values:List Expr) (trs:List (TE × TE)):Prop :=
 ∀ (pins:List (Addr × Obj)) (s:Shared) (σ:St) (H:Hp) (Q:List (V × V)->Hp->Prop),Inv X pins σ H s->tPairs trs σ H Q ->
  wpAny (model X.prog X.w) X.A (evalPairs (pairTrees keys values X.env pos)) (fun vs s'=>∃ ps H',Inv X pins σ H' s'/\VV ps vs/\Q ps H') X.xe s
def mergeK (kvs more:List (Key × V)):List (Key × V):=more.foldl (fun acc kv=>putK acc kv.1 kv.2) kvs
def tDisp (trs:List (TE × TE)):TE:=fun σ H Q=>∀ p,H p=none->tPairs trs σ (upd H p (.dK [])) fun ps H2=>H2 p=some (.dK [])/\∃ kvs:List (Key × V),ps=kvs.map (fun kv=>(kV kv.1,kv.2))/\kvs.length <= 15/\Q (.ref p) (upd H2 p (.dK (mergeK [] kvs)))
structure M1 (X:Cx) (o:Expr) (m:Str) (apos:Pos) (e:Expr) (cpos:Pos):Prop where
 base:attributeBase o m X.env (eval o X.env)=eval o X.env
 few:((backTo cpos (starEach [e] X.env)).all (fun x=>!x.1) && (backToKw cpos (keywordEach [] X.env)).all (fun x=>x.1.isSome)
  && decide (([e]:List Expr).length + ([]:List Keyword).length + (if ([]:List Keyword).isEmpty then 0 else 1) < 30))=true
 line:(apos.endLine == cpos.line)=true
 trees:backTo cpos (starEach [e] X.env)=[(false,eval e X.env)]
structure M2 (X:Cx) (o:Expr) (m:Str) (apos:Pos) (e f:Expr) (cpos:Pos):Prop where
 base:attributeBase o m X.env (eval o X.env)=eval o X.env
 few:((backTo cpos (starEach [e,f] X.env)).all (fun x=>!x.1) && (backToKw cpos (keywordEach [] X.env)).all (fun x=>x.1.isSome)
  && decide (([e,f]:List Expr).length + ([]:List Keyword).length + (if ([]:List Keyword).isEmpty then 0 else 1) < 30))=true
 line:(apos.endLine == cpos.line)=true
 trees:backTo cpos (starEach [e,f] X.env)=[(false,eval e X.env),(false,eval f X.env)]
def IsD (H:Hp) (a:Addr):Prop:=(∃ kvs,Rd H a (.dK kvs))∨∃ kvs,Rd H a (.dT kvs)
theorem isD_at {X:Cx} {pins:List (Addr × Obj)} {σ:St} {H:Hp} {s:Shared} {a:Addr} (I:Inv X pins σ H s) (d:IsD H a) :
  s.TypeIs (.ref a) "dict"/\(∀ b,Value.ref a = .ref b->∃ ob,s.heap.get? b=some ob/\ob.dict=none)/\(a == sysModules)=false:=by
 rcases d with ⟨kvs,e⟩ | ⟨kvs,e⟩
 ·obtain ⟨_,hd,vs,_,dd⟩:=dk_rd I.hok e
  refine ⟨dd.typeIs,fun b q=>?_,hd⟩
  cases q
  obtain ⟨ob,_,_,h1,h2,_⟩:=dd
  exact ⟨ob,h1,h2.2.1⟩
 ·obtain ⟨_,hd,xs,_,dd⟩:=dt_rd I.hok e
  refine ⟨dd.typeIs,fun b q=>?_,hd⟩
  cases q
  obtain ⟨ob,_,_,h1,h2,_⟩:=dd
  exact ⟨ob,h1,h2.2.1⟩
section
variable {X:Cx} {pins:List (Addr × Obj)} {σ:St} {H:Hp} {s:Shared} {a:Addr} {y d:V} {u r:Value} {o:Option V} {A:Around} {E:Value->Shared->Prop}
end
def tDGet1 (td ty:TE):TE:=fun σ H Q=>td σ H fun x H1=>∃ a,x = .ref a/\IsD H1 a/\ty σ H1 fun y H2=>∃ o,DGet H2 a y o/\Q (o.getD .non) H2
def tDGet2 (td ty tx:TE):TE:=fun σ H Q=>td σ H fun x H1=>∃ a,x = .ref a/\IsD H1 a/\ty σ H1 fun y H2=>tx σ H2 fun z H3=>∃ o,DGet H3 a y o/\Q (o.getD z) H3
def tDPop1 (td ty:TE):TE:=fun σ H Q=>td σ H fun x H1=>∃ a,x = .ref a/\IsD H1 a/\ty σ H1 fun y H2=>∃ kvs k v,H2 a=some (.dK kvs)/\y=kV k/\valV kvs k=some v/\Q v (upd H2 a (.dK (dropK kvs k)))
def tDPop2 (td ty tx:TE):TE:=fun σ H Q=>td σ H fun x H1=>∃ a,x = .ref a/\IsD H1 a/\ty σ H1 fun y H2=>tx σ H2 fun z H3=>∃ kvs k,H3 a=some (.dK kvs)/\y=kV k /\
 (∀ v,valV kvs k=some v->Q v (upd H3 a (.dK (dropK kvs k))))/\(valV kvs k=none->Q z H3)
section
variable {X:Cx} {o e f:Expr} {apos cpos:Pos} {td ty tx:TE}
end
section
variable {X:Cx} {pins:List (Addr × Obj)} {σ:St} {H:Hp} {s:Shared} {a:Addr} {kvs:List (Key × V)} {A:Around} {E:Value->Shared->Prop}
end
section
variable {X:Cx} {pins:List (Addr × Obj)} {σ:St} {H:Hp} {s:Shared} {a:Addr} {y:V} {u:Value} {A:Around} {E:Value->Shared->Prop}
end
end L2
namespace L2
open PySem PySem.Spec PyProof.Rows
section
variable {X:Cx}
theorem call_lenD:CallR X (.builtin "len") (fun xs H Q=>∃ a kvs,xs=[V.ref a]/\H a=some (.dK kvs)/\Q (.int kvs.length) H):=by
 intro pins s σ H xs us Q I r h
 obtain ⟨a,kvs,rfl,ha,q⟩:=h
 obtain ⟨u,rfl,ru⟩:=vals1 r
 cases ru
 exact d_len I (.inl ha) fun t s' I'=>⟨.int kvs.length,H,I',⟨t,rfl⟩,q⟩
end
section
variable {κ:Type} [DecidableEq κ]
end
end L2
namespace L2
open PySem PySem.Spec PyProof.Rows
theorem key_rel {P:Program} {w:World} {k:Key} {u:Value} (h:(mixKind P w).is k u=true):RelV (kV k) u:=by
 rcases keyIs_shape (show keyIs k u=true from h) with ⟨i,t,rfl,rfl⟩ | ⟨x,t,rfl,rfl⟩
 ·exact ⟨t,rfl⟩
 ·exact ⟨t,rfl⟩
def DcO (P:Program) (w:World) (o:Obj) (kvs:List (Key × V)) (ep:Nat):Prop:=∃ vs es,KV kvs vs/\o.ExactDict/\o.data = .dict es ep/\KeysOf (mixKind P w) es/\Pairs (mixKind P w) es.toList vs/\(vs.map (·.1)).Nodup
def Itk (a:Addr) (o:Obj) (kvs:List (Key × V)):It :=
 ⟨fun i H=>H a=some (.frz o (.dK kvs))/\i < kvs.length,fun i H x H'=>H' = H/\∃ k,(kvs.map (·.1))[i]? = some k/\x=kV k,fun i H=>H a=some (.frz o (.dK kvs))/\i=kvs.length⟩
theorem Inv.frzAt {X:Cx} {pins:List (Addr × Obj)} {σ:St} {H:Hp} {s:Shared} {a:Addr} {o:Obj} {u:HO} (I:Inv X pins σ H s) (ha:H a=some (.frz o u)):s.heap.get? a=some o:=(I.hok a _ ha).1
theorem turn_keys {P:Program} {w:World} {K:PySem.W.Frag} {tg:Expr} (a it:Addr) (o:Obj) (kvs:List (Key × V)) (ep:Nat) (hD:DcO P w o kvs ep):Turn P w K tg (Itk a o kvs) [it] it (fun i h=>h.IsKeyIter it a i kvs.length ep) where
 mem:=by simp
 obj:=fun i h st b hb=>by
  have e:b=it:=by simpa using hb
  subst e
  obtain ⟨ob,e,c,d⟩:=st
  exact ⟨ob,e,fun v z=>by rw [d] at z; cases z⟩
 keep:=fun i h h' st k=>by
  obtain ⟨ob,e,c,d⟩:=st
  exact ⟨ob,k it (by simp) ob e,c,d⟩
 item:=by
  intro X hP hw hK hc i pins s σ H E I hf st hg
  subst hP hw hK
  obtain ⟨ha,hi⟩:=hg
  obtain ⟨vs,es,rel,d1,d2,d3,d4,d5⟩:=hD
  obtain ⟨f0,f1,f2,f3,f4,f5⟩:=hf it (by simp)
  have hl:=rel.length
  have hv:vs[i]? = some (vs[i]'(by omega)):=List.getElem?_eq_getElem (by omega)
  have st:s.heap.IsKeyIter it a i vs.length ep:=by rw [← hl]; exact st
  refine wpAny_pyNext_dict_item (knd:=mixKind X.prog X.w) (k:=(vs[i]'(by omega)).1) (v:=(vs[i]'(by omega)).2) st ⟨o,es,I.frzAt ha,d1,d2,d3,d4,d5⟩ hv fun key h' hk st' sb=>?_
  rw [← hl] at st'
  have I1:Inv X pins σ H { s with heap:=h' }:=I.turned (t':=s.toks) (fun b o hb e=>(sb.2 b hb).trans e) f0 f1 f3 f4 f5
  obtain ⟨ob,e,c,d⟩:=id st'
  exact ⟨key,rfl,go_of (s:={ s with heap:=h' }) e c d (by decide) ⟨_,H,I1,key_rel hk,⟨rfl,_,by rw [rel.keys,List.getElem?_map,hv]; rfl,rfl⟩,st',fun b hb=>(hf b hb).1⟩⟩
 done:=by
  intro X hP hw hK hc i pins s σ H E I hf st hg
  subst hP hw hK
  obtain ⟨ha,rfl⟩:=hg
  obtain ⟨vs,es,rel,d1,d2,d3,d4,d5⟩:=hD
  obtain ⟨f0,f1,f2,f3,f4,f5⟩:=hf it (by simp)
  have hl:=rel.length
  have st:s.heap.IsKeyIter it a vs.length vs.length ep:=by rw [← hl]; exact st
  exact wpAny_pyNext_dict_end (knd:=mixKind X.prog X.w) (I.ok.hd hc) st ⟨o,es,I.frzAt ha,d1,d2,d3,d4,d5⟩ (List.getElem?_eq_none (Nat.le_refl _)) fun h' eb=>⟨rfl,I.turned (t':=s.toks) (fun b o hb e=>eb b o hb e) f0 f1 f3 f4 f5⟩
 self:=fun _ _ _ _ _ st h=>wpAny_pyIter_keyiter st h
theorem vals_at:∀ {xs:List V} {us:List Value},xs.length=us.length->(∀ (i:Nat) (x:V) (u:Value),xs[i]? = some x->us[i]? = some u->RelV x u)->Vals xs us
 | [],[],_,_ => .nil
 | x :: xs,u :: us,hl,h => .cons (h 0 x u rfl rfl) (vals_at (by simpa using hl) fun i x u hx hu=>h (i + 1) x u hx hu)
section
variable {X:Cx} {tg:Expr}
def iKeys (tl:TE):TI:=fun σ H R=>tl σ H fun x H1=>∃ a kvs,x = .ref a/\H1 a=some (.dK kvs)/\∀ o,R (Itk a o kvs) (upd H1 a (.frz o (.dK kvs)))
theorem pi_keys {l:Expr} {tl:TE} (hl:PE X l tl):PI X tg l (iKeys tl):=by
 intro pins s σ H R I h
 refine thn (hl pins s σ H _ I h) fun v s1 ⟨x,H1,I1,r1,q1⟩=>?_
 obtain ⟨a,kvs,e,ha,q⟩:=q1
 subst e
 cases r1
 obtain ⟨z,hd,vs,rel,o,es,ep,eo,d1,d2,d3,d4,d5⟩:=dk_of I1.hok ha
 have I2:Inv X pins σ (upd H1 a (.frz o (.dK kvs))) s1:=I1.write (x:=a) (e:=a) (h':=s1.heap) (t':=s1.toks) (by rw [ha]; trivial) (.inl rfl) (fun b u _ q=>q) ⟨_,eo⟩ ⟨eo,z,hd,vs,rel,o,es,ep,eo,d1,d2,d3,d4,d5⟩
 refine wpAny_pyIter_dict (knd:=mixKind X.prog X.w) hd ⟨o,es,eo,d1,d2,d3,d4,d5⟩ ?_
 refine ⟨s1.heap.objs.size,[s1.heap.objs.size],_,_,_,rfl,I2.kept (t':=s1.toks) fun b o e=>Heap.get?_push_of_some _ e,turn_keys a _ o kvs ep ⟨vs,es,rel,d1,d2,d3,d4,d5⟩,⟨_,Heap.get?_push_size _ rfl,rfl,by rw [rel.length]; rfl⟩,fun b hb=>?_,q o⟩
 have e:b=s1.heap.objs.size:=by simpa using hb
 subst e
 exact I2.fpOk (Nat.le_refl _) (I2.hok.fresh (Nat.le_refl _))
theorem for_keys {a:Addr} {o:Obj} {kvs:List (Key × V)} {g:TG} {tb:TS} {D:Ends} {σ:St} {H:Hp} (Pv:Nat->St->Hp->Prop) (h0:Pv 0 σ H) (hl:∀ i σ H,i <= kvs.length->Pv i σ H->H a=some (.frz o (.dK kvs)))
  (hs:∀ i k σ H,(kvs.map (·.1))[i]? = some k->Pv i σ H->g (kV k) σ H fun σ2 H2=>tb { D with nx:=Pv (i + 1),ct:=Pv (i + 1),bk:=D.nx } σ2 H2) (hd:∀ σ H,Pv kvs.length σ H->D.nx σ H) :
  ∃ W:Nat->Nat->St->Hp->Prop,(∃ m,W 0 m σ H)/\∀ i m σ H,W i m σ H ->
   ((Itk a o kvs).stop i H/\D.nx σ H)∨((Itk a o kvs).go i H/\∃ N:St->Hp->Prop,(∀ σ' H',N σ' H'->∃ m',m' < m/\W (i + 1) m' σ' H')/\∀ x H',(Itk a o kvs).yld i H x H'->g x σ H' fun σ2 H2=>tb { D with nx:=N,ct:=N,bk:=D.nx } σ2 H2):=by
 refine ⟨fun i m σ H=>m=kvs.length - i/\i <= kvs.length/\Pv i σ H,⟨kvs.length,by simp,Nat.zero_le _,h0⟩,?_⟩
 rintro i m σ H ⟨rfl,hi,p⟩
 have q:=hl i σ H hi p
 by_cases hlt:i < kvs.length
 ·refine .inr ⟨⟨q,hlt⟩,Pv (i + 1),fun σ' H' p'=>⟨kvs.length - (i + 1),by omega,rfl,hlt,p'⟩,fun x H' y=>?_⟩
  obtain ⟨e,k,hk,ex⟩:=y
  subst e ex
  exact hs i k σ _ hk p
 ·have e:i=kvs.length:=by omega
  subst e
  exact .inl ⟨⟨q,rfl⟩,hd σ H p⟩
theorem call_list_keys (hc:X.calm=true):CallR X (.type "list") (fun xs H Q=>∃ a kvs,xs=[.ref a]/\Rd H a (.dK kvs)/\∀ l,H l=none->Q (.ref l) (upd H l (.lst (kvs.map fun p=>kV p.1)))):=by
 intro pins s σ H xs us Q I r h
 obtain ⟨a,kvs,rfl,ha,q⟩:=h
 obtain ⟨u,rfl,ru⟩:=r.one
 cases ru
 obtain ⟨z,hd,vs,rel,o,es,ep,eo,d1,d2,d3,d4,d5⟩:=dk_rd I.hok ha
 have hD:s.heap.DictAt (mixKind X.prog X.w) a vs ep:=⟨o,es,eo,d1,d2,d3,d4,d5⟩
 refine PySem.W.kdl_call (PySem.W.kdl_dict (knd:=mixKind X.prog X.w) (kvs:=vs) (ep:=ep) hd) (I.ok.hd hc) hD (by rw [← rel.length]; exact z) fun h' tk acc c keep hl it=>?_
 have hv:Vals (kvs.map fun p=>kV p.1) acc.toList:=by
  refine vals_at (by rw [List.length_map,rel.length]; exact it.1.symm) fun i x u hx hu=>?_
  obtain ⟨k,y,hk,hku⟩:=it.2 i u (by simpa using hu)
  have e1:(kvs.map (·.1))[i]? = some k:=by rw [rel.keys,List.getElem?_map,hk]; rfl
  have e2:x=kV k:=by
   rw [List.getElem?_map] at hx e1
   cases hkv:kvs[i]? with
   | none=>rw [hkv] at e1; cases e1
   | some p =>
    rw [hkv] at hx e1
    have e1:p.1=k:=Option.some.inj e1
    have hx:kV p.1=x:=Option.some.inj hx
    rw [← hx,e1]
  rw [e2]
  exact key_rel hku
 refine ⟨.ref _,_,I.laid (a:=s.heap.objs.size) (o := .lst (kvs.map fun p=>kV p.1)) (t':=tk) (fun b q hq=>keep b q hq) (Nat.le_refl _) ⟨by rw [List.length_map]; exact z,acc.toList,c,hv,by simpa using hl⟩,rfl,q _ (I.hok.fresh (Nat.le_refl _))⟩
end
end L2
namespace L2
open PySem PySem.Spec PyProof.Rows
def RngO (p:Addr) (j:Int):HO := .ext fun h=>∃ t u v,IsRange h p 0 j 1 t u v
section
variable {X:Cx}
theorem call_rng:CallR X (.type "range") (fun xs H Q=>∃ j:Int,xs=[.int j]/\∀ p,H p=none->Q (.ref p) (upd H p (RngO p j))):=by
 intro pins s σ H xs us Q I r h
 obtain ⟨j,rfl,q⟩:=h
 obtain ⟨u,rfl,ru⟩:=r.one
 obtain ⟨t,rfl⟩:=ru
 refine call_range_1 ⟨.ref s.heap.objs.size,_,I.laid (a:=s.heap.objs.size) (o:=RngO s.heap.objs.size j) (t':=s.toks + 1 + 1) (fun _ _ q=>Heap.get?_push_of_some _ q) (Nat.le_refl _) ?_,rfl,q _ (I.hok.fresh (Nat.le_refl _))⟩
 exact ⟨⟨_,_,_,IsRange.new ..⟩,⟨_,Heap.get?_push_size _ rfl⟩,fun h1 h2 ⟨t,u,v,e⟩ st=>⟨t,u,v,st _ e⟩⟩
theorem call_list_rng (hc:X.calm=true):CallR X (.type "list") (fun xs H Q=>∃ (p:Addr) (n:Nat),xs=[.ref p]/\H p=some (RngO p (n:Int))/\n <= 10000/\∀ l,H l=none->Q (.ref l) (upd H l (.lst ((List.range n).map fun k:Nat=>V.int (k:Int))))):=by
 intro pins s σ H xs us Q I r h
 obtain ⟨p,n,rfl,hp,hn,q⟩:=h
 obtain ⟨u,rfl,ru⟩:=r.one
 cases ru
 obtain ⟨⟨t,u,v,hr⟩,_⟩:=I.hok _ _ hp
 refine call_list_range (n:=n) (I.ok.hd hc) hr (small_one (by omega) (by omega) (by omega) (by omega)) (by rw [rangeSize_one]; split <;> omega) (by omega) fun h' tk acc c keep hl it=>?_
 have hv:Vals ((List.range n).map fun k:Nat=>V.int (k:Int)) acc.toList:=by
  refine vals_at (by rw [List.length_map,List.length_range]; exact it.1.symm) fun i x u hx hu=>?_
  obtain ⟨tk,rfl⟩:=it.2 i u (by simpa using hu)
  have hi:i < n:=by
   have:=(List.getElem?_eq_some_iff.mp hx).1
   simpa using this
  rw [List.getElem?_map,List.getElem?_range hi] at hx
  have hx:V.int (i:Int)=x:=Option.some.inj hx
  subst hx
  exact ⟨tk,by rw [Int.mul_one,Int.zero_add]⟩
 refine ⟨.ref _,_,I.laid (a:=s.heap.objs.size) (o := .lst ((List.range n).map fun k:Nat=>V.int (k:Int))) (t':=tk) (fun b q hq=>keep b q hq) (Nat.le_refl _) ⟨by rw [List.length_map,List.length_range,PySem.sizeLine_eq]; omega,acc.toList,c,hv,by simpa using hl⟩,rfl,q _ (I.hok.fresh (Nat.le_refl _))⟩
end
end L2
namespace L2
open PySem PySem.Spec PyProof.Rows
def Ents (h:Heap) (d:Addr) (es:Array DictEntry) (ep:Nat):Prop:=∃ o,h.get? d=some o/\o.data = .dict es ep
section
variable {prog:Program} {w:World} {A:Around} {E:Value->Shared->Prop} {s:Shared}
end
section
variable {X:Cx} {pins:List (Addr × Obj)} {σ:St} {H:Hp} {s:Shared} {a:Addr} {o:Obj} {u:HO}
theorem Inv.thaw (I:Inv X pins σ H s) (ha:H a=some (.frz o u)) (h0:∀ o' u',X.H₀ a ≠ some (.frz o' u')):Inv X pins σ (upd H a u) s:=by
 have no:∀ b,H b=none->b ≠ a:=fun b e z=>by rw [z,ha] at e; cases e
 have ot:∀ b x,H b=some x->(∀ o' u',x ≠ .frz o' u')->b ≠ a:=fun b x e n z=>by rw [z,ha] at e; exact n _ _ (Option.some.inj e).symm
 refine ⟨I.ok,I.os,I.bare,⟨I.base.keep,I.base.slot,fun b ob q n hx=>?_,I.base.there,fun b xs q=>?_,fun b o' u' q=>?_,fun b ps q=>?_⟩,I.loc,I.cell,?_,fun x c hc=>?_,fun p hp=>?_,fun b x q=>?_,I.len⟩
 ·have z:=I.base.free b ob q n hx
  rw [upd_ne (no b z)]; exact z
 ·have z:=I.base.tups b xs q
  rw [upd_ne (ot b _ z (fun _ _ w=>by cases w))]; exact z
 ·have z:=I.base.frzs b o' u' q
  rw [upd_ne (fun w=>h0 o' u' (by rw [← w]; exact q))]; exact z
 ·obtain ⟨m,z⟩:=I.base.tbls b ps q
  exact ⟨m,by rw [upd_ne (ot b _ z (fun _ _ w=>by cases w))]; exact z⟩
 ·rw [upd_ne (no _ I.free)]; exact I.free
 ·rw [upd_ne (no _ (I.freeC x c hc))]; exact I.freeC x c hc
 ·obtain ⟨h1,h2,h3⟩:=I.pin p hp
  exact ⟨h1,by rw [upd_ne (no _ h2)]; exact h2,h3⟩
 ·have own:∀ d c,H d=some (.own c)->(upd H a u) d=some (.own c):=fun d c z=>by rw [upd_ne (ot d _ z (fun _ _ w=>by cases w))]; exact z
  have tup:∀ d ys,H d=some (.tup ys)->(upd H a u) d=some (.tup ys):=fun d ys z=>by rw [upd_ne (ot d _ z (fun _ _ w=>by cases w))]; exact z
  by_cases hb:b=a
  ·subst hb
   rw [upd_same] at q
   cases q
   exact (I.hok b _ ha).2.stay (fun d v _ z=>z) (fun d z=>own d b z) fun d ys z=>tup d ys z
  ·rw [upd_ne hb] at q
   exact (I.hok b _ q).stay (fun d v _ z=>z) (fun d z=>own d b z) fun d ys z=>tup d ys z
end
def Thw (H₀ H:Hp) (G:Hp->Prop):Prop:=∃ a o u,H a=some (.frz o u)/\(∀ o' u',H₀ a ≠ some (.frz o' u'))/\G (upd H a u)
section
variable {X:Cx}
theorem pe_thaw {e:Expr} {t:TE} (h:PE X e t):PE X e (fun σ H Q=>t σ H fun v H1=>Thw X.H₀ H1 (Q v)):=fun pins s σ H Q I q =>
 thn (h pins s σ H _ I q) fun u s1 ⟨v,H1,I1,r,a,o,x,ha,h0,k⟩=>⟨v,_,I1.thaw ha h0,r,k⟩
def thawE (H₀:Hp) (D:Ends):Ends:={ nx:=fun σ H=>Thw H₀ H (D.nx σ),rt:=fun v H=>Thw H₀ H (D.rt v),bk:=fun σ H=>Thw H₀ H (D.bk σ),ct:=fun σ H=>Thw H₀ H (D.ct σ) }
theorem ps_thaw {st:Stmt} {t:TS} (h:PS X st t):PS X st (fun D σ H=>t (thawE X.H₀ D) σ H):=fun pins s σ H D I q =>
 thn (h pins s σ H _ I q) fun f s1 z=>by
  cases f with
  | next=>obtain ⟨σ1,H1,I1,a,o,x,ha,h0,k⟩:=z; exact ⟨σ1,_,I1.thaw ha h0,k⟩
  | brk=>obtain ⟨σ1,H1,I1,a,o,x,ha,h0,k⟩:=z; exact ⟨σ1,_,I1.thaw ha h0,k⟩
  | cont=>obtain ⟨σ1,H1,I1,a,o,x,ha,h0,k⟩:=z; exact ⟨σ1,_,I1.thaw ha h0,k⟩
  | ret u=>obtain ⟨v,σ1,H1,I1,r,a,o,x,ha,h0,k⟩:=z; exact ⟨v,σ1,_,I1.thaw ha h0,r,k⟩
end
def Iti (P:Program) (w:World) (a:Addr) (o:Obj) (kvs:List Ent):It :=
 ⟨fun i H=>H a=some (.frz o (DicO P w a kvs))/\i < kvs.length,fun i H v H'=>∃ p x,H p=none/\v = .ref p/\kvs[i]? = some x/\H' = upd H p (.tup [.ref x.2.1,x.2.2]),fun i H=>H a=some (.frz o (DicO P w a kvs))/\i=kvs.length⟩
theorem ent_get:∀ {kvs:List Ent} {xs:List (Oks × Addr × Value)} {i:Nat} {x:Ent},Paired EntR kvs xs->kvs[i]? = some x->∃ y,xs[i]? = some y/\EntR x y
 | _,_,_,_, .nil,h=>by cases h
 | _,_,0,_, .cons h1 _,h=>by cases h; exact ⟨_,rfl,h1⟩
 | _,_,i + 1,_, .cons _ t,h=>ent_get (i:=i) t h
theorem dic_ents {P:Program} {w:World} {h:Heap} {a:Addr} {o:Obj} {kvs:List Ent} (d:DicP P w a kvs h) (g:h.get? a=some o):∃ es ep,o.data = .dict es ep/\es.size=kvs.length/\∀ (i:Nat) (x:Ent),kvs[i]? = some x->∃ e:DictEntry,es[i]? = some e/\e.key = .ref x.2.1/\RelV x.2.2 e.val:=by
 obtain ⟨_,_,xs,r,o',es,ep,g',_,hd,he,_⟩:=d
 rw [g] at g'
 cases g'
 have hl:es.size=kvs.length:=by
  have z:=congrArg List.length he
  rw [List.length_map,← Paired.length r,Array.length_toList] at z
  exact z
 refine ⟨es,ep,hd,hl,fun i x hx=>?_⟩
 obtain ⟨y,hy,ry⟩:=ent_get r hx
 refine ⟨entryOfKey (tupleKind (optKind P w)) y,?_,?_,?_⟩
 ·rw [← Array.getElem?_toList,he,List.getElem?_map,hy]; rfl
 ·show Value.ref y.2.1=_
  rw [ry.2.1]
 ·exact ry.2.2
section
variable {X:Cx} {elts:List Expr} {kk:Nat} {tpos:Pos}
def iItems (P:Program) (w:World) (tl:TE):TI:=fun σ H R=>tl σ H fun x H1=>∃ a kvs,x = .ref a/\H1 a=some (DicO P w a kvs)/\∀ o,R (Iti P w a o kvs) (upd H1 a (.frz o (DicO P w a kvs)))
end
end L2
namespace L2
open PySem PySem.Spec PyProof.Rows
theorem lri_len:typeLookup (.type "list_reverseiterator") "__len__" = pure none:=by rw [typeLookup_type,builtinLookup_eq_fast]; kernel_rfl
theorem lri_hint:typeLookup (.type "list_reverseiterator") "__length_hint__" = pure (some (.builtin "list_reverseiterator.__length_hint__")):=by rw [typeLookup_type,builtinLookup_eq_fast]; kernel_rfl
section
variable {prog:Program} {w:World} {A:Around} {E:Value->Shared->Prop} {s:Shared} {I:Addr} {fp wr:List Addr} {G:Array GenState->Array GenState->Prop} {n:Nat} {P:Nat->Value->Prop} {St:Nat->Shared->Prop}
end
theorem vals_at2:∀ {xs:List V} {us:List Value},xs.length=us.length->(∀ (i:Nat) (x:V) (u:Value),xs[i]? = some x->us[i]? = some u->RelV x u)->Vals xs us
 | [],[],_,_ => .nil
 | x :: xs,u :: us,hl,h => .cons (h 0 x u rfl rfl) (vals_at2 (by simpa using hl) fun i x u hx hu=>h (i + 1) x u hx hu)
section
variable {X:Cx}
def tTupRev (K:PySem.W.Frag) (ta:TA):TE:=fun σ H Q=>ta σ H fun vs H1=>∃ l xs,vs=[.ref l]/\SqL K H1 l xs/\∀ t,H1 t=none->Q (.ref t) (upd H1 t (.tup xs.reverse))
end
end L2
namespace L2
open PySem PySem.Spec PyProof.Rows
section
variable {X:Cx} {o e f:Expr} {apos cpos:Pos} {td ty tx:TE}
def tDSet (td ty tx:TE):TE:=fun σ H Q=>td σ H fun x H1=>∃ a,x = .ref a/\IsD H1 a/\ty σ H1 fun y H2=>tx σ H2 fun z H3=>∃ kvs k,H3 a=some (.dK kvs)/\y=kV k/\kvs.length < sizeLine /\
 (∀ v,valV kvs k=some v->Q v H3)/\(valV kvs k=none->Q z (upd H3 a (.dK (putK kvs k z))))
theorem pe_dset (ho:PE X o td) (he:PE X e ty) (hf:PE X f tx) (m:M2 X o "setdefault" apos e f cpos):PE X (.Call (.Attribute o "setdefault" apos) [e,f] [] cpos) (tDSet td ty tx):=by
 intro pins s σ H Q I h
 refine wpAny_Call_method m.base m.few m.line PySem.F.plainAttrs_dict PySem.F.slot_dict_setdefault PySem.F.type_dict_setdefault (thn (ho pins s σ H _ I h) fun u s1 ⟨x,H1,I1,rx,a,ex,d,q1⟩=>?_)
 subst ex
 obtain rfl:u=Value.ref a:=rx
 obtain ⟨t1,t2,_⟩:=isD_at I1 d
 refine ⟨t1,t2,?_⟩
 rw [m.trees]
 refine Calls.callWith_builtin rfl (Calls.evalArgs_plain (Calls.spliced_cons (thn (he pins s1 σ H1 _ I1 q1) fun iv s2 ⟨y,H2,I2,ry,q2⟩ =>
  Calls.spliced_cons (thn (hf pins s2 σ H2 _ I2 q2) fun fv s3 ⟨z,H3,I3,rz,kvs,k,ea,ey,hl,q3,q4⟩=>Calls.spliced_nil ?_))))
 subst ey
 obtain ⟨z',hd,vs,rel,dd⟩:=dk_of I3.hok ea
 have hr:=rel.val k
 refine call_meetsIn PySem.F.slot_dict_setdefault dd.typeIs PySem.F.entry_dict_setdefault (PySem.F.args_dict_setdefault_3 _ _ _) (kt_meets_setdefault (mixKind X.prog X.w) a (kV_is ry) hd _) ⟨vs,dd,by rw [← rel.length]; exact z',fun v hv=>?_,fun hn h' dd' hs=>?_⟩
 ·rw [hv] at hr
  cases e:valV kvs k with
  | none=>rw [e] at hr; exact hr.elim
  | some v'=>rw [e] at hr; exact ⟨v',H3,I3.tok _,hr,q3 v' e⟩
 ·have e:valV kvs k=none:=by
   rw [hn] at hr
   cases e:valV kvs k with
   | none=>rfl
   | some v'=>rw [e] at hr; exact hr.elim
  have he':∃ q,h'.get? a=some q:=let ⟨q,_,_,hq,_⟩:=dd'; ⟨q,hq⟩
  have hp:(putK kvs k z).length <= sizeLine:=by have:=length_putK kvs k z; omega
  exact ⟨z,_,d_write I3 (by rw [ea]; exact True.intro) hs he' (dk_new hp hd (rel.put k rz) dd'),rz,q4 e⟩
end
section
variable {X:Cx} {pins:List (Addr × Obj)} {σ:St} {H:Hp} {s:Shared}
theorem Inv.drawnL {h':Heap} {t':Nat} {ch:List Addr} {p:Addr} {xs:List V} {us:List Value} (I:Inv X pins σ H s) (fc:∀ c ∈ ch,FpOk X pins H c) (hp:s.heap.objs.size <= p)
  (k:∀ c o,c ∉ ch->s.heap.get? c=some o->h'.get? c=some o) (hl:xs.length <= sizeLine) (r:Vals xs us) (ht:IsTupN h' p us.toArray) :
  Inv X pins σ (upd H p (.tup xs)) { s with heap:=h',toks:=t' }:=by
 have hf:H p=none:=I.hok.fresh hp
 have nt:∀ c u,H c=some u->c ≠ p:=fun c u q z=>by rw [z,hf] at q; cases q
 have lt:∀ c o,s.heap.get? c=some o->c ≠ p:=fun c o q=>Nat.ne_of_lt (Nat.lt_of_lt_of_le (Heap.lt_size q) hp)
 refine I.call (g':=s.gens) (d':=s.drawn) (ch:=ch) ⟨fun c o e n h1 h2=>k c o h2 e,fun c o e n h1 h2=>⟨o.slots,k c o h2 e⟩,fun c o e n h2=>by rw [upd_ne (lt c o e)]; exact n,
  fun c o e h2=>⟨o,k c o h2 e⟩,fun c ys q=>by rw [upd_ne (nt c _ q)]; exact q,fun c o u q=>by rw [upd_ne (nt c _ q)]; exact q,fun c ps q=>⟨#[],by rw [upd_ne (nt c _ q),q]; simp⟩⟩ (fun c u q=>?_) I.bare fun c hc=>?_
 ·by_cases hc:c=p
  ·subst hc
   rw [upd_same] at q
   cases q
   exact ⟨hl,us,r,ht⟩
  ·rw [upd_ne hc] at q
   refine (I.hok c u q).stay (fun d v hd z=>?_) (fun d z=>by rw [upd_ne (nt d _ z)]; exact z) fun d ys z=>by rw [upd_ne (nt d _ z)]; exact z
   have nd:d ∉ ch:=fun w=>by
    have he:=(fc d w).1
    rcases hd with rfl | hd
    ·rw [he] at q; cases q
    ·rw [he] at hd; cases hd
   exact k d v nd z
 ·obtain ⟨f0,f1,_,f3,f4,f5⟩:=fc c hc
  exact ⟨f3,f1,f4,f5⟩
theorem Inv.turnedL {h':Heap} {t':Nat} {ch:List Addr} (I:Inv X pins σ H s) (fc:∀ c ∈ ch,FpOk X pins H c) (k:∀ c o,c ∉ ch->s.heap.get? c=some o->h'.get? c=some o):Inv X pins σ H { s with heap:=h',toks:=t' }:=by
 refine I.call (g':=s.gens) (d':=s.drawn) (ch:=ch) ⟨fun c o e n h1 h2=>k c o h2 e,fun c o e n h1 h2=>⟨o.slots,k c o h2 e⟩,fun c o e n h2=>n,
  fun c o e h2=>⟨o,k c o h2 e⟩,fun c ys q=>q,fun c o u q=>q,fun c ps q=>⟨#[],by rw [q]; simp⟩⟩ (fun c u q=>?_) I.bare fun c hc=>?_
 ·refine (I.hok c u q).stay (fun d v hd z=>?_) (fun d z=>z) fun d ys z=>z
  have nd:d ∉ ch:=fun w=>by
   have he:=(fc d w).1
   rcases hd with rfl | hd
   ·rw [he] at q; cases q
   ·rw [he] at hd; cases hd
  exact k d v nd z
 ·obtain ⟨f0,f1,_,f3,f4,f5⟩:=fc c hc
  exact ⟨f3,f1,f4,f5⟩
end
def Itz (K:PySem.W.Frag) (a b:Addr):It :=
 ⟨fun i H=>∃ xs ys x y,SqL K H a xs/\SqL K H b ys/\xs[i]? = some x/\ys[i]? = some y,
  fun i H v H'=>∃ p,H p=none/\v = .ref p/\∀ xs ys,SqL K H a xs->SqL K H b ys->∃ x y,xs[i]? = some x/\ys[i]? = some y/\H' = upd H p (.tup [x,y]),
  fun i H=>∃ xs ys,SqL K H a xs/\SqL K H b ys/\(xs[i]? = none∨ys[i]? = none)⟩
def ZipAt (z ti to i1 i2 a b:Addr) (i:Nat) (h:Heap):Prop:=IsZip h z ti to .none/\IsPair h ti (.ref i1) (.ref i2)/\(∃ x y,IsPair h to x y)/\h.IsListIter i1 a i/\h.IsListIter i2 b i
theorem zip_apart {z ti to i1 i2 a b:Addr} {i:Nat} {h:Heap} {xs ys:Array Value} (t:ZipAt z ti to i1 i2 a b i h) (n1:ti ≠ to) (n2:i1 ≠ i2) (ha:h.IsList a xs) (hb:h.IsList b ys):ZipApart z ti to i1 i2 a b:=by
 obtain ⟨hz,hti,⟨x,y,hto⟩,⟨o1,e1,c1,d1⟩,o2,e2,c2,d2⟩:=t
 obtain ⟨oa,ea,ca,da⟩:=ha
 obtain ⟨ob,eb,cb,db⟩:=hb
 have cls:∀ {p q:Addr} {o u:Obj} {s t:String},h.get? p=some o->h.get? q=some u->o.cls = .type s->u.cls = .type t->s ≠ t->p ≠ q:=fun e f g k n m=>by
  subst m
  rw [e] at f
  cases f
  rw [g] at k
  injection k with k
  exact n k
 exact ⟨cls hti hz rfl rfl (by decide),cls hto hz rfl rfl (by decide),cls e1 hz c1 rfl (by decide),cls e2 hz c2 rfl (by decide),n1,cls hti e1 rfl c1 (by decide),cls hti e2 rfl c2 (by decide),cls hto e1 rfl c1 (by decide),cls hto e2 rfl c2 (by decide),n2,
  cls ea hz ca rfl (by decide),cls ea hto ca rfl (by decide),cls ea e1 ca c1 (by decide),cls ea e2 ca c2 (by decide),cls eb hz cb rfl (by decide),cls eb hto cb rfl (by decide),cls eb e1 cb c1 (by decide),cls eb e2 cb c2 (by decide)⟩
theorem turn_zip {P:Program} {w:World} {K:PySem.W.Frag} {elts:List Expr} {kk:Nat} {pos:Pos} (a b z ti to i1 i2:Addr) (n1:ti ≠ to) (n2:i1 ≠ i2):Turn P w K (.Tuple elts kk pos) (Itz K a b) [z,ti,to,i1,i2] z (ZipAt z ti to i1 i2 a b) where
 mem:=by simp
 obj:=fun i h st c hc=>by
  obtain ⟨hz,hti,⟨x,y,hto⟩,⟨o1,e1,c1,d1⟩,o2,e2,c2,d2⟩:=st
  have hc':c=z∨c=ti∨c=to∨c=i1∨c=i2:=by simpa using hc
  rcases hc' with rfl | rfl | rfl | rfl | rfl
  ·exact ⟨_,hz,fun v q=>by have q':Data.fields _=Data.cell v:=q; cases q'⟩
  ·exact ⟨_,hti,fun v q=>by have q':Data.seq _ _=Data.cell v:=q; cases q'⟩
  ·exact ⟨_,hto,fun v q=>by have q':Data.seq _ _=Data.cell v:=q; cases q'⟩
  ·exact ⟨o1,e1,fun v q=>by rw [d1] at q; cases q⟩
  ·exact ⟨o2,e2,fun v q=>by rw [d2] at q; cases q⟩
 keep:=fun i h h' st k=>by
  obtain ⟨hz,hti,⟨x,y,hto⟩,h1,h2⟩:=st
  exact ⟨k z (by simp) _ hz,k ti (by simp) _ hti,⟨x,y,k to (by simp) _ hto⟩,h1.at fun o q=>k i1 (by simp) o q,h2.at fun o q=>k i2 (by simp) o q⟩
 item:=by
  intro X hP hw hK hc i pins s σ H E I hf st hg
  subst hP hw hK
  obtain ⟨xs,ys,x,y,hq1,hq2,hx,hy⟩:=hg
  obtain ⟨its1,rv1,p1,hz1⟩:=I.list hq1
  obtain ⟨its2,rv2,p2,hz2⟩:=I.list hq2
  obtain ⟨u1,hu1,ru1⟩:=rv1.get hx
  obtain ⟨u2,hu2,ru2⟩:=rv2.get hy
  have A:=zip_apart st n1 n2 p1.isList p2.isList
  obtain ⟨hz,hti,⟨v1,v2,hto⟩,h1,h2⟩:=st
  refine wpAny_pyNext_zip_item A hz hti hto h1 h2 p1.isList p2.isList (x:=u1) (y:=u2) (by simpa using hu1) (by simpa using hu2) fun h' a1 a2 a3 a4 a5 a6 hk=>⟨_,rfl,?_⟩
  refine wpAny_letOwnedTupleGo_zip a1 fun h2' b1 b2=>?_
  have hlt:∀ c o,s.heap.get? c=some o->c ≠ s.heap.objs.size:=fun c o q=>Nat.ne_of_lt (Heap.lt_size q)
  have nz:s.heap.objs.size ≠ z:=Ne.symm (hlt _ _ hz)
  have keepz:∀ c o,c ≠ z->h'.get? c=some o->h2'.get? c=some o:=fun c o q e=>(b2.2 c q).trans e
  have I2:Inv X pins σ (upd H s.heap.objs.size (.tup [x,y])) { s with heap:=h2' }:=by
   refine Inv.drawnL (s:=s) (h':=h2') (t':=s.toks) (us:=[u1,u2]) I hf (Nat.le_refl _) (fun c o hn q=>?_) (by show 2 <= sizeLine; decide) (.cons ru1 (.cons ru2 .nil)) ⟨_,keepz _ _ nz a5,⟨rfl,_,rfl⟩,rfl⟩
   simp only [List.mem_cons,List.not_mem_nil,or_false,not_or] at hn
   exact keepz c o hn.1 (hk c o hn.1 hn.2.2.1 hn.2.2.2.1 hn.2.2.2.2 q)
  refine ⟨.ref s.heap.objs.size,_,I2,rfl,⟨_,I.hok.fresh (Nat.le_refl _),rfl,fun zs ws g1 g2=>⟨x,y,by rw [I.list_inj g1 hq1]; exact hx,by rw [I.list_inj g2 hq2]; exact hy,rfl⟩⟩,⟨b1,keepz _ _ A.TIz (hk _ _ A.TIz A.TITO A.TIi1 A.TIi2 hti),⟨_,_,keepz _ _ A.TOz a2⟩,a3.at fun o q=>keepz _ o A.i1z q,a4.at fun o q=>keepz _ o A.i2z q⟩,fun c hc=>?_⟩
  have hl:c ≠ s.heap.objs.size:=by
   have hc':c=z∨c=ti∨c=to∨c=i1∨c=i2:=by simpa using hc
   obtain ⟨o1,e1,_⟩:=h1
   obtain ⟨o2,e2,_⟩:=h2
   rcases hc' with rfl | rfl | rfl | rfl | rfl
   ·exact hlt _ _ hz
   ·exact hlt _ _ hti
   ·exact hlt _ _ hto
   ·exact hlt _ _ e1
   ·exact hlt _ _ e2
  rw [upd_ne hl]
  exact (hf c hc).1
 done:=by
  intro X hP hw hK hc i pins s σ H E I hf st hg
  subst hP hw hK
  obtain ⟨xs,ys,hq1,hq2,hend⟩:=hg
  obtain ⟨its1,rv1,p1,hz1⟩:=I.list hq1
  obtain ⟨its2,rv2,p2,hz2⟩:=I.list hq2
  have A:=zip_apart st n1 n2 p1.isList p2.isList
  obtain ⟨hz,hti,⟨v1,v2,hto⟩,h1,h2⟩:=st
  have he:its1.toArray[i]? = none∨its2.toArray[i]? = none:=by
   rcases hend with q | q
   ·exact .inl (by simpa using rv1.none_of q)
   ·exact .inr (by simpa using rv2.none_of q)
  refine wpAny_pyNext_zip_end (I.ok.hd hc) A hz hti hto h1 h2 p1.isList p2.isList he fun h' hk=>⟨rfl,?_⟩
  refine I.turnedL (t':=s.toks) hf fun c o hn q=>?_
  simp only [List.mem_cons,List.not_mem_nil,or_false,not_or] at hn
  exact hk c o hn.1 hn.2.2.1 hn.2.2.2.1 hn.2.2.2.2 q
 self:=fun _ _ _ _ _ st h=>wpAny_pyIter_zip st.1 h
section
variable {X:Cx} {elts:List Expr} {kk:Nat} {tpos p pos:Pos} {e1 e2:Expr}
def iZip (K:PySem.W.Frag) (t:TA):TI:=fun σ H R=>t σ H fun vs H1=>∃ a b,vs=[.ref a, .ref b]/\(∃ xs,SqL K H1 a xs)/\(∃ ys,SqL K H1 b ys)/\R (Itz K a b) H1
theorem pi_zip {t:TA} (hg:Gl X "zip") (hm:X.mg "zip" = none) (ha:PA X [e1,e2] t) (hs:starEach [e1,e2] X.env=(false,eval e1 X.env) :: starEach [e2] X.env:=by rfl) (hs2:((backTo pos (starEach [e2] X.env)).any fun x=>x.fst)=false:=by rfl):PI X (.Tuple elts kk tpos) (.Call (.Name "zip" p) [e1,e2] [] pos) (iZip X.K t):=by
 intro pins s σ H R I h
 refine Call_ (ld_blt I hg hm (show bootBuiltins "zip" = some (.type "zip") by decide +kernel) (PyProof.Rows.callWith_type1 (thn (ha pos pins s σ H _ I h) fun us s1 ⟨vs,H1,I1,r1,q1⟩=>?_) hs hs2))
 obtain ⟨l1,l2,e,⟨xs,hq1⟩,⟨ys,hq2⟩,q⟩:=q1
 subst e
 obtain ⟨u,v,rfl,ru,rv⟩:=r1.two
 cases ru
 cases rv
 obtain ⟨its1,rv1,p1,hz1⟩:=I1.list hq1
 obtain ⟨its2,rv2,p2,hz2⟩:=I1.list hq2
 refine call_zip_2 p1.isList p2.isList fun h' a1 a2 a3 a4 a5 a6 hk=>?_
 have I2:Inv X pins σ H1 { s1 with heap:=h' }:=I1.kept (t':=s1.toks) hk
 refine wpAny_pyIter_zip (s:={ s1 with heap:=h' }) a1 ?_
 refine ⟨_,_,_,_,H1,rfl,I2,turn_zip l1 l2 _ (s1.heap.objs.size + 2) (s1.heap.objs.size + 3) s1.heap.objs.size (s1.heap.objs.size + 1) (Nat.ne_of_lt (Nat.lt_succ_self _)) (Nat.ne_of_lt (Nat.lt_succ_self _)),⟨a1,a2,⟨_,_,a3⟩,a4,a5⟩,fun c hc=>?_,q⟩
 have hle:s1.heap.objs.size <= c:=by
  have hc':c=s1.heap.objs.size + 4∨c=s1.heap.objs.size + 2∨c=s1.heap.objs.size + 3∨c=s1.heap.objs.size∨c=s1.heap.objs.size + 1:=by simpa using hc
  rcases hc' with e | e | e | e | e <;> rw [e] <;> first | exact Nat.le_refl _ | exact Nat.le_add_right _ _
 exact I1.fpOk hle (I1.hok.fresh hle)
end
section
variable {X:Cx}
theorem call_minL (hc:X.calm=true):CallR X (.builtin "min") (fun xs H Q=>∃ (p:Addr) (ns:List Int),xs=[.ref p]/\SqL X.K H p (ns.map V.int)/\ns ≠ []/\∀ m,m ∈ ns->(∀ z ∈ ns,m <= z)->Q (.int m) H):=by
 intro pins s σ H xs us Q I r h
 obtain ⟨p,ns,rfl,hq,hne,q⟩:=h
 obtain ⟨u,rfl,ru⟩:=r.one
 cases ru
 obtain ⟨its,rv,pl,hz⟩:=I.list hq
 have hi:=intsAre_of rv
 obtain ⟨ys,ey⟩:=hi.allInts.items
 have hn:ys.toList.map (·.1)=ns:=by
  have:=hi.numsOf
  rw [show its=its.toArray.toList from rfl,ey,nums_intItems] at this
  exact this
 have hlen:ys.size=ns.length:=by rw [← hn]; simp
 have hpos:0 < ys.size:=by
  rw [hlen]
  exact List.length_pos_iff.mpr hne
 have hL:=pl.isList
 rw [ey] at hL
 refine min_intList (I.ok.hd hc) hL hpos fun v h' tk hv hk=>?_
 obtain ⟨t,rfl⟩:=intItems_at hv
 obtain ⟨b1,b2⟩:=argBest_lt (numAt ys) (ys.size - 1)
 refine ⟨.int _,H,I.kept (t':=tk) hk,⟨t,rfl⟩,q _ ?_ fun z hzm=>?_⟩
 ·rw [numAt_eq,hn]
  exact getD_mem (by omega)
 ·rw [← hn] at hzm
  obtain ⟨j,hj,rfl⟩:=mem_getD hzm
  rw [List.length_map,Array.length_toList] at hj
  rw [← numAt_eq]
  exact b2 j (by omega)
end
section
variable {prog:Program} {w:World} {A:Around} {E:Value->Shared->Prop} {s:Shared} {I:Addr} {fp wr:List Addr} {G:Array GenState->Array GenState->Prop} {n:Nat} {P:Nat->Value->Prop} {St:Nat->Shared->Prop}
theorem extend_rev {R:Result->Shared->Prop} (W:WalksS prog w A.in1 I fp wr G n P St) (ty:∀ i s,St i s->s.TypeIs (.ref I) "list_reverseiterator") (S:Addr) (res:Value) (c₀:Nat) (st:St 0 s) (nf:S ∉ fp) (inI:I ∈ fp)
  (hS:s.heap.get? S=some { cls := .type "list",data := .seq #[] c₀ })
  (k:∀ s' acc c,PySem.Moved (S :: wr) G s s'->s'.heap.get? S=some { cls := .type "list",dict:=none,data := .seq acc c,slots:=#[] }->ItemsOf P acc n->R (.ok (.ret res)) s') (few:n <= sizeLine) :
  wpAny (model prog w) A.in1 (Builtin.List.listExtendWith (.ref S) (.ref I) res)
   (fun fin s'=>match fin with | .done f=>R (.ok f) s' | .again c'=>c'.quiet=true/\codeAny (model prog w) A c' R s') (fun e s'=>R (.error e) s') s:=by
 have nI:S ≠ I:=fun z=>nf (z ▸ inI)
 have no:Builtin.List.listSameRef (.ref S) (.ref I)=false:=by simp [Builtin.List.listSameRef,nI]
 unfold Builtin.List.listExtendWith
 refine wpAny_bind (wpAny_typeOf (ty 0 _ st) ?_)
 rw [if_neg (by simp [no])]
 refine wpAny_bind (W.self 0 _ _ _ st (wpAny_bind (wpAny_holding ?_)))
 unfold Builtin.List.listLengthHint
 refine wpAny_bind (wpAny_specialOf (ty 0 _ st) lri_len ?_)
 show wpAny _ A.in1 (specialOf (Value.ref I) (Str.ofString "__length_hint__") >>= _) _ _ _
 refine wpAny_bind (wpAny_specialOf (ty 0 _ st) lri_hint ?_)
 generalize hid:("list_reverseiterator.__length_hint__":String)=id0
 (fail_if_success (clear hid id0))
 wp_delta
 rw [show splitId id0=some ("list_reverseiterator", "__length_hint__") from by subst hid; decide +kernel]
 subst hid
 refine wpAny_bind (wpAny_isInstance (b:=true) (ty 0 _ st) (by rw [isSubtype_type]; kernel_rfl) (wpAny_pure ?_))
 rw [if_neg (by decide)]
 exact wpAny_pure ⟨plainId_quiet F.plain_extend_loop _,codeAny_extend_loopS W few _ nf _ n 0 _ _ _ rfl (Nat.zero_le _) st hS (ItemsOf.nil P) fun s' acc' c' m' g' it'=>k s' acc' c' m' g' it'⟩
theorem init_rev {R:Result->Shared->Prop} (W:WalksS prog w A.in1 I fp wr G n P St) (ty:∀ i s,St i s->s.TypeIs (.ref I) "list_reverseiterator") (S:Addr) (st:St 0 s) (nf:S ∉ fp) (inI:I ∈ fp)
  (hS:s.heap.get? S=some { cls := .type "list",data := .seq #[] })
  (k:∀ s' acc c,PySem.Moved (S :: wr) G s s'->s'.heap.get? S=some { cls := .type "list",dict:=none,data := .seq acc c,slots:=#[] }->ItemsOf P acc n->R (.ok (.ret .none)) s') (few:n <= sizeLine) :
  wpAny (model prog w) A.in1 (Builtin.«list.__init__» ⟨[.ref S, .ref I],[]⟩)
   (fun fin s'=>match fin with | .done f=>R (.ok f) s' | .again c'=>c'.quiet=true/\codeAny (model prog w) A c' R s') (fun e s'=>R (.error e) s') s:=by
 show wpAny _ A.in1 (Builtin.List.listItems (.ref S) >>= fun old=>Builtin.List.listUpdate (.ref S) (fun _=>#[]) >>= fun _=>letGo old.toList.reverse >>= fun _=>Builtin.List.listExtendWith (.ref S) (.ref I) .none) _ _ s
 refine wpAny_bind ?_
 unfold Builtin.List.listItems
 refine wpAny_bind (wpAny_seqItems hS rfl (wpAny_pure ?_))
 refine wpAny_bind (wpAny_updateSeq hS rfl ?_)
 have g2:=Heap.get?_update_self (Obj.mapSeq (fun _=>(#[]:Array Value))) hS rfl
 have oth:∀ b o,b ≠ S->s.heap.get? b=some o->(s.heap.update S (Obj.mapSeq (fun _=>(#[]:Array Value)))).get? b=some o:=fun b o hb e=>(Heap.get?_update_other _ _ (Ne.symm hb)).trans e
 refine wpAny_bind (wpAny_letGo ?_)
 refine extend_rev W ty S .none _ (W.frame 0 s _ s.toks st (Nat.le_refl _) fun b hb o e=>oth b o (fun h=>nf (h ▸ hb)) e) nf inI g2 (fun s' acc' c' hm hS' hacc=>?_) few
 exact k s' acc' c' (PySem.Moved.trans W.gtrans ((PySem.Moved.refl W.grefl).then_heap (Nat.le_refl _) fun b o hb e=>oth b o (fun h=>hb (h ▸ List.mem_cons_self)) e) hm) hS' hacc
theorem call_list_rev {Q:Value->Shared->Prop} (W:WalksS prog w A.in1.in1 I fp wr G n P St) (ty:∀ i s,St i s->s.TypeIs (.ref I) "list_reverseiterator") (st:St 0 s) (below:∀ b ∈ fp,b < s.heap.objs.size) (inI:I ∈ fp)
  (k:∀ s' acc c,PySem.Moved (s.heap.objs.size :: wr) G { s with heap:=s.heap.push { cls := .type "list",data := .seq #[] } } s' ->
   s'.heap.get? s.heap.objs.size=some { cls := .type "list",dict:=none,data := .seq acc c,slots:=#[] }->ItemsOf P acc n->Q (.ref s.heap.objs.size) s') (few:n <= sizeLine) :
  wpAny (model prog w) A (call (.type "list") [.ref I]) Q E s:=by
 have nf:s.heap.objs.size ∉ fp:=fun z=>Nat.lt_irrefl _ (below _ z)
 refine callType_codes (Q₁:=fun obj s₁=>obj = .ref s.heap.objs.size/\s₁ = { s with heap:=s.heap.push { cls := .type "list",data := .seq #[] } }) F.called_list (F.typeCall_list_1 _) F.entry_list_init (code_list_new _ ⟨rfl,rfl⟩) fun obj s₁ h₁=>?_
 obtain ⟨rfl,rfl⟩:=h₁
 have hS:(s.heap.push { cls := .type "list",data := .seq #[] }).get? s.heap.objs.size=some { cls := .type "list",data := .seq #[] }:=Heap.get?_push_size _ rfl
 exact ⟨⟨_,hS,rfl⟩,F.args_list_init_2 _ _,init_rev W ty _ (W.frame 0 s _ s.toks st (Nat.le_refl _) fun b _ o e=>Heap.get?_push_of_some _ e) nf inI hS (fun s' acc' c' hm hS' hacc=>⟨rfl,k s' acc' c' hm hS' hacc⟩) few⟩
end
section
variable {X:Cx}
def tLstRev (K:PySem.W.Frag) (ta:TA):TE:=fun σ H Q=>ta σ H fun vs H1=>∃ l xs,vs=[.ref l]/\SqL K H1 l xs/\∀ t,H1 t=none->Q (.ref t) (upd H1 t (.lst xs.reverse))
theorem pe_lstRev {a:Expr} {ta:TA} {p1 p2 pos1 pos2:Pos} (hc:X.calm=true) (g1:Gl X "list") (m1:X.mg "list" = none) (g2:Gl X "reversed") (m2:X.mg "reversed" = none) (ha:PA X [a] ta) (hs:starEach [a] X.env=[(false,eval a X.env)]:=by rfl)
  (hs2:starEach [.Call (.Name "reversed" p2) [a] [] pos2] X.env=[(false,eval (.Call (.Name "reversed" p2) [a] [] pos2) X.env)]:=by rfl):PE X (.Call (.Name "list" p1) [.Call (.Name "reversed" p2) [a] [] pos2] [] pos1) (tLstRev X.K ta):=by
 intro pins s σ H Q I h
 refine Call_ (ld_blt I g1 m1 PySem.Pv.boot_list (PyProof.Rows.callWith_type1 ?_ hs2 rfl))
 rw [hs2]
 refine Calls.spliced_cons ?_
 refine Call_ (ld_blt I g2 m2 (show bootBuiltins "reversed" = some (.type "reversed") by decide +kernel) (PyProof.Rows.callWith_type1 (thn (ha pos2 pins s σ H _ I h) fun us s1 ⟨vs,H1,I1,r1,q1⟩=>?_) hs rfl))
 obtain ⟨l,xs,e,hq,q⟩:=q1
 subst e
 obtain ⟨u,rfl,ru⟩:=r1.one
 cases ru
 obtain ⟨its,rv,pl,hz⟩:=I1.list hq
 have hl:its.toArray.size=xs.length:=by rw [List.size_toArray]; exact rv.length.symm
 refine call_reversed_list pl.isList (Calls.spliced_nil ?_)
 have hlt:l < s1.heap.objs.size:=by obtain ⟨o,ho,_⟩:=pl.isList; exact Heap.lt_size ho
 have hne:l ≠ s1.heap.objs.size:=Nat.ne_of_lt hlt
 have W:=(Walks.listRev (prog:=X.prog) (w:=X.w) (A:=X.A.in1.in1) (I1.ok.hd hc) s1.heap.objs.size l hne its.toArray).toS
 have hp:(s1.heap.push (revObj l ((its.toArray.size:Int) - 1))).objs.size=s1.heap.objs.size + 1:=Heap.size_push ..
 refine call_list_rev (s:={ s1 with heap:=s1.heap.push (revObj l ((its.toArray.size:Int) - 1)) }) W (fun i s z=>z.2.1.typeIs) ⟨Nat.zero_le _,⟨_,Heap.get?_push_size _ rfl,rfl,by simp [revObj]⟩,pl.isList.at fun o e=>Heap.get?_push_of_some _ e⟩ (fun b hb=>?_) (by simp) (fun s' acc c mv hS' it=>?_) (by rw [hl]; exact hz)
 ·have hb':b=s1.heap.objs.size∨b=l:=by simpa using hb
  show b < (s1.heap.push _).objs.size
  rw [hp]
  rcases hb' with rfl | rfl
  ·exact Nat.lt_succ_self _
  ·exact Nat.lt_succ_of_lt hlt
 ·obtain ⟨h',g',d',tk',os'⟩:=s'
  have e1:g' = s1.gens:=mv.gens
  have e2:d' = s1.drawn:=mv.drawn
  have e3:os' = s1.os:=mv.os
  subst e1 e2 e3
  have keep:∀ b o,s1.heap.get? b=some o->h'.get? b=some o:=fun b o e=>by
   have hb:=Heap.lt_size e
   refine mv.heap b o ?_ (Heap.get?_push_of_some _ (Heap.get?_push_of_some _ e))
   show ¬ b ∈ (s1.heap.push _).objs.size :: [s1.heap.objs.size]
   rw [hp]
   simp only [List.mem_cons,List.not_mem_nil,or_false,not_or]
   exact ⟨Nat.ne_of_lt (Nat.lt_succ_of_lt hb),Nat.ne_of_lt hb⟩
  have hv:Vals xs.reverse acc.toList:=by
   refine vals_at2 (by rw [List.length_reverse,← hl]; exact it.1.symm) fun i x u hx hu=>?_
   have hi:i < xs.length:=by have:=(List.getElem?_eq_some_iff.mp hx).1; rw [List.length_reverse] at this; exact this
   have hu':=it.2 i u (by simpa using hu)
   rw [hl] at hu'
   rw [List.getElem?_reverse hi] at hx
   have hu2:its[xs.length - 1 - i]? = some u:=by simpa using hu'
   obtain ⟨u2,e2,r2⟩:=rv.get hx
   rw [hu2] at e2
   cases e2
   exact r2
  have hsz:s1.heap.objs.size <= (s1.heap.push (revObj l ((its.toArray.size:Int) - 1))).objs.size:=by rw [hp]; exact Nat.le_succ _
  exact ⟨.ref _,_,I1.laid (a:=(s1.heap.push (revObj l ((its.toArray.size:Int) - 1))).objs.size) (o := .lst xs.reverse) (t':=tk') (h':=h') keep hsz ⟨by rw [List.length_reverse]; exact hz,acc.toList,c,hv,by simpa using hS'⟩,rfl,q _ (I1.hok.fresh hsz)⟩
end
end L2
namespace L2
open PySem PySem.Spec PyProof.Rows
section
variable {prog:Program} {w:World} {A:Around} {E:Value->Shared->Prop} {s:Shared}
theorem okey_iter {d:Addr} {es:Array DictEntry} {ep:Nat} {Q:Value->Shared->Prop} (hd:(d == sysModules)=false) (ty:s.TypeIs (.ref d) "dict") (en:Ents s.heap d es ep)
  (k:Q (.ref s.heap.objs.size) { s with heap:=s.heap.push { cls := .type "dict_keyiterator",data := .fields #[.ref d, .int 0 0, .int es.size 0, .int ep 0] } }):wpAny (model prog w) A (pyIter (.ref d)) Q E s:=by
 obtain ⟨od,gd,fd⟩:=en
 refine wpAny_pyIter_slot ty F.slot_dict_iter (wpAny_call_entry F.slot_dict_iter ty F.entry_dict_iter ?_ (F.args_dict_iter_1 _))
 unfold Builtin.«dict.__iter__» Builtin.Dict.dictSlotNone
 refine wpAny_bind (wpAny_bind (wpAny_notOrdered_dict ty (wpAny_pure ?_)))
 show wpAny _ _ (Builtin.Dict.showsAll d >>= _) _ _ s
 unfold Builtin.Dict.showsAll
 rw [if_neg (by simp [hd])]
 refine wpAny_bind (wpAny_pure (wpAny_bind (wpAny_dictEntries gd fd (wpAny_bind (wpAny_dictEpoch gd fd ?_)))))
 refine wpAny_bind (wpAny_newObj_type (wpAny_pure ⟨_,rfl, "dict_keyiterator",_,⟨_,Heap.get?_push_size _ rfl,rfl⟩,F.slot_dict_keyiterator_next.lookup,?_⟩))
 simpa [rawInt] using k
theorem okey_place {it d:Addr} {i ep:Nat} {es:Array DictEntry} {Q:Option Value->Shared->Prop} (st:s.heap.IsKeyIter it d i es.size ep) (en:Ents s.heap d es ep)
  (hin:∀ (e:DictEntry),es[i]? = some e->∀ h',h'.IsKeyIter it d (i + 1) es.size ep->Heap.SameBut it s.heap h'->Q (some e.key) { s with heap:=h' })
  (hout:es[i]? = none->A.handled=none/\∀ h',(∀ x o,x ≠ it->s.heap.get? x=some o->h'.get? x=some o)->Q none { s with heap:=h' }):wpAny (model prog w) A (pyNext (.ref it)) Q E s:=by
 obtain ⟨o,go,co,fo⟩:=id st
 obtain ⟨od,gd,fd⟩:=en
 have ty:s.TypeIs (.ref it) "dict_keyiterator":=⟨o,go,co⟩
 have own:Builtin.Dict_items.ownsTuple "dict_keyiterator" = false:=by decide
 unfold pyNext
 refine wpAny_bind (wpAny_attempt (wpAny_callSpecial?_slot (name:=Str.ofString "__next__") ty F.slot_dict_keyiterator_next (wpAny_call_entry F.slot_dict_keyiterator_next ty F.entry_dict_keyiterator_next ?_ (F.args_dict_keyiterator_next_1 _))))
 refine wpAny_bind (wpAny_pure (wpAny_bind (wpAny_bind (wpAny_bind (wpAny_typeNameOfWhole_keyiter ty (wpAny_pure (wpAny_bind (wpAny_fieldsOf go fo ?_))))))))
 simp only [own,Bool.false_eq_true,if_false]
 show wpAny _ _ (if (Value.ref d == Value.none)=true then _ else _) _ _ _
 rw [if_neg (by simp)]
 refine wpAny_bind (wpAny_pure (wpAny_bind (wpAny_dictEntries gd fd ?_)))
 rw [if_neg (by simp)]
 refine wpAny_bind (wpAny_pure (wpAny_bind (wpAny_dictEpoch gd fd ?_)))
 rw [if_neg (by simp)]
 refine wpAny_pure ?_
 simp only [show ¬ ((i:Int) < 0) by omega,if_false,Int.toNat_natCast]
 cases ee:es[i]? with
 | none =>
  obtain ⟨hh,k⟩:=hout ee
  dsimp only
  refine wpAny_bind (wpAny_bind (wpAny_typeNameOfWhole_keyiter ty (wpAny_pure ?_)))
  show wpAny _ _ (setField (.ref it) 0 .none >>= _) _ _ _
  refine wpAny_bind (wpAny_setField go fo (by simp) ?_)
  show wpAny _ _ (newExc (.type "StopIteration") [] >>= _) _ _ _
  simp only [newExc,newTuple]
  refine wpAny_bind (wpAny_bind (wpAny_newObj_type ?_ (by size_fits)))
  refine wpAny_bind (m:=firstArgMember _ _) (wpAny_of_eq (a:=Value.none) (by simp only [firstArgMember]; rfl) ?_)
  refine wpAny_newObj_type ?_ (by size_fits)
  simp only [raiseNew]
  refine wpAny_bind (wpAny_handled ?_)
  rw [show A.in1.handled=Option.none from hh]
  refine wpAny_bind (wpAny_pure (wpAny_throw ?_))
  refine wpAny_bind (wpAny_isInstance (T := "StopIteration") (b:=true) ⟨_,Heap.get?_push_size _ rfl,rfl⟩ isSubtype_stop (wpAny_pure (k _ ?_)))
  exact ((Heap.SameBut.update ..).extBut.push _).push _
 | some e =>
  have k:=hin e ee
  clear hin hout
  dsimp only
  refine wpAny_bind (wpAny_bind (wpAny_typeNameOfWhole_keyiter ty (wpAny_pure (wpAny_bind (wpAny_isOneOf_keyiter ty ?_)))))
  show wpAny _ _ (setField (.ref it) 1 (rawInt ((i:Int) + 1)) >>= _) _ _ _
  refine wpAny_bind (wpAny_setField go fo (by simp) ?_)
  have st1:(s.heap.update it (Obj.mapFields (·.setIfInBounds 1 (rawInt ((i:Int) + 1))))).IsKeyIter it d (i + 1) es.size ep:=⟨_,Heap.get?_update_self _ go (Obj.isFreed_of_fields (Obj.data_mapFields fo _)),(Obj.cls_mapFields ..).trans co,by rw [Obj.data_mapFields fo]; simp [rawInt]⟩
  refine wpAny_bind (wpAny_holding (wpAny_bind (wpAny_isOneOf_keyiter (s:={ s with heap:=s.heap.update it (Obj.mapFields (·.setIfInBounds 1 (rawInt ((i:Int) + 1)))) }) st1.typeIs ?_)))
  show wpAny _ _ (pure e.key) _ _ _
  exact wpAny_pure (wpAny_pure ⟨_,rfl,wpAny_pure (k _ st1 (Heap.SameBut.update ..))⟩)
end
def Ito (P:Program) (w:World) (a:Addr) (o:Obj) (kvs:List Ent):It :=
 ⟨fun i H=>H a=some (.frz o (DicO P w a kvs))/\i < kvs.length,fun i H v H'=>H' = H/\∃ x,kvs[i]? = some x/\v = .ref x.2.1,fun i H=>H a=some (.frz o (DicO P w a kvs))/\i=kvs.length⟩
theorem turn_okeys {P:Program} {w:World} {K:PySem.W.Frag} {tg:Expr} (a it:Addr) (o:Obj) (kvs:List Ent) (es:Array DictEntry) (ep:Nat) (hd:o.data = .dict es ep) (hl:es.size=kvs.length)
  (hx:∀ (i:Nat) (x:Ent),kvs[i]? = some x->∃ e:DictEntry,es[i]? = some e/\e.key = .ref x.2.1/\RelV x.2.2 e.val):Turn P w K tg (Ito P w a o kvs) [it] it (fun i h=>h.IsKeyIter it a i es.size ep) where
 mem:=by simp
 obj:=fun i h st b hb=>by
  have e:b=it:=by simpa using hb
  subst e
  obtain ⟨ob,e,c,d⟩:=st
  exact ⟨ob,e,fun v z=>by rw [d] at z; cases z⟩
 keep:=fun i h h' st k=>by
  obtain ⟨ob,e,c,d⟩:=st
  exact ⟨ob,k it (by simp) ob e,c,d⟩
 item:=by
  intro X hP hw hK hc i pins s σ H E I hf st hg
  subst hP hw hK
  obtain ⟨ha,hi⟩:=hg
  have hx':=hx i kvs[i] (List.getElem?_eq_getElem hi)
  have hkv:=List.getElem?_eq_getElem hi
  generalize kvs[i]=ent at hx' hkv
  obtain ⟨e,he,ke,re⟩:=hx'
  obtain ⟨f0,f1,f2,f3,f4,f5⟩:=hf it (by simp)
  refine okey_place st ⟨o,(I.hok a _ ha).1,hd⟩ (fun e' he' h1 g1 q1=>⟨_,rfl,?_⟩) (fun z=>by rw [he] at z; cases z)
  rw [he] at he'
  cases he'
  have I1:Inv X pins σ H { s with heap:=h1 }:=I.turned (t':=s.toks) (fun b o hb e=>(q1.2 b hb).trans e) f0 f1 f3 f4 f5
  obtain ⟨ob,eo,c,d⟩:=id g1
  exact go_of (s:={ s with heap:=h1 }) eo c d (by decide) ⟨.ref ent.2.1,H,I1,ke,⟨rfl,ent,hkv,rfl⟩,g1,fun b hb=>(hf b hb).1⟩
 done:=by
  intro X hP hw hK hc i pins s σ H E I hf st hg
  subst hP hw hK
  obtain ⟨ha,rfl⟩:=hg
  obtain ⟨f0,f1,f2,f3,f4,f5⟩:=hf it (by simp)
  exact okey_place st ⟨o,(I.hok a _ ha).1,hd⟩ (fun e' he'=>by rw [Array.getElem?_eq_none (by omega)] at he'; cases he') (fun _=>⟨I.ok.hd hc,fun h1 k1=>⟨rfl,I.turned (t':=s.toks) (fun b o hb e=>k1 b o hb e) f0 f1 f3 f4 f5⟩⟩)
 self:=fun _ _ _ _ _ st h=>wpAny_pyIter_keyiter st h
section
variable {X:Cx} {tg:Expr}
theorem dicO_ob {P:Program} {w:World} {H:Hp} {h:Heap} {a:Addr} {kvs:List Ent} (dp:DicP P w a kvs h):∃ ob es ep,h.get? a=some ob/\ob.data = .dict es ep/\es.size=kvs.length/\(∀ (i:Nat) (x:Ent),kvs[i]? = some x->∃ e:DictEntry,es[i]? = some e/\e.key = .ref x.2.1/\RelV x.2.2 e.val)/\ob.cls = .type "dict"/\ob.dict=none:=by
 obtain ⟨hz,hs,xs,r,ob,es,ep,g,ex,hd,he,hr⟩:=id dp
 obtain ⟨es2,ep2,hd2,hl2,hx2⟩:=dic_ents dp g
 exact ⟨ob,es2,ep2,g,hd2,hl2,hx2,ex.1,ex.2.1⟩
def iOKeys (P:Program) (w:World) (tl:TE):TI:=fun σ H R=>tl σ H fun x H1=>∃ a kvs,x = .ref a/\H1 a=some (DicO P w a kvs)/\∀ o,R (Ito P w a o kvs) (upd H1 a (.frz o (DicO P w a kvs)))
theorem pi_okeys {l:Expr} {tl:TE} (hl:PE X l tl):PI X tg l (iOKeys X.prog X.w tl):=by
 intro pins s σ H R I h
 refine thn (hl pins s σ H _ I h) fun v s1 ⟨x,H1,I1,r1,a,kvs,ex,ha,q⟩=>?_
 subst ex
 cases (show v=Value.ref a from r1)
 obtain ⟨dp,_,stab⟩:=I1.hok a _ ha
 obtain ⟨ob,es,ep,gb,hd,hsz,hx,hc,hdn⟩:=dicO_ob (H:=H1) dp
 have I2:Inv X pins σ (upd H1 a (.frz ob (DicO X.prog X.w a kvs))) s1:=I1.write (x:=a) (e:=a) (h':=s1.heap) (t':=s1.toks) (by rw [ha]; exact True.intro) (.inl rfl) (fun b u _ q=>q) ⟨_,gb⟩ ⟨gb,dp,⟨ob,gb⟩,stab⟩
 refine okey_iter dp.2.1 ⟨ob,gb,hc⟩ ⟨ob,gb,hd⟩ ?_
 refine ⟨s1.heap.objs.size,[s1.heap.objs.size],_,_,_,rfl,I2.kept (t':=s1.toks) fun b o e=>Heap.get?_push_of_some _ e,turn_okeys a _ ob kvs es ep hd hsz hx,⟨_,Heap.get?_push_size _ rfl,rfl,rfl⟩,fun b hb=>?_,q ob⟩
 have e:b=s1.heap.objs.size:=by simpa using hb
 subst e
 exact I2.fpOk (Nat.le_refl _) (I2.hok.fresh (Nat.le_refl _))
theorem for_okeys {P:Program} {w:World} {a:Addr} {o:Obj} {kvs:List Ent} {g:TG} {tb:TS} {D:Ends} {σ:St} {H:Hp} (Pv:Nat->St->Hp->Prop) (h0:Pv 0 σ H) (hl:∀ i σ H,i <= kvs.length->Pv i σ H->H a=some (.frz o (DicO P w a kvs)))
  (hs:∀ i x σ H,kvs[i]? = some x->Pv i σ H->g (.ref x.2.1) σ H fun σ2 H2=>tb { D with nx:=Pv (i + 1),ct:=Pv (i + 1),bk:=D.nx } σ2 H2) (hd:∀ σ H,Pv kvs.length σ H->D.nx σ H) :
  ∃ W:Nat->Nat->St->Hp->Prop,(∃ m,W 0 m σ H)/\∀ i m σ H,W i m σ H ->
   ((Ito P w a o kvs).stop i H/\D.nx σ H)∨((Ito P w a o kvs).go i H/\∃ N:St->Hp->Prop,(∀ σ' H',N σ' H'->∃ m',m' < m/\W (i + 1) m' σ' H')/\∀ x H',(Ito P w a o kvs).yld i H x H'->g x σ H' fun σ2 H2=>tb { D with nx:=N,ct:=N,bk:=D.nx } σ2 H2):=by
 refine ⟨fun i m σ H=>m=kvs.length - i/\i <= kvs.length/\Pv i σ H,⟨kvs.length,by simp,Nat.zero_le _,h0⟩,?_⟩
 rintro i m σ H ⟨rfl,hi,p⟩
 have q:=hl i σ H hi p
 by_cases hlt:i < kvs.length
 ·refine .inr ⟨⟨q,hlt⟩,Pv (i + 1),fun σ' H' p'=>⟨kvs.length - (i + 1),by omega,rfl,hlt,p'⟩,fun x H' y=>?_⟩
  obtain ⟨e,x',hx',rfl⟩:=y
  subst e
  exact hs i x' σ _ hx' p
 ·have e:i=kvs.length:=by omega
  subst e
  exact .inl ⟨⟨q,rfl⟩,hd σ H p⟩
theorem src_okeys {prog:Program} {w:World} {d:Addr} {es:Array DictEntry} {ep:Nat} (lo:(d == sysModules)=false):PySem.W.KdlSrc prog w "dict" d d es.size (fun i v=>∃ e,es[i]? = some e/\e.key=v) (fun h=>∃ o,h.get? d=some o/\o.cls = .type "dict"/\o.data = .dict es ep) where
 type:=fun _ ⟨o,g,c,_⟩=>⟨o,g,c⟩
 there:=fun _ ⟨o,g,_⟩=>⟨Heap.lt_size g,Heap.lt_size g⟩
 keep:=fun _ _ ⟨o,g,c⟩ hk=>⟨o,hk d (.inl rfl) o g,c⟩
 notList:=by decide
 notTuple:=by decide
 hint:=fun _ _ _ _ ⟨o,g,c,_⟩ hq=>PySem.W.kdl_hint_dict ⟨o,g,c⟩ hq
 iter:=fun A s hh ⟨o,g,c,hd⟩=>by
  refine ⟨_,fun i h=>h.IsKeyIter s.heap.objs.size d i es.size ep/\Ents h d es ep,(fun _ _ hq=>okey_iter lo ⟨o,g,c⟩ ⟨o,g,hd⟩ hq),?_,⟨_,Heap.get?_push_size _ rfl,rfl,rfl⟩,⟨o,Heap.get?_push_of_some _ g,hd⟩⟩
  have hne:d ≠ s.heap.objs.size:=Nat.ne_of_lt (Heap.lt_size g)
  refine ⟨fun b hb=>by simp at hb; simp [hb],fun i h h' st hk=>⟨st.1.at fun o e=>hk _ (by simp) o e,?_⟩,fun i s' Q E hi st hQ=>?_,fun s' Q E st hQ=>?_,fun i s' Q E st hQ=>wpAny_pyIter_keyiter st.1 hQ⟩
  ·obtain ⟨o2,g2,d2⟩:=st.2
   exact ⟨o2,hk d (by simp) o2 g2,d2⟩
  ·refine okey_place st.1 st.2 (fun e he h' st' sb=>?_) (fun z=>by rw [Array.getElem?_eq_none_iff] at z; omega)
   obtain ⟨o2,g2,d2⟩:=st.2
   exact hQ e.key h' s'.toks ⟨e,he,rfl⟩ ⟨st',o2,(sb.2 d hne).trans g2,d2⟩ fun b o hb e=>(sb.2 b (fun z=>hb (by simp [z]))).trans e
  ·exact okey_place st.1 st.2 (fun e he=>by rw [Array.getElem?_eq_none (Nat.le_refl _)] at he; cases he) (fun _=>⟨hh,fun h' k=>hQ h' s'.toks fun b o hb e=>k b o (fun z=>hb (by simp [z])) e⟩)
theorem call_list_okeys (hc:X.calm=true):CallR X (.type "list") (fun xs H Q=>∃ (a:Addr) (kvs:List Ent),xs=[.ref a]/\H a=some (DicO X.prog X.w a kvs)/\∀ l,H l=none->Q (.ref l) (upd H l (.lst (kvs.map fun x=>V.ref x.2.1)))):=by
 intro pins s σ H xs us Q I r h
 obtain ⟨a,kvs,rfl,ha,q⟩:=h
 obtain ⟨u,rfl,ru⟩:=r.one
 cases ru
 obtain ⟨dp,_,stab⟩:=I.hok a _ ha
 obtain ⟨ob,es,ep,gb,hd,hsz,hx,hcl,hdn⟩:=dicO_ob (H:=H) dp
 have z:=dp.1
 refine PySem.W.kdl_call (src_okeys (ep:=ep) dp.2.1) (I.ok.hd hc) ⟨ob,gb,hcl,hd⟩ (by rw [hsz]; exact z) fun h' tk acc c keep hl it=>?_
 have hv:Vals (kvs.map fun x=>V.ref x.2.1) acc.toList:=by
  refine vals_at (by rw [List.length_map,← hsz]; exact it.1.symm) fun i x u hx' hu=>?_
  obtain ⟨e,he,rfl⟩:=it.2 i u (by simpa using hu)
  rw [List.getElem?_map] at hx'
  cases hk:kvs[i]? with
  | none=>rw [hk] at hx'; cases hx'
  | some y =>
   rw [hk] at hx'
   obtain ⟨e2,he2,ke2,_⟩:=hx i y hk
   rw [he] at he2
   cases he2
   have hx':V.ref y.2.1=x:=Option.some.inj hx'
   rw [← hx']
   exact ke2
 exact ⟨.ref _,_,I.laid (a:=s.heap.objs.size) (o := .lst (kvs.map fun x=>V.ref x.2.1)) (t':=tk) (fun b q hq=>keep b q hq) (Nat.le_refl _) ⟨by rw [List.length_map]; exact z,acc.toList,c,hv,by simpa using hl⟩,rfl,q _ (I.hok.fresh (Nat.le_refl _))⟩
theorem len_ents {prog:Program} {w:World} {A:Around} {E:Value->Shared->Prop} {s:Shared} {d:Addr} {es:Array DictEntry} {ep:Nat} {Q:Value->Shared->Prop} (hd:(d == sysModules)=false) (ty:s.TypeIs (.ref d) "dict") (en:Ents s.heap d es ep) (hfit:(es.size:Int) < 2 ^ 63)
  (h:Q (.int es.size (s.toks + 1)) { s with toks:=s.toks + 1 + 1 }):wpAny (model prog w) A (call (.builtin "len") [.ref d]) Q E s:=by
 obtain ⟨o,go,fo⟩:=en
 have M:MeetsIn prog w (Builtin.«dict.__len__» ⟨[.ref d],[]⟩) (fun _ R s'=>(∃ o',s'.heap.get? d=some o'/\o'.data = .dict es ep)/\R (.ok (.ret (.int es.size s'.toks))) { s' with toks:=s'.toks + 1 }) := .of_wp fun A' R' s' ⟨⟨o',g',d'⟩,k⟩=>by
  show wpAny _ _ (dictSize d >>= fun n=>Builtin.Dict.pendingCount d >>= _) _ _ s'
  unfold dictSize
  refine wpAny_bind (wpAny_bind (wpAny_dictEntries g' d' (wpAny_pure (wpAny_bind (wpAny_pendingCount_other hd (wpAny_ret_mkInt ?_))))))
  rw [Nat.add_zero]
  exact k
 refine Calls.call_function_entry kind_len plain_len entry_len (args_len1 _) ?_
 unfold Builtin.«len»
 refine wpAny_bind (m:=oneArg "len" _) (wpAny_pure (wpAny_bind (m:=callSpecial? (.ref d) (Str.ofString "__len__")) (wpAny_callSpecial?_slot (name:=Str.ofString "__len__") ty F.slot_dict_len (call_meetsIn F.slot_dict_len ty F.entry_dict_len (F.args_dict_len_1 _) M ⟨⟨o,go,fo⟩,?_⟩))))
 show wpAny _ _ _ _ _ { s with toks:=s.toks + 1 }
 refine wpAny_bind (wpAny_holding (wpAny_pure (wpAny_bind (wpAny_letGo ?_))))
 show wpAny _ _ (if ((es.size:Nat):Int) < 0 then _ else _) _ _ _
 rw [if_neg (by omega)]
 show wpAny _ _ (if ((es.size:Nat):Int) ≥ 2 ^ 63 then _ else _) _ _ _
 rw [if_neg (by omega)]
 exact wpAny_bind (wpAny_mkInt (wpAny_pure ⟨_,rfl,h⟩))
theorem call_lenO:CallR X (.builtin "len") (fun xs H Q=>∃ (a:Addr) (kvs:List Ent),xs=[.ref a]/\H a=some (DicO X.prog X.w a kvs)/\Q (.int kvs.length) H):=by
 intro pins s σ H xs us Q I r h
 obtain ⟨a,kvs,rfl,ha,q⟩:=h
 obtain ⟨u,rfl,ru⟩:=r.one
 cases ru
 obtain ⟨dp,_,stab⟩:=I.hok a _ ha
 obtain ⟨ob,es,ep,gb,hd,hsz,hx,hcl,hdn⟩:=dicO_ob (H:=H) dp
 have z:=dp.1
 refine len_ents dp.2.1 ⟨ob,gb,hcl⟩ ⟨ob,gb,hd⟩ (by rw [hsz]; rw [sizeLine_eq] at z; omega) ?_
 rw [hsz]
 exact ⟨.int kvs.length,H,I.tok _,⟨_,rfl⟩,q⟩
def DicR (P:Program) (w:World) (H:Hp) (a:Addr) (kvs:List Ent):Prop:=Rd H a (DicO P w a kvs)/\∀ x ∈ kvs,H x.2.1=some (.tup (x.1.map okV))
theorem dicO_rd {P:Program} {w:World} {H:Hp} {h:Heap} {a:Addr} {kvs:List Ent} (ok:HOk P w H h) (e:DicR P w H a kvs):∃ xs,Paired EntR kvs xs/\h.DictOfH (tupleKind (optKind P w)) a xs:=by
 obtain ⟨⟨_,_,xs,rel,o,es,ep,g1,g2,g3,g4,g5⟩,_,_⟩:=e.1.ok ok
 refine ⟨xs,rel,o,es,ep,g1,g2,g3,g4,fun y hy=>?_,g5⟩
 obtain ⟨i,hi,ei⟩:=List.getElem_of_mem hy
 have hik:i < kvs.length:=by rw [Paired.length rel]; exact hi
 obtain ⟨y',hy',r1,r2,r3⟩:=ent_get rel (List.getElem?_eq_getElem hik)
 rw [List.getElem?_eq_getElem hi,ei] at hy'
 cases hy'
 rw [← r1,← r2]
 exact opt_key ok (e.2 _ (List.getElem_mem hik))
def tOIx (P:Program) (w:World) (td ty:TE):TE:=fun σ H Q=>td σ H fun x H1=>ty σ H1 fun y H2=>∃ a kvs k b v,x = .ref a/\DicR P w H2 a kvs/\y = .ref b/\H2 b=some (.tup (k.map okV))/\valO kvs k=some v/\Q v H2
theorem pe_oix {o i:Expr} {td ty:TE} {pos:Pos} (hu:X.A.units + 1 < cLine) (ho:PE X o td) (hi:PE X i ty) (hs:NoSl i):PE X (.Subscript o i pos) (tOIx X.prog X.w td ty):=by
 intro pins s σ H Q I h
 refine subD_of PySem.F.slot_dict_getitem.lookup hs (thn (ho pins s σ H _ I h) fun u s1 ⟨x,H1,I1,rx,q1⟩=>thn (hi pins s1 σ H1 _ I1 q1) fun iv s2 ⟨y,H2,I2,ry,a,kvs,k,b,v,ex,dr,ey,eb,hv,q2⟩=>?_)
 subst ex ey
 obtain rfl:u=Value.ref a:=rx
 obtain rfl:iv=Value.ref b:=ry
 obtain ⟨xs,rel,dd⟩:=dicO_rd I2.hok dr
 have r:=ent_val rel k
 rw [hv] at r
 obtain ⟨u',e1,ru⟩:=RelO.some_of r
 cases e2:atKey xs k with
 | none=>rw [e2] at e1; cases e1
 | some p =>
  rw [e2] at e1
  have e1:p.2=u':=Option.some.inj e1
  refine ⟨dd.typeIs,wpAny_getItem_heap (tupleKind_room_in1 hu) (opt_key I2.hok eb) dd e2 ⟨v,H2,I2.tok _,by rw [e1]; exact ru,q2⟩⟩
end
end L2
namespace L2
open PySem
section
variable {X:Cx}
def tPost (t:TS):TS:=fun D σ H=>∃ Post:St->Hp->Prop,t { D with nx:=Post } σ H/\∀ σ' H',Post σ' H'->D.nx σ' H'
theorem ps_post {st:Stmt} {t:TS} (h:PS X st t):PS X st (tPost t):=fun pins s σ H D I ⟨Post,q,k⟩ =>
 thn (h pins s σ H _ I q) fun f s1 z=>by
  cases f with
  | next=>obtain ⟨σ1,H1,I1,p⟩:=z; exact ⟨σ1,H1,I1,k _ _ p⟩
  | brk=>exact z
  | cont=>exact z
  | ret u=>exact z
def tPostE (t:TE):TE:=fun σ H Q=>∃ Post:V->Hp->Prop,t σ H Post/\∀ v H',Post v H'->Q v H'
theorem pe_post {e:Expr} {t:TE} (h:PE X e t):PE X e (tPostE t):=fun pins s σ H Q I ⟨Post,q,k⟩ =>
 thn (h pins s σ H _ I q) fun u s1 ⟨v,H1,I1,r,p⟩=>⟨v,H1,I1,r,k v H1 p⟩
def tPostT (t:TT):TT:=fun σ H Q=>∃ Post:Bool->Hp->Prop,t σ H Post/\∀ b H',Post b H'->Q b H'
end
end L2
namespace LkM
abbrev Dn:=List (Nat × Nat)
abbrev Ld:=List Dn
def ks (d:Dn):List Nat:=d.map (·.1)
def addD (l g:Nat) (d:Dn):Dn:=if l ∈ ks d then d else d ++ [(l,g)]
def addL (l g:Nat) (L:Ld) (w:Nat):Ld:=L.set w (addD l g (L.getD w []))
def goalL (on:Nat->Nat->List Nat) (l:Nat) (L:Ld) (g:Nat):Ld:=(on g l).foldl (addL l g) L
def laneL (on:Nat->Nat->List Nat) (gs:Nat->List Nat) (L:Ld) (l:Nat):Ld:=(gs l).foldl (goalL on l) L
def leadsN (on:Nat->Nat->List Nat) (gs:Nat->List Nat) (n:Nat):Ld:=(List.range n).foldl (laneL on gs) (List.replicate n [])
theorem nd_le:∀ (n:Nat) (l:List Nat),l.Nodup->(∀ x ∈ l,x < n)->l.length <= n
 | 0,l,_,h=>by
  cases l with
  | nil=>exact Nat.le_refl _
  | cons x l=>exact absurd (h x List.mem_cons_self) (Nat.not_lt_zero _)
 | n + 1,l,hn,h=>by
  by_cases hm:n ∈ l
  ·have e:=List.length_erase_of_mem hm
   have:=nd_le n (l.erase n) (hn.erase n) fun x hx=>by
    have hx':=(hn.mem_erase_iff).mp hx
    have:=h x hx'.2
    have:=hx'.1
    omega
   omega
  ·have:=nd_le n l hn fun x hx=>by
    have:=h x hx
    have:x ≠ n:=fun z=>hm (by rw [← z]; exact hx)
    omega
   omega
theorem nd_full {n:Nat} {l:List Nat} (hn:l.Nodup) (h:∀ x ∈ l,x < n) (hl:n <= l.length):∀ x,x < n->x ∈ l:=by
 intro x hx
 by_cases hm:x ∈ l
 ·exact hm
 ·have:=nd_le n (x :: l) (List.nodup_cons.mpr ⟨hm,hn⟩) fun y hy=>by
   rcases List.mem_cons.mp hy with e | hy
   ·rw [e]; exact hx
   ·exact h y hy
  simp at this
  omega
structure LdOk (on:Nat->Nat->List Nat) (gs:Nat->List Nat) (n:Nat) (L:Ld):Prop where
 len:L.length=n
 nd:∀ w,(ks (L.getD w [])).Nodup
 of:∀ w,∀ x ∈ L.getD w [],x.1 < n/\x.2 ∈ gs x.1/\w ∈ on x.2 x.1
theorem getD_set (L:Ld) (w v:Nat) (d:Dn):(L.set w d).getD v []=if w=v/\w < L.length then d else L.getD v []:=by
 rw [List.getD_eq_getElem?_getD,List.getElem?_set]
 by_cases h:w=v
 ·rw [if_pos h]
  by_cases hl:w < L.length
  ·rw [if_pos hl,if_pos ⟨h,hl⟩]; rfl
  ·rw [if_neg hl,if_neg fun z=>hl z.2,List.getD_eq_getElem?_getD,List.getElem?_eq_none (by omega)]
 ·rw [if_neg h,if_neg fun z=>h z.1,List.getD_eq_getElem?_getD]
theorem addD_nd {l g:Nat} {d:Dn} (h:(ks d).Nodup):(ks (addD l g d)).Nodup:=by
 unfold addD
 split
 ·exact h
 ·next hn =>
  unfold ks at *
  rw [List.map_append,List.nodup_append]
  refine ⟨h,by simp,fun y hy c hc=>?_⟩
  have hc:c=l:=by simpa using hc
  intro z
  rw [z,hc] at hy
  exact hn hy
theorem addD_mem {l g:Nat} {d:Dn} {x:Nat × Nat} (h:x ∈ addD l g d):x ∈ d∨x=(l,g):=by
 unfold addD at h
 split at h
 ·exact .inl h
 ·rcases List.mem_append.mp h with h | h
  ·exact .inl h
  ·exact .inr (List.mem_singleton.mp h)
theorem addD_key {l g:Nat} {d:Dn}:l ∈ ks (addD l g d):=by
 unfold addD
 split
 ·assumption
 ·unfold ks; simp
theorem addD_mono {l g z:Nat} {d:Dn} (h:z ∈ ks d):z ∈ ks (addD l g d):=by
 unfold addD
 split
 ·exact h
 ·unfold ks at *
  rw [List.map_append]
  exact List.mem_append_left _ h
variable {on:Nat->Nat->List Nat} {gs:Nat->List Nat} {n:Nat}
theorem LdOk.add {L:Ld} {l g w:Nat} (h:LdOk on gs n L) (hl:l < n) (hg:g ∈ gs l) (hw:w ∈ on g l):LdOk on gs n (addL l g L w) where
 len:=by unfold addL; rw [List.length_set]; exact h.len
 nd:=fun v=>by
  unfold addL
  rw [getD_set]
  split
  ·exact addD_nd (h.nd w)
  ·exact h.nd v
 of:=fun v x hx=>by
  unfold addL at hx
  rw [getD_set] at hx
  split at hx
  ·next e =>
   rcases addD_mem hx with hx | e2
   ·rw [← e.1]; exact h.of w x hx
   ·rw [e2,← e.1]; exact ⟨hl,hg,hw⟩
  ·exact h.of v x hx
theorem LdOk.goal {l g:Nat} (hl:l < n) (hg:g ∈ gs l):∀ (ws:List Nat) {L:Ld},LdOk on gs n L->(∀ z ∈ ws,z ∈ on g l)->LdOk on gs n (ws.foldl (addL l g) L)
 | [],_,h,_=>h
 | z :: ws,L,h,hw=>LdOk.goal hl hg ws (h.add hl hg (hw z List.mem_cons_self)) fun y hy=>hw y (List.mem_cons_of_mem _ hy)
theorem LdOk.lane {l:Nat} (hl:l < n):∀ (qs:List Nat) {L:Ld},LdOk on gs n L->(∀ z ∈ qs,z ∈ gs l)->LdOk on gs n (qs.foldl (goalL on l) L)
 | [],_,h,_=>h
 | z :: qs,L,h,hw=>LdOk.lane hl qs (LdOk.goal hl (hw z List.mem_cons_self) _ h fun y hy=>hy) fun y hy=>hw y (List.mem_cons_of_mem _ hy)
theorem LdOk.all:∀ (ls:List Nat) {L:Ld},LdOk on gs n L->(∀ z ∈ ls,z < n)->LdOk on gs n (ls.foldl (laneL on gs) L)
 | [],_,h,_=>h
 | z :: ls,L,h,hw=>LdOk.all ls (LdOk.lane (hw z List.mem_cons_self) _ h fun y hy=>hy) fun y hy=>hw y (List.mem_cons_of_mem _ hy)
theorem rep_getD (m w:Nat):(List.replicate m ([]:Dn)).getD w []=[]:=by
 rw [List.getD_eq_getElem?_getD,List.getElem?_replicate]
 split <;> rfl
theorem LdOk.init:LdOk on gs n (List.replicate n []) where
 len:=List.length_replicate
 nd:=fun w=>by rw [rep_getD]; exact List.nodup_nil
 of:=fun w x hx=>by rw [rep_getD] at hx; cases hx
theorem leads_ok:LdOk on gs n (leadsN on gs n):=LdOk.all _ LdOk.init fun z hz=>List.mem_range.mp hz
theorem LdOk.few {L:Ld} (h:LdOk on gs n L) (w:Nat):(L.getD w []).length <= n:=by
 have:=nd_le n (ks (L.getD w [])) (h.nd w) fun x hx=>by
  obtain ⟨y,hy,rfl⟩:=List.mem_map.mp hx
  exact (h.of w y hy).1
 unfold ks at this
 rwa [List.length_map] at this
theorem add_mono {L:Ld} {l g w z v:Nat} (h:z ∈ ks (L.getD v [])):z ∈ ks ((addL l g L w).getD v []):=by
 unfold addL
 rw [getD_set]
 split
 ·next e=>rw [← e.1] at h; exact addD_mono h
 ·exact h
theorem goal_mono {l g z v:Nat}:∀ (ws:List Nat) {L:Ld},z ∈ ks (L.getD v [])->z ∈ ks ((ws.foldl (addL l g) L).getD v [])
 | [],_,h=>h
 | _ :: ws,_,h=>goal_mono ws (add_mono h)
theorem lane_mono {l z v:Nat}:∀ (qs:List Nat) {L:Ld},z ∈ ks (L.getD v [])->z ∈ ks ((qs.foldl (goalL on l) L).getD v [])
 | [],_,h=>h
 | _ :: qs,_,h=>lane_mono qs (goal_mono _ h)
theorem all_mono {z v:Nat}:∀ (ls:List Nat) {L:Ld},z ∈ ks (L.getD v [])->z ∈ ks ((ls.foldl (laneL on gs) L).getD v [])
 | [],_,h=>h
 | _ :: ls,_,h=>all_mono ls (lane_mono _ h)
theorem addL_len (l g:Nat) (L:Ld) (w:Nat):(addL l g L w).length=L.length:=by unfold addL; rw [List.length_set]
theorem goal_len {l g:Nat}:∀ (ws:List Nat) (L:Ld),(ws.foldl (addL l g) L).length=L.length
 | [],_=>rfl
 | w :: ws,L=>by rw [List.foldl_cons,goal_len ws,addL_len]
theorem lane_len {l:Nat}:∀ (qs:List Nat) (L:Ld),(qs.foldl (goalL on l) L).length=L.length
 | [],_=>rfl
 | q :: qs,L=>by rw [List.foldl_cons,lane_len qs]; exact goal_len _ _
theorem goal_cov {l g w:Nat}:∀ (ws:List Nat) {L:Ld},w ∈ ws->w < L.length->l ∈ ks ((ws.foldl (addL l g) L).getD w [])
 | z :: ws,L,h,hw=>by
  rcases List.mem_cons.mp h with e | h
  ·subst e
   refine goal_mono ws ?_
   unfold addL
   rw [getD_set,if_pos ⟨rfl,hw⟩]
   exact addD_key
  ·exact goal_cov ws h (by rw [addL_len]; exact hw)
theorem lane_cov {l g w:Nat} (hw:w ∈ on g l):∀ (qs:List Nat) {L:Ld},g ∈ qs->w < L.length->l ∈ ks ((qs.foldl (goalL on l) L).getD w [])
 | z :: qs,L,h,hl=>by
  rcases List.mem_cons.mp h with e | h
  ·subst e
   exact lane_mono qs (goal_cov _ hw hl)
  ·exact lane_cov hw qs h (by show w < (goalL on l L z).length; unfold goalL; rw [goal_len]; exact hl)
theorem all_cov {l g w:Nat} (hw:w ∈ on g l) (hg:g ∈ gs l):∀ (ls:List Nat) {L:Ld},l ∈ ls->w < L.length->l ∈ ks ((ls.foldl (laneL on gs) L).getD w [])
 | z :: ls,L,h,hl=>by
  rcases List.mem_cons.mp h with e | h
  ·subst e
   exact all_mono ls (lane_cov hw _ hg hl)
  ·exact all_cov hw hg ls h (by show w < (laneL on gs L z).length; unfold laneL; rw [lane_len]; exact hl)
theorem leads_cov {l g w:Nat} (hl:l < n) (hg:g ∈ gs l) (hw:w ∈ on g l) (hwn:w < n):l ∈ ks ((leadsN on gs n).getD w []) :=
 all_cov hw hg _ (List.mem_range.mpr hl) (by rw [List.length_replicate]; exact hwn)
def freeB (L:Ld) (a:Dn) (l:Nat):Bool:=!decide (l ∈ ks a) && (ks (L.getD l [])).all fun k=>decide (k ∈ ks a)
def freeN (L:Ld) (a:Dn):List Nat:=(List.range L.length).filter (freeB L a)
def addA (a:Dn) (fs:List Nat) (m:Nat):Dn:=a ++ fs.map fun l=>(l,m)
def numR (L:Ld):Nat->Dn->Nat->Dn
 | 0,a,_=>a
 | f + 1,a,m=>if freeN L a=[] then a else numR L f (addA a (freeN L a) m) (m + 1)
def numN (L:Ld):Dn:=numR L (L.length + 1) [] 0
theorem numR_end {L:Ld} {a:Dn} {m:Nat} (h:freeN L a=[]):∀ f,numR L f a m=a
 | 0=>rfl
 | f + 1=>by rw [numR,if_pos h]
theorem numR_step {L:Ld} {a:Dn} {m f:Nat} (h:freeN L a ≠ []):numR L (f + 1) a m=numR L f (addA a (freeN L a) m) (m + 1):=by rw [numR,if_neg h]
theorem mem_free {L:Ld} {a:Dn} {l:Nat}:l ∈ freeN L a↔l < L.length/\l ∉ ks a/\∀ k ∈ ks (L.getD l []),k ∈ ks a:=by
 unfold freeN freeB
 rw [List.mem_filter,List.mem_range]
 simp only [Bool.and_eq_true,Bool.not_eq_true',decide_eq_false_iff_not,List.all_eq_true,decide_eq_true_eq]
theorem free_nd (L:Ld) (a:Dn):(freeN L a).Nodup:=List.Pairwise.filter _ List.nodup_range
theorem ks_addA (a:Dn) (fs:List Nat) (m:Nat):ks (addA a fs m)=ks a ++ fs:=by
 unfold ks addA
 rw [List.map_append,List.map_map]
 congr 1
 exact (List.map_congr_left (fun x _=>rfl)).trans (List.map_id _)
structure NumOk (L:Ld) (a:Dn) (m:Nat):Prop where
 nd:(ks a).Nodup
 lt:∀ x ∈ ks a,x < L.length
 bd:∀ x ∈ a,x.2 < m
 few:m <= a.length
 low:∀ x ∈ a,∀ k ∈ ks (L.getD x.1 []),∃ y ∈ a,y.1=k/\y.2 < x.2
 top:∀ x ∈ a,x.2=0∨∃ y ∈ a,y.1 ∈ ks (L.getD x.1 [])/\y.2 + 1=x.2
 cl:0 < m->∀ l,l < L.length->(∀ k ∈ ks (L.getD l []),∃ y ∈ a,y.1=k/\y.2 + 1 < m)->l ∈ ks a
theorem NumOk.nil (L:Ld):NumOk L [] 0:=⟨List.nodup_nil,(fun x h=>by cases h),(fun x h=>by cases h),Nat.le_refl _,(fun x h=>by cases h),(fun x h=>by cases h),fun h=>absurd h (Nat.lt_irrefl _)⟩
theorem NumOk.len {L:Ld} {a:Dn} {m:Nat} (h:NumOk L a m):a.length <= L.length:=by
 have:=nd_le _ _ h.nd h.lt
 unfold ks at this
 rwa [List.length_map] at this
theorem mem_ks {a:Dn} {k:Nat} (h:k ∈ ks a):∃ y ∈ a,y.1=k:=List.mem_map.mp h
theorem ks_mem {a:Dn} {y:Nat × Nat} (h:y ∈ a):y.1 ∈ ks a:=List.mem_map.mpr ⟨y,h,rfl⟩
theorem mem_addA {a:Dn} {fs:List Nat} {m:Nat} {x:Nat × Nat}:x ∈ addA a fs m↔x ∈ a∨(x.1 ∈ fs/\x.2=m):=by
 unfold addA
 rw [List.mem_append,List.mem_map]
 constructor
 ·rintro (h | ⟨l,hl,rfl⟩)
  ·exact .inl h
  ·exact .inr ⟨hl,rfl⟩
 ·rintro (h | ⟨h1,h2⟩)
  ·exact .inl h
  ·exact .inr ⟨x.1,h1,by rw [← h2]⟩
theorem NumOk.step {L:Ld} {a:Dn} {m:Nat} (h:NumOk L a m) (hf:freeN L a ≠ []):NumOk L (addA a (freeN L a) m) (m + 1) where
 nd:=by
  rw [ks_addA,List.nodup_append]
  refine ⟨h.nd,free_nd L a,fun x hx y hy e=>?_⟩
  subst e
  exact (mem_free.mp hy).2.1 hx
 lt:=fun x hx=>by
  rw [ks_addA] at hx
  rcases List.mem_append.mp hx with hx | hx
  ·exact h.lt x hx
  ·exact (mem_free.mp hx).1
 bd:=fun x hx=>by
  rcases mem_addA.mp hx with hx | ⟨_,hx⟩
  ·exact Nat.lt_succ_of_lt (h.bd x hx)
  ·omega
 few:=by
  unfold addA
  rw [List.length_append,List.length_map]
  have:=h.few
  have:=List.length_pos_iff.mpr hf
  omega
 low:=fun x hx k hk=>by
  rcases mem_addA.mp hx with hx | ⟨h1,h2⟩
  ·obtain ⟨y,hy,e1,e2⟩:=h.low x hx k hk
   exact ⟨y,mem_addA.mpr (.inl hy),e1,e2⟩
  ·obtain ⟨y,hy,e⟩:=mem_ks ((mem_free.mp h1).2.2 k hk)
   exact ⟨y,mem_addA.mpr (.inl hy),e,by rw [h2]; exact h.bd y hy⟩
 top:=fun x hx=>by
  rcases mem_addA.mp hx with hx | ⟨h1,h2⟩
  ·rcases h.top x hx with e | ⟨y,hy,e1,e2⟩
   ·exact .inl e
   ·exact .inr ⟨y,mem_addA.mpr (.inl hy),e1,e2⟩
  ·rcases Nat.eq_zero_or_pos m with e | hm
   ·exact .inl (by omega)
   ·obtain ⟨f1,f2,f3⟩:=mem_free.mp h1
    refine Classical.byContradiction fun hc=>f2 (h.cl hm x.1 f1 fun k hk=>?_)
    obtain ⟨y,hy,e⟩:=mem_ks (f3 k hk)
    refine ⟨y,hy,e,?_⟩
    have hb:=h.bd y hy
    rcases Nat.lt_or_ge (y.2 + 1) m with hlt | hge
    ·exact hlt
    ·exact absurd (.inr ⟨y,mem_addA.mpr (.inl hy),by rw [e]; exact hk,by omega⟩) hc
 cl:=fun _ l hl hk=>by
  rw [ks_addA]
  by_cases hm:l ∈ ks a
  ·exact List.mem_append_left _ hm
  ·refine List.mem_append_right _ (mem_free.mpr ⟨hl,hm,fun k hkk=>?_⟩)
   obtain ⟨y,hy,e,hlt⟩:=hk k hkk
   rcases mem_addA.mp hy with hy | ⟨_,h2⟩
   ·rw [← e]; exact ks_mem hy
   ·omega
theorem num_of {L:Ld}:∀ (f:Nat) {a:Dn} {m:Nat},NumOk L a m->L.length + 1 <= f + a.length->∃ m',NumOk L (numR L f a m) m'/\freeN L (numR L f a m)=[]
 | 0,a,m,h,hf=>by
  have:=h.len
  omega
 | f + 1,a,m,h,hf=>by
  by_cases e:freeN L a=[]
  ·rw [numR_end e]
   exact ⟨m,h,e⟩
  ·rw [numR_step e]
   refine num_of f (h.step e) ?_
   unfold addA
   rw [List.length_append,List.length_map]
   have:=List.length_pos_iff.mpr e
   omega
theorem num_ok (L:Ld):∃ m,NumOk L (numN L) m/\freeN L (numN L)=[]:=num_of _ (NumOk.nil L) (by simp)
def valD (d:Dn) (l:Nat):Option Nat:=(d.find? fun x=>decide (x.1=l)).map (·.2)
theorem val_mem {d:Dn} {l g:Nat} (h:valD d l=some g):(l,g) ∈ d:=by
 unfold valD at h
 cases e:d.find? fun x=>decide (x.1=l) with
 | none=>rw [e] at h; cases h
 | some y =>
  rw [e] at h
  have h1:=List.mem_of_find?_eq_some e
  have h2:=List.find?_some e
  have h2:y.1=l:=of_decide_eq_true h2
  have h3:y.2=g:=Option.some.inj h
  rw [← h2,← h3]; exact h1
theorem val_some {d:Dn} {l:Nat} (h:l ∈ ks d):∃ g,valD d l=some g:=by
 unfold valD
 obtain ⟨y,hy,e⟩:=mem_ks h
 cases e2:d.find? fun x=>decide (x.1=l) with
 | none =>
  rw [List.find?_eq_none] at e2
  exact absurd (decide_eq_true e) (e2 y hy)
 | some z=>exact ⟨z.2,rfl⟩
theorem nd_val {d:Dn} (h:(ks d).Nodup) {x:Nat × Nat} (hx:x ∈ d):valD d x.1=some x.2:=by
 obtain ⟨g,e⟩:=val_some (ks_mem hx)
 have hm:=val_mem e
 obtain ⟨i,hi,ei⟩:=List.getElem_of_mem hm
 obtain ⟨j,hj,ej⟩:=List.getElem_of_mem hx
 have e1:(ks d)[i]? = some x.1:=by unfold ks; rw [List.getElem?_map,List.getElem?_eq_getElem hi,ei]; rfl
 have e2:(ks d)[j]? = some x.1:=by unfold ks; rw [List.getElem?_map,List.getElem?_eq_getElem hj,ej]; rfl
 obtain ⟨h3,e3⟩:=List.getElem?_eq_some_iff.mp e1
 obtain ⟨h4,e4⟩:=List.getElem?_eq_some_iff.mp e2
 have:i=j:=(List.getElem_inj h).mp (e3.trans e4.symm)
 subst this
 rw [e,← ej,ei]
def numsOf (a:Dn) (n:Nat):List Nat:=(List.range n).map fun l=>(valD a l).getD 0
structure NumsOk (on:Nat->Nat->List Nat) (gs:Nat->List Nat) (n:Nat) (N:List Nat):Prop where
 len:N.length=n
 up:∀ l g w,l < n->w < n->g ∈ gs l->w ∈ on g l->N.getD l 0 < N.getD w 0
 top:∀ w,w < n->N.getD w 0=0∨∃ l g,l < n/\g ∈ gs l/\w ∈ on g l/\N.getD l 0 + 1=N.getD w 0
 bd:∀ w,w < n->N.getD w 0 < n
theorem numsOf_at {a:Dn} {n l:Nat} (h:l < n):(numsOf a n).getD l 0=(valD a l).getD 0:=by
 unfold numsOf
 rw [List.getD_eq_getElem?_getD,List.getElem?_map,List.getElem?_range h]; rfl
theorem nums_ok (hf:(numN (leadsN on gs n)).length=n):NumsOk on gs n (numsOf (numN (leadsN on gs n)) n):=by
 have hL:LdOk on gs n (leadsN on gs n):=leads_ok
 have hc:∀ {l g w:Nat},l < n->g ∈ gs l->w ∈ on g l->w < n->l ∈ ks ((leadsN on gs n).getD w []):=leads_cov
 obtain ⟨m,h,_⟩:=num_ok (leadsN on gs n)
 generalize leadsN on gs n=L at hL hc hf h
 generalize numN L=a at hf h
 have hn:=hL.len
 have full:∀ x,x < n->x ∈ ks a:=nd_full h.nd (fun x hx=>by rw [← hn]; exact h.lt x hx) (by unfold ks; rw [List.length_map]; omega)
 have at_:∀ l,l < n->∃ y ∈ a,y.1=l/\(numsOf a n).getD l 0=y.2:=fun l hl=>by
  obtain ⟨y,hy,e⟩:=mem_ks (full l hl)
  refine ⟨y,hy,e,?_⟩
  rw [numsOf_at hl,← e,nd_val h.nd hy]; rfl
 have uniq:∀ {y z:Nat × Nat},y ∈ a->z ∈ a->y.1=z.1->y.2=z.2:=fun {y z} hy hz e=>by
  have e1:=nd_val h.nd hy
  have e2:=nd_val h.nd hz
  rw [e] at e1
  rw [e1] at e2
  exact Option.some.inj e2
 refine ⟨by unfold numsOf; rw [List.length_map,List.length_range],fun l g w hl hw hg hwon=>?_,fun w hw=>?_,fun w hw=>?_⟩
 ·obtain ⟨y,hy,e1,e2⟩:=at_ l hl
  obtain ⟨z,hz,e3,e4⟩:=at_ w hw
  rw [e2,e4]
  obtain ⟨u,hu,e5,e6⟩:=h.low z hz l (by rw [e3]; exact hc hl hg hwon hw)
  rw [uniq hy hu (by rw [e1,e5])]
  exact e6
 ·obtain ⟨z,hz,e3,e4⟩:=at_ w hw
  rw [e4]
  rcases h.top z hz with e | ⟨y,hy,e5,e6⟩
  ·exact .inl e
  ·rw [e3] at e5
   obtain ⟨x,hx,ex⟩:=mem_ks e5
   obtain ⟨b1,b2,b3⟩:=hL.of w x hx
   rw [ex] at b1 b2 b3
   obtain ⟨u,hu,e7,e8⟩:=at_ y.1 b1
   refine .inr ⟨y.1,x.2,b1,b2,b3,?_⟩
   rw [e8,uniq hu hy e7]; exact e6
 ·obtain ⟨z,hz,e3,e4⟩:=at_ w hw
  rw [e4]
  have:=h.bd z hz
  have:=h.few
  omega
def minN:List Nat->Nat
 | []=>0
 | [x]=>x
 | x :: y :: t=>min x (minN (y :: t))
theorem minN_mem:∀ {l:List Nat},l ≠ []->minN l ∈ l
 | [],h=>absurd rfl h
 | [x],_=>List.mem_singleton.mpr rfl
 | x :: y :: t,_=>by
  show min x (minN (y :: t)) ∈ _
  rcases Nat.le_total x (minN (y :: t)) with h | h
  ·rw [Nat.min_eq_left h]; exact List.mem_cons_self
  ·rw [Nat.min_eq_right h]; exact List.mem_cons_of_mem _ (minN_mem (List.cons_ne_nil _ _))
theorem minN_le:∀ {l:List Nat} {z:Nat},z ∈ l->minN l <= z
 | [x],z,h=>by rw [List.mem_singleton.mp h]; exact Nat.le_refl _
 | x :: y :: t,z,h=>by
  show min x (minN (y :: t)) <= z
  rcases List.mem_cons.mp h with e | h
  ·rw [e]; exact Nat.min_le_left ..
  ·exact Nat.le_trans (Nat.min_le_right ..) (minN_le h)
theorem minN_eq {l:List Nat} {m:Nat} (hm:m ∈ l) (h:∀ z ∈ l,m <= z):m=minN l:=by
 have h1:=minN_le hm
 have h2:=h _ (minN_mem (List.ne_nil_of_mem hm))
 omega
def backs (L:Ld) (a:Dn) (l:Nat):List Nat:=(ks (L.getD l [])).filter fun k=>!decide (k ∈ ks a)
def leftN (L:Ld) (a:Dn):List Nat:=(List.range L.length).filter fun l=>!decide (l ∈ ks a)
def walkR (L:Ld) (a:Dn):Nat->List Nat->Nat->List Nat
 | 0,wk,l=>wk.drop (wk.idxOf l)
 | f + 1,wk,l=>if l ∈ wk then wk.drop (wk.idxOf l) else walkR L a f (wk ++ [l]) (minN (backs L a l))
def walkN (L:Ld) (a:Dn):List Nat:=walkR L a (L.length + 1) [] ((leftN L a).headD 0)
structure WkOk (L:Ld) (a:Dn) (wk:List Nat) (l:Nat):Prop where
 nd:wk.Nodup
 lt:∀ x ∈ wk,x < L.length/\x ∉ ks a
 cur:l < L.length/\l ∉ ks a
 nx:∀ i x y,wk[i]? = some x->wk[i + 1]? = some y->y ∈ ks (L.getD x [])
 last:∀ x,wk.getLast? = some x->l ∈ ks (L.getD x [])
theorem backs_ne {L:Ld} {a:Dn} (hf:freeN L a=[]) {l:Nat} (hl:l < L.length) (hn:l ∉ ks a):backs L a l ≠ []:=by
 intro h
 have hc:l ∈ freeN L a:=mem_free.mpr ⟨hl,hn,fun k hk=>by
  refine Classical.byContradiction fun hk2=>?_
  have:k ∈ backs L a l:=List.mem_filter.mpr ⟨hk,by rw [decide_eq_false hk2]; rfl⟩
  rw [h] at this
  cases this⟩
 rw [hf] at hc
 cases hc
theorem WkOk.step {L:Ld} {a:Dn} {wk:List Nat} {l:Nat} (hlt:∀ w,∀ x ∈ ks (L.getD w []),x < L.length) (h:WkOk L a wk l) (hf:freeN L a=[]) (hn:l ∉ wk):WkOk L a (wk ++ [l]) (minN (backs L a l)):=by
 have hm:=minN_mem (backs_ne hf h.cur.1 h.cur.2)
 obtain ⟨m1,m2⟩:=List.mem_filter.mp hm
 refine ⟨?_,fun x hx=>?_,⟨hlt _ _ m1,by simpa using m2⟩,fun i x y hx hy=>?_,fun x hx=>?_⟩
 ·rw [List.nodup_append]
  refine ⟨h.nd,by simp,fun x hx y hy e=>?_⟩
  rw [List.mem_singleton.mp hy] at e
  subst e
  exact hn hx
 ·rcases List.mem_append.mp hx with hx | hx
  ·exact h.lt x hx
  ·rw [List.mem_singleton.mp hx]; exact h.cur
 ·have hi:i + 1 < (wk ++ [l]).length:=(List.getElem?_eq_some_iff.mp hy).1
  rw [List.length_append,List.length_singleton] at hi
  rw [List.getElem?_append_left (by omega)] at hx
  rcases Nat.lt_or_ge (i + 1) wk.length with h1 | h1
  ·rw [List.getElem?_append_left h1] at hy
   exact h.nx i x y hx hy
  ·rw [List.getElem?_append_right h1] at hy
   have e0:i + 1 - wk.length=0:=by omega
   rw [e0] at hy
   have hy:l=y:=Option.some.inj hy
   subst hy
   refine h.last x ?_
   rw [List.getLast?_eq_getElem?]
   have:wk.length - 1=i:=by omega
   rw [this]; exact hx
 ·rw [List.getLast?_append] at hx
  have hx:l=x:=by simpa using hx
  subst hx
  exact m1
structure Cyc (L:Ld) (r:List Nat):Prop where
 ne:r ≠ []
 nd:r.Nodup
 lt:∀ x ∈ r,x < L.length
 nx:∀ i x y,r[i]? = some x->r[i + 1]? = some y->y ∈ ks (L.getD x [])
 cl:∀ x y,r.getLast? = some x->r.head? = some y->y ∈ ks (L.getD x [])
theorem cyc_of {L:Ld} {a:Dn} {wk:List Nat} {l:Nat} (h:WkOk L a wk l) (hm:l ∈ wk):Cyc L (wk.drop (wk.idxOf l)):=by
 have hi:wk.idxOf l < wk.length:=List.idxOf_lt_length_of_mem hm
 have hg:wk[wk.idxOf l]? = some l:=by rw [List.getElem?_eq_getElem hi,List.getElem_idxOf]
 refine ⟨fun z=>?_,List.Pairwise.sublist (List.drop_sublist _ _) h.nd,fun x hx=>(h.lt x (List.mem_of_mem_drop hx)).1,fun i x y hx hy=>?_,fun x y hx hy=>?_⟩
 ·have:=congrArg List.length z
  rw [List.length_drop] at this
  simp at this
  omega
 ·rw [List.getElem?_drop] at hx hy
  exact h.nx _ x y hx (by rw [← hy]; congr 1)
 ·rw [List.head?_drop,hg] at hy
  cases hy
  rw [List.getLast?_drop,if_neg (by omega)] at hx
  exact h.last x hx
theorem walk_of {L:Ld} {a:Dn} (hlt:∀ w,∀ x ∈ ks (L.getD w []),x < L.length) (hf:freeN L a=[]):∀ (f:Nat) {wk:List Nat} {l:Nat},WkOk L a wk l->L.length + 1 <= f + wk.length->Cyc L (walkR L a f wk l)
 | 0,wk,l,h,hl=>by
  have:=nd_le _ _ h.nd fun x hx=>(h.lt x hx).1
  omega
 | f + 1,wk,l,h,hl=>by
  rw [walkR]
  split
  ·exact cyc_of h (by assumption)
  ·exact walk_of hlt hf f (h.step hlt hf (by assumption)) (by rw [List.length_append,List.length_singleton]; omega)
theorem left_ne {L:Ld} {a:Dn} (hl:a.length < L.length):leftN L a ≠ []:=by
 intro h
 have hall:∀ x,x < L.length->x ∈ ks a:=fun x hx=>by
  refine Classical.byContradiction fun hn=>?_
  have:x ∈ leftN L a:=List.mem_filter.mpr ⟨List.mem_range.mpr hx,by rw [decide_eq_false hn]; rfl⟩
  rw [h] at this
  cases this
 have h1:∀ m,(∀ x,x < m->x ∈ ks a)->m <= (ks a).length:=fun m hm=>by
  have:=(List.nodup_range (n:=m)).length_le_of_subset (fun x hx=>hm x (List.mem_range.mp hx))
  rwa [List.length_range] at this
 have:=h1 _ hall
 unfold ks at this
 rw [List.length_map] at this
 omega
theorem walk_ok {L:Ld} {a:Dn} (hlt:∀ w,∀ x ∈ ks (L.getD w []),x < L.length) (hf:freeN L a=[]) (hl:a.length < L.length):Cyc L (walkN L a):=by
 unfold walkN
 refine walk_of hlt hf _ ?_ (by simp)
 have hne:=left_ne hl
 cases e:leftN L a with
 | nil=>exact absurd e hne
 | cons x t =>
  have hx:x ∈ leftN L a:=by rw [e]; exact List.mem_cons_self
  obtain ⟨h1,h2⟩:=List.mem_filter.mp hx
  exact ⟨List.nodup_nil,(fun y hy=>by cases hy),⟨List.mem_range.mp h1,by simpa using h2⟩,(fun i x y hx=>by simp at hx),fun x hx=>by simp at hx⟩
def rot (r:List Nat):List Nat:=r.drop 1 ++ r.take 1
def ringN (L:Ld) (r:List Nat):List (Nat × Nat):=(r.zip (rot r)).map fun p=>(p.1,(valD (L.getD p.2 []) p.1).getD 0)
theorem rot_len (r:List Nat):(rot r).length=r.length:=by
 unfold rot
 rw [List.length_append,List.length_drop,List.length_take]
 omega
theorem Cyc.fwd {L:Ld} {r:List Nat} (h:Cyc L r):∀ (i x y:Nat),r.reverse[i]? = some x->(rot r.reverse)[i]? = some y->x ∈ ks (L.getD y []):=by
 intro i x y hx hy
 have hi:i < r.length:=by have:=(List.getElem?_eq_some_iff.mp hx).1; rwa [List.length_reverse] at this
 unfold rot at hy
 rcases Nat.lt_or_ge (i + 1) r.length with h1 | h1
 ·rw [List.getElem?_append_left (by rw [List.length_drop,List.length_reverse]; omega),List.getElem?_drop,List.getElem?_reverse (by omega)] at hy
  rw [List.getElem?_reverse hi] at hx
  exact h.nx (r.length - 1 - (1 + i)) y x hy (by rw [← hx]; congr 1; omega)
 ·have e:i=r.length - 1:=by omega
  rw [List.getElem?_append_right (by rw [List.length_drop,List.length_reverse]; omega),List.length_drop,List.length_reverse] at hy
  have e0:i - (r.length - 1)=0:=by omega
  rw [e0,List.getElem?_take,if_pos (by omega),List.getElem?_reverse (by omega)] at hy
  rw [List.getElem?_reverse hi] at hx
  refine h.cl y x ?_ ?_
  ·rw [List.getLast?_eq_getElem?,← hy]; congr 1
  ·rw [List.head?_eq_getElem?,← hx]; congr 1; omega
end LkM
namespace L2
open PySem
theorem comp_gen {J:It} {g:TG} {tt:TT} {te:TE} {σ0:St} {H:Hp} {Q:VK} (n:Nat) (hn:n < sizeLine) (W:Nat->List V->Hp->Prop) (h0:W 0 [] H) (hlen:∀ i acc H',W i acc H'->acc.length <= i)
  (turn:∀ i acc H',i < n->W i acc H'->J.go i H'/\∀ x H2,J.yld i H' x H2->g x σ0 H2 fun σ2 H3=>tt σ2 H3 fun b H4=>if b=true then te σ2 H4 fun y H5=>W (i + 1) (acc ++ [y]) H5 else W (i + 1) acc H4)
  (stop:∀ acc H',W n acc H'->J.stop n H'/\∀ D,H' D=none->Q (.ref D) (upd H' D (.lst acc))):CompR J g tt te σ0 Q H:=by
 refine ⟨fun i m acc H'=>m=n - i/\i <= n/\W i acc H',⟨n,by simp,Nat.zero_le _,h0⟩,?_⟩
 rintro i m acc H' ⟨rfl,hi,w⟩
 refine ⟨by have:=hlen i acc H' w; omega,?_⟩
 by_cases hlt:i < n
 ·obtain ⟨go,q⟩:=turn i acc H' hlt w
  exact .inr ⟨go,fun acc' H2=>W (i + 1) acc' H2,fun acc' H2 w2=>⟨n - (i + 1),by omega,rfl,hlt,w2⟩,q⟩
 ·have e:i=n:=by omega
  subst e
  exact .inl (stop acc H' w)
theorem Same.new {H H':Hp} {a:Addr} {o:HO} (h:Same H H') (n:H' a=none):Same H (upd H' a o):=fun b u e=>by rw [upd_ne (ne_of_none (h _ _ e) n)]; exact h _ _ e
end L2
namespace K33
open PySem L2
def top (i:Nat):Stmt:=PySem.Challenge.pw_wormyard_k33_whole_never_both.main.body.getD i (.Pass ⟨0,0,0,0⟩)
abbrev sHas:Stmt:=top 2
abbrev sMem:Stmt:=top 3
abbrev sSet:Stmt:=top 4
abbrev sTM:Stmt:=inClass (top 8) 0
abbrev sNR:Stmt:=inClass (top 9) 0
abbrev sNE:Stmt:=inClass (top 10) 0
abbrev sWhole:Stmt:=top 12
abbrev sWithin:Stmt:=top 13
abbrev sOne:Stmt:=top 14
abbrev sTwo:Stmt:=top 18
abbrev sInit:Stmt:=inClass (top 19) 0
abbrev sEnd:Stmt:=inClass (top 19) 2
abbrev sOut:Stmt:=inClass (top 19) 3
abbrev sInto:Stmt:=inClass (top 19) 4
abbrev sFits:Stmt:=top 21
abbrev sOn:Stmt:=top 22
abbrev sTab:Stmt:=inClass (top 23) 0
abbrev sTabW:Stmt:=inClass (top 23) 1
abbrev sTold:Stmt:=inClass (top 24) 0
abbrev sToldW:Stmt:=inClass (top 24) 1
abbrev sStarts:Stmt:=top 26
abbrev sFirst:Stmt:=top 27
abbrev sAhead:Stmt:=top 28
abbrev sMet:Stmt:=top 29
abbrev sIsLost:Stmt:=top 30
abbrev sLost:Stmt:=top 31
abbrev sLeads:Stmt:=top 33
abbrev sNext:Stmt:=top 34
abbrev sNumb:Stmt:=top 35
abbrev sBack:Stmt:=top 36
abbrev sRing:Stmt:=top 37
abbrev sLook:Stmt:=top 38
abbrev sSize:Stmt:=top 40
abbrev sStF:Stmt:=top 41
abbrev sWayF:Stmt:=top 42
abbrev sPairF:Stmt:=top 43
abbrev sLaneF:Stmt:=top 44
abbrev sFault:Stmt:=top 45
abbrev sCell:Stmt:=top 47
abbrev sMixed:Stmt:=top 48
abbrev sDraws:Stmt:=top 49
abbrev sLanes:Stmt:=top 50
abbrev sLAlive:Stmt:=top 51
abbrev sWays:Stmt:=top 52
abbrev sEntr:Stmt:=top 53
abbrev sChgd:Stmt:=top 54
abbrev sLMet:Stmt:=top 55
abbrev sLaw:Stmt:=top 56
structure Txt (mg:Str->Option Value):Prop where
 isi:mg "isinstance" = none
 int:mg "int" = none
 bool:mg "bool" = none
 len:mg "len" = none
 enum:mg "enumerate" = none
 tuple:mg "tuple" = none
 range:mg "range" = none
 list:mg "list" = none
 all:mg "all" = none
 min:mg "min" = none
 revd:mg "reversed" = none
 zip:mg "zip" = none
def LnV (H:Hp) (v:V) (p:Int × Int):Prop:=∃ t,v = .ref t/\H t=some (.tup [.int p.1, .int p.2])
abbrev Lns (H:Hp):List V->List (Int × Int)->Prop:=Paired (LnV H)
theorem Lns.same {H H':Hp} (h:Same H H'):∀ {vs:List V} {ps:List (Int × Int)},Lns H vs ps->Lns H' vs ps
 | _,_, .nil => .nil
 | _,_, .cons ⟨t,e,q⟩ r => .cons ⟨t,e,h _ _ q⟩ (Lns.same h r)
theorem Lns.get {H:Hp}:∀ {vs:List V} {ps:List (Int × Int)} {i:Nat} {v:V},Lns H vs ps->vs[i]? = some v->∃ p,ps[i]? = some p/\LnV H v p
 | _,_,_,_, .nil,e=>by simp at e
 | _,_,0,_, .cons h _,e=>by simp at e; subst e; exact ⟨_,rfl,h⟩
 | _,_,i + 1,_, .cons _ r,e=>by
  obtain ⟨p,e1,h⟩:=Lns.get (i:=i) r (by simpa using e)
  exact ⟨p,by simpa using e1,h⟩
theorem Lns.get2 {H:Hp}:∀ {vs:List V} {ps:List (Int × Int)} {i:Nat} {p:Int × Int},Lns H vs ps->ps[i]? = some p->∃ v,vs[i]? = some v/\LnV H v p
 | _,_,_,_, .nil,e=>by simp at e
 | _,_,0,_, .cons h _,e=>by simp at e; subst e; exact ⟨_,rfl,h⟩
 | _,_,i + 1,_, .cons _ r,e=>by
  obtain ⟨p,e1,h⟩:=Lns.get2 (i:=i) r (by simpa using e)
  exact ⟨p,by simpa using e1,h⟩
theorem Lns.snoc {H:Hp} {v:V} {p:Int × Int} (h:LnV H v p):∀ {vs:List V} {ps:List (Int × Int)},Lns H vs ps->Lns H (vs ++ [v]) (ps ++ [p])
 | _,_, .nil => .cons h .nil
 | _,_, .cons q r => .cons q (Lns.snoc h r)
def okP (n:Int) (p:Int × Int):Bool:=decide (0 <= p.1/\p.1 <= n - 1) && (decide (0 <= p.2/\p.2 <= n - 1) && !decide (p.1=p.2))
def spWhole:Sp:=fun vs H Q _=>∃ i:Int,vs=[.int i]/\Q (.bl true) H
def spWithin:Sp:=fun vs H Q _=>∃ i a b:Int,vs=[.int i, .int a, .int b]/\Q (.bl (decide (a <= i/\i <= b))) H
def spTwo:Sp:=fun vs H Q _=>∃ n a b:Int,vs=[.int n, .int a, .int b]/\Q (.bl (okP n (a,b))) H
section
variable {P:Program} {w:World} {K:PySem.W.Frag} {mg:Str->Option Value} {base:Heap}
theorem scWhole:FnScope ["value"] ["value"] (defScope sWhole):=⟨rfl,rfl,rfl,by decide +kernel,rfl,by decide +kernel,by decide +kernel⟩
theorem ok_whole {f:Addr} {fd:FuncData} (F:Fun K "is_whole" "is_whole" sWhole f fd) (T:Txt mg):FnOk P w K mg base CX0 1 f fd ["value"] spWhole:=by
 refine F.ok scWhole (fun vs H Q E h=>?_) (fun cdv A outer s H vs Q E hr h=>?_)
 ·obtain ⟨m,rfl,_⟩:=h
  rfl
 ·obtain ⟨i,rfl,q⟩:=h
  refine ⟨_,pss_one (ps_ret (pe_and (pe_callB call_isi rfl T.isi PyProof.Rows.boot_isinstance (pa_cons (pv 0) (pa_cons (pe_bltn (v := .ty "int") rfl T.int PySem.Pv.boot_int rfl) pa_nil)))
   (pe_one (pe_not (pe_callB call_isi rfl T.isi PyProof.Rows.boot_isinstance (pa_cons (pv 0) (pa_cons (pe_bltn (v := .ty "bool") rfl T.bool PySem.Pv.boot_bool rfl) pa_nil))))))),?_⟩
  refine ⟨_,rfl, .inl ⟨i,rfl,true,rfl,?_⟩⟩
  refine iteT ?_
  exact ⟨_,rfl, .inr (.inl ⟨i,rfl,false,rfl,q⟩)⟩
theorem scWithin:FnScope ["value", "least", "most"] ["value", "least", "most"] (defScope sWithin):=⟨rfl,rfl,rfl,by decide +kernel,rfl,by decide +kernel,by decide +kernel⟩
theorem ok_within {f fh:Addr} {fd fdh:FuncData} (F:Fun K "is_within" "is_within" sWithin f fd) (T:Txt mg) (mh:mg "is_whole" = some (.ref fh)) (Fh:Fun K "is_whole" "is_whole" sWhole fh fdh) (bh:Binds K fdh ["value"] []) :
  FnOk P w K mg base CX0 2 f fd ["value", "least", "most"] spWithin:=by
 have G:FnOk P w K mg base CX0 1 fh fdh ["value"] spWhole:=ok_whole Fh T
 refine F.ok scWithin (fun vs H Q E h=>?_) (fun cdv A outer s H vs Q E hr h=>?_)
 ·obtain ⟨i,a,b,rfl,_⟩:=h
  rfl
 ·obtain ⟨i,a,b,rfl,q⟩:=h
  refine ⟨_,pss_one (ps_ret (pe_and (pe_call G hr rfl mh Fh.kp bh .nil pass0 (pa_cons (pv 0) pa_nil)) (pe_one (pe_chain op_le op_le (pv 1) (pv 0) (pv 2))))),?_⟩
  refine ⟨_,rfl,i,rfl,true,rfl,iteT ?_⟩
  refine ⟨_,rfl,_,rfl,_,_,rfl,rfl,_,rfl,?_⟩
  by_cases h1:a <= i
  ·rw [decide_eq_true h1]
   refine iteT ⟨_,rfl,_,_,rfl,rfl,?_⟩
   show Q (V.bl (decide (i <= b))) H
   by_cases h2:i <= b
   ·rw [decide_eq_true h2]; rw [decide_eq_true ⟨h1,h2⟩] at q; exact q
   ·rw [decide_eq_false h2]; rw [decide_eq_false fun z=>h2 z.2] at q; exact q
  ·rw [decide_eq_false h1]
   refine iteF ?_
   rw [decide_eq_false fun z=>h1 z.1] at q; exact q
theorem scTwo:FnScope ["places", "one", "other", "last"] ["places", "one", "other"] (defScope sTwo):=⟨rfl,rfl,rfl,by decide +kernel,rfl,by decide +kernel,by decide +kernel⟩
theorem ok_two {f fh:Addr} {fd fdh:FuncData} (F:Fun K "are_two_places" "are_two_places" sTwo f fd) (mh:mg "is_within" = some (.ref fh)) (kh:PySem.W.keepIn K (.ref fh)=true) (bh:Binds K fdh ["value", "least", "most"] [])
  (G:FnOk P w K mg base CX0 2 fh fdh ["value", "least", "most"] spWithin) :
  FnOk P w K mg base CX0 3 f fd ["places", "one", "other"] spTwo:=by
 refine F.ok scTwo (fun vs H Q E h=>?_) (fun cdv A outer s H vs Q E hr h=>?_)
 ·obtain ⟨i,a,b,rfl,_⟩:=h
  rfl
 ·obtain ⟨n,a,b,rfl,q⟩:=h
  refine ⟨_,pss_cons (ps_set (i:=3) scTwo.nd rfl (Or.inl rfl) (pe_op op_sub (pv 0) pe_int))
   (pss_one (ps_ret (pe_and (pe_call G hr rfl mh kh bh .nil pass0 (pa_cons (pv 1) (pa_cons pe_int (pa_cons (pv 3) pa_nil))))
    (pe_and (pe_call G hr rfl mh kh bh .nil pass0 (pa_cons (pv 2) (pa_cons pe_int (pa_cons (pv 3) pa_nil)))) (pe_one (pe_cmpR op_ne (pv 1) (pv 2) (nomark _))))))),?_⟩
  refine ⟨_,rfl,_,_,rfl,rfl,?_⟩
  refine ⟨_,rfl,_,rfl,a,0,n - 1,rfl,_,rfl,?_⟩
  unfold okP at q
  dsimp only at q
  by_cases h1:0 <= a/\a <= n - 1
  ·rw [decide_eq_true h1] at q ⊢
   rw [Bool.true_and] at q
   refine iteT ⟨_,rfl,_,rfl,b,0,n - 1,rfl,_,rfl,?_⟩
   by_cases h2:0 <= b/\b <= n - 1
   ·rw [decide_eq_true h2] at q ⊢
    rw [Bool.true_and] at q
    refine iteT ⟨_,rfl,_,rfl,rfl,?_⟩
    have e:decide (V.int a=V.int b)=decide (a=b):=by
     by_cases h:a=b
     ·rw [h]; simp
     ·rw [decide_eq_false h,decide_eq_false fun z=>h (by injection z)]
    show Q (V.bl (!decide (V.int a=V.int b))) H
    rw [e]; exact q
   ·rw [decide_eq_false h2] at q ⊢
    exact iteF q
  ·rw [decide_eq_false h1] at q ⊢
   exact iteF q
end
end K33
namespace L2
open PySem
theorem made_heap {H1:Hp} {e d:Addr} {o o' x:HO} (he:H1 e=none) (hd:upd H1 e o d=none) :
  Same H1 (del (upd (upd (upd H1 e o) d x) e o') e)/\(del (upd (upd (upd H1 e o) d x) e o') e) d=some x/\(upd (upd (upd H1 e o) d x) e o') e=some o':=by
 have hde:d ≠ e:=fun z=>by rw [z,upd_same] at hd; cases hd
 have hd1:H1 d=none:=by rw [upd_ne hde] at hd; exact hd
 refine ⟨fun b u q=>?_,?_,upd_same⟩
 ·have hbe:b ≠ e:=ne_of_none q he
  have hbd:b ≠ d:=ne_of_none q hd1
  rw [del_ne hbe,upd_ne hbe,upd_ne hbd,upd_ne hbe]; exact q
 ·rw [del_ne hde,upd_ne hde,upd_same]
end L2
namespace K33
open PySem L2
inductive Due | places | many (k:Nat) | lane (k:Nat) | good
def badIx (n:Int) (ps:List (Int × Int)):Option Nat:=ps.findIdx? fun p=>!okP n p
def dueOf (n:Int) (ps:List (Int × Int)):Due:=if decide (1 <= n/\n <= 12)=false then .places else if 40 < ps.length then .many ps.length else match badIx n ps with | some k => .lane k | none => .good
structure Cs where
 np:Addr
 tm:Addr
 nr:Addr
 land:Addr
def spXi (K:PySem.W.Frag) (fld:Str):Sp:=fun vs H Q _=>∃ e C tt v,vs=[.ref e,v]/\H e=some (ExcAt e C tt none)/\XCls K C/\PySem.W.findIn K (.ref C) fld=some none/\∀ d,H d=none->Q .non (upd (upd H d (.xd [(fld,v)])) e (ExcAt e C tt (some d)))
def LandAt (H:Hp) (c:Cs) (x dx t:Addr) (n:Int) (tvs:List V) (ps:List (Int × Int)):Prop:=H x=some (.ins c.land dx [("places", .int n),("lanes", .ref t)])/\H t=some (.tup tvs)/\Lns H tvs ps
def spInit (K:PySem.W.Frag) (c:Cs):Sp:=fun vs H Q E=>∃ x dx n p lvs ps,vs=[.ref x, .int n, .ref p]/\H x=some (.ins c.land dx [])/\SqL K H p lvs/\Lns H lvs ps/\lvs.length <= 1000 /\
 (dueOf n ps = .places->∀ H',Same H H'->E (.ref c.np) none H') /\
 (∀ k,dueOf n ps = .many k->∀ H' d,Same H H'->H' d=some (.xd [("many", .int k)])->E (.ref c.tm) (some d) H') /\
 (∀ k,dueOf n ps = .lane k->∀ H' d,Same H H'->H' d=some (.xd [("lane", .int k)])->E (.ref c.nr) (some d) H') /\
 (dueOf n ps = .good->∀ H' t tvs,(∀ b o,b ≠ x->H b=some o->H' b=some o)->LandAt H' c x dx t n tvs ps->Q .non H')
def tupScope (s:Stmt):Scope:=match s with
 | .Assign _ (.Call _ [.ListComp _ _ sc _] _ _) _=>sc
 | _=>{ kind := .function,names:=[],isGenerator:=false,isCoroutine:=false }
def retScope (s:Stmt):Scope:=match defBody s with
 | .Return (some (.ListComp _ _ sc _)) _ :: _=>sc
 | _=>{ kind := .function,names:=[],isGenerator:=false,isCoroutine:=false }
abbrev NI:List Str:=["self", "places", "lanes", "lane", "pair"]
structure Exc (K:PySem.W.Frag) (mg:Str->Option Value) (c:Cs) (f1 f2:Addr) (d1 d2:FuncData):Prop where
 mnp:mg "NoPlaces" = some (.ref c.np)
 xnp:excInI K c.np none=true
 knp:PySem.W.keepIn K (.ref c.np)=true
 mtm:mg "TooMany" = some (.ref c.tm)
 xtm:excInI K c.tm (some (.ref f1))=true
 ktm:PySem.W.keepIn K (.ref c.tm)=true
 ctm:XCls K c.tm
 ntm:PySem.W.findIn K (.ref c.tm) "many" = some none
 itm:PySem.W.isFn K (.ref f1)=true
 Ftm:Fun K "__init__" "TooMany.__init__" sTM f1 d1
 btm:Binds K d1 ["self", "many"] []
 mnr:mg "NoRoad" = some (.ref c.nr)
 xnr:excInI K c.nr (some (.ref f2))=true
 knr:PySem.W.keepIn K (.ref c.nr)=true
 cnr:XCls K c.nr
 nnr:PySem.W.findIn K (.ref c.nr) "lane" = some none
 inr:PySem.W.isFn K (.ref f2)=true
 Fnr:Fun K "__init__" "NoRoad.__init__" sNR f2 d2
 bnr:Binds K d2 ["self", "lane"] []
structure Lnd (K:PySem.W.Frag) (c:Cs):Prop where
 cl:Cls K c.land
 np:NoAttr K c.land "places"
 nl:NoAttr K c.land "lanes"
theorem badIx_none {n:Int} {ps:List (Int × Int)} (h:∀ p ∈ ps,okP n p=true):badIx n ps=none:=by
 unfold badIx
 rw [List.findIdx?_eq_none_iff]
 intro p hp
 rw [h p hp]; rfl
theorem badIx_some {n:Int} {ps:List (Int × Int)} {i:Nat} {p:Int × Int} (h:∀ q ∈ ps.take i,okP n q=true) (hi:ps[i]? = some p) (hb:okP n p=false):badIx n ps=some i:=by
 unfold badIx
 rw [List.findIdx?_eq_some_iff_getElem]
 obtain ⟨hlt,e⟩:=List.getElem?_eq_some_iff.mp hi
 refine ⟨hlt,by rw [e,hb]; rfl,fun j hj=>?_⟩
 have hm:ps[j]'(Nat.lt_trans hj hlt) ∈ ps.take i:=List.mem_take_iff_getElem.mpr ⟨j,by omega,rfl⟩
 rw [h _ hm]; simp
def Off (x:Addr) (H H':Hp):Prop:=∀ b o,b ≠ x->H b=some o->H' b=some o
theorem Off.sq {K:PySem.W.Frag} {H H':Hp} {x p C dx:Addr} {fs:List (Str × V)} {xs:List V} (o:Off x H H') (hx:H x=some (.ins C dx fs)) (h:SqL K H p xs):SqL K H' p xs:=by
 rcases h with (h | ⟨ob,h⟩) | h
 ·exact .inl (.inl (o _ _ (ne_of h hx (by intro z; cases z)) h))
 ·exact .inl (.inr ⟨ob,o _ _ (ne_of h hx (by intro z; cases z)) h⟩)
 ·exact .inr h
theorem Off.lns {H H':Hp} {x C dx:Addr} {fs:List (Str × V)} (o:Off x H H') (hx:H x=some (.ins C dx fs)):∀ {vs:List V} {ps:List (Int × Int)},Lns H vs ps->Lns H' vs ps
 | _,_, .nil => .nil
 | _,_, .cons ⟨t,e,q⟩ r => .cons ⟨t,e,o _ _ (ne_of q hx (by intro z; cases z)) q⟩ (Off.lns o hx r)
theorem Off.same {H H1 H2:Hp} {x:Addr} (a:Off x H H1) (b:Same H1 H2):Off x H H2:=fun c o n e=>b _ _ (a c o n e)
section
variable {P:Program} {w:World} {K:PySem.W.Frag} {mg:Str->Option Value} {base:Heap}
theorem scTM:FnScope ["self", "many"] ["self", "many"] (defScope sTM):=⟨rfl,rfl,rfl,by decide +kernel,rfl,by decide +kernel,by decide +kernel⟩
theorem scNR:FnScope ["self", "lane"] ["self", "lane"] (defScope sNR):=⟨rfl,rfl,rfl,by decide +kernel,rfl,by decide +kernel,by decide +kernel⟩
theorem ok_tm {f:Addr} {fd:FuncData} (F:Fun K "__init__" "TooMany.__init__" sTM f fd):FnOk P w K mg base CX0 1 f fd ["self", "many"] (spXi K "many"):=by
 refine F.ok scTM (fun vs H Q E h=>?_) (fun cdv A outer s H vs Q E hr h=>?_)
 ·obtain ⟨e,C,tt,v,rfl,_⟩:=h
  rfl
 ·obtain ⟨e,C,tt,v,rfl,h1,h2,h3,q⟩:=h
  refine ⟨_,pss_one (ps_fldX (pv 0) (pv 1) rfl),?_⟩
  exact ⟨_,rfl,_,rfl,e,C,tt,rfl,h1,h2,h3,q⟩
theorem ok_nr {f:Addr} {fd:FuncData} (F:Fun K "__init__" "NoRoad.__init__" sNR f fd):FnOk P w K mg base CX0 1 f fd ["self", "lane"] (spXi K "lane"):=by
 refine F.ok scNR (fun vs H Q E h=>?_) (fun cdv A outer s H vs Q E hr h=>?_)
 ·obtain ⟨e,C,tt,v,rfl,_⟩:=h
  rfl
 ·obtain ⟨e,C,tt,v,rfl,h1,h2,h3,q⟩:=h
  refine ⟨_,pss_one (ps_fldX (pv 0) (pv 1) rfl),?_⟩
  exact ⟨_,rfl,_,rfl,e,C,tt,rfl,h1,h2,h3,q⟩
theorem scInit:FnScope NI ["self", "places", "lanes"] (defScope sInit):=⟨rfl,rfl,rfl,by decide +kernel,rfl,by decide +kernel,by decide +kernel⟩
theorem bkInit:Blk NI (defScope sInit) (tupScope ((defBody sInit).getD 4 (.Pass ⟨0,0,0,0⟩))) [] []:=⟨rfl,by decide +kernel,by decide +kernel,by decide +kernel,rfl,by decide +kernel⟩
theorem ndPair:(["pair"]:List Str).Nodup:=by decide +kernel
theorem ok_init {c:Cs} {f fw ft f1 f2:Addr} {fd dw dt d1 d2:FuncData} {t1 t2:Tok} (F:Fun K "__init__" "Land.__init__" sInit f fd) (T:Txt mg) (L:Lnd K c) (X:Exc K mg c f1 f2 d1 d2)
  (mw:mg "is_within" = some (.ref fw)) (kw:PySem.W.keepIn K (.ref fw)=true) (bw:Binds K dw ["value", "least", "most"] []) (Gw:FnOk P w K mg base CX0 2 fw dw ["value", "least", "most"] spWithin)
  (mt:mg "are_two_places" = some (.ref ft)) (kt:PySem.W.keepIn K (.ref ft)=true) (bt:Binds K dt ["places", "one", "other"] []) (Gt:FnOk P w K mg base CX0 3 ft dt ["places", "one", "other"] spTwo)
  (mp:mg "MOST_PLACES" = some (.int 12 t1)) (ml:mg "MOST_LANES" = some (.int 40 t2)) :
  FnOk P w K mg base (CXe P w) 4 f fd ["self", "places", "lanes"] (spInit K c):=by
 have Gm:FnOk P w K mg base CX0 1 f1 d1 ["self", "many"] (spXi K "many"):=ok_tm X.Ftm
 have Gr:FnOk P w K mg base CX0 1 f2 d2 ["self", "lane"] (spXi K "lane"):=ok_nr X.Fnr
 refine F.okX scInit (fun vs H Q E h=>?_) (fun cdv A outer s H vs Q E hr h=>?_)
 ·obtain ⟨x,dx,n,p,lvs,ps,rfl,_⟩:=h
  rfl
 ·obtain ⟨x,dx,n,p,lvs,ps,rfl,hx,hp,hl,hlen,h1,h2,h3,h4⟩:=h
  have hr2:Room 2 _:=hr.mono (by decide)
  refine ⟨_,pss_cons (ps_if (pt_not (pt_val (pe_call Gw hr2 rfl mw kw bw .nil pass0 (pa_cons (pv 1) (pa_cons pe_int (pa_cons (pe_glob (v := .int 12) rfl mp ⟨_,rfl⟩) pa_nil))))))
    (pss_one (ps_raise rfl X.xnp passX_def (px_plain X.xnp X.knp rfl rfl X.mnp (pa_cons pe_str pa_nil)))) pss_nil)
   (pss_cons (ps_if (pt_cmpR op_gt (pe_callB call_len_seq rfl T.len PySem.boot_len (pa_cons (pv 2) pa_nil)) (pe_glob (v := .int 40) rfl ml ⟨_,rfl⟩) (nomark _))
    (pss_one (ps_raise rfl X.xtm passX_def (px_init X.xtm X.itm X.ktm Gm hr2 X.btm rfl X.mtm (pa_cons (pe_callB call_len_seq rfl T.len PySem.boot_len (pa_cons (pv 2) pa_nil)) pa_nil)))) pss_nil)
   (pss_cons (ps_for own_def rfl (pi_enumL rfl T.enum (pa_cons (pv 2) pa_nil)) (pg_tup rfl (pgs_cons (pg_name (i:=3) scInit.nd rfl (Or.inl rfl)) (pgs_cons (pg_name (i:=4) scInit.nd rfl (Or.inl rfl)) pgs_nil)))
    (pss_one (ps_if (pt_not (pt_val (pe_call Gt hr rfl mt kt bt .nil pass0 (pa_cons (pv 1) (pa_cons (pe_ix ix_tup (pv 4) pe_int (fun _ _=>rfl)) (pa_cons (pe_ix ix_tup (pv 4) pe_int (fun _ _=>rfl)) pa_nil))))))
     (pss_one (ps_raise rfl X.xnr passX_def (px_init X.xnr X.inr X.knr Gr hr2 X.bnr rfl X.mnr (pa_cons (pv 3) pa_nil)))) pss_nil)))
   (pss_cons (ps_fld (pv 0) (pv 1) rfl)
   (pss_one (ps_fld (pv 0) (pe_callTy call_tuple_of rfl T.tuple PySem.Pv.boot_tuple (pa_cons (pe_comp (own:=["pair"]) (capN:=[]) (cap:=[]) bkInit rfl (pi_list (pv 2))
    (fun C s' H' fp=>⟨pg_name (i:=0) ndPair rfl (Or.inl rfl),pts_nil,pe_tup (pa_cons (pe_ix (show IxR _ (rIxT K) from ix_tup) (pv 0) pe_int (fun _ _=>rfl)) (pa_cons (pe_ix (show IxR _ (rIxT K) from ix_tup) (pv 0) pe_int (fun _ _=>rfl)) pa_nil))⟩)) pa_nil)) rfl))))),?_⟩
  refine ⟨_,rfl,n,1,12,rfl,_,rfl,?_⟩
  by_cases hn:1 <= n/\n <= 12
  rotate_left
  ·rw [decide_eq_false hn]
   refine iteT ⟨by show 1 <= sizeLine; decide,?_⟩
   exact h1 (by unfold dueOf; rw [if_pos (decide_eq_false hn)]) H (Same.refl H)
  rw [decide_eq_true hn]
  refine iteF ?_
  have hps:lvs.length=ps.length:=Paired.length hl
  refine ⟨_,rfl,p,_,rfl, .inl hp,_,_,rfl,rfl,_,rfl,?_⟩
  by_cases hm:40 < ps.length
  ·rw [decide_eq_true (show (40:Int) < (lvs.length:Nat) by omega)]
   refine iteT ⟨_,rfl,p,_,rfl, .inl hp,by show 1 <= sizeLine; decide,fun e tt he=>⟨e,_,tt,_,rfl,upd_same,X.ctm,X.ntm,fun d hd=>⟨rfl,?_⟩⟩⟩
   obtain ⟨m1,m2,m3⟩:=made_heap (o:=ExcAt e c.tm tt none) (o':=ExcAt e c.tm tt (some d)) (x := .xd [("many", .int (lvs.length:Nat))]) he hd
   refine ⟨some d,m3,h2 ps.length ?_ _ d m1 (by rw [m2,hps])⟩
   unfold dueOf
   rw [decide_eq_true hn,if_neg (by decide),if_pos hm]
  rw [decide_eq_false (show ¬ (40:Int) < (lvs.length:Nat) by omega)]
  refine iteF ?_
  refine ⟨_,rfl,p,rfl,⟨_,hp⟩,for_enum (sq:=fun H=>SqL K H p) (xs:=lvs) (fun i σ H2=>∃ a b:Option V,Same H H2/\σ=[some (.ref x),some (.int n),some (.ref p),a,b]/\∀ q ∈ ps.take i,okP n q=true)
   ⟨none,none,Same.refl H,rfl,fun q hq=>by simp at hq⟩ (fun i σ H2 _ ⟨a,b,s2,_⟩=>s2.seq hp) ?_ ?_⟩
  ·rintro i v q σ H2 hv ⟨a,b,s2,rfl,hall⟩ hq
   obtain ⟨pr,hpr,t,rfl,ht⟩:=Lns.get hl hv
   have s3:Same H (upd H2 q (.tup [.int i, .ref t])):=s2.new hq
   refine ⟨q,_,rfl,SqT.of upd_same,rfl,_,_,rfl,_,_,rfl,rfl,?_⟩
   have htt:SqT K (upd H2 q (.tup [.int i, .ref t])) t [.int pr.1, .int pr.2]:=SqT.of (s3 _ _ ht)
   refine ⟨_,rfl,_,rfl,t,_,0,_,rfl,rfl,htt,atI_nat (j:=0) rfl,?_⟩
   refine ⟨_,rfl,t,_,1,_,rfl,rfl,htt,atI_nat (j:=1) rfl,n,pr.1,pr.2,rfl,_,rfl,?_⟩
   cases ho:okP n (pr.1,pr.2) with
   | true =>
    refine iteF ⟨some (.int i),some (.ref t),s3,rfl,fun z hz=>?_⟩
    rw [List.take_succ,hpr] at hz
    rcases List.mem_append.mp hz with hz | hz
    ·exact hall z hz
    ·have:z=pr:=by simpa using hz
     rw [this]; exact ho
   | false =>
    refine iteT ⟨_,rfl,by show 1 <= sizeLine; decide,fun e tt he=>⟨e,_,tt,_,rfl,upd_same,X.cnr,X.nnr,fun d hd=>⟨rfl,?_⟩⟩⟩
    obtain ⟨m1,m2,m3⟩:=made_heap (o:=ExcAt e c.nr tt none) (o':=ExcAt e c.nr tt (some d)) (x := .xd [("lane", .int i)]) he hd
    refine ⟨some d,m3,h3 i ?_ _ d (s3.trans m1) m2⟩
    unfold dueOf
    rw [decide_eq_true hn,if_neg (by decide),if_neg hm,badIx_some hall hpr ho]
  ·rintro σ H2 ⟨a,b,s2,rfl,hall⟩
   have hgood:dueOf n ps = .good:=by
    unfold dueOf
    rw [decide_eq_true hn,if_neg (by decide),if_neg hm,badIx_none (fun z hz=>hall z (by rw [hps,List.take_length]; exact hz))]
   have hx2:=s2 _ _ hx
   refine ⟨_,rfl,_,rfl,x,c.land,dx,_,rfl,hx2,L.cl,L.np,by show 0 < 1000; decide,?_⟩
   generalize hH3:upd H2 x (.ins c.land dx (putF "places" (.int n) []))=H3
   have o3:Off x H H3:=fun b o hb e=>by rw [← hH3,upd_ne hb]; exact s2 _ _ e
   have x3:H3 x=some (.ins c.land dx [("places", .int n)]):=by rw [← hH3,upd_same]; rfl
   have l3:Lns H3 lvs ps:=o3.lns hx hl
   have p3:SqL K H3 p lvs:=o3.sq hx hp
   refine ⟨_,rfl,p,rfl,⟨_,p3⟩,comp_gen lvs.length (by rw [PySem.sizeLine_eq]; omega) (fun i acc H4=>Same H3 H4/\acc.length=i/\Lns H4 acc (ps.take i)) ⟨Same.refl _,rfl, .nil⟩ (fun i acc H4 h=>Nat.le_of_eq h.2.1) ?_ ?_⟩
   ·rintro i acc H4 hi ⟨s4,ha,hA⟩
    have q4:=s4.seq p3
    refine ⟨⟨lvs,lvs[i],q4,by simp [hi]⟩,fun y H5 ⟨e5,hy⟩=>?_⟩
    subst e5
    have hy:=hy lvs q4
    obtain ⟨pr,hpr,t,rfl,ht⟩:=Lns.get l3 hy
    have htt:SqT K H5 t [.int pr.1, .int pr.2]:=SqT.of (s4 _ _ ht)
    refine ⟨_,rfl,t,_,0,_,rfl,rfl,htt,atI_nat (j:=0) rfl,?_⟩
    refine ⟨_,rfl,t,_,1,_,rfl,rfl,htt,atI_nat (j:=1) rfl,by show 2 <= sizeLine; decide,fun r hr'=>?_⟩
    refine ⟨s4.new hr',by rw [List.length_append,ha]; rfl,?_⟩
    rw [List.take_succ,hpr]
    exact Lns.snoc ⟨r,rfl,upd_same⟩ (Lns.same (Same.new (Same.refl _) hr') hA)
   ·rintro acc H4 ⟨s4,ha,hA⟩
    have q4:=s4.seq p3
    refine ⟨⟨lvs,q4,Nat.le_refl _⟩,fun D hD=>?_⟩
    have s5:Same H3 (upd H4 D (.lst acc)):=s4.new hD
    refine ⟨D,acc,rfl, .inl ⟨SqL.of upd_same,fun t ht=>?_⟩⟩
    have s6:Same H3 (upd (upd H4 D (.lst acc)) t (.tup acc)):=s5.new ht
    have x6:=s6 _ _ x3
    refine ⟨_,rfl,x,c.land,dx,_,rfl,x6,L.cl,L.nl,by show 1 < 1000; decide,?_⟩
    have htx:t ≠ x:=fun z=>by rw [z,s5 _ _ x3] at ht; cases ht
    refine h4 hgood _ t acc (fun b o hb e=>?_) ⟨by rw [upd_same]; rfl,by rw [upd_ne htx,upd_same],?_⟩
    ·rw [upd_ne hb]; exact s6 _ _ (o3 b o hb e)
    ·have hA':Lns H4 acc ps:=by rw [hps,List.take_length] at hA; exact hA
     have x4:=s4 _ _ x3
     have hA6:Lns (upd (upd H4 D (.lst acc)) t (.tup acc)) acc ps:=Lns.same (Same.new (Same.new (Same.refl _) hD) ht) hA'
     exact Off.lns (x:=x) (fun b o hb e=>by rw [upd_ne hb]; exact e) x6 hA6
end
end K33
namespace K33
open PySem L2
def ixV (sel:Int × Int->Int) (ps:List (Int × Int)) (pl:Int) (m:Nat):List V:=((List.range m).filter fun k=>decide (sel (ps.getD k (0,0))=pl)).map fun k:Nat=>V.int k
def spIx (c:Cs) (sel:Int × Int->Int):Sp:=fun vs H Q _=>∃ (x dx t:Addr) (n:Int) (tvs:List V) (ps:List (Int × Int)) (pl:Int),vs=[.ref x, .int pl]/\LandAt H c x dx t n tvs ps/\ps.length <= 1000 /\
 ∀ H' D,Same H H'->H' D=none->Q (.ref D) (upd H' D (.lst (ixV sel ps pl ps.length)))
theorem ixV_succ {sel:Int × Int->Int} {ps:List (Int × Int)} {pl:Int} {i:Nat} {pr:Int × Int} (h:ps[i]? = some pr):ixV sel ps pl (i + 1)=if decide (sel pr=pl) then ixV sel ps pl i ++ [V.int i] else ixV sel ps pl i:=by
 have e:ps.getD i (0,0)=pr:=by rw [List.getD_eq_getElem?_getD,h]; rfl
 unfold ixV
 rw [List.range_succ,List.filter_append]
 by_cases hs:sel pr=pl
 ·rw [if_pos (decide_eq_true hs),List.filter_cons_of_pos (by rw [e]; exact decide_eq_true hs)]; simp
 ·rw [if_neg (by rw [decide_eq_false hs]; decide),List.filter_cons_of_neg (by rw [e,decide_eq_false hs]; decide)]; simp
theorem ixV_len {sel:Int × Int->Int} {ps:List (Int × Int)} {pl:Int} {i:Nat}:(ixV sel ps pl i).length <= i:=by
 unfold ixV
 rw [List.length_map]
 have:=List.length_filter_le (fun k=>decide (sel (ps.getD k (0,0))=pl)) (List.range i)
 rwa [List.length_range] at this
section
variable {P:Program} {w:World} {K:PySem.W.Frag} {mg:Str->Option Value} {base:Heap}
theorem scOut:FnScope ["self", "place"] ["self", "place"] (defScope sOut):=⟨rfl,rfl,rfl,by decide +kernel,rfl,by decide +kernel,by decide +kernel⟩
theorem bkOut:Blk ["self", "place"] (defScope sOut) (retScope sOut) ["place"] [1]:=⟨rfl,by decide +kernel,by decide +kernel,by decide +kernel,rfl,by decide +kernel⟩
theorem scInto:FnScope ["self", "place"] ["self", "place"] (defScope sInto):=⟨rfl,rfl,rfl,by decide +kernel,rfl,by decide +kernel,by decide +kernel⟩
theorem bkInto:Blk ["self", "place"] (defScope sInto) (retScope sInto) ["place"] [1]:=⟨rfl,by decide +kernel,by decide +kernel,by decide +kernel,rfl,by decide +kernel⟩
theorem ndOut:(["lane", "pair", "place"]:List Str).Nodup:=by decide +kernel
theorem int_eq (a b:Int):decide (V.int a=V.int b)=decide (a=b):=by
 by_cases h:a=b
 ·rw [h]; simp
 ·rw [decide_eq_false h,decide_eq_false fun z=>h (by injection z)]
theorem ok_out {c:Cs} {f:Addr} {fd:FuncData} (F:Fun K "out_of" "Land.out_of" sOut f fd) (T:Txt mg) (L:Lnd K c):FnOk P w K mg base CX0 1 f fd ["self", "place"] (spIx c Prod.fst):=by
 refine F.ok scOut (fun vs H Q E h=>?_) (fun cdv A outer s H vs Q E hr h=>?_)
 ·obtain ⟨x,dx,t,n,tvs,ps,pl,rfl,_⟩:=h
  rfl
 ·obtain ⟨x,dx,t,n,tvs,ps,pl,rfl,⟨hx,ht,hl⟩,hlen,q⟩:=h
  refine ⟨_,pss_one (ps_ret (pe_comp (own:=["lane", "pair"]) (capN:=["place"]) (cap:=[1]) bkOut rfl (pi_enumT rfl T.enum (pa_cons (pe_fld (pv 0) rfl) pa_nil))
   (fun C s' H' fp=>⟨(show PG _ _ (gTup K 2 _) from pg_tup rfl (pgs_cons (pg_name (i:=0) ndOut rfl (Or.inl rfl)) (pgs_cons (pg_name (i:=1) ndOut rfl (Or.inl rfl)) pgs_nil))),
    pts_one (pt_cmpR op_eq (pe_ix (show IxR _ (rIxT K) from ix_tup) (pv 1) pe_int (fun _ _=>rfl)) (pv 2) (nomark _)),pv 0⟩))),?_⟩
  have hps:tvs.length=ps.length:=Paired.length hl
  refine ⟨_,rfl,x,c.land,dx,_,_,rfl,hx,L.cl,L.nl,rfl,t,rfl,⟨_,SqT.of ht⟩,comp_gen ps.length (by rw [PySem.sizeLine_eq]; omega) (fun i acc H4=>Same H H4/\acc=ixV Prod.fst ps pl i) ⟨Same.refl _,rfl⟩ (fun i acc H4 h=>by rw [h.2]; exact ixV_len) ?_ ?_⟩
  ·rintro i acc H4 hi ⟨s4,rfl⟩
   have q4:SqT K H4 t tvs:=SqT.of (s4 _ _ ht)
   refine ⟨⟨tvs,tvs[i]'(by omega),q4,by simp [hps,hi]⟩,fun y H5 ⟨r,hr4,ey,h5⟩=>?_⟩
   obtain ⟨v,hv,rfl⟩:=h5 tvs q4
   subst ey
   obtain ⟨pr,hpr,u,rfl,hu⟩:=Lns.get hl hv
   have s5:Same H (upd H4 r (.tup [.int i, .ref u])):=s4.new hr4
   refine ⟨r,_,rfl,SqT.of upd_same,rfl,_,_,rfl,_,_,rfl,rfl,?_⟩
   refine ⟨_,rfl,u,_,0,_,rfl,rfl,SqT.of (s5 _ _ hu),atI_nat (j:=0) rfl,_,rfl,rfl,_,rfl,?_⟩
   rw [int_eq,ixV_succ hpr]
   cases hd:decide (pr.1=pl) with
   | true=>exact iteT ⟨_,rfl,s5,by simp [hd]⟩
   | false=>exact iteF ⟨s5,by simp [hd]⟩
  ·rintro acc H4 ⟨s4,rfl⟩
   exact ⟨⟨tvs,SqT.of (s4 _ _ ht),hps⟩,fun D hD=>q H4 D s4 hD⟩
theorem ok_into {c:Cs} {f:Addr} {fd:FuncData} (F:Fun K "into" "Land.into" sInto f fd) (T:Txt mg) (L:Lnd K c):FnOk P w K mg base CX0 1 f fd ["self", "place"] (spIx c Prod.snd):=by
 refine F.ok scInto (fun vs H Q E h=>?_) (fun cdv A outer s H vs Q E hr h=>?_)
 ·obtain ⟨x,dx,t,n,tvs,ps,pl,rfl,_⟩:=h
  rfl
 ·obtain ⟨x,dx,t,n,tvs,ps,pl,rfl,⟨hx,ht,hl⟩,hlen,q⟩:=h
  refine ⟨_,pss_one (ps_ret (pe_comp (own:=["lane", "pair"]) (capN:=["place"]) (cap:=[1]) bkInto rfl (pi_enumT rfl T.enum (pa_cons (pe_fld (pv 0) rfl) pa_nil))
   (fun C s' H' fp=>⟨(show PG _ _ (gTup K 2 _) from pg_tup rfl (pgs_cons (pg_name (i:=0) ndOut rfl (Or.inl rfl)) (pgs_cons (pg_name (i:=1) ndOut rfl (Or.inl rfl)) pgs_nil))),
    pts_one (pt_cmpR op_eq (pe_ix (show IxR _ (rIxT K) from ix_tup) (pv 1) pe_int (fun _ _=>rfl)) (pv 2) (nomark _)),pv 0⟩))),?_⟩
  have hps:tvs.length=ps.length:=Paired.length hl
  refine ⟨_,rfl,x,c.land,dx,_,_,rfl,hx,L.cl,L.nl,rfl,t,rfl,⟨_,SqT.of ht⟩,comp_gen ps.length (by rw [PySem.sizeLine_eq]; omega) (fun i acc H4=>Same H H4/\acc=ixV Prod.snd ps pl i) ⟨Same.refl _,rfl⟩ (fun i acc H4 h=>by rw [h.2]; exact ixV_len) ?_ ?_⟩
  ·rintro i acc H4 hi ⟨s4,rfl⟩
   have q4:SqT K H4 t tvs:=SqT.of (s4 _ _ ht)
   refine ⟨⟨tvs,tvs[i]'(by omega),q4,by simp [hps,hi]⟩,fun y H5 ⟨r,hr4,ey,h5⟩=>?_⟩
   obtain ⟨v,hv,rfl⟩:=h5 tvs q4
   subst ey
   obtain ⟨pr,hpr,u,rfl,hu⟩:=Lns.get hl hv
   have s5:Same H (upd H4 r (.tup [.int i, .ref u])):=s4.new hr4
   refine ⟨r,_,rfl,SqT.of upd_same,rfl,_,_,rfl,_,_,rfl,rfl,?_⟩
   refine ⟨_,rfl,u,_,1,_,rfl,rfl,SqT.of (s5 _ _ hu),atI_nat (j:=1) rfl,_,rfl,rfl,_,rfl,?_⟩
   rw [int_eq,ixV_succ hpr]
   cases hd:decide (pr.2=pl) with
   | true=>exact iteT ⟨_,rfl,s5,by simp [hd]⟩
   | false=>exact iteF ⟨s5,by simp [hd]⟩
  ·rintro acc H4 ⟨s4,rfl⟩
   exact ⟨⟨tvs,SqT.of (s4 _ _ ht),hps⟩,fun D hD=>q H4 D s4 hD⟩
end
end K33
namespace K33
open PySem L2
def spHas:Sp:=fun vs H Q _=>∃ m k:Nat,vs=[.int m, .int k]/\Q (.bl (m.testBit k)) H
def memV (m:Nat):List V:=(Yd.memN m (Builtin.Int.intBits (m:Int))).map fun k:Nat=>V.int k
def spMem:Sp:=fun vs H Q _=>∃ m:Nat,vs=[.int m]/\m < 2 ^ 400/\∀ p,H p=none->Q (.ref p) (upd H p (.lst (memV m)))
def spSet (K:PySem.W.Frag):Sp:=fun vs H Q _=>∃ (a:Addr) (ks:List Nat),vs=[.ref a]/\SqL K H a (ks.map fun k:Nat=>V.int k)/\(∀ k ∈ ks,k <= 1000)/\Q (.int (Yd.setN ks 0:Nat)) H
section
variable {P:Program} {w:World} {K:PySem.W.Frag} {mg:Str->Option Value} {base:Heap}
theorem scHas:FnScope ["some", "number"] ["some", "number"] (defScope sHas):=⟨rfl,rfl,rfl,by decide +kernel,rfl,by decide +kernel,by decide +kernel⟩
theorem ok_has {f:Addr} {fd:FuncData} (F:Fun K "has" "has" sHas f fd):FnOk P w K mg base CX0 1 f fd ["some", "number"] spHas:=by
 refine F.ok scHas (fun vs H Q E h=>?_) (fun cdv A outer s H vs Q E hr h=>?_)
 ·obtain ⟨m,k,rfl,_⟩:=h
  rfl
 ·obtain ⟨m,k,rfl,q⟩:=h
  refine ⟨_,pss_one (ps_ret (pe_and (pe_cmpR op_ge (pv 1) pe_int (nomark _)) (pe_one (pe_cmpR op_eq (pe_op op_and (pe_op op_shr (pv 0) (pv 1)) pe_int) pe_int (nomark _))))),?_⟩
  refine ⟨_,rfl,_,_,rfl,rfl,_,rfl,?_⟩
  rw [decide_eq_true (show (0:Int) <= (k:Int) by omega)]
  refine iteT ?_
  refine ⟨_,rfl,_,rfl,_,_,rfl,rfl,(show (0:Int) <= (k:Int) by omega),_,_,rfl,rfl,rfl,?_⟩
  have e:decide (V.int (Builtin.bitAnd ((m:Int) / 2 ^ (k:Int).toNat) 1)=V.int 1)=m.testBit k:=by
   rw [Int.toNat_natCast,← Yd.has_bit m k]
   by_cases h:Builtin.bitAnd ((m:Int) / 2 ^ k) 1=1
   ·rw [h]; simp
   ·rw [decide_eq_false h,decide_eq_false fun z=>h (by injection z)]
  rw [e]
  exact q
theorem natV_get {ks:List Nat} {i:Nat} {x:V} (h:(ks.map fun k:Nat=>V.int k)[i]? = some x):∃ k,ks[i]? = some k/\x=V.int k:=by
 rw [List.getElem?_map] at h
 cases e:ks[i]? with
 | none=>rw [e] at h; cases h
 | some k=>rw [e] at h; exact ⟨k,rfl,(Option.some.inj h).symm⟩
theorem scSet:FnScope ["numbers", "some", "number"] ["numbers"] (defScope sSet):=⟨rfl,rfl,rfl,by decide +kernel,rfl,by decide +kernel,by decide +kernel⟩
theorem ok_set {f:Addr} {fd:FuncData} (F:Fun K "set_of" "set_of" sSet f fd):FnOk P w K mg base CX0 1 f fd ["numbers"] (spSet K):=by
 refine F.ok scSet (fun vs H Q E h=>?_) (fun cdv A outer s H vs Q E hr h=>?_)
 ·obtain ⟨a,ks,rfl,_⟩:=h
  rfl
 ·obtain ⟨a,ks,rfl,hS,hk,q⟩:=h
  refine ⟨_,pss_cons (ps_set (i:=1) scSet.nd rfl (Or.inl rfl) pe_int)
   (pss_cons (ps_for PassesOwn.never rfl (pi_list (pv 0)) (pg_name (i:=2) scSet.nd rfl (Or.inl rfl))
    (pss_one (ps_set (i:=1) scSet.nd rfl (Or.inl rfl) (pe_op op_or (pv 1) (pe_op op_shl pe_int (pv 2))))))
   (pss_one (ps_ret (pv 1)))),?_⟩
  refine ⟨_,rfl,a,rfl,⟨_,hS⟩,for_list (K:=K) (a:=a) (xs:=ks.map fun k:Nat=>V.int k) (fun i σ H2=>∃ v:Option V,H2=H/\σ=[some (.ref a),some (.int (Yd.setN (ks.take i) 0:Nat)),v])
   ⟨none,rfl,rfl⟩ (fun i σ H2 _ ⟨_,e,_⟩=>by rw [e]; exact hS) ?_ ?_⟩
  ·rintro i x σ H2 hx ⟨v,rfl,rfl⟩
   obtain ⟨k,ek,rfl⟩:=natV_get hx
   have hk':=hk k (List.mem_of_getElem? ek)
   refine ⟨_,rfl,_,rfl,_,_,rfl,rfl,⟨(show (0:Int) <= (k:Int) by omega),(show (k:Int) <= 1000000 by omega),(by decide)⟩,_,_,rfl,rfl,some (.int k),rfl,?_⟩
   have e:Builtin.bitOr ((Yd.setN (ks.take i) 0:Nat):Int) (1 * 2 ^ (k:Int).toNat)=((Yd.setN (ks.take (i + 1)) 0:Nat):Int):=by
    rw [List.take_succ,ek,Int.toNat_natCast,Int.one_mul,show (2:Int) ^ k=((2 ^ k:Nat):Int) by rw [Int.natCast_pow]; rfl,Yd.bitOr_nat,Yd.setN_app]
    rfl
   show [some (V.ref a),some (V.int _),some (V.int k)]=_
   rw [e]
  ·rintro σ H2 ⟨v,rfl,rfl⟩
   refine ⟨_,rfl,?_⟩
   rw [List.length_map,List.take_length]
   exact q
theorem scMem:FnScope ["some"] ["some"] (defScope sMem):=⟨rfl,rfl,rfl,by decide +kernel,rfl,by decide +kernel,by decide +kernel⟩
theorem ndMem:(["number", "some"]:List Str).Nodup:=by decide +kernel
theorem bkMem:Blk ["some"] (defScope sMem) (retScope sMem) ["some"] [0]:=⟨rfl,by decide +kernel,by decide +kernel,by decide +kernel,rfl,by decide +kernel⟩
theorem ok_mem {f fh:Addr} {fd fdh:FuncData} (F:Fun K "members" "members" sMem f fd) (T:Txt mg) (mh:mg "has" = some (.ref fh)) (Fh:Fun K "has" "has" sHas fh fdh) (bh:Binds K fdh ["some", "number"] []):FnOk P w K mg base CX0 2 f fd ["some"] spMem:=by
 have G:FnOk P w K mg base CX0 1 fh fdh ["some", "number"] spHas:=ok_has Fh
 refine F.ok scMem (fun vs H Q E h=>?_) (fun cdv A outer s H vs Q E hr h=>?_)
 ·obtain ⟨m,rfl,_⟩:=h
  rfl
 ·obtain ⟨m,rfl,hm,q⟩:=h
  refine ⟨_,pss_one (ps_ret (pe_comp (own:=["number"]) (capN:=["some"]) (cap:=[0]) bkMem rfl
   (pi_range1 rfl T.range (pa_cons (pe_bm0 PySem.F.plainAttrs_int PySem.F.slot_int_bit_length PySem.F.type_int_bit_length mt_bits (pv 0)) pa_nil))
   (fun C s' H' fp=>⟨pg_name (i:=0) ndMem rfl (Or.inl rfl),pts_one (pt_val (pe_call G hr rfl mh Fh.kp bh .nil pass0 (pa_cons (pv 1) (pa_cons (pv 0) pa_nil)))),pv 0⟩))),?_⟩
  have hb:Builtin.Int.intBits (m:Int) <= 400:=Yd.bits_le hm
  refine ⟨_,rfl,rfl,_,rfl,rfl,(Builtin.Int.intBits (m:Int):Nat),rfl,by omega,by omega,?_⟩
  rw [Int.toNat_natCast]
  refine comp_rng (fun k=>m.testBit k) (fun k=>V.int k) (by rw [PySem.sizeLine_eq]; omega) (fun i acc N hi h=>?_) q
  refine ⟨_,rfl,_,rfl,m,i,by simp,_,rfl,?_⟩
  cases e:m.testBit i with
  | true =>
   rw [e] at h
   refine iteT ⟨_,rfl,?_⟩
   simpa using h
  | false =>
   rw [e] at h
   exact iteF (by simpa using h)
end
def iz (ks:List Nat):List Int:=ks.map fun k:Nat=>(k:Int)
theorem iz_V (ks:List Nat):(iz ks).map V.int=ks.map fun k:Nat=>V.int k:=by rw [iz,List.map_map]; rfl
theorem iz_mem {ks:List Nat} {k:Int}:k ∈ iz ks↔∃ n ∈ ks,(n:Int)=k:=List.mem_map
theorem set_lt {ks:List Nat} {b:Nat} (h:∀ k ∈ ks,k < b):Yd.setN ks 0 < 2 ^ b:=by
 rw [← Yd.due_set h]
 exact Yd.dueN_lt ks b
end K33
namespace K33
open PySem L2
structure Rw where
 p:Int
 g:Int
 c:Option Nat
 s:List Nat
def keyOf (r:Rw):Oks:=[some r.p,some r.g,r.c.map fun k:Nat=>(k:Int)]
def ixM (sel:Int × Int->Int) (ps:List (Int × Int)) (pl:Int):List Nat:=(List.range ps.length).filter fun k=>decide (sel (ps.getD k (0,0))=pl)
def fits (n:Int) (ps:List (Int × Int)) (r:Rw):Bool :=
 okP n (r.p,r.g) && ((match r.c with | none=>true | some k=>decide (k ∈ ixM Prod.snd ps r.p)) && r.s.all fun k=>decide (k ∈ ixM Prod.fst ps r.p))
def offL (sel:Int × Int->Int) (ps:List (Int × Int)) (pl:Int) (k:Nat):Bool:=decide (ps.length <= k) || !decide (sel (ps.getD k (0,0))=pl)
def badL (n:Int) (ps:List (Int × Int)) (ahead:List Rw) (r:Rw):Bool :=
 !okP n (r.p,r.g) || ((match r.c with | none=>false | some k=>offL Prod.snd ps r.p k) || ((r.s.any fun k=>offL Prod.fst ps r.p k) || ahead.any fun a=>decide (keyOf a=keyOf r)))
theorem ixM_mem {sel:Int × Int->Int} {ps:List (Int × Int)} {pl:Int} {k:Nat}:decide (k ∈ ixM sel ps pl) = !offL sel ps pl k:=by
 unfold ixM offL
 by_cases h1:ps.length <= k
 ·rw [decide_eq_true h1,decide_eq_false]
  ·rfl
  ·intro z
   have:=List.mem_range.mp (List.mem_filter.mp z).1
   omega
 ·rw [decide_eq_false h1]
  by_cases h2:sel (ps.getD k (0,0))=pl
  ·rw [decide_eq_true h2,decide_eq_true]
   ·rfl
   ·exact List.mem_filter.mpr ⟨List.mem_range.mpr (by omega),decide_eq_true h2⟩
  ·rw [decide_eq_false h2,decide_eq_false]
   ·rfl
   ·intro z
    exact h2 (of_decide_eq_true (List.mem_filter.mp z).2)
theorem all_any {l:List Nat} {f:Nat->Bool}:(l.all fun k=>!f k) = !(l.any f):=by
 induction l with
 | nil=>rfl
 | cons a l ih=>rw [List.all_cons,List.any_cons,ih,Bool.not_or]
theorem bad_fits (n:Int) (ps:List (Int × Int)) (ahead:List Rw) (r:Rw):badL n ps ahead r=(!fits n ps r || ahead.any fun a=>decide (keyOf a=keyOf r)):=by
 unfold badL fits
 have e:(r.s.all fun k=>decide (k ∈ ixM Prod.fst ps r.p)) = !(r.s.any fun k=>offL Prod.fst ps r.p k):=by
  rw [← all_any]
  congr 1
  funext k
  exact ixM_mem
 rw [e]
 cases hc:r.c with
 | none =>
  dsimp only
  cases okP n (r.p,r.g) <;> cases (r.s.any fun k=>offL Prod.fst ps r.p k) <;> cases (ahead.any fun a=>decide (keyOf a=keyOf r)) <;> rfl
 | some k =>
  dsimp only
  rw [ixM_mem]
  cases okP n (r.p,r.g) <;> cases (offL Prod.snd ps r.p k) <;> cases (r.s.any fun k=>offL Prod.fst ps r.p k) <;> cases (ahead.any fun a=>decide (keyOf a=keyOf r)) <;> rfl
def firstBad (n:Int) (ps:List (Int × Int)) (rs:List Rw) (m:Nat):Option Nat:=(List.range m).find? fun k=>badL n ps (rs.take k) (rs.getD k ⟨0,0,none,[]⟩)
theorem firstBad_none {n:Int} {ps:List (Int × Int)} {rs:List Rw}:∀ {m:Nat},(∀ k,k < m->badL n ps (rs.take k) (rs.getD k ⟨0,0,none,[]⟩)=false)->firstBad n ps rs m=none:=by
 intro m h
 unfold firstBad
 rw [List.find?_eq_none]
 intro k hk
 rw [h k (List.mem_range.mp hk)]
 decide
theorem firstBad_some {n:Int} {ps:List (Int × Int)} {rs:List Rw} {m i:Nat} (hi:i < m) (h:∀ k,k < i->badL n ps (rs.take k) (rs.getD k ⟨0,0,none,[]⟩)=false) (hb:badL n ps (rs.take i) (rs.getD i ⟨0,0,none,[]⟩)=true):firstBad n ps rs m=some i:=by
 unfold firstBad
 rw [List.find?_range_eq_some]
 refine ⟨hb,List.mem_range.mpr hi,fun j hj=>?_⟩
 rw [h j hj]
 rfl
def lastR (rs:List Rw) (k:Oks):Option Rw:=rs.reverse.find? fun r=>decide (keyOf r=k)
theorem lastR_snoc {rs:List Rw} {r:Rw} {k:Oks}:lastR (rs ++ [r]) k=if k=keyOf r then some r else lastR rs k:=by
 unfold lastR
 rw [List.reverse_append,List.reverse_singleton,List.singleton_append,List.find?_cons]
 by_cases h:keyOf r=k
 ·rw [decide_eq_true h,if_pos h.symm]
 ·rw [decide_eq_false h,if_neg (Ne.symm h)]
theorem lastR_isSome {rs:List Rw} {k:Oks}:(lastR rs k).isSome=rs.any fun r=>decide (keyOf r=k):=by
 unfold lastR
 rw [Bool.eq_iff_iff,List.find?_isSome,List.any_eq_true]
 exact ⟨fun ⟨x,hx,h⟩=>⟨x,List.mem_reverse.mp hx,h⟩,fun ⟨x,hx,h⟩=>⟨x,List.mem_reverse.mpr hx,h⟩⟩
def cV:Option Nat->V
 | none => .non
 | some k => .int k
def natV (ks:List Nat):List V:=ks.map fun k:Nat=>V.int k
theorem natV_iz (ks:List Nat):natV ks=(iz ks).map V.int:=(iz_V ks).symm
def RwT (H:Hp) (t l:Addr) (r:Rw):Prop:=H t=some (.tup [.int r.p, .int r.g,cV r.c, .ref l])/\H l=some (.lst (natV r.s))
def RwV (H:Hp) (v:V) (r:Rw):Prop:=∃ t l,v = .ref t/\RwT H t l r
abbrev Rws (H:Hp):List V->List Rw->Prop:=Paired (RwV H)
theorem RwT.same {H H':Hp} {t l:Addr} {r:Rw} (h:Same H H') (x:RwT H t l r):RwT H' t l r:=⟨h _ _ x.1,h _ _ x.2⟩
theorem RwV.same {H H':Hp} {v:V} {r:Rw} (h:Same H H'):RwV H v r->RwV H' v r:=fun ⟨t,l,e,x⟩=>⟨t,l,e,x.same h⟩
theorem Rws.imp {H H':Hp} (h:∀ v r,RwV H v r->RwV H' v r):∀ {vs:List V} {rs:List Rw},Rws H vs rs->Rws H' vs rs
 | _,_, .nil => .nil
 | _,_, .cons x r => .cons (h _ _ x) (Rws.imp h r)
theorem Rws.same {H H':Hp} (h:Same H H') {vs:List V} {rs:List Rw} (x:Rws H vs rs):Rws H' vs rs:=Rws.imp (fun _ _ z=>z.same h) x
theorem Rws.get {H:Hp}:∀ {vs:List V} {rs:List Rw} {i:Nat} {v:V},Rws H vs rs->vs[i]? = some v->∃ r,rs[i]? = some r/\RwV H v r
 | _,_,_,_, .nil,e=>by simp at e
 | _,_,0,_, .cons x _,e=>by simp at e; subst e; exact ⟨_,rfl,x⟩
 | _,_,i + 1,v, .cons _ t,e=>by
  obtain ⟨r,h1,h2⟩:=Rws.get (i:=i) (v:=v) t (by simpa using e)
  exact ⟨r,by simpa using h1,h2⟩
theorem key_tup (r:Rw):(keyOf r).map okV=[.int r.p, .int r.g,cV r.c]:=by
 cases r with
 | mk p g c s=>cases c <;> rfl
theorem ixV_iz {sel:Int × Int->Int} {ps:List (Int × Int)} {pl:Int}:ixV sel ps pl ps.length=(iz (ixM sel ps pl)).map V.int:=by rw [iz_V]; rfl
theorem iz_dec {k:Nat} {l:List Nat}:decide ((k:Int) ∈ iz l)=decide (k ∈ l):=by
 congr 1
 refine propext ⟨fun h=>?_,fun h=>iz_mem.mpr ⟨k,h,rfl⟩⟩
 obtain ⟨n,hn,e⟩:=iz_mem.mp h
 have:n=k:=by omega
 rw [← this]
 exact hn
theorem all_bls (ks l:List Nat):((natV ks).filter fun _=>true).map (fun v=>match v with | .int i=>V.bl (decide (i ∈ iz l)) | _ => .non)=(ks.map fun k=>decide (k ∈ l)).map V.bl:=by
 rw [List.filter_eq_self.mpr (fun _ _=>rfl)]
 unfold natV
 rw [List.map_map,List.map_map]
 refine List.map_congr_left fun k _=>?_
 show V.bl (decide ((k:Int) ∈ iz l))=V.bl (decide (k ∈ l))
 rw [iz_dec]
theorem all_id (ks:List Nat) (p:Nat->Bool):(ks.map p).all id=ks.all p:=by rw [List.all_map]; rfl
def spOne (K:PySem.W.Frag):Sp:=fun vs H Q _=>∃ (i:Int) (p:Addr) (ns:List Int),vs=[.int i, .ref p]/\SqL K H p (ns.map V.int)/\Q (.bl (decide (i ∈ ns))) H
def spFits (c:Cs):Sp:=fun vs H Q _=>∃ (x dx lt t l:Addr) (n:Int) (tvs:List V) (ps:List (Int × Int)) (r:Rw),vs=[.ref x, .ref t]/\LandAt H c x dx lt n tvs ps/\RwT H t l r/\ps.length <= 1000/\r.s.length <= 1000/\∀ H',Same H H'->Q (.bl (fits n ps r)) H'
structure Mths (K:PySem.W.Frag) (c:Cs) (f3 f4:Addr) (d3 d4:FuncData):Prop where
 m3:Meth K c.land "out_of" f3
 m4:Meth K c.land "into" f4
 b3:Binds K d3 ["self", "place"] []
 b4:Binds K d4 ["self", "place"] []
abbrev NF:List Str:=["land", "row", "place", "came", "begin_here"]
def allScope (s:Stmt):Scope:=match s with
 | .Return (some (.Call _ [.ListComp _ _ sc _] _ _)) _=>sc
 | _=>{ kind := .function,names:=[],isGenerator:=false,isCoroutine:=false }
section
variable {P:Program} {w:World} {K:PySem.W.Frag} {mg:Str->Option Value} {base:Heap}
theorem scOne:FnScope ["value", "numbers"] ["value", "numbers"] (defScope sOne):=⟨rfl,rfl,rfl,by decide +kernel,rfl,by decide +kernel,by decide +kernel⟩
theorem ok_one {f fh:Addr} {fd fdh:FuncData} (F:Fun K "is_one_of" "is_one_of" sOne f fd) (T:Txt mg) (mh:mg "is_whole" = some (.ref fh)) (Fh:Fun K "is_whole" "is_whole" sWhole fh fdh) (bh:Binds K fdh ["value"] []) :
  FnOk P w K mg base CX0 2 f fd ["value", "numbers"] (spOne K):=by
 have G:FnOk P w K mg base CX0 1 fh fdh ["value"] spWhole:=ok_whole Fh T
 refine F.ok scOne (fun vs H Q E h=>?_) (fun cdv A outer s H vs Q E hr h=>?_)
 ·obtain ⟨i,p,ns,rfl,_⟩:=h
  rfl
 ·obtain ⟨i,p,ns,rfl,hS,q⟩:=h
  refine ⟨_,pss_one (ps_ret (pe_and (pe_call G hr rfl mh Fh.kp bh .nil pass0 (pa_cons (pv 0) pa_nil)) (pe_one (pe_cmpR op_in_seq (pv 0) (pv 1) (by with_unfolding_all rfl))))),?_⟩
  refine ⟨_,rfl,i,rfl,true,rfl,iteT ?_⟩
  refine ⟨_,rfl,_,rfl,p,_,rfl, .inl hS,rfl,flat_ints _,?_⟩
  show Q (V.bl (inV (V.int i) (ns.map V.int))) H
  rw [inV_int]
  exact q
theorem scFits:FnScope NF ["land", "row"] (defScope sFits):=⟨rfl,rfl,rfl,by decide +kernel,rfl,by decide +kernel,by decide +kernel⟩
theorem bkFits:Blk NF (defScope sFits) (allScope ((defBody sFits).getD 5 (.Pass ⟨0,0,0,0⟩))) ["begin_here"] [4]:=⟨rfl,by decide +kernel,by decide +kernel,by decide +kernel,rfl,by decide +kernel⟩
theorem ndFits:(["lane", "begin_here"]:List Str).Nodup:=by decide +kernel
theorem ok_fits {c:Cs} {f ft fo f3 f4:Addr} {fd dt d1 d3 d4:FuncData} (F:Fun K "row_fits" "row_fits" sFits f fd) (T:Txt mg) (L:Lnd K c) (M:Mths K c f3 f4 d3 d4)
  (mt:mg "are_two_places" = some (.ref ft)) (kt:PySem.W.keepIn K (.ref ft)=true) (bt:Binds K dt ["places", "one", "other"] []) (Gt:FnOk P w K mg base CX0 3 ft dt ["places", "one", "other"] spTwo)
  (mo:mg "is_one_of" = some (.ref fo)) (ko:PySem.W.keepIn K (.ref fo)=true) (bo:Binds K d1 ["value", "numbers"] []) (Go:FnOk P w K mg base CX0 2 fo d1 ["value", "numbers"] (spOne K))
  (G3:FnOk P w K mg base CX0 1 f3 d3 ["self", "place"] (spIx c Prod.fst)) (G4:FnOk P w K mg base CX0 1 f4 d4 ["self", "place"] (spIx c Prod.snd)) :
  FnOk P w K mg base CX0 4 f fd ["land", "row"] (spFits c):=by
 refine F.ok scFits (fun vs H Q E h=>?_) (fun cdv A outer s H vs Q E hr h=>?_)
 ·obtain ⟨x,dx,lt,t,l,n,tvs,ps,r,rfl,_⟩:=h
  rfl
 ·obtain ⟨x,dx,lt,t,l,n,tvs,ps,r,rfl,hL,hR,hlen,hsl,q⟩:=h
  have hr1:Room 1 _:=hr.mono (by decide)
  have hr2:Room 2 _:=hr.mono (by decide)
  refine ⟨_,pss_cons (ps_set (i:=2) scFits.nd rfl (Or.inl rfl) (pe_ix ix_tup (pv 1) pe_int (fun _ _=>rfl)))
   (pss_cons (ps_set (i:=3) scFits.nd rfl (Or.inl rfl) (pe_ix ix_tup (pv 1) pe_int (fun _ _=>rfl)))
   (pss_cons (ps_if (pt_not (pt_val (pe_call Gt hr rfl mt kt bt .nil pass0 (pa_cons (pe_fld (pv 0) rfl) (pa_cons (pv 2) (pa_cons (pe_ix ix_tup (pv 1) pe_int (fun _ _=>rfl)) pa_nil)))))) (pss_one (ps_ret pe_bl)) pss_nil)
   (pss_cons (ps_if (PW.pt (pw_and (pt_cmpR op_notN (pv 3) pe_non (nomark _)) (pw_and1 (pt_not (pt_val (pe_call Go hr2 rfl mo ko bo .nil pass0 (pa_cons (pv 3) (pa_cons (pe_meth (pv 0) L.cl M.m4 G4 hr1 M.b4 .nil pass0 (pa_cons (pv 2) pa_nil)) pa_nil)))))))) (pss_one (ps_ret pe_bl)) pss_nil)
   (pss_cons (ps_set (i:=4) scFits.nd rfl (Or.inr rfl) (pe_meth (pv 0) L.cl M.m3 G3 hr1 M.b3 .nil pass0 (pa_cons (pv 2) pa_nil)))
   (pss_one (ps_ret (pe_callB (call_all rfl) rfl T.all PyProof.Rows.boot_all (pa_cons (pe_comp (own:=["lane"]) (capN:=["begin_here"]) (cap:=[4]) bkFits rfl (pi_list (pe_ix ix_tup (pv 1) pe_int (fun _ _=>rfl)))
    (fun C s' H' fp=>⟨pg_name (i:=0) ndFits rfl (Or.inl rfl),pts_nil,pe_call Go hr2 rfl mo ko bo .nil pass0 (pa_cons (pv 0) (pa_cons (pv 1) pa_nil))⟩)) pa_nil)))))))),?_⟩
  obtain ⟨hT,hl⟩:=hR
  have hTT:SqT K H t [.int r.p, .int r.g,cV r.c, .ref l]:=SqT.of hT
  refine ⟨_,rfl,t,_,0,_,rfl,rfl,hTT,atI_nat (j:=0) rfl,?_⟩
  refine ⟨_,rfl,t,_,2,_,rfl,rfl,hTT,atI_nat (j:=2) rfl,?_⟩
  refine ⟨_,rfl,x,c.land,dx,_,_,rfl,hL.1,L.cl,L.np,rfl,_,rfl,_,rfl,t,_,1,_,rfl,rfl,hTT,atI_nat (j:=1) rfl,n,r.p,r.g,rfl,_,rfl,?_⟩
  cases ho:okP n (r.p,r.g) with
  | false =>
   have e:fits n ps r=false:=by unfold fits; rw [ho]; rfl
   refine iteT ?_
   have:=q H (Same.refl H)
   rw [e] at this
   exact this
  | true =>
   refine iteF ?_
   cases hc:r.c with
   | none =>
    refine ⟨_,rfl,rfl,_,rfl,iteF (iteF ?_)⟩
    have s1:=Same.refl H
    have e1:fits n ps r=r.s.all fun k=>decide (k ∈ ixM Prod.fst ps r.p):=by unfold fits; rw [ho,hc]; rfl
    refine ⟨_,rfl,x,dx,_,rfl,s1 _ _ hL.1,rfl,_,rfl,x,dx,lt,n,tvs,ps,r.p,rfl,⟨s1 _ _ hL.1,s1 _ _ hL.2.1,Lns.same s1 hL.2.2⟩,hlen,fun H2 D2 s2 hD2=>?_⟩
    have s3:=(s1.trans s2).new (o := .lst (ixV Prod.fst ps r.p ps.length)) hD2
    have g2:(upd H2 D2 (.lst (ixV Prod.fst ps r.p ps.length))) D2=some (.lst (ixV Prod.fst ps r.p ps.length)):=upd_same
    generalize upd H2 D2 (.lst (ixV Prod.fst ps r.p ps.length))=H3 at s3 g2 ⊢
    refine ⟨_,rfl,t,_,3,_,rfl,rfl,SqT.of (s3 _ _ hT),atI_nat (j:=3) rfl,l,rfl,⟨_,SqL.of (s3 _ _ hl)⟩,?_⟩
    refine comp_lst (xs:=natV r.s) (fun _=>true) (fun v=>match v with | .int i => .bl (decide (i ∈ iz (ixM Prod.fst ps r.p))) | _ => .non) (by rw [PySem.sizeLine_eq]; simp only [natV,List.length_map]; omega) (SqL.of (s3 _ _ hl)) (fun y acc N hy h=>?_) (fun D hD=>?_)
    ·obtain ⟨k',_,rfl⟩:=List.mem_map.mp hy
     exact ⟨_,rfl,_,rfl,(k':Int),D2,iz (ixM Prod.fst ps r.p),rfl,by rw [← ixV_iz]; exact SqL.of g2,by simpa using h⟩
    ·rw [all_bls]
     refine ⟨D,r.s.map fun k=>decide (k ∈ ixM Prod.fst ps r.p),rfl,SqL.of upd_same,?_⟩
     have:=q _ (s3.new (o := .lst ((r.s.map fun k=>decide (k ∈ ixM Prod.fst ps r.p)).map V.bl)) hD)
     rw [e1] at this
     rw [all_id]
     exact this
   | some k =>
    refine ⟨_,rfl,rfl,_,rfl,iteT ?_⟩
    refine ⟨_,rfl,_,rfl,x,dx,_,rfl,hL.1,rfl,_,rfl,x,dx,lt,n,tvs,ps,r.p,rfl,hL,hlen,fun H' D s' hD=>?_⟩
    have s1:=s'.new (o := .lst (ixV Prod.snd ps r.p ps.length)) hD
    refine ⟨(k:Int),D,iz (ixM Prod.snd ps r.p),rfl,by rw [← ixV_iz]; exact SqL.of upd_same,_,rfl,?_⟩
    rw [iz_dec]
    cases hk:decide (k ∈ ixM Prod.snd ps r.p) with
    | false =>
     refine iteT ?_
     have e:fits n ps r=false:=by unfold fits; rw [ho,hc]; dsimp only; rw [hk]; rfl
     have:=q _ s1
     rw [e] at this
     exact this
    | true =>
     have e1:fits n ps r=r.s.all fun k=>decide (k ∈ ixM Prod.fst ps r.p):=by unfold fits; rw [ho,hc]; dsimp only; rw [hk]; rfl
     refine iteF ?_
     refine ⟨_,rfl,x,dx,_,rfl,s1 _ _ hL.1,rfl,_,rfl,x,dx,lt,n,tvs,ps,r.p,rfl,⟨s1 _ _ hL.1,s1 _ _ hL.2.1,Lns.same s1 hL.2.2⟩,hlen,fun H2 D2 s2 hD2=>?_⟩
     have s3:=(s1.trans s2).new (o := .lst (ixV Prod.fst ps r.p ps.length)) hD2
     have g2:(upd H2 D2 (.lst (ixV Prod.fst ps r.p ps.length))) D2=some (.lst (ixV Prod.fst ps r.p ps.length)):=upd_same
     generalize upd H2 D2 (.lst (ixV Prod.fst ps r.p ps.length))=H3 at s3 g2 ⊢
     refine ⟨_,rfl,t,_,3,_,rfl,rfl,SqT.of (s3 _ _ hT),atI_nat (j:=3) rfl,l,rfl,⟨_,SqL.of (s3 _ _ hl)⟩,?_⟩
     refine comp_lst (xs:=natV r.s) (fun _=>true) (fun v=>match v with | .int i => .bl (decide (i ∈ iz (ixM Prod.fst ps r.p))) | _ => .non) (by rw [PySem.sizeLine_eq]; simp only [natV,List.length_map]; omega) (SqL.of (s3 _ _ hl)) (fun y acc N hy h=>?_) (fun D hD=>?_)
     ·obtain ⟨k',_,rfl⟩:=List.mem_map.mp hy
      exact ⟨_,rfl,_,rfl,(k':Int),D2,iz (ixM Prod.fst ps r.p),rfl,by rw [← ixV_iz]; exact SqL.of g2,by simpa using h⟩
     ·rw [all_bls]
      refine ⟨D,r.s.map fun k=>decide (k ∈ ixM Prod.fst ps r.p),rfl,SqL.of upd_same,?_⟩
      have:=q _ (s3.new (o := .lst ((r.s.map fun k=>decide (k ∈ ixM Prod.fst ps r.p)).map V.bl)) hD)
      rw [e1] at this
      rw [all_id]
      exact this
end
end K33
namespace K33
open PySem L2
structure Ts where
 tab:Addr
 told:Addr
 ne:Addr
def spTab (K:PySem.W.Frag):Sp:=fun vs H Q _=>∃ (x C dx:Addr) (lv:V),vs=[.ref x,lv]/\H x=some (.ins C dx [])/\Cls K C/\NoAttr K C "land"/\Q .non (upd H x (.ins C dx [("land",lv)]))
def spTabW:Sp:=fun vs H Q _=>∃ a b c d:V,vs=[a,b,c,d]/\∀ p,H p=none->Q (.ref p) (upd H p (.lst []))
def setV (r:Rw):V := .int (Yd.setN r.s 0:Nat)
def spTold (P:Program) (w:World) (K:PySem.W.Frag) (c:Cs) (ts:Ts):Sp:=fun vs H Q E=>∃ (x dx lx ldx lt p:Addr) (n:Int) (tvs rvs:List V) (ps:List (Int × Int)) (rs:List Rw),
 vs=[.ref x, .ref lx, .ref p]/\H x=some (.ins ts.told dx [])/\LandAt H c lx ldx lt n tvs ps/\SqL K H p rvs/\Rws H rvs rs/\rvs.length <= 100000/\ps.length <= 1000/\(∀ r ∈ rs,(∀ k ∈ r.s,k <= 1000)/\r.s.length <= 1000) /\
 (∀ i,firstBad n ps rs rs.length=some i->∀ H' d,Off x H H'->H' d=some (.xd [("row", .int i)])->E (.ref ts.ne) (some d) H') /\
 (firstBad n ps rs rs.length=none->∀ H' de kvs,Off x H H'->H' x=some (.ins ts.told dx [("land", .ref lx),("entries", .ref de)])->DicAt P w H' de kvs->(∀ k,valO kvs k=(lastR rs k).map setV)->Q .non H')
def spToldW (P:Program) (w:World) (ts:Ts):Sp:=fun vs H Q _=>∃ (x dx de:Addr) (lv:V) (kvs:List Ent) (r:Rw) (m:Nat),vs=[.ref x, .int r.p, .int r.g,cV r.c]/\H x=some (.ins ts.told dx [("land",lv),("entries", .ref de)])/\DicAt P w H de kvs /\
 (valO kvs (keyOf r)).getD (.int 0) = .int m/\m < 2 ^ 400/\∀ H' D,Same H H'->H' D=none->Q (.ref D) (upd H' D (.lst (memV m)))
structure Tbl (K:PySem.W.Frag) (mg:Str->Option Value) (ts:Ts) (f1 f2:Addr) (d1 d2:FuncData):Prop where
 ct:Cls K ts.tab
 nt:NoAttr K ts.tab "land"
 cd:Cls K ts.told
 nd1:NoAttr K ts.told "land"
 nd2:NoAttr K ts.told "entries"
 mt:mg "Table" = some (.ref ts.tab)
 cm:CMeth K ts.tab "__init__" f1
 bt:Binds K d1 ["self", "land"] []
 mne:mg "NoEntry" = some (.ref ts.ne)
 xne:excInI K ts.ne (some (.ref f2))=true
 kne:PySem.W.keepIn K (.ref ts.ne)=true
 cne:XCls K ts.ne
 nne:PySem.W.findIn K (.ref ts.ne) "row" = some none
 ine:PySem.W.isFn K (.ref f2)=true
 Fne:Fun K "__init__" "NoEntry.__init__" sNE f2 d2
 bne:Binds K d2 ["self", "row"] []
abbrev NT:List Str:=["self", "land", "rows", "number", "row", "key"]
theorem Off.land {H H':Hp} {x C dx:Addr} (o:Off x H H') (hx:H x=some (.ins C dx [])) {c:Cs} {lx ldx lt:Addr} {n:Int} {tvs:List V} {ps:List (Int × Int)} (h:LandAt H c lx ldx lt n tvs ps):LandAt H' c lx ldx lt n tvs ps :=
 ⟨o _ _ (ne_of h.1 hx (by intro z; cases z)) h.1,o _ _ (ne_of h.2.1 hx (by intro z; cases z)) h.2.1,o.lns hx h.2.2⟩
section
variable {P:Program} {w:World} {K:PySem.W.Frag} {mg:Str->Option Value} {base:Heap}
theorem scNE:FnScope ["self", "row"] ["self", "row"] (defScope sNE):=⟨rfl,rfl,rfl,by decide +kernel,rfl,by decide +kernel,by decide +kernel⟩
theorem ok_ne {f:Addr} {fd:FuncData} (F:Fun K "__init__" "NoEntry.__init__" sNE f fd):FnOk P w K mg base CX0 1 f fd ["self", "row"] (spXi K "row"):=by
 refine F.ok scNE (fun vs H Q E h=>?_) (fun cdv A outer s H vs Q E hr h=>?_)
 ·obtain ⟨e,C,tt,v,rfl,_⟩:=h
  rfl
 ·obtain ⟨e,C,tt,v,rfl,h1,h2,h3,q⟩:=h
  refine ⟨_,pss_one (ps_fldX (pv 0) (pv 1) rfl),?_⟩
  exact ⟨_,rfl,_,rfl,e,C,tt,rfl,h1,h2,h3,q⟩
theorem scTab:FnScope ["self", "land"] ["self", "land"] (defScope sTab):=⟨rfl,rfl,rfl,by decide +kernel,rfl,by decide +kernel,by decide +kernel⟩
theorem ok_tab {f:Addr} {fd:FuncData} (F:Fun K "__init__" "Table.__init__" sTab f fd):FnOk P w K mg base CX0 1 f fd ["self", "land"] (spTab K):=by
 refine F.ok scTab (fun vs H Q E h=>?_) (fun cdv A outer s H vs Q E hr h=>?_)
 ·obtain ⟨x,C,dx,lv,rfl,_⟩:=h
  rfl
 ·obtain ⟨x,C,dx,lv,rfl,hx,hc,hn,q⟩:=h
  refine ⟨_,pss_one (ps_fld (pv 0) (pv 1) rfl),?_⟩
  exact ⟨_,rfl,_,rfl,x,C,dx,_,rfl,hx,hc,hn,by show 0 < 1000; decide,q⟩
theorem scToldW:FnScope ["self", "place", "goal", "came"] ["self", "place", "goal", "came"] (defScope sToldW):=⟨rfl,rfl,rfl,by decide +kernel,rfl,by decide +kernel,by decide +kernel⟩
theorem ok_toldW {ts:Ts} {f fm f1 f2:Addr} {fd dm d1 d2:FuncData} (F:Fun K "ways" "Told.ways" sToldW f fd) (B:Tbl K mg ts f1 f2 d1 d2) (mm:mg "members" = some (.ref fm)) (km:PySem.W.keepIn K (.ref fm)=true) (bm:Binds K dm ["some"] [])
  (Gm:FnOk P w K mg base CX0 2 fm dm ["some"] spMem):FnOk P w K mg base CX0 3 f fd ["self", "place", "goal", "came"] (spToldW P w ts):=by
 refine F.ok scToldW (fun vs H Q E h=>?_) (fun cdv A outer s H vs Q E hr h=>?_)
 ·obtain ⟨x,dx,de,lv,kvs,r,m,rfl,_⟩:=h
  rfl
 ·obtain ⟨x,dx,de,lv,kvs,r,m,rfl,hx,hd,hv,hm,q⟩:=h
  have hu:=hu_of hr
  refine ⟨_,pss_one (ps_ret (pe_call Gm hr rfl mm km bm .nil pass0 (pa_cons (pe_oget2 hu (pe_fld (pv 0) rfl) (pa_cons (pe_tup (pa_cons (pv 1) (pa_cons (pv 2) (pa_cons (pv 3) pa_nil)))) (pa_cons pe_int pa_nil))) pa_nil))),?_⟩
  refine ⟨_,rfl,x,ts.told,dx,_,_,rfl,hx,B.cd,B.nd2,rfl,de,kvs,rfl,hd,?_⟩
  refine ⟨_,rfl,_,rfl,_,rfl,by show 3 <= sizeLine; decide,fun t ht=>?_⟩
  have s1:Same H (upd H t (.tup [.int r.p, .int r.g,cV r.c])):=(Same.refl H).new ht
  refine ⟨_,_,valO kvs (keyOf r),rfl,⟨kvs,keyOf r,t,hd.same s1,rfl,by rw [key_tup]; exact upd_same,rfl⟩,?_⟩
  rw [hv]
  exact ⟨m,rfl,hm,fun D hD=>q _ D s1 hD⟩
theorem scTold:FnScope NT ["self", "land", "rows"] (defScope sTold):=⟨rfl,rfl,rfl,by decide +kernel,rfl,by decide +kernel,by decide +kernel⟩
theorem ok_told {c:Cs} {ts:Ts} {f ff fs f1 f2:Addr} {fd df ds d1 d2:FuncData} (F:Fun K "__init__" "Told.__init__" sTold f fd) (T:Txt mg) (B:Tbl K mg ts f1 f2 d1 d2) (G1:FnOk P w K mg base CX0 1 f1 d1 ["self", "land"] (spTab K))
  (mf:mg "row_fits" = some (.ref ff)) (kf:PySem.W.keepIn K (.ref ff)=true) (bf:Binds K df ["land", "row"] []) (Gf:FnOk P w K mg base CX0 4 ff df ["land", "row"] (spFits c))
  (ms:mg "set_of" = some (.ref fs)) (ks:PySem.W.keepIn K (.ref fs)=true) (bs:Binds K ds ["numbers"] []) (Gs:FnOk P w K mg base CX0 1 fs ds ["numbers"] (spSet K)) :
  FnOk P w K mg base (CXe P w) 5 f fd ["self", "land", "rows"] (spTold P w K c ts):=by
 have Gn:FnOk P w K mg base CX0 1 f2 d2 ["self", "row"] (spXi K "row"):=ok_ne B.Fne
 refine F.okX scTold (fun vs H Q E h=>?_) (fun cdv A outer s H vs Q E hr h=>?_)
 ·obtain ⟨x,dx,lx,ldx,lt,p,n,tvs,rvs,ps,rs,rfl,_⟩:=h
  rfl
 ·obtain ⟨x,dx,lx,ldx,lt,p,n,tvs,rvs,ps,rs,rfl,hx,hL,hp,hR,hlen,hps,hsm,hE,hQ⟩:=h
  have hr1:Room 1 _:=hr.mono (by decide)
  have hr2:Room 2 _:=hr.mono (by decide)
  have hu:=hu_of hr
  refine ⟨_,pss_cons (ps_expr (pe_cmeth (pe_glob (v := .ref ts.tab) rfl B.mt rfl) B.cm G1 hr1 B.bt .nil pass0 (pa_cons (pv 0) (pa_cons (pv 1) pa_nil))))
   (pss_cons (ps_fld (pv 0) (show PE _ _ (tONew P w) from pe_onew) rfl)
   (pss_one (ps_for own_def rfl (pi_enumL rfl T.enum (pa_cons (pv 2) pa_nil)) (pg_tup rfl (pgs_cons (pg_name (i:=3) scTold.nd rfl (Or.inl rfl)) (pgs_cons (pg_name (i:=4) scTold.nd rfl (Or.inl rfl)) pgs_nil)))
    (pss_cons (ps_set (i:=5) scTold.nd rfl (Or.inl rfl) (pe_tup (pa_cons (pe_ix ix_tup (pv 4) pe_int (fun _ _=>rfl)) (pa_cons (pe_ix ix_tup (pv 4) pe_int (fun _ _=>rfl)) (pa_cons (pe_ix ix_tup (pv 4) pe_int (fun _ _=>rfl)) pa_nil)))))
    (pss_cons (ps_if (PW.pt (pw_or (pt_not (pt_val (pe_call Gf hr rfl mf kf bf .nil pass0 (pa_cons (pv 1) (pa_cons (pv 4) pa_nil))))) (pw_or1 (pt_cmp (pc_oin hu (pv 5) (pe_fld (pv 0) rfl))))))
     (pss_one (ps_raise rfl B.xne passX_def (px_init B.xne B.ine B.kne Gn hr2 B.bne rfl B.mne (pa_cons (pv 3) pa_nil)))) pss_nil)
    (pss_one (ps_oput hu (pe_fld (pv 0) rfl) (pv 5) (pe_call Gs hr1 rfl ms ks bs .nil pass0 (pa_cons (pe_ix ix_tup (pv 4) pe_int (fun _ _=>rfl)) pa_nil)) rfl))))))),?_⟩
  refine ⟨rfl,_,rfl,_,rfl,x,ts.told,dx,_,rfl,hx,B.cd,B.nd1,?_⟩
  refine fun de hde=>⟨_,rfl,x,ts.told,dx,[("land", .ref lx)],rfl,by rw [upd_ne (ne_of_none upd_same hde)]; exact upd_same,B.cd,B.nd2,by show 1 < 1000; decide,?_⟩
  have nde:x ≠ de:=ne_of_none upd_same hde
  have hde0:H de=none:=by rw [upd_ne (Ne.symm nde)] at hde; exact hde
  generalize hH2:upd (upd (upd H x (.ins ts.told dx [("land", .ref lx)])) de (DicO P w de [])) x (.ins ts.told dx (putF "entries" (.ref de) [("land", .ref lx)]))=H2
  have o2:Off x H H2:=fun b o hb e=>by rw [← hH2,upd_ne hb,upd_ne (ne_of_none e hde0),upd_ne hb]; exact e
  have x2:H2 x=some (.ins ts.told dx [("land", .ref lx),("entries", .ref de)]):=by rw [← hH2,upd_same]; rfl
  have d2:DicAt P w H2 de []:=⟨by rw [← hH2,upd_ne (Ne.symm nde),upd_same],fun y hy=>by cases hy⟩
  have hrs:rvs.length=rs.length:=Paired.length hR
  refine ⟨_,rfl,p,rfl,⟨_,o2.sq hx hp⟩,for_enum (sq:=fun H=>SqL K H p) (xs:=rvs) (fun i σ H3=>∃ (a b k:Option V) (kvs:List Ent),Off x H H3/\H3 x=some (.ins ts.told dx [("land", .ref lx),("entries", .ref de)])/\DicAt P w H3 de kvs/\kvs.length <= i /\
    (∀ k,valO kvs k=(lastR (rs.take i) k).map setV)/\(∀ j,j < i->badL n ps (rs.take j) (rs.getD j ⟨0,0,none,[]⟩)=false)/\σ=[some (.ref x),some (.ref lx),some (.ref p),a,b,k])
   ⟨none,none,none,[],o2,x2,d2,Nat.le_refl _,fun k=>rfl,fun j hj=>absurd hj (Nat.not_lt_zero _),rfl⟩ (fun i σ H3 _ ⟨_,_,_,_,o3,_⟩=>o3.sq hx hp) ?_ ?_⟩
  ·rintro i v q σ H3 hv ⟨a,b,k,kvs,o3,x3,d3,l3,v3,g3,rfl⟩ hq
   obtain ⟨r,hri,t,l,rfl,hT⟩:=Rws.get hR hv
   have hi:i < rs.length:=(List.getElem?_eq_some_iff.mp hri).1
   have egd:rs.getD i ⟨0,0,none,[]⟩ = r:=by rw [List.getD_eq_getElem?_getD,hri]; rfl
   have hT3:RwT H3 t l r:=⟨o3 _ _ (ne_of hT.1 hx (by intro z; cases z)) hT.1,o3 _ _ (ne_of hT.2 hx (by intro z; cases z)) hT.2⟩
   have hL3:=o3.land hx hL
   have s4:Same H3 (upd H3 q (.tup [.int i, .ref t])):=(Same.refl H3).new hq
   refine ⟨q,_,rfl,SqT.of upd_same,rfl,_,_,rfl,_,_,rfl,rfl,?_⟩
   generalize upd H3 q (.tup [.int i, .ref t])=H4 at s4 ⊢
   have hT4:SqT K H4 t [.int r.p, .int r.g,cV r.c, .ref l]:=SqT.of (s4 _ _ hT3.1)
   refine ⟨_,rfl,t,_,0,_,rfl,rfl,hT4,atI_nat (j:=0) rfl,_,rfl,t,_,1,_,rfl,rfl,hT4,atI_nat (j:=1) rfl,_,rfl,t,_,2,_,rfl,rfl,hT4,atI_nat (j:=2) rfl,by show 3 <= sizeLine; decide,fun kt hkt=>?_⟩
   have s5:Same H3 (upd H4 kt (.tup [.int r.p, .int r.g,cV r.c])):=s4.new hkt
   have k5:(upd H4 kt (.tup [.int r.p, .int r.g,cV r.c])) kt=some (.tup ((keyOf r).map okV)):=by rw [key_tup]; exact upd_same
   generalize upd H4 kt (.tup [.int r.p, .int r.g,cV r.c])=H5 at s5 k5 ⊢
   refine ⟨_,rfl,_,rfl,lx,ldx,lt,t,l,n,tvs,ps,r,rfl,⟨s5 _ _ hL3.1,s5 _ _ hL3.2.1,Lns.same s5 hL3.2.2⟩,hT3.same s5,hps,(hsm r (List.mem_of_getElem? hri)).2,fun H6 s56=>⟨_,rfl,?_⟩⟩
   have s6:=s5.trans s56
   have k6:=s56 _ _ k5
   have x6:=s6 _ _ x3
   have d6:=d3.same s6
   have flown:badL n ps (rs.take i) r=true->∀ e tt,H6 e=none->∀ d,upd H6 e (ExcAt e ts.ne tt none) d=none ->
     ∃ dd,(upd (upd (upd H6 e (ExcAt e ts.ne tt none)) d (.xd [("row", .int i)])) e (ExcAt e ts.ne tt (some d))) e=some (ExcAt e ts.ne tt dd)/\E (.ref ts.ne) dd (del (upd (upd (upd H6 e (ExcAt e ts.ne tt none)) d (.xd [("row", .int i)])) e (ExcAt e ts.ne tt (some d))) e):=by
    intro hb e tt he d hd
    obtain ⟨m1,m2,m3⟩:=made_heap (o:=ExcAt e ts.ne tt none) (o':=ExcAt e ts.ne tt (some d)) (x := .xd [("row", .int i)]) he hd
    exact ⟨some d,m3,hE i (firstBad_some hi g3 (by rw [egd]; exact hb)) _ d (o3.same (s6.trans m1)) m2⟩
   cases hf:fits n ps r with
   | false =>
    refine iteT (iteT ⟨_,rfl,by show 1 <= sizeLine; decide,fun e tt he=>⟨e,_,tt,_,rfl,upd_same,B.cne,B.nne,fun d hd=>⟨rfl,?_⟩⟩⟩)
    exact flown (by rw [bad_fits,hf]; rfl) e tt he d hd
   | true =>
    refine iteF ⟨_,rfl,_,rfl,x,ts.told,dx,_,_,rfl,x6,B.cd,B.nd2,rfl,de,_,rfl,⟨kvs,keyOf r,kt,d6,rfl,k6,rfl⟩,_,rfl,?_⟩
    have eS:(valO kvs (keyOf r)).isSome=(rs.take i).any fun a=>decide (keyOf a=keyOf r):=by rw [v3,Option.isSome_map,lastR_isSome]
    cases hS:(valO kvs (keyOf r)).isSome with
    | true =>
     refine iteT ⟨_,rfl,by show 1 <= sizeLine; decide,fun e tt he=>⟨e,_,tt,_,rfl,upd_same,B.cne,B.nne,fun d hd=>⟨rfl,?_⟩⟩⟩
     exact flown (by rw [bad_fits,hf,← eS,hS]; rfl) e tt he d hd
    | false =>
     refine iteF ?_
     have hT6:=hT3.same s6
     refine ⟨_,rfl,t,_,3,_,rfl,rfl,SqT.of hT6.1,atI_nat (j:=3) rfl,l,r.s,rfl,SqL.of hT6.2,(hsm r (List.mem_of_getElem? hri)).1,?_⟩
     refine ⟨_,rfl,x,ts.told,dx,_,_,rfl,x6,B.cd,B.nd2,rfl,_,rfl,de,kvs,keyOf r,kt,rfl,d6,rfl,k6,by rw [PySem.sizeLine_eq]; omega,?_⟩
     have hx6:x ≠ de:=nde
     refine ⟨_,_,_,putO kvs (keyOf r) kt (setV r),fun b' o hb e=>?_,?_,⟨upd_same,putO_keys (F:=fun k a=>(upd H6 de (DicO P w de (putO kvs (keyOf r) kt (setV r)))) a=some (.tup (k.map okV))) (fun y hy=>?_) ?_⟩,?_,fun k'=>?_,fun j hj=>?_,rfl⟩
     ·rw [upd_ne (ne_of_none e hde0)]; exact s6 _ _ (o3 _ _ hb e)
     ·rw [upd_ne nde]; exact x6
     ·rw [upd_ne (ne_of (d6.2 y hy) d6.1 (by intro z; cases z))]; exact d6.2 y hy
     ·rw [upd_ne (ne_of k6 d6.1 (by intro z; cases z))]; exact k6
     ·exact Nat.le_trans putO_length (Nat.succ_le_succ l3)
     ·rw [valO_put,List.take_succ,hri,Option.toList_some,lastR_snoc,v3]
      by_cases hk:k' = keyOf r
      ·rw [if_pos hk,if_pos hk]; rfl
      ·rw [if_neg hk,if_neg hk]
     ·rcases Nat.lt_or_ge j i with h | h
      ·exact g3 j h
      ·have:j=i:=by omega
       subst this
       rw [egd,bad_fits,hf,← eS,hS]; rfl
  ·rintro σ H3 ⟨a,b,k,kvs,o3,x3,d3,l3,v3,g3,rfl⟩
   rw [hrs] at g3 v3
   rw [List.take_length] at v3
   exact hQ (firstBad_none g3) H3 de kvs o3 x3 d3 v3
end
end K33
namespace K33
open PySem L2
theorem okP_next {n a e:Int} (h1:0 <= a) (h2:a < n) (h3:0 <= e) (h4:e < n - 1):okP n (a,(a + 1 + e) % n)=true:=by
 have hb:(a + 1 + e) % n=if a + 1 + e < n then a + 1 + e else a + 1 + e - n:=by
  split
  ·exact Int.emod_eq_of_lt (by omega) (by omega)
  ·rw [← Int.sub_emod_right,Int.emod_eq_of_lt (by omega) (by omega)]
 unfold okP
 dsimp only
 rw [hb]
 simp only [Bool.and_eq_true,decide_eq_true_eq,Bool.not_eq_true',decide_eq_false_iff_not]
 split <;> omega
theorem lns_off {H:Hp} {l:Addr} {xs:List V} {o:HO} (hl:H l=some (.lst xs)):∀ {vs:List V} {ps:List (Int × Int)},Lns H vs ps->Lns (upd H l o) vs ps
 | _,_, .nil => .nil
 | _,_, .cons ⟨t,e,q⟩ r => .cons ⟨t,e,by rw [upd_ne (ne_of q hl (by intro z; cases z))]; exact q⟩ (lns_off hl r)
def noScope:Scope:={ kind := .function,names:=[],isGenerator:=false,isCoroutine:=false }
def asgScope (s:Stmt):Scope:=match s with
 | .Assign _ (.ListComp _ _ sc _) _=>sc
 | _=>noScope
def catScope (s:Stmt):Scope:=match s with
 | .Assign _ (.BinOp _ _ (.ListComp _ _ sc _) _) _=>sc
 | _=>noScope
theorem ixM_le {sel:Int × Int->Int} {ps:List (Int × Int)} {pl:Int} {k:Nat} (h:k ∈ ixM sel ps pl):k < ps.length:=List.mem_range.mp (List.mem_filter.mp h).1
theorem ixM_len (sel:Int × Int->Int) (ps:List (Int × Int)) (pl:Int):(ixM sel ps pl).length <= ps.length:=by
 have:=List.length_filter_le (fun k=>decide (sel (ps.getD k (0,0))=pl)) (List.range ps.length)
 rw [List.length_range] at this
 exact this
theorem comp_ix {sel:Int × Int->Int} {ps:List (Int × Int)} {pl:Int} {g:TG} {tt:TT} {te:TE} {σ0:St} {H:Hp} {Q:VK} (hn:ps.length < sizeLine)
  (hs:∀ (i:Nat) (acc:List V) (N:List V->Hp->Prop) (pr:Int × Int),ps[i]? = some pr->N (if decide (sel pr=pl)=true then acc ++ [V.int i] else acc) H->g (.int i) σ0 H fun σ2 H2=>tt σ2 H2 fun b H3=>if b=true then te σ2 H3 fun y H4=>N (acc ++ [y]) H4 else N acc H3)
  (hq:∀ D,H D=none->Q (.ref D) (upd H D (.lst (natV (ixM sel ps pl))))):CompR (Itr 0 ps.length) g tt te σ0 Q H:=by
 refine comp_rng (lo:=0) (fun k=>decide (sel (ps.getD k (0,0))=pl)) (fun k=>V.int k) hn (fun i acc N hi h=>?_) hq
 obtain ⟨pr,hpr⟩:∃ pr,ps[i]? = some pr:=⟨ps[i],List.getElem?_eq_getElem hi⟩
 have eg:ps.getD i (0,0)=pr:=by rw [List.getD_eq_getElem?_getD,hpr]; rfl
 rw [Int.zero_add]
 rw [eg] at h
 exact hs i acc N pr hpr h
def RwX (x:Addr) (H:Hp) (v:V) (r:Rw):Prop:=∃ t l,v = .ref t/\RwT H t l r/\l ≠ x
abbrev Rxs (x:Addr) (H:Hp):List V->List Rw->Prop:=Paired (RwX x H)
abbrev TIn:=Hp->Addr->(Oks->Nat)->Prop
def spWays (J:TIn):Sp:=fun vs H Q _=>∃ (x:Addr) (wy:Oks->Nat) (r:Rw),vs=[.ref x, .int r.p, .int r.g,cV r.c]/\J H x wy/\∀ H' D,Same H H'->H' D=none->Q (.ref D) (upd H' D (.lst (memV (wy (keyOf r)))))
structure Way (K:PySem.W.Frag) (C fw:Addr) (dw:FuncData) (J:TIn):Prop where
 cl:Cls K C
 m:Meth K C "ways" fw
 b:Binds K dw ["self", "place", "goal", "came"] []
 inst:∀ H x wy,J H x wy->∃ dx fs,H x=some (.ins C dx fs)/\fs.lookup ("ways":Str)=none
 stay:∀ H H' x wy,J H x wy->Same H H'->J H' x wy
def wayOf (rs:List Rw) (k:Oks):Nat:=match lastR rs k with
 | some r=>Yd.setN r.s 0
 | none=>0
theorem last_mem {rs:List Rw} {k:Oks} {r:Rw} (h:lastR rs k=some r):r ∈ rs:=List.mem_reverse.mp (List.mem_of_find?_eq_some h)
def ToldAt (P:Program) (w:World) (ts:Ts):TIn:=fun H x wy=>∃ (dx de:Addr) (lv:V) (kvs:List Ent),H x=some (.ins ts.told dx [("land",lv),("entries", .ref de)])/\DicAt P w H de kvs/\∀ k,(valO kvs k).getD (.int 0) = .int (wy k)/\wy k < 2 ^ 400
def TabAt (ts:Ts):TIn:=fun H x wy=>∃ (dx:Addr) (lv:V),H x=some (.ins ts.tab dx [("land",lv)])/\∀ k,wy k=0
def pairD (p:Int × Int):PyData := .tuple [.int p.1, .int p.2]
theorem dens_lns {K:PySem.W.Frag} {H:Hp}:∀ {vs:List V} {ps:List (Int × Int)},Lns H vs ps->Dens K H vs (ps.map pairD)
 | _,_, .nil => .nil
 | _,_, .cons ⟨t,e,h⟩ r => .cons (by subst e; exact .tup (SqT.of h) (.cons (.int _) (.cons (.int _) .nil))) (dens_lns r)
section
variable {P:Program} {w:World} {K:PySem.W.Frag} {mg:Str->Option Value} {base:Heap}
theorem told_ways {ts:Ts} {f:Addr} {fd:FuncData} (G:FnOk P w K mg base CX0 3 f fd ["self", "place", "goal", "came"] (spToldW P w ts)):FnOk P w K mg base CX0 3 f fd ["self", "place", "goal", "came"] (spWays (ToldAt P w ts)) :=
 G.imp fun vs H Q E ⟨x,wy,r,e,⟨dx,de,lv,kvs,h1,h2,h3⟩,q⟩=>⟨x,dx,de,lv,kvs,r,wy (keyOf r),e,h1,h2,(h3 _).1,(h3 _).2,q⟩
end
def cames (ps:List (Int × Int)) (p:Nat):List (Option Nat):=none :: (ixM Prod.snd ps p).map some
abbrev Key:=Int × Int × Option Nat
def keyN (r:Rw):Key:=(r.p,r.g,r.c)
def blockG (ps:List (Int × Int)) (p g:Nat):List Key:=if g=p then [] else (cames ps p).map fun c=>((p:Int),(g:Int),c)
def blockP (ps:List (Int × Int)) (n p:Nat):List Key:=(List.range n).flatMap fun g=>blockG ps p g
def keysOf (ps:List (Int × Int)) (n m:Nat):List Key:=(List.range m).flatMap fun p=>blockP ps n p
def okey (k:Key):Oks:=[some k.1,some k.2.1,k.2.2.map fun z:Nat=>(z:Int)]
theorem okey_inj {k l:Key} (h:okey k=okey l):k=l:=by
 obtain ⟨a,b,c⟩:=k
 obtain ⟨a',b',c'⟩:=l
 simp only [okey,List.cons.injEq,Option.some.injEq,and_true] at h
 obtain ⟨rfl,rfl,h⟩:=h
 congr 2
 cases c <;> cases c' <;> simp_all <;> omega
structure RowsOk (n:Nat) (ps:List (Int × Int)) (rs:List Rw):Prop where
 keys:rs.map keyN=keysOf ps n n
 lanes:∀ r ∈ rs,(∀ k ∈ r.s,k ∈ ixM Prod.fst ps r.p)/\r.s.length <= ps.length
theorem key_eq {a r:Rw} (h:keyOf a=keyOf r):keyN a=keyN r:=okey_inj h
def isStart (wy:Oks->Nat) (p g:Nat):Bool:=!decide (wy [some (p:Int),some (g:Int),none]=0)
def rowStarts (wy:Oks->Nat) (p m:Nat):List (Int × Int):=((List.range m).filter fun g=>isStart wy p g).map fun g:Nat=>((p:Int),(g:Int))
def startsOf (wy:Oks->Nat) (n m:Nat):List (Int × Int):=(List.range m).flatMap fun p=>rowStarts wy p n
theorem starts_succ (wy:Oks->Nat) (n i:Nat):startsOf wy n (i + 1)=startsOf wy n i ++ rowStarts wy i n:=by
 unfold startsOf
 rw [List.range_succ,List.flatMap_append]
 simp
theorem row_succ (wy:Oks->Nat) (p j:Nat):rowStarts wy p (j + 1)=if isStart wy p j then rowStarts wy p j ++ [((p:Int),(j:Int))] else rowStarts wy p j:=by
 unfold rowStarts
 rw [List.range_succ,List.filter_append]
 cases h:isStart wy p j with
 | true=>simp [h]
 | false=>simp [h]
theorem row_len (wy:Oks->Nat) (p m:Nat):(rowStarts wy p m).length <= m:=by
 unfold rowStarts
 rw [List.length_map]
 exact Nat.le_trans (List.length_filter_le _ _) (by rw [List.length_range]; exact Nat.le_refl _)
theorem starts_len (wy:Oks->Nat) (n:Nat):∀ m,(startsOf wy n m).length <= m * n
 | 0=>by simp [startsOf]
 | m + 1=>by
  rw [starts_succ,List.length_append,Nat.succ_mul]
  have:=starts_len wy n m
  have:=row_len wy m n
  omega
end K33
namespace K33
abbrev As:=List (Nat × Option Nat)
def addW (l:Option Nat) (a:As) (ws:List Nat):As:=ws.foldl (fun a x=>if x ∈ a.map (·.1) then a else a ++ [(x,l)]) a
def runA (on:Nat->List Nat):Nat->As->Nat->As
 | 0,a,_=>a
 | f + 1,a,i=>match a[i]? with
  | some x=>runA on f (addW (some x.1) a (on x.1)) (i + 1)
  | none=>a
structure Aok (L:Nat) (a:As):Prop where
 nd:(a.map (·.1)).Nodup
 lt:∀ x ∈ a,x.1 < L
theorem nodup_le:∀ (n:Nat) (l:List Nat),l.Nodup->(∀ x ∈ l,x < n)->l.length <= n
 | 0,l,_,h=>by
  cases l with
  | nil=>exact Nat.le_refl _
  | cons x l=>exact absurd (h x List.mem_cons_self) (Nat.not_lt_zero _)
 | n + 1,l,hn,h=>by
  by_cases hm:n ∈ l
  ·have e:=List.length_erase_of_mem hm
   have:=nodup_le n (l.erase n) (hn.erase n) fun x hx=>by
    have hx':=(hn.mem_erase_iff).mp hx
    have:=h x hx'.2
    have:=hx'.1
    omega
   omega
  ·have:=nodup_le n l hn fun x hx=>by
    have:=h x hx
    have:x ≠ n:=fun z=>hm (by rw [← z]; exact hx)
    omega
   omega
theorem Aok.few {L:Nat} {a:As} (h:Aok L a):a.length <= L:=by
 have:=nodup_le L (a.map (·.1)) h.nd fun x hx=>by
  obtain ⟨y,hy,rfl⟩:=List.mem_map.mp hx
  exact h.lt y hy
 rwa [List.length_map] at this
theorem Aok.add {L:Nat} {a:As} {l:Option Nat} {x:Nat} (h:Aok L a) (hx:x < L) (hn:x ∉ a.map (·.1)):Aok L (a ++ [(x,l)]) where
 nd:=by
  rw [List.map_append,List.nodup_append]
  refine ⟨h.nd,by simp,fun y hy c hc=>?_⟩
  have hc:c=x:=by simpa using hc
  intro z
  rw [z,hc] at hy
  exact hn hy
 lt:=fun y hy=>by
  rcases List.mem_append.mp hy with hy | hy
  ·exact h.lt y hy
  ·rw [List.mem_singleton.mp hy]; exact hx
theorem addW_nil (l:Option Nat) (a:As):addW l a []=a:=rfl
theorem addW_snoc (l:Option Nat) (a:As) (ws:List Nat) (x:Nat):addW l a (ws ++ [x])=if x ∈ (addW l a ws).map (·.1) then addW l a ws else addW l a ws ++ [(x,l)]:=by
 unfold addW
 rw [List.foldl_append]; rfl
theorem runA_end {on:Nat->List Nat} {a:As} {i:Nat} (h:a[i]? = none):∀ f,runA on f a i=a
 | 0=>rfl
 | f + 1=>by unfold runA; rw [h]
theorem runA_step {on:Nat->List Nat} {a:As} {i f:Nat} {x:Nat × Option Nat} (h:a[i]? = some x):runA on (f + 1) a i=runA on f (addW (some x.1) a (on x.1)) (i + 1):=by
 rw [runA,h]
end K33
namespace K33
open PySem L2
def spStarts (c:Cs) (C:Addr) (J:TIn):Sp:=fun vs H Q _=>∃ (x dx lx ldx lt:Addr) (fs:List (Str × V)) (n:Nat) (tvs:List V) (ps:List (Int × Int)) (wy:Oks->Nat),vs=[.ref x]/\J H x wy/\H x=some (.ins C dx fs)/\fs.lookup ("land":Str)=some (.ref lx)/\LandAt H c lx ldx lt n tvs ps/\n <= 12 /\
 ∀ (D:Addr) (us:List V) (H':Hp),Same H H'->H D=none->H' D=some (.lst us)->Lns H' us (startsOf wy n n)->Q (.ref D) H'
abbrev NSt:List Str:=["table", "found", "place", "goal"]
theorem memV_empty (m:Nat):(!(memV m).isEmpty) = !decide (m=0):=by
 congr 1
 rw [Bool.eq_iff_iff,List.isEmpty_iff,decide_eq_true_eq]
 unfold memV
 rw [List.map_eq_nil_iff]
 constructor
 ·intro h
  have:=Yd.set_mem (Yd.bits_lt m)
  rw [h] at this
  exact this.symm
 ·rintro rfl; rfl
section
variable {P:Program} {w:World} {K:PySem.W.Frag} {mg:Str->Option Value} {base:Heap}
theorem scSt:FnScope NSt ["table"] (defScope sStarts):=⟨rfl,rfl,rfl,by decide +kernel,rfl,by decide +kernel,by decide +kernel⟩
theorem ok_starts {c:Cs} {J:TIn} {C f fw:Addr} {fd dw:FuncData} (F:Fun K "starts" "starts" sStarts f fd) (T:Txt mg) (L:Lnd K c) (W:Way K C fw dw J) (nl:NoAttr K C "land") (Gw:FnOk P w K mg base CX0 3 fw dw ["self", "place", "goal", "came"] (spWays J)) :
  FnOk P w K mg base CX0 4 f fd ["table"] (spStarts c C J):=by
 refine F.ok scSt (fun vs H Q E h=>?_) (fun cdv A outer s H vs Q E hr h=>?_)
 ·obtain ⟨x,dx,lx,ldx,lt,fs,n,tvs,ps,wy,rfl,_⟩:=h
  rfl
 ·obtain ⟨x,dx,lx,ldx,lt,fs,n,tvs,ps,wy,rfl,hJ,hx,hf,hL,hn,q⟩:=h
  refine ⟨_,pss_cons (ps_set (i:=1) scSt.nd rfl (Or.inl rfl) (pe_lst pa_nil))
   (pss_cons (ps_for PassesOwn.never rfl (pi_range1 rfl T.range (pa_cons (pe_fld (pe_fld (pv 0) rfl) rfl) pa_nil)) (pg_name (i:=2) scSt.nd rfl (Or.inl rfl))
    (pss_one (ps_for PassesOwn.never rfl (pi_range1 rfl T.range (pa_cons (pe_fld (pe_fld (pv 0) rfl) rfl) pa_nil)) (pg_name (i:=3) scSt.nd rfl (Or.inl rfl))
     (pss_one (ps_if (pt_truth (pe_meth (pv 0) W.cl W.m Gw hr W.b .nil pass0 (pa_cons (pv 2) (pa_cons (pv 3) (pa_cons pe_non pa_nil)))) (fun _=>rfl))
      (pss_one (ps_expr (pe_bm PySem.F.plainAttrs_list PySem.F.slot_list_append PySem.F.type_list_append mt_append (pv 1) (pa_cons (pe_tup (pa_cons (pv 2) (pa_cons (pv 3) pa_nil))) pa_nil)))) pss_nil)))))
   (pss_one (ps_ret (pv 1)))),?_⟩
  obtain ⟨dx',fs',hx',hw'⟩:=W.inst _ _ _ hJ
  rw [hx] at hx'
  injection hx' with hx'
  injection hx' with _ e1 e2
  subst e1 e2
  refine ⟨Nat.zero_le _,fun D hD=>?_⟩
  have s0:=(Same.refl H).new (o := .lst []) hD
  refine ⟨_,rfl,x,C,dx,fs,_,rfl,s0 _ _ hx,W.cl,nl,hf,lx,c.land,ldx,_,_,rfl,s0 _ _ hL.1,L.cl,L.np,rfl,(n:Int),rfl,by omega,by omega,?_⟩
  rw [Int.toNat_natCast]
  refine for_range (n:=n) (fun i σ H2=>∃ (a2 a3:Option V) (us:List V),Same H H2/\H2 D=some (.lst us)/\Lns H2 us (startsOf wy n i)/\σ=[some (.ref x),some (.ref D),a2,a3])
   ⟨none,none,[],s0,upd_same, .nil,rfl⟩ ?_ ?_
  ·rintro i σ H2 hi ⟨a2,a3,us,s2,gD,hU,rfl⟩
   rw [Int.zero_add]
   refine ⟨_,rfl,x,C,dx,fs,_,rfl,s2 _ _ hx,W.cl,nl,hf,lx,c.land,ldx,_,_,rfl,s2 _ _ hL.1,L.cl,L.np,rfl,(n:Int),rfl,by omega,by omega,?_⟩
   rw [Int.toNat_natCast]
   refine for_range (n:=n) (fun j σ H3=>∃ (a3:Option V) (us:List V),Same H H3/\H3 D=some (.lst us)/\Lns H3 us (startsOf wy n i ++ rowStarts wy i j)/\σ=[some (.ref x),some (.ref D),some (.int i),a3])
    ⟨_,us,s2,gD,by simpa [rowStarts] using hU,rfl⟩ ?_ ?_
   ·rintro j σ H3 hj ⟨a3,us,s3,gD3,hU3,rfl⟩
    rw [Int.zero_add]
    refine ⟨_,rfl,x,dx,fs,rfl,s3 _ _ hx,hw',_,rfl,_,rfl,x,wy,⟨(i:Int),(j:Int),none,[]⟩,rfl,W.stay _ _ _ _ hJ s3,fun H4 D4 s34 hD4=>?_⟩
    have s35:Same H3 (upd H4 D4 (.lst (memV (wy (keyOf ⟨(i:Int),(j:Int),none,[]⟩))))):=s34.new hD4
    refine ⟨_, .inl ⟨_,SqL.of upd_same,rfl⟩,?_⟩
    show if (!(memV (wy (keyOf ⟨(i:Int),(j:Int),none,[]⟩))).isEmpty)=true then _ else _
    rw [memV_empty]
    have hlen:us.length <= 200:=by
     have e:=Paired.length hU3
     rw [List.length_append] at e
     have b1:=starts_len wy n i
     have b2:=row_len wy i j
     have b3:i * n <= 12 * 12:=Nat.mul_le_mul (by omega) hn
     omega
    cases hs:isStart wy i j with
    | false =>
     have hs':(!decide (wy (keyOf ⟨(i:Int),(j:Int),none,[]⟩)=0))=false:=hs
     have hR:(upd H4 D4 (.lst (memV (wy (keyOf ⟨(i:Int),(j:Int),none,[]⟩))))) D=some (.lst us):=s35 _ _ gD3
     rw [hs']
     refine iteF ⟨_,us,s3.trans s35,hR,?_,rfl⟩
     rw [row_succ,hs]
     exact Lns.same s35 hU3
    | true =>
     have hs':(!decide (wy (keyOf ⟨(i:Int),(j:Int),none,[]⟩)=0))=true:=hs
     rw [hs']
     generalize upd H4 D4 (.lst (memV (wy (keyOf ⟨(i:Int),(j:Int),none,[]⟩))))=H5 at s35 ⊢
     refine iteT ⟨_,rfl, .inl ⟨rfl,_,SqL.of (s35 _ _ gD3)⟩,_,rfl,_,rfl,by show 2 <= sizeLine; decide,fun t ht=>?_⟩
     have s6:=(Same.refl H5).new (o := .tup [.int i, .int j]) ht
     have gT:(upd H5 t (.tup [.int i, .int j])) t=some (.tup [.int i, .int j]):=upd_same
     have nT:t ≠ D:=Ne.symm (ne_of_none (s35 _ _ gD3) ht)
     generalize upd H5 t (.tup [.int i, .int j])=H6 at s6 gT ⊢
     have s36:=s35.trans s6
     refine ⟨D,us,_,rfl,rfl,s36 _ _ gD3,by rw [PySem.sizeLine_eq]; omega,?_⟩
     refine ⟨_,us ++ [.ref t],fun b o e=>by rw [upd_ne (ne_of_none e hD)]; exact s36 _ _ (s3 _ _ e),upd_same,?_,rfl⟩
     rw [row_succ,hs,if_pos rfl,← List.append_assoc]
     exact Lns.snoc ⟨t,rfl,by rw [upd_ne nT]; exact gT⟩ (lns_off (s36 _ _ gD3) (Lns.same s36 hU3))
   ·rintro σ H3 ⟨a3,us,s3,gD3,hU3,rfl⟩
    refine ⟨_,_,us,s3,gD3,?_,rfl⟩
    rw [starts_succ]
    exact hU3
  ·rintro σ H2 ⟨a2,a3,us,s2,gD,hU,rfl⟩
   exact ⟨_,rfl,q D us H2 s2 hD gD hU⟩
end
end K33
namespace K33
open PySem L2
def nV (ps:List Nat):List V:=ps.map fun q:Nat=>V.int (q:Int)
theorem nV_len (ps:List Nat):(nV ps).length=ps.length:=by simp [nV]
theorem nV_get {ps:List Nat} {k q:Nat} (h:ps[k]? = some q):(nV ps)[k]? = some (V.int (q:Int)):=by simp [nV,h]
theorem nV_app (a b:List Nat):nV (a ++ b)=nV a ++ nV b:=by unfold nV; rw [List.map_append]
def wl (wy:Oks->Nat) (k:Oks):List Nat:=Yd.memN (wy k) (Builtin.Int.intBits ((wy k:Nat):Int))
theorem memV_wl (wy:Oks->Nat) (k:Oks):memV (wy k)=nV (wl wy k):=rfl
def onN (wy:Oks->Nat) (ps:List (Int × Int)) (g l:Nat):List Nat:=if (ps.getD l (0,0)).2=(g:Int) then [] else wl wy [some (ps.getD l (0,0)).2,some (g:Int),some (l:Int)]
def firstN (wy:Oks->Nat) (g m:Nat):List Nat:=(List.range m).flatMap fun p:Nat=>wl wy [some (p:Int),some (g:Int),none]
theorem first_succ (wy:Oks->Nat) (g m:Nat):firstN wy g (m + 1)=firstN wy g m ++ wl wy [some (m:Int),some (g:Int),none]:=by
 unfold firstN
 rw [List.range_succ,List.flatMap_append]; simp
structure TabIn (c:Cs) (C:Addr) (J:TIn) (H:Hp) (x lx ldx lt:Addr) (n:Nat) (tvs:List V) (ps:List (Int × Int)) (wy:Oks->Nat):Prop where
 j:J H x wy
 i:∃ dx fs,H x=some (.ins C dx fs)/\fs.lookup ("land":Str)=some (.ref lx)
 l:LandAt H c lx ldx lt (n:Int) tvs ps
 n12:n <= 12
 few:ps.length <= 40
 ok:∀ k,∀ z ∈ wl wy k,z < ps.length
 nr:∀ k,(wl wy k).length <= 40
theorem TabIn.same {K:PySem.W.Frag} {c:Cs} {C fw:Addr} {dw:FuncData} {J:TIn} {H H':Hp} {x lx ldx lt:Addr} {n:Nat} {tvs:List V} {ps:List (Int × Int)} {wy:Oks->Nat} (W:Way K C fw dw J) (h:TabIn c C J H x lx ldx lt n tvs ps wy) (s:Same H H'):TabIn c C J H' x lx ldx lt n tvs ps wy :=
 ⟨W.stay _ _ _ _ h.j s,let ⟨dx,fs,h1,h2⟩:=h.i; ⟨dx,fs,s _ _ h1,h2⟩,⟨s _ _ h.l.1,s _ _ h.l.2.1,Lns.same s h.l.2.2⟩,h.n12,h.few,h.ok,h.nr⟩
def spAt (c:Cs) (sel:Int × Int->Int):Sp:=fun vs H Q _=>∃ (x dx t:Addr) (n:Int) (tvs:List V) (ps:List (Int × Int)) (k:Nat) (pr:Int × Int),vs=[.ref x, .int k]/\LandAt H c x dx t n tvs ps/\ps[k]? = some pr/\Q (.int (sel pr)) H
structure EndM (K:PySem.W.Frag) (c:Cs) (f:Addr) (d:FuncData):Prop where
 m:Meth K c.land "end_of" f
 b:Binds K d ["self", "lane"] []
def spOn (c:Cs) (C:Addr) (J:TIn):Sp:=fun vs H Q _=>∃ (x lx ldx lt:Addr) (n:Nat) (tvs:List V) (ps:List (Int × Int)) (wy:Oks->Nat) (l g:Nat),vs=[.ref x, .int l, .int g]/\TabIn c C J H x lx ldx lt n tvs ps wy/\l < ps.length /\
 ∀ (D:Addr) (H':Hp),Same H H'->H D=none->H' D=some (.lst (nV (onN wy ps g l)))->Q (.ref D) H'
def spFirst (c:Cs) (C:Addr) (J:TIn):Sp:=fun vs H Q _=>∃ (x lx ldx lt:Addr) (n:Nat) (tvs:List V) (ps:List (Int × Int)) (wy:Oks->Nat) (g:Nat),vs=[.ref x, .int g]/\TabIn c C J H x lx ldx lt n tvs ps wy /\
 ∀ (D:Addr) (H':Hp),Same H H'->H D=none->H' D=some (.lst (nV (firstN wy g n)))->Q (.ref D) H'
section
variable {P:Program} {w:World} {K:PySem.W.Frag} {mg:Str->Option Value} {base:Heap}
theorem scEnd:FnScope ["self", "lane"] ["self", "lane"] (defScope sEnd):=⟨rfl,rfl,rfl,by decide +kernel,rfl,by decide +kernel,by decide +kernel⟩
theorem ok_end {c:Cs} {f:Addr} {fd:FuncData} (F:Fun K "end_of" "Land.end_of" sEnd f fd) (L:Lnd K c):FnOk P w K mg base CX0 1 f fd ["self", "lane"] (spAt c Prod.snd):=by
 refine F.ok scEnd (fun vs H Q E h=>?_) (fun cdv A outer s H vs Q E hr h=>?_)
 ·obtain ⟨x,dx,t,n,tvs,ps,k,pr,rfl,_⟩:=h
  rfl
 ·obtain ⟨x,dx,t,n,tvs,ps,k,pr,rfl,⟨hx,ht,hl⟩,hk,q⟩:=h
  refine ⟨_,pss_one (ps_ret (pe_ix ix_tup (pe_ix ix_tup (pe_fld (pv 0) rfl) (pv 1) (fun _ _=>rfl)) pe_int (fun _ _=>rfl))),?_⟩
  obtain ⟨v,hv,u,rfl,hu⟩:=Lns.get2 hl hk
  refine ⟨_,rfl,x,c.land,dx,_,_,rfl,hx,L.cl,L.nl,rfl,_,rfl,t,_,_,_,rfl,rfl,SqT.of ht,atI_nat hv,u,_,1,_,rfl,rfl,SqT.of hu,atI_nat (j:=1) rfl,q⟩
theorem int_eq' (a b:Int):decide (V.int a=V.int b)=decide (a=b):=by
 by_cases h:a=b
 ·rw [h]; simp
 ·rw [decide_eq_false h,decide_eq_false fun z=>h (by injection z)]
theorem scOn:FnScope ["table", "lane", "goal", "end"] ["table", "lane", "goal"] (defScope sOn):=⟨rfl,rfl,rfl,by decide +kernel,rfl,by decide +kernel,by decide +kernel⟩
theorem ok_on {c:Cs} {J:TIn} {C f fw fe:Addr} {fd dw de:FuncData} (F:Fun K "onward" "onward" sOn f fd) (L:Lnd K c) (W:Way K C fw dw J) (nl:NoAttr K C "land") (Gw:FnOk P w K mg base CX0 3 fw dw ["self", "place", "goal", "came"] (spWays J))
  (M:EndM K c fe de) (Ge:FnOk P w K mg base CX0 1 fe de ["self", "lane"] (spAt c Prod.snd)):FnOk P w K mg base CX0 4 f fd ["table", "lane", "goal"] (spOn c C J):=by
 refine F.ok scOn (fun vs H Q E h=>?_) (fun cdv A outer s H vs Q E hr h=>?_)
 ·obtain ⟨x,lx,ldx,lt,n,tvs,ps,wy,l,g,rfl,_⟩:=h
  rfl
 ·obtain ⟨x,lx,ldx,lt,n,tvs,ps,wy,l,g,rfl,hT,hl,q⟩:=h
  have hr1:Room 1 _:=hr.mono (by decide)
  refine ⟨_,pss_cons (ps_set (i:=3) scOn.nd rfl (Or.inl rfl) (pe_meth (pe_fld (pv 0) rfl) L.cl M.m Ge hr1 M.b .nil pass0 (pa_cons (pv 1) pa_nil)))
   (pss_one (ps_ret (pe_ifExp (pt_cmpR op_eq (pv 3) (pv 2) (nomark _)) (pe_lst pa_nil) (pe_meth (pv 0) W.cl W.m Gw hr W.b .nil pass0 (pa_cons (pv 3) (pa_cons (pv 2) (pa_cons (pv 1) pa_nil))))))),?_⟩
  obtain ⟨dx,fs,hx,hf⟩:=hT.i
  obtain ⟨dx',fs',hx',hw'⟩:=W.inst _ _ _ hT.j
  rw [hx] at hx'
  injection hx' with hx'
  injection hx' with _ e1 e2
  subst e1 e2
  have he:=List.getElem?_eq_getElem hl
  have heD:ps.getD l (0,0)=ps[l]:=by rw [List.getD_eq_getElem?_getD,he]; rfl
  unfold onN at q
  rw [heD] at q
  generalize ps[l]=pr at he q
  refine ⟨_,rfl,x,C,dx,fs,_,rfl,hx,W.cl,nl,hf,lx,ldx,_,rfl,hT.l.1,rfl,_,rfl,lx,ldx,lt,(n:Int),tvs,ps,l,pr,rfl,hT.l,he,?_⟩
  refine ⟨_,rfl,_,rfl,rfl,_,rfl,?_⟩
  rw [int_eq']
  by_cases h1:pr.2=(g:Int)
  ·rw [decide_eq_true h1]
   rw [if_pos h1] at q
   exact iteT ⟨Nat.zero_le _,fun D hD=>q D _ ((Same.refl H).new hD) hD upd_same⟩
  ·rw [decide_eq_false h1]
   rw [if_neg h1] at q
   exact iteF ⟨_,rfl,x,dx,fs,rfl,hx,hw',_,rfl,_,rfl,_,rfl,x,wy,⟨pr.2,(g:Int),some l,[]⟩,rfl,hT.j,fun H' D s' hD=>q D _ (s'.new hD) (s'.free hD) upd_same⟩
theorem scFi:FnScope ["table", "goal", "found", "place"] ["table", "goal"] (defScope sFirst):=⟨rfl,rfl,rfl,by decide +kernel,rfl,by decide +kernel,by decide +kernel⟩
theorem ok_first {c:Cs} {J:TIn} {C f fw:Addr} {fd dw:FuncData} (F:Fun K "first_lanes" "first_lanes" sFirst f fd) (T:Txt mg) (L:Lnd K c) (W:Way K C fw dw J) (nl:NoAttr K C "land") (Gw:FnOk P w K mg base CX0 3 fw dw ["self", "place", "goal", "came"] (spWays J)) :
  FnOk P w K mg base CX0 4 f fd ["table", "goal"] (spFirst c C J):=by
 refine F.ok scFi (fun vs H Q E h=>?_) (fun cdv A outer s H vs Q E hr h=>?_)
 ·obtain ⟨x,lx,ldx,lt,n,tvs,ps,wy,g,rfl,_⟩:=h
  rfl
 ·obtain ⟨x,lx,ldx,lt,n,tvs,ps,wy,g,rfl,hT,q⟩:=h
  refine ⟨_,pss_cons (ps_set (i:=2) scFi.nd rfl (Or.inl rfl) (pe_lst pa_nil))
   (pss_cons (ps_for PassesOwn.never rfl (pi_range1 rfl T.range (pa_cons (pe_fld (pe_fld (pv 0) rfl) rfl) pa_nil)) (pg_name (i:=3) scFi.nd rfl (Or.inl rfl))
    (pss_one (ps_expr (pe_bm PySem.F.plainAttrs_list PySem.F.slot_list_extend PySem.F.type_list_extend mt_extend (pv 2) (pa_cons (pe_meth (pv 0) W.cl W.m Gw hr W.b .nil pass0 (pa_cons (pv 3) (pa_cons (pv 1) (pa_cons pe_non pa_nil)))) pa_nil)))))
   (pss_one (ps_ret (pv 2)))),?_⟩
  obtain ⟨dx,fs,hx,hf⟩:=hT.i
  obtain ⟨dx',fs',hx',hw'⟩:=W.inst _ _ _ hT.j
  rw [hx] at hx'
  injection hx' with hx'
  injection hx' with _ e1 e2
  subst e1 e2
  have hn:=hT.n12
  refine ⟨Nat.zero_le _,fun D hD=>?_⟩
  have s0:=(Same.refl H).new (o := .lst []) hD
  refine ⟨_,rfl,x,C,dx,fs,_,rfl,s0 _ _ hx,W.cl,nl,hf,lx,c.land,ldx,_,_,rfl,s0 _ _ hT.l.1,L.cl,L.np,rfl,(n:Int),rfl,by omega,by omega,?_⟩
  rw [Int.toNat_natCast]
  refine for_range (n:=n) (fun i σ H2=>∃ a3:Option V,Same H H2/\H2 D=some (.lst (nV (firstN wy g i)))/\(firstN wy g i).length <= 40 * i/\σ=[some (.ref x),some (.int g),some (.ref D),a3])
   ⟨none,s0,upd_same,Nat.zero_le _,rfl⟩ ?_ ?_
  ·rintro i σ H2 hi ⟨a3,s2,gD,hl,rfl⟩
   rw [Int.zero_add]
   refine ⟨_,rfl, .inl ⟨rfl,_,SqL.of gD⟩,_,rfl,x,dx,fs,rfl,s2 _ _ hx,hw',_,rfl,_,rfl,x,wy,⟨(i:Int),(g:Int),none,[]⟩,rfl,W.stay _ _ _ _ hT.j s2,fun H3 D3 s3 hD3=>?_⟩
   have hk:keyOf ⟨(i:Int),(g:Int),none,[]⟩ = [some (i:Int),some (g:Int),none]:=rfl
   rw [hk,memV_wl]
   have s4:=s3.new (o := .lst (nV (wl wy [some (i:Int),some (g:Int),none]))) hD3
   have g4:(upd H3 D3 (.lst (nV (wl wy [some (i:Int),some (g:Int),none])))) D3=some (.lst (nV (wl wy [some (i:Int),some (g:Int),none]))):=upd_same
   generalize upd H3 D3 (.lst (nV (wl wy [some (i:Int),some (g:Int),none])))=H4 at s4 g4 ⊢
   have hw:=hT.nr [some (i:Int),some (g:Int),none]
   refine ⟨D,D3,_,_,rfl,rfl,s4 _ _ gD,g4,by rw [PySem.sizeLine_eq,nV_len,nV_len]; omega,?_⟩
   refine ⟨_,fun b o e=>by rw [upd_ne (ne_of_none e hD)]; exact s4 _ _ (s2 _ _ e),by rw [upd_same,first_succ,nV_app],by rw [first_succ,List.length_append]; omega,rfl⟩
  ·rintro σ H2 ⟨a3,s2,gD,hl,rfl⟩
   exact ⟨_,rfl,q D H2 s2 hD gD⟩
end
end K33
namespace K33
open PySem L2
def oV:Option Nat->V
 | some l => .int (l:Int)
 | none => .non
def ak (x:Nat × Option Nat):L2.Key × V:=(Sum.inl (x.1:Int),oV x.2)
theorem ak_mem (p:Nat):∀ a:As,(valV (a.map ak) (Sum.inl (p:Int))).isSome=decide (p ∈ a.map (·.1))
 | []=>rfl
 | x :: a=>by
  have ih:=ak_mem p a
  rw [List.map_cons]
  by_cases h:x.1=p
  ·rw [valV_pos (show (ak x).1=Sum.inl (p:Int) by rw [← h]; rfl),decide_eq_true (by rw [List.map_cons,h]; exact List.mem_cons_self)]; rfl
  ·rw [valV_neg (show ¬ (ak x).1=Sum.inl (p:Int) from fun z=>h (by have:=Sum.inl.inj z; omega)),ih,List.map_cons]
   by_cases hm:p ∈ a.map (·.1)
   ·rw [decide_eq_true hm,decide_eq_true (List.mem_cons_of_mem _ hm)]
   ·rw [decide_eq_false hm,decide_eq_false fun z=>(List.mem_cons.mp z).elim (fun e=>h e.symm) hm]
theorem put_new {a:As} {x:Nat} {c:Option Nat} (h:x ∉ a.map (·.1)):putK (a.map ak) (Sum.inl (x:Int)) (oV c)=(a ++ [(x,c)]).map ak:=by
 have hv:valV (a.map ak) (Sum.inl (x:Int))=none:=by
  have:=ak_mem x a
  rw [decide_eq_false h] at this
  exact Option.not_isSome_iff_eq_none.mp (by rw [this]; decide)
 rw [putK_new _ hv,List.map_append]; rfl
theorem put_old {a:As} {x:Nat} (hall:∀ y ∈ a,y.2=none) (h:x ∈ a.map (·.1)):putK (a.map ak) (Sum.inl (x:Int)) .non=a.map ak:=by
 unfold putK
 rw [valV_any,ak_mem,decide_eq_true h,if_pos rfl,List.map_map]
 refine List.map_congr_left fun y hy=>?_
 show (if (ak y).1=Sum.inl (x:Int) then ((ak y).1,V.non) else ak y)=ak y
 split
 ·unfold ak; rw [hall y hy]; rfl
 ·rfl
theorem add_none:∀ (ws:List Nat) (a:As),(∀ y ∈ a,y.2=none)->∀ y ∈ addW none a ws,y.2=none
 | [],a,h=>h
 | x :: ws,a,h=>by
  show ∀ y ∈ addW none (if x ∈ a.map (·.1) then a else a ++ [(x,none)]) ws,y.2=none
  refine add_none ws _ ?_
  split
  ·exact h
  ·intro y hy
   rcases List.mem_append.mp hy with hy | hy
   ·exact h y hy
   ·rw [List.mem_singleton.mp hy]
theorem Aok.addW {L:Nat} {l:Option Nat}:∀ (ws:List Nat) {a:As},Aok L a->(∀ x ∈ ws,x < L)->Aok L (K33.addW l a ws)
 | [],a,h,_=>h
 | x :: ws,a,h,hw=>by
  show Aok L (K33.addW l (if x ∈ a.map (·.1) then a else a ++ [(x,l)]) ws)
  refine Aok.addW ws ?_ fun y hy=>hw y (List.mem_cons_of_mem _ hy)
  split
  ·exact h
  ·exact h.add (hw x List.mem_cons_self) (by assumption)
def aheadN (wy:Oks->Nat) (ps:List (Int × Int)) (n g:Nat):As:=runA (onN wy ps g) ps.length (addW none [] (firstN wy g n)) 0
def spAhead (c:Cs) (C:Addr) (J:TIn):Sp:=fun vs H Q _=>∃ (x lx ldx lt:Addr) (n:Nat) (tvs:List V) (ps:List (Int × Int)) (wy:Oks->Nat) (g:Nat),vs=[.ref x, .int g]/\TabIn c C J H x lx ldx lt n tvs ps wy /\
 ∀ (D:Addr) (H':Hp),Same H H'->H D=none->Aok ps.length (aheadN wy ps n g)->H' D=some (.dK ((aheadN wy ps n g).map ak))->Q (.ref D) H'
abbrev NAh:List Str:=["table", "goal", "ahead", "lane", "line", "looked_at", "way"]
section
variable {P:Program} {w:World} {K:PySem.W.Frag} {mg:Str->Option Value} {base:Heap}
theorem scAh:FnScope NAh ["table", "goal"] (defScope sAhead):=⟨rfl,rfl,rfl,by decide +kernel,rfl,by decide +kernel,by decide +kernel⟩
theorem ok_ahead {c:Cs} {J:TIn} {C f fw ff fo:Addr} {fd dw df do':FuncData} (F:Fun K "lanes_ahead" "lanes_ahead" sAhead f fd) (T:Txt mg) (W:Way K C fw dw J)
  (mf:mg "first_lanes" = some (.ref ff)) (kf:PySem.W.keepIn K (.ref ff)=true) (bf:Binds K df ["table", "goal"] []) (Gf:FnOk P w K mg base CX0 4 ff df ["table", "goal"] (spFirst c C J))
  (mo:mg "onward" = some (.ref fo)) (ko:PySem.W.keepIn K (.ref fo)=true) (bo:Binds K do' ["table", "lane", "goal"] []) (Go:FnOk P w K mg base CX0 4 fo do' ["table", "lane", "goal"] (spOn c C J)) :
  FnOk P w K mg base CX0 5 f fd ["table", "goal"] (spAhead c C J):=by
 refine F.ok scAh (fun vs H Q E h=>?_) (fun cdv A outer s H vs Q E hr h=>?_)
 ·obtain ⟨x,lx,ldx,lt,n,tvs,ps,wy,g,rfl,_⟩:=h
  rfl
 ·obtain ⟨x,lx,ldx,lt,n,tvs,ps,wy,g,rfl,hT,q⟩:=h
  have hu:=hu_of hr
  have h40:=hT.few
  refine ⟨_,pss_cons (ps_set (i:=2) scAh.nd rfl (Or.inl rfl) pe_dnewK)
   (pss_cons (ps_for PassesOwn.never rfl (pi_list (pe_call Gf hr rfl mf kf bf .nil pass0 (pa_cons (pv 0) (pa_cons (pv 1) pa_nil)))) (pg_name (i:=3) scAh.nd rfl (Or.inl rfl))
    (pss_one (ps_dput hu (pv 2) (pv 3) pe_non rfl)))
   (pss_cons (ps_set (i:=4) scAh.nd rfl (Or.inl rfl) (pe_callTy (call_list_keys rfl) rfl T.list PySem.Pv.boot_list (pa_cons (pv 2) pa_nil)))
   (pss_cons (ps_set (i:=5) scAh.nd rfl (Or.inl rfl) pe_int)
   (pss_cons (ps_while PassesOwn.never (pt_cmpR op_lt (pv 5) (pe_callB call_len_seq rfl T.len PySem.boot_len (pa_cons (pv 4) pa_nil)) (nomark _))
    (pss_cons (ps_set (i:=3) scAh.nd rfl (Or.inl rfl) (pe_ix ix_list (pv 4) (pv 5) (fun _ _=>rfl)))
    (pss_cons (ps_aug (i:=5) scAh.nd rfl (Or.inl rfl) pe_int ip_add)
    (pss_one (ps_for PassesOwn.never rfl (pi_list (pe_call Go hr rfl mo ko bo .nil pass0 (pa_cons (pv 0) (pa_cons (pv 3) (pa_cons (pv 1) pa_nil))))) (pg_name (i:=6) scAh.nd rfl (Or.inl rfl))
     (pss_one (ps_if (pt_cmp (pc_dnotin hu (pv 6) (pv 2)))
      (pss_cons (ps_dput hu (pv 2) (pv 6) (pv 3) rfl)
      (pss_one (ps_expr (pe_bm PySem.F.plainAttrs_list PySem.F.slot_list_append PySem.F.type_list_append mt_append (pv 4) (pa_cons (pv 6) pa_nil))))) pss_nil)))))))
   (pss_one (ps_ret (pv 2))))))),?_⟩
  refine fun fa hfa=>?_
  have s0:=(Same.refl H).new (o := .dK []) hfa
  have gf0:(upd H fa (.dK [])) fa=some (.dK ([].map ak)):=upd_same
  generalize upd H fa (.dK [])=H0 at s0 gf0 ⊢
  refine ⟨_,rfl,_,rfl,x,lx,ldx,lt,n,tvs,ps,wy,g,rfl,hT.same W s0,fun Fl H1 s1 hFl gFl=>⟨Fl,rfl,⟨_,SqL.of gFl⟩,?_⟩⟩
  have gf1:=s1 _ _ gf0
  have nFf:Fl ≠ fa:=Ne.symm (ne_of_none gf0 hFl)
  have hfl:∀ z ∈ firstN wy g n,z < ps.length:=fun z hz=>by
   obtain ⟨p,_,hz⟩:=List.mem_flatMap.mp hz
   exact hT.ok _ z hz
  refine for_list (K:=K) (a:=Fl) (xs:=nV (firstN wy g n)) (fun i σ H2=>∃ a3:Option V,Same H H2/\H2 Fl=some (.lst (nV (firstN wy g n)))/\H2 fa=some (.dK ((addW none [] ((firstN wy g n).take i)).map ak))/\σ=[some (.ref x),some (.int g),some (.ref fa),a3,none,none,none])
   ⟨none,s0.trans s1,gFl,gf1,rfl⟩ (fun i σ H2 _ ⟨_,_,g2,_⟩=>SqL.of g2) ?_ ?_
  ·rintro i v σ H2 hv ⟨a3,s2,g2,gf,rfl⟩
   have hi:i < (firstN wy g n).length:=by have:=(List.getElem?_eq_some_iff.mp hv).1; rw [nV_len] at this; exact this
   have hk0:=List.getElem?_eq_getElem hi
   have hv':=nV_get hk0
   rw [hv'] at hv
   have hv:=Option.some.inj hv
   subst hv
   generalize (firstN wy g n)[i]=l at hk0
   have hA:Aok ps.length (addW none [] ((firstN wy g n).take i)):=Aok.addW _ ⟨by simp,fun y hy=>by cases hy⟩ fun z hz=>hfl z (List.mem_of_mem_take hz)
   have hfew:=hA.few
   have hnon:=add_none ((firstN wy g n).take i) [] fun y hy=>by cases hy
   have hsn:=addW_snoc none [] ((firstN wy g n).take i) l
   have htk:(firstN wy g n).take (i + 1)=(firstN wy g n).take i ++ [l]:=by rw [List.take_succ,hk0]; rfl
   refine ⟨_,rfl,_,rfl,fa,_,rfl,DPut.k (k:=Sum.inl (l:Int)) gf (by rw [PySem.sizeLine_eq,List.length_map]; omega),?_⟩
   refine ⟨_,fun b o e=>by rw [upd_ne (ne_of_none e hfa)]; exact s2 _ _ e,by rw [upd_ne nFf]; exact g2,?_,rfl⟩
   rw [upd_same,htk,hsn]
   by_cases hm:l ∈ (addW none [] ((firstN wy g n).take i)).map (·.1)
   ·rw [if_pos hm,put_old hnon hm]
   ·rw [if_neg hm]
    exact congrArg (fun z=>some (HO.dK z)) (put_new (c:=none) hm)
  rintro σ H2 ⟨a3,s2,g2,gf,rfl⟩
  rw [nV_len,List.take_length] at gf
  have hA0:Aok ps.length (addW none [] (firstN wy g n)):=Aok.addW _ ⟨by simp,fun y hy=>by cases hy⟩ hfl
  have hfin:aheadN wy ps n g=runA (onN wy ps g) (ps.length - 0) (addW none [] (firstN wy g n)) 0:=rfl
  generalize addW none [] (firstN wy g n)=a0 at gf hA0 hfin
  refine ⟨_,rfl,fa,_,rfl, .inl gf,fun ln hln=>?_⟩
  have el:(a0.map ak).map (fun p=>kV p.1)=nV (a0.map (·.1)):=by
   unfold nV
   rw [List.map_map,List.map_map]; rfl
  rw [el]
  have s3:=s2.new (o := .lst (nV (a0.map (·.1)))) hln
  have hlnH:H ln=none:=s2.free hln
  have gl:(upd H2 ln (.lst (nV (a0.map (·.1))))) ln=some (.lst (nV (a0.map (·.1)))):=upd_same
  have gf3:(upd H2 ln (.lst (nV (a0.map (·.1))))) fa=some (.dK (a0.map ak)):=by rw [upd_ne (ne_of_none gf hln)]; exact gf
  generalize upd H2 ln (.lst (nV (a0.map (·.1))))=H3 at s3 gl gf3 ⊢
  refine ⟨fun m σ H'=>∃ (a:As) (i:Nat) (b3 b6:Option V),m=ps.length - i/\Aok ps.length a/\i <= a.length/\aheadN wy ps n g=runA (onN wy ps g) (ps.length - i) a i/\Same H H'/\H' fa=some (.dK (a.map ak))/\H' ln=some (.lst (nV (a.map (·.1))))/\σ=[some (.ref x),some (.int g),some (.ref fa),b3,some (.ref ln),some (.int (i:Nat)),b6],
   ⟨ps.length - 0,a0,0,_,_,rfl,hA0,Nat.zero_le _,hfin,s3,gf3,gl,rfl⟩,?_⟩
  rintro m σ H4 ⟨a,i,b3,b6,rfl,hA,hile,hrun,s4,gf4,gl4,rfl⟩
  have hfew:=hA.few
  refine ⟨_,rfl,_,rfl,ln,_,rfl, .inl (SqL.of gl4),_,_,rfl,rfl,_,rfl,?_⟩
  by_cases hi:i < a.length
  rotate_left
  ·have e:i=a.length:=by omega
   subst e
   rw [decide_eq_false (by rw [nV_len,List.length_map]; omega)]
   rw [runA_end (List.getElem?_eq_none (Nat.le_refl _))] at hrun
   exact iteF ⟨_,rfl,q fa H4 s4 hfa (by rw [hrun]; exact hA) (by rw [hrun]; exact gf4)⟩
  rw [decide_eq_true (by rw [nV_len,List.length_map]; omega)]
  have hy:=List.getElem?_eq_getElem hi
  generalize a[i]=lc at hy
  obtain ⟨l,lc⟩:=lc
  have hl:l < ps.length:=hA.lt _ (List.mem_of_getElem? hy)
  have hpl:(nV (a.map (·.1)))[i]? = some (.int (l:Int)):=nV_get (by rw [List.getElem?_map,hy]; rfl)
  have hstep:aheadN wy ps n g=runA (onN wy ps g) (ps.length - (i + 1)) (addW (some l) a (onN wy ps g l)) (i + 1):=by
   rw [hrun,show ps.length - i=(ps.length - (i + 1)) + 1 by omega,runA_step hy]
  have hol:∀ z ∈ onN wy ps g l,z < ps.length:=fun z hz=>by
   unfold onN at hz
   split at hz
   ·cases hz
   ·exact hT.ok _ z hz
  refine iteT ⟨fun σ' H'=>∃ (a':As) (b3 b6:Option V),Aok ps.length a'/\i + 1 <= a'.length/\aheadN wy ps n g=runA (onN wy ps g) (ps.length - (i + 1)) a' (i + 1)/\Same H H'/\H' fa=some (.dK (a'.map ak))/\H' ln=some (.lst (nV (a'.map (·.1))))/\σ' = [some (.ref x),some (.int g),some (.ref fa),b3,some (.ref ln),some (.int ((i:Int) + 1)),b6],
   fun σ' H' ⟨a',b3,b6,h1,h2,h3,h4,h5,h6,h7⟩=>⟨ps.length - (i + 1),by omega,a',i + 1,b3,b6,rfl,h1,h2,h3,h4,h5,h6,h7⟩,?_⟩
  refine ⟨_,rfl,_,rfl,ln,_,_,_,rfl,rfl,SqL.of gl4,atI_nat hpl,?_⟩
  refine ⟨_,rfl,_,_,rfl,rfl,?_⟩
  refine ⟨_,rfl,_,rfl,_,rfl,x,lx,ldx,lt,n,tvs,ps,wy,l,g,rfl,hT.same W s4,hl,fun Ol H5 s5 hOl gOl=>⟨Ol,rfl,⟨_,SqL.of gOl⟩,?_⟩⟩
  have nOf:Ol ≠ fa:=Ne.symm (ne_of_none gf4 hOl)
  have nOl:Ol ≠ ln:=Ne.symm (ne_of_none gl4 hOl)
  have nlf:ln ≠ fa:=ne_of gl4 gf4 (by intro z; cases z)
  generalize onN wy ps g l=ws at gOl hol hstep
  refine for_list (K:=K) (a:=Ol) (xs:=nV ws) (fun m σ H6=>∃ b6:Option V,Aok ps.length (addW (some l) a (ws.take m))/\a.length <= (addW (some l) a (ws.take m)).length/\Same H H6/\H6 Ol=some (.lst (nV ws))/\H6 fa=some (.dK ((addW (some l) a (ws.take m)).map ak))/\H6 ln=some (.lst (nV ((addW (some l) a (ws.take m)).map (·.1)))) /\
    σ=[some (.ref x),some (.int g),some (.ref fa),some (.int (l:Int)),some (.ref ln),some (.int ((i:Int) + 1)),b6])
   ⟨_,hA,Nat.le_refl _,s4.trans s5,gOl,s5 _ _ gf4,s5 _ _ gl4,rfl⟩ (fun m σ H6 _ ⟨_,_,_,_,g6,_⟩=>SqL.of g6) ?_ ?_
  ·rintro m v σ H6 hv ⟨b6,hA6,hlen6,s6,gO6,gf6,gl6,rfl⟩
   have hm:m < ws.length:=by have:=(List.getElem?_eq_some_iff.mp hv).1; rw [nV_len] at this; exact this
   have hk0:=List.getElem?_eq_getElem hm
   have hv':=nV_get hk0
   rw [hv'] at hv
   have hv:=Option.some.inj hv
   subst hv
   generalize ws[m]=y at hk0
   have hyl:=hol y (List.mem_of_getElem? hk0)
   have htk:ws.take (m + 1)=ws.take m ++ [y]:=by rw [List.take_succ,hk0]; rfl
   have hsn:=addW_snoc (some l) a (ws.take m) y
   generalize hae:addW (some l) a (ws.take m)=a6 at hA6 hlen6 gf6 gl6 hsn
   have hf6:=hA6.few
   refine ⟨_,rfl,_,rfl,fa,_,rfl,DGet.k (k:=Sum.inl (y:Int)) gf6,_,rfl,?_⟩
   rw [ak_mem]
   by_cases hin:y ∈ a6.map (·.1)
   ·rw [decide_eq_true hin]
    refine iteF ⟨_,?_,?_,s6,gO6,?_,?_,rfl⟩ <;> rw [htk,hsn,if_pos hin]
    ·exact hA6
    ·exact hlen6
    ·exact gf6
    ·exact gl6
   ·rw [decide_eq_false hin]
    refine iteT ⟨_,rfl,_,rfl,_,rfl,fa,_,rfl,DPut.k (k:=Sum.inl (y:Int)) gf6 (by rw [PySem.sizeLine_eq,List.length_map]; omega),?_⟩
    have ep:putK (a6.map ak) (Sum.inl (y:Int)) (V.int (l:Int))=(a6 ++ [(y,some l)]).map ak:=put_new (c:=some l) hin
    rw [ep]
    have gO7:(upd H6 fa (.dK ((a6 ++ [(y,some l)]).map ak))) Ol=some (.lst (nV ws)):=by rw [upd_ne nOf]; exact gO6
    have gl7:(upd H6 fa (.dK ((a6 ++ [(y,some l)]).map ak))) ln=some (.lst (nV (a6.map (·.1)))):=by rw [upd_ne nlf]; exact gl6
    have gf7:(upd H6 fa (.dK ((a6 ++ [(y,some l)]).map ak))) fa=some (.dK ((a6 ++ [(y,some l)]).map ak)):=upd_same
    have s7:Same H (upd H6 fa (.dK ((a6 ++ [(y,some l)]).map ak))):=fun b o e=>by rw [upd_ne (ne_of_none e hfa)]; exact s6 _ _ e
    generalize upd H6 fa (.dK ((a6 ++ [(y,some l)]).map ak))=H7 at gO7 gl7 gf7 s7 ⊢
    refine ⟨_,rfl, .inl ⟨rfl,_,SqL.of gl7⟩,_,rfl,ln,_,_,rfl,rfl,gl7,by rw [PySem.sizeLine_eq,nV_len,List.length_map]; omega,?_⟩
    refine ⟨_,?_,?_,fun b o e=>by rw [upd_ne (ne_of_none e hlnH)]; exact s7 _ _ e,by rw [upd_ne nOl]; exact gO7,?_,?_,rfl⟩ <;> rw [htk,hsn,if_neg hin]
    ·exact hA6.add hyl hin
    ·rw [List.length_append]; omega
    ·rw [upd_ne (Ne.symm nlf)]; exact gf7
    ·rw [upd_same,List.map_append,nV_app]; rfl
  ·rintro σ H6 ⟨b6,hA6,hlen6,s6,gO6,gf6,gl6,rfl⟩
   rw [nV_len,List.take_length] at hA6 hlen6 gf6 gl6
   exact ⟨_,_,_,hA6,by omega,hstep,s6,gf6,gl6,rfl⟩
end
end K33
namespace K33
open PySem L2
def setG (g:Nat) (S:List Nat) (l:Nat):List Nat:=S.set l (S.getD l 0 ||| 2 ^ g)
def goalF (wy:Oks->Nat) (ps:List (Int × Int)) (n:Nat) (S:List Nat) (g:Nat):List Nat:=((aheadN wy ps n g).map (·.1)).foldl (setG g) S
def metN (wy:Oks->Nat) (ps:List (Int × Int)) (n m:Nat):List Nat:=(List.range m).foldl (goalF wy ps n) (List.replicate ps.length 0)
theorem met_succ (wy:Oks->Nat) (ps:List (Int × Int)) (n m:Nat):metN wy ps n (m + 1)=goalF wy ps n (metN wy ps n m) m:=by
 unfold metN
 rw [List.range_succ,List.foldl_append]; rfl
theorem setG_len (g:Nat) (S:List Nat) (l:Nat):(setG g S l).length=S.length:=by unfold setG; rw [List.length_set]
theorem foldG_len (g:Nat):∀ (ls S:List Nat),(ls.foldl (setG g) S).length=S.length
 | [],S=>rfl
 | l :: ls,S=>by rw [List.foldl_cons,foldG_len g ls,setG_len]
theorem met_len (wy:Oks->Nat) (ps:List (Int × Int)) (n:Nat):∀ m,(metN wy ps n m).length=ps.length
 | 0=>by unfold metN; simp
 | m + 1=>by rw [met_succ]; unfold goalF; rw [foldG_len,met_len wy ps n m]
theorem setG_lt {g m:Nat} (hg:g < m) {S:List Nat} (h:∀ z ∈ S,z < 2 ^ m) (l:Nat):∀ z ∈ setG g S l,z < 2 ^ m:=fun z hz=>by
 unfold setG at hz
 rcases List.mem_or_eq_of_mem_set hz with hz | hz
 ·exact h z hz
 ·rw [hz]
  refine Nat.or_lt_two_pow ?_ (Nat.pow_lt_pow_right (by decide) hg)
  rw [List.getD_eq_getElem?_getD]
  cases e:S[l]? with
  | none=>exact Nat.two_pow_pos m
  | some y=>exact h y (List.mem_of_getElem? e)
theorem foldG_lt {g m:Nat} (hg:g < m):∀ (ls:List Nat) {S:List Nat},(∀ z ∈ S,z < 2 ^ m)->∀ z ∈ ls.foldl (setG g) S,z < 2 ^ m
 | [],S,h=>h
 | l :: ls,S,h=>foldG_lt hg ls (setG_lt hg h l)
theorem met_lt (wy:Oks->Nat) (ps:List (Int × Int)) (n:Nat):∀ m,m <= n->∀ z ∈ metN wy ps n m,z < 2 ^ n
 | 0,_,z,hz=>by
  unfold metN at hz
  rw [List.range_zero,List.foldl_nil] at hz
  rw [List.eq_of_mem_replicate hz]; exact Nat.two_pow_pos n
 | m + 1,h,z,hz=>by
  rw [met_succ] at hz
  exact foldG_lt (by omega) _ (met_lt wy ps n m (by omega)) z hz
theorem nV_getD {F:List Nat} {p:Nat} (h:p < F.length):(nV F)[p]? = some (V.int ((F.getD p 0:Nat):Int)):=by
 have e:=List.getElem?_eq_getElem h
 rw [nV_get e,List.getD_eq_getElem?_getD,e]; rfl
theorem nV_set (F:List Nat) (i v:Nat):(nV F).set i (.int (v:Int))=nV (F.set i v):=by unfold nV; rw [List.map_set]
theorem ixN_nat {n i:Nat} (h:i < n):ixN n (i:Int)=some i:=by
 unfold ixN
 rw [if_pos (by omega),if_pos (by omega),Int.toNat_natCast]
def spMet (c:Cs) (C:Addr) (J:TIn):Sp:=fun vs H Q _=>∃ (x lx ldx lt:Addr) (n:Nat) (tvs:List V) (ps:List (Int × Int)) (wy:Oks->Nat),vs=[.ref x]/\TabIn c C J H x lx ldx lt n tvs ps wy /\
 ∀ (D:Addr) (H':Hp),Same H H'->H D=none->H' D=some (.tup (nV (metN wy ps n n)))->Q (.ref D) H'
def asgC (s:Stmt):Scope:=match s with
 | .Assign _ (.ListComp _ _ sc _) _=>sc
 | _=>{ kind := .function,names:=[],isGenerator:=false,isCoroutine:=false }
abbrev NMt:List Str:=["table", "sets", "goal", "lane"]
section
variable {P:Program} {w:World} {K:PySem.W.Frag} {mg:Str->Option Value} {base:Heap}
theorem scMt:FnScope NMt ["table"] (defScope sMet):=⟨rfl,rfl,rfl,by decide +kernel,rfl,by decide +kernel,by decide +kernel⟩
theorem bkMt:Blk NMt (defScope sMet) (asgC ((defBody sMet).getD 0 (.Pass ⟨0,0,0,0⟩))) [] []:=⟨rfl,by decide +kernel,by decide +kernel,by decide +kernel,rfl,by decide +kernel⟩
theorem ndMt:(["lane"]:List Str).Nodup:=by decide +kernel
theorem ok_met {c:Cs} {J:TIn} {C f fw fh:Addr} {fd dw dh:FuncData} (F:Fun K "met" "met" sMet f fd) (T:Txt mg) (L:Lnd K c) (W:Way K C fw dw J) (nl:NoAttr K C "land")
  (mh:mg "lanes_ahead" = some (.ref fh)) (kh:PySem.W.keepIn K (.ref fh)=true) (bh:Binds K dh ["table", "goal"] []) (Gh:FnOk P w K mg base CX0 5 fh dh ["table", "goal"] (spAhead c C J)) :
  FnOk P w K mg base CX0 6 f fd ["table"] (spMet c C J):=by
 refine F.ok scMt (fun vs H Q E h=>?_) (fun cdv A outer s H vs Q E hr h=>?_)
 ·obtain ⟨x,lx,ldx,lt,n,tvs,ps,wy,rfl,_⟩:=h
  rfl
 ·obtain ⟨x,lx,ldx,lt,n,tvs,ps,wy,rfl,hT,q⟩:=h
  have h40:=hT.few
  have hn:=hT.n12
  refine ⟨_,pss_cons (ps_setComp (i:=1) (own:=["lane"]) (capN:=[]) (cap:=[]) bkMt rfl scMt.nd rfl rfl (pi_tup (pe_fld (pe_fld (pv 0) rfl) rfl))
    (fun C s' H' fp=>⟨pg_name (i:=0) ndMt rfl (Or.inl rfl),pts_nil,pe_int⟩))
   (pss_cons (ps_for PassesOwn.never rfl (pi_range1 rfl T.range (pa_cons (pe_fld (pe_fld (pv 0) rfl) rfl) pa_nil)) (pg_name (i:=2) scMt.nd rfl (Or.inl rfl))
    (pss_one (ps_for PassesOwn.never rfl (pi_keys (pe_call Gh hr rfl mh kh bh .nil pass0 (pa_cons (pv 0) (pa_cons (pv 2) pa_nil)))) (pg_name (i:=3) scMt.nd rfl (Or.inl rfl))
     (pss_one (ps_asg (pe_op op_or (pe_ix ix_list (pv 1) (pv 3) (fun _ _=>rfl)) (pe_op op_shl pe_int (pv 2))) (pg_sub (pv 1) (pv 3) set_list))))))
   (pss_one (ps_ret (pe_callTy call_tuple_of rfl T.tuple PySem.Pv.boot_tuple (pa_cons (pv 1) pa_nil))))),?_⟩
  obtain ⟨dx,fs,hx,hf⟩:=hT.i
  have htl:tvs.length=ps.length:=Paired.length hT.l.2.2
  refine ⟨_,rfl,x,C,dx,fs,_,rfl,hx,W.cl,nl,hf,lx,c.land,ldx,_,_,rfl,hT.l.1,L.cl,L.nl,rfl,lt,rfl,⟨_,SqT.of hT.l.2.1⟩,comp_gen tvs.length (by rw [PySem.sizeLine_eq]; omega) (fun i acc H4=>H4=H/\acc=nV (List.replicate i 0)) ⟨rfl,rfl⟩ (fun i acc H4 h=>by rw [h.2,nV_len,List.length_replicate]; exact Nat.le_refl _) ?_ ?_⟩
  ·rintro i acc H4 hi ⟨rfl,rfl⟩
   refine ⟨⟨tvs,tvs[i],SqT.of hT.l.2.1,List.getElem?_eq_getElem hi⟩,fun y H5 hy=>?_⟩
   obtain ⟨rfl,_⟩:=hy
   refine ⟨rfl,?_⟩
   rw [List.replicate_succ',nV_app]; rfl
  rintro acc H4 ⟨rfl,rfl⟩
  refine ⟨⟨tvs,SqT.of hT.l.2.1,Nat.le_refl _⟩,fun Se hSe=>?_⟩
  rw [htl]
  have s1:=(Same.refl H4).new (o := .lst (nV (List.replicate ps.length 0))) hSe
  have g1:(upd H4 Se (.lst (nV (List.replicate ps.length 0)))) Se=some (.lst (nV (metN wy ps n 0))):=upd_same
  show gName 1 (V.ref Se) _ (upd H4 Se (.lst (nV (List.replicate ps.length 0)))) _
  generalize upd H4 Se (.lst (nV (List.replicate ps.length 0)))=H1 at s1 g1 ⊢
  refine ⟨_,rfl,x,C,dx,fs,_,rfl,s1 _ _ hx,W.cl,nl,hf,lx,c.land,ldx,_,_,rfl,s1 _ _ hT.l.1,L.cl,L.np,rfl,(n:Int),rfl,by omega,by omega,?_⟩
  rw [Int.toNat_natCast]
  refine for_range (n:=n) (fun g σ H2=>∃ a2 a3:Option V,Same H4 H2/\H2 Se=some (.lst (nV (metN wy ps n g)))/\σ=[some (.ref x),some (.ref Se),a2,a3])
   ⟨none,none,s1,g1,rfl⟩ ?_ ?_
  ·rintro g σ H2 hg ⟨a2,a3,s2,g2,rfl⟩
   rw [Int.zero_add]
   refine ⟨_,rfl,_,rfl,x,lx,ldx,lt,n,tvs,ps,wy,g,rfl,hT.same W s2,fun fa H3 s3 hfa hA gfa=>⟨fa,_,rfl,gfa,fun ob=>?_⟩⟩
   have gfz:(upd H3 fa (.frz ob (.dK ((aheadN wy ps n g).map ak)))) fa=some (.frz ob (.dK ((aheadN wy ps n g).map ak))):=upd_same
   have s5:Same H2 (upd H3 fa (.frz ob (.dK ((aheadN wy ps n g).map ak)))):=fun b o e=>by rw [upd_ne (ne_of_none e hfa)]; exact s3 _ _ e
   generalize upd H3 fa (.frz ob (.dK ((aheadN wy ps n g).map ak)))=H5 at gfz s5 ⊢
   have nfS:fa ≠ Se:=Ne.symm (ne_of_none g2 hfa)
   refine for_keys (a:=fa) (o:=ob) (kvs:=(aheadN wy ps n g).map ak) (fun j σ H6=>∃ a3:Option V,Same H4 H6/\H6 Se=some (.lst (nV ((((aheadN wy ps n g).map (·.1)).take j).foldl (setG g) (metN wy ps n g))))/\H6 fa=some (.frz ob (.dK ((aheadN wy ps n g).map ak)))/\σ=[some (.ref x),some (.ref Se),some (.int (g:Int)),a3])
    ⟨_,s2.trans s5,s5 _ _ g2,gfz,rfl⟩ (fun j σ H6 _ ⟨_,_,_,g6,_⟩=>g6) ?_ ?_
   ·rintro j k σ H6 hk ⟨a3,s6,gS6,g6,rfl⟩
    have hj:j < (aheadN wy ps n g).length:=by have:=(List.getElem?_eq_some_iff.mp hk).1; simpa using this
    have hjp:=List.getElem?_eq_getElem hj
    generalize (aheadN wy ps n g)[j]=pd at hjp
    obtain ⟨l,lc⟩:=pd
    have ek:k=Sum.inl (l:Int):=by
     rw [List.getElem?_map,List.getElem?_map,hjp] at hk
     exact (Option.some.inj hk).symm
    subst ek
    rw [show kV (Sum.inl (l:Int))=V.int (l:Int) from rfl]
    have hl:l < ps.length:=hA.lt _ (List.mem_of_getElem? hjp)
    have hjm:((aheadN wy ps n g).map (·.1))[j]? = some l:=by rw [List.getElem?_map,hjp]; rfl
    have htk:(((aheadN wy ps n g).map (·.1)).take (j + 1)).foldl (setG g) (metN wy ps n g)=setG g ((((aheadN wy ps n g).map (·.1)).take j).foldl (setG g) (metN wy ps n g)) l:=by
     rw [List.take_succ,hjm,List.foldl_append]; rfl
    have hSl:((((aheadN wy ps n g).map (·.1)).take j).foldl (setG g) (metN wy ps n g)).length=ps.length:=by rw [foldG_len,met_len]
    rw [htk]
    generalize (((aheadN wy ps n g).map (·.1)).take j).foldl (setG g) (metN wy ps n g)=S at gS6 hSl
    refine ⟨_,rfl,_,rfl,Se,_,_,_,rfl,rfl,SqL.of gS6,atI_nat (nV_getD (p:=l) (by omega)),_,rfl,_,_,rfl,rfl,⟨(show (0:Int) <= (g:Int) by omega),(show (g:Int) <= 1000000 by omega),(by decide)⟩,_,_,rfl,rfl,?_⟩
    refine ⟨_,rfl,_,rfl,Se,_,(l:Int),l,rfl,rfl,gS6,ixN_nat (by rw [nV_len]; omega),?_⟩
    have e:Builtin.bitOr ((S.getD l 0:Nat):Int) (1 * 2 ^ (g:Int).toNat)=((S.getD l 0 ||| 2 ^ g:Nat):Int):=by
     rw [Int.toNat_natCast,Int.one_mul,show (2:Int) ^ g=((2 ^ g:Nat):Int) by rw [Int.natCast_pow]; rfl,Yd.bitOr_nat]
    dsimp only
    rw [e,nV_set]
    exact ⟨_,fun b o e=>by rw [upd_ne (ne_of_none e hSe)]; exact s6 _ _ e,upd_same,by rw [upd_ne nfS]; exact g6,rfl⟩
   ·rintro σ H6 ⟨a3,s6,gS6,g6,rfl⟩
    refine ⟨_,_,s6,?_,rfl⟩
    rw [List.take_of_length_le (by rw [List.length_map,List.length_map]; exact Nat.le_refl _)] at gS6
    rw [met_succ]; exact gS6
  ·rintro σ H2 ⟨a2,a3,s2,g2,rfl⟩
   refine ⟨_,rfl,Se,_,rfl, .inl ⟨SqL.of g2,fun t ht=>q t _ (s2.new ht) (s2.free ht) upd_same⟩⟩
end
end K33
namespace L2
open PySem PySem.Spec PyProof.Rows
section
variable {X:Cx} {a:Expr} {ta:TE} {pos:Pos}
def tNotT (K:PySem.W.Frag) (ta:TE):TE:=fun σ H Q=>ta σ H fun x H1=>∃ k,TruV K x H1 k/\Q (.bl (!k)) H1
theorem pe_notT (ha:PE X a ta):PE X (.UnaryOp .Not a pos) (tNotT X.K ta):=by
 intro pins s σ H Q I h
 refine UnaryOp_ (thn (ha pins s σ H _ I h) fun v s1 ⟨x,H1,I1,r1,q1⟩=>?_)
 obtain ⟨k,t,q1⟩:=q1
 refine not_of (thn (tru_ok pins s1 σ H1 x v (fun b H2=>b=k/\H2=H1) I1 r1 ⟨k,t,rfl,rfl⟩) fun b s2 ⟨H2,I2,e1,e2⟩=>?_)
 subst e1 e2
 exact ⟨.bl (!b),H2,I2,rfl,q1⟩
end
end L2
namespace K33
open PySem L2
def lostB (wy:Oks->Nat) (ps:List (Int × Int)) (l g:Nat):Bool:=!decide ((ps.getD l (0,0)).2=(g:Int)) && (onN wy ps g l).isEmpty
def spIsLost (c:Cs) (C:Addr) (J:TIn):Sp:=fun vs H Q _=>∃ (x lx ldx lt:Addr) (n:Nat) (tvs:List V) (ps:List (Int × Int)) (wy:Oks->Nat) (l g:Nat),vs=[.ref x, .int l, .int g]/\TabIn c C J H x lx ldx lt n tvs ps wy/\l < ps.length/\∀ H',Same H H'->Q (.bl (lostB wy ps l g)) H'
section
variable {P:Program} {w:World} {K:PySem.W.Frag} {mg:Str->Option Value} {base:Heap}
theorem scIl:FnScope ["table", "lane", "goal"] ["table", "lane", "goal"] (defScope sIsLost):=⟨rfl,rfl,rfl,by decide +kernel,rfl,by decide +kernel,by decide +kernel⟩
theorem ok_isLost {c:Cs} {J:TIn} {C f fw fe fo:Addr} {fd dw de do':FuncData} (F:Fun K "is_lost" "is_lost" sIsLost f fd) (L:Lnd K c) (W:Way K C fw dw J) (nl:NoAttr K C "land") (M:EndM K c fe de) (Ge:FnOk P w K mg base CX0 1 fe de ["self", "lane"] (spAt c Prod.snd))
  (mo:mg "onward" = some (.ref fo)) (ko:PySem.W.keepIn K (.ref fo)=true) (bo:Binds K do' ["table", "lane", "goal"] []) (Go:FnOk P w K mg base CX0 4 fo do' ["table", "lane", "goal"] (spOn c C J)) :
  FnOk P w K mg base CX0 5 f fd ["table", "lane", "goal"] (spIsLost c C J):=by
 refine F.ok scIl (fun vs H Q E h=>?_) (fun cdv A outer s H vs Q E hr h=>?_)
 ·obtain ⟨x,lx,ldx,lt,n,tvs,ps,wy,l,g,rfl,_⟩:=h
  rfl
 ·obtain ⟨x,lx,ldx,lt,n,tvs,ps,wy,l,g,rfl,hT,hl,q⟩:=h
  have hr1:Room 1 _:=hr.mono (by decide)
  refine ⟨_,pss_one (ps_ret (pe_and (pe_cmpR op_ne (pe_meth (pe_fld (pv 0) rfl) L.cl M.m Ge hr1 M.b .nil pass0 (pa_cons (pv 1) pa_nil)) (pv 2) (nomark _)) (pe_one (pe_notT (pe_call Go hr rfl mo ko bo .nil pass0 (pa_cons (pv 0) (pa_cons (pv 1) (pa_cons (pv 2) pa_nil)))))))),?_⟩
  obtain ⟨dx,fs,hx,hf⟩:=hT.i
  have he:=List.getElem?_eq_getElem hl
  have heD:ps.getD l (0,0)=ps[l]:=by rw [List.getD_eq_getElem?_getD,he]; rfl
  unfold lostB at q
  rw [heD] at q
  generalize ps[l]=pr at he q
  refine ⟨_,rfl,x,C,dx,fs,_,rfl,hx,W.cl,nl,hf,lx,ldx,_,rfl,hT.l.1,rfl,_,rfl,lx,ldx,lt,(n:Int),tvs,ps,l,pr,rfl,hT.l,he,_,rfl,rfl,_,rfl,?_⟩
  rw [int_eq']
  by_cases h1:pr.2=(g:Int)
  ·rw [decide_eq_true h1]
   have:=q H (Same.refl H)
   rw [decide_eq_true h1] at this
   exact iteF this
  ·rw [decide_eq_false h1]
   refine iteT ⟨_,rfl,_,rfl,_,rfl,x,lx,ldx,lt,n,tvs,ps,wy,l,g,rfl,hT,hl,fun D H' s' hD gD=>?_⟩
   refine ⟨_, .inl ⟨_,SqL.of gD,rfl⟩,?_⟩
   have:=q H' s'
   rw [decide_eq_false h1] at this
   have e:(!(!(nV (onN wy ps g l)).isEmpty))=(onN wy ps g l).isEmpty:=by
    rw [Bool.not_not]
    cases onN wy ps g l <;> rfl
   show Q (V.bl (!(!(nV (onN wy ps g l)).isEmpty))) H'
   rw [e]
   exact this
end
end K33
namespace K33
open PySem L2
def mems (m:Nat):List Nat:=Yd.memN m (Builtin.Int.intBits (m:Int))
theorem memV_mems (m:Nat):memV m=nV (mems m):=rfl
def pairsL (S:List Nat) (l:Nat):List (Nat × Nat):=(mems (S.getD l 0)).map fun g=>(l,g)
def pairsN (S:List Nat) (m:Nat):List (Nat × Nat):=(List.range m).flatMap (pairsL S)
def lostN (wy:Oks->Nat) (ps:List (Int × Int)) (n:Nat):Option (Nat × Nat):=(pairsN (metN wy ps n n) ps.length).find? fun q=>lostB wy ps q.1 q.2
theorem pairs_succ (S:List Nat) (m:Nat):pairsN S (m + 1)=pairsN S m ++ pairsL S m:=by
 unfold pairsN
 rw [List.range_succ,List.flatMap_append]; simp
theorem pairs_pre (S:List Nat) {m k:Nat} (h:m <= k):∃ r,pairsN S k=pairsN S m ++ r:=by
 induction k with
 | zero=>exact ⟨[],by rw [show m=0 by omega]; simp⟩
 | succ k ih =>
  rcases Nat.lt_or_ge k m with h1 | h1
  ·exact ⟨[],by rw [show m=k + 1 by omega]; simp⟩
  ·obtain ⟨r,e⟩:=ih h1
   exact ⟨r ++ pairsL S k,by rw [pairs_succ,e,List.append_assoc]⟩
def LostV (H:Hp) (v:V):Option (Nat × Nat)->Prop
 | none=>v = .non
 | some q=>∃ t,v = .ref t/\H t=some (.tup [.int (q.1:Int), .int (q.2:Int)])
def spLost (c:Cs) (C:Addr) (J:TIn):Sp:=fun vs H Q _=>∃ (x lx ldx lt:Addr) (n:Nat) (tvs:List V) (ps:List (Int × Int)) (wy:Oks->Nat),vs=[.ref x]/\TabIn c C J H x lx ldx lt n tvs ps wy /\
 ∀ (v:V) (H':Hp),Same H H'->LostV H' v (lostN wy ps n)->Q v H'
abbrev NLo:List Str:=["table", "lane", "goals", "goal"]
section
variable {P:Program} {w:World} {K:PySem.W.Frag} {mg:Str->Option Value} {base:Heap}
theorem scLo:FnScope NLo ["table"] (defScope sLost):=⟨rfl,rfl,rfl,by decide +kernel,rfl,by decide +kernel,by decide +kernel⟩
theorem ok_lost {c:Cs} {J:TIn} {C f fw fm fb fi:Addr} {fd dw dm db di:FuncData} (F:Fun K "lost" "lost" sLost f fd) (T:Txt mg) (W:Way K C fw dw J)
  (mm:mg "met" = some (.ref fm)) (km:PySem.W.keepIn K (.ref fm)=true) (bm:Binds K dm ["table"] []) (Gm:FnOk P w K mg base CX0 6 fm dm ["table"] (spMet c C J))
  (mb:mg "members" = some (.ref fb)) (kb:PySem.W.keepIn K (.ref fb)=true) (bb:Binds K db ["some"] []) (Gb:FnOk P w K mg base CX0 2 fb db ["some"] spMem)
  (mi:mg "is_lost" = some (.ref fi)) (ki:PySem.W.keepIn K (.ref fi)=true) (bi:Binds K di ["table", "lane", "goal"] []) (Gi:FnOk P w K mg base CX0 5 fi di ["table", "lane", "goal"] (spIsLost c C J)) :
  FnOk P w K mg base CX0 7 f fd ["table"] (spLost c C J):=by
 refine F.ok scLo (fun vs H Q E h=>?_) (fun cdv A outer s H vs Q E hr h=>?_)
 ·obtain ⟨x,lx,ldx,lt,n,tvs,ps,wy,rfl,_⟩:=h
  rfl
 ·obtain ⟨x,lx,ldx,lt,n,tvs,ps,wy,rfl,hT,q⟩:=h
  have hr2:Room 2 _:=hr.mono (by decide)
  have hr5:Room 5 _:=hr.mono (by decide)
  have hn:=hT.n12
  refine ⟨_,pss_cons (ps_for PassesOwn.never rfl (pi_enumT rfl T.enum (pa_cons (pe_call Gm hr rfl mm km bm .nil pass0 (pa_cons (pv 0) pa_nil)) pa_nil)) (pg_tup rfl (pgs_cons (pg_name (i:=1) scLo.nd rfl (Or.inl rfl)) (pgs_cons (pg_name (i:=2) scLo.nd rfl (Or.inl rfl)) pgs_nil)))
    (pss_one (ps_for PassesOwn.never rfl (pi_list (pe_call Gb hr2 rfl mb kb bb .nil pass0 (pa_cons (pv 2) pa_nil))) (pg_name (i:=3) scLo.nd rfl (Or.inl rfl))
     (pss_one (ps_if (pt_val (pe_call Gi hr5 rfl mi ki bi .nil pass0 (pa_cons (pv 0) (pa_cons (pv 1) (pa_cons (pv 3) pa_nil))))) (pss_one (ps_ret (pe_tup (pa_cons (pv 1) (pa_cons (pv 3) pa_nil))))) pss_nil)))))
   (pss_one (ps_ret pe_non)),?_⟩
  refine ⟨_,rfl,x,lx,ldx,lt,n,tvs,ps,wy,rfl,hT,fun Mt H1 s1 hMt gMt=>⟨Mt,rfl,⟨_,SqT.of gMt⟩,?_⟩⟩
  have hSl:=met_len wy ps n n
  have hSlt:=met_lt wy ps n n (Nat.le_refl _)
  unfold lostN at q
  generalize metN wy ps n n=S at gMt hSl hSlt q
  refine for_enum (sq:=fun H=>SqT K H Mt) (xs:=nV S) (fun i σ H2=>∃ a1 a2 a3:Option V,Same H1 H2/\(∀ z ∈ pairsN S i,lostB wy ps z.1 z.2=false)/\σ=[some (.ref x),a1,a2,a3])
   ⟨none,none,none,Same.refl H1,(fun z hz=>by cases hz),rfl⟩ (fun i σ H2 _ ⟨_,_,_,s2,_⟩=>SqT.of (s2 _ _ gMt)) ?_ ?_
  ·rintro l v r σ H2 hv ⟨a1,a2,a3,s2,hno,rfl⟩ hr2'
   have hl:l < S.length:=by have:=(List.getElem?_eq_some_iff.mp hv).1; rw [nV_len] at this; exact this
   have hv':=nV_getD hl
   rw [hv'] at hv
   have hv:=Option.some.inj hv
   subst hv
   have hmlt:S.getD l 0 < 2 ^ n:=by
    rw [List.getD_eq_getElem?_getD,List.getElem?_eq_getElem hl]
    exact hSlt _ (List.getElem_mem hl)
   have s3:=s2.new (o := .tup [.int (l:Int), .int ((S.getD l 0:Nat):Int)]) hr2'
   refine ⟨r,_,rfl,SqT.of upd_same,rfl,_,_,rfl,_,_,rfl,rfl,?_⟩
   generalize upd H2 r (.tup [.int (l:Int), .int ((S.getD l 0:Nat):Int)])=H3 at s3 ⊢
   refine ⟨_,rfl,S.getD l 0,rfl,Nat.lt_of_lt_of_le hmlt (Nat.pow_le_pow_right (by decide) (by omega)),fun Mb hMb=>⟨Mb,rfl,⟨_,SqL.of upd_same⟩,?_⟩⟩
   rw [memV_mems]
   have s4:=s3.new (o := .lst (nV (mems (S.getD l 0)))) hMb
   have g4:(upd H3 Mb (.lst (nV (mems (S.getD l 0))))) Mb=some (.lst (nV (mems (S.getD l 0)))):=upd_same
   generalize upd H3 Mb (.lst (nV (mems (S.getD l 0))))=H4 at s4 g4 ⊢
   refine for_list (K:=K) (a:=Mb) (xs:=nV (mems (S.getD l 0))) (fun m σ H5=>∃ a3:Option V,Same H1 H5/\H5 Mb=some (.lst (nV (mems (S.getD l 0))))/\(∀ g ∈ (mems (S.getD l 0)).take m,lostB wy ps l g=false)/\σ=[some (.ref x),some (.int (l:Int)),some (.int ((S.getD l 0:Nat):Int)),a3])
    ⟨_,s4,g4,fun g hg=>by simp at hg,rfl⟩ (fun m σ H5 _ ⟨_,_,g5,_⟩=>SqL.of g5) ?_ ?_
   ·rintro m v σ H5 hv ⟨a3,s5,g5,hno2,rfl⟩
    have hm:m < (mems (S.getD l 0)).length:=by have:=(List.getElem?_eq_some_iff.mp hv).1; rw [nV_len] at this; exact this
    have hk0:=List.getElem?_eq_getElem hm
    have hv':=nV_get hk0
    rw [hv'] at hv
    have hv:=Option.some.inj hv
    subst hv
    generalize (mems (S.getD l 0))[m]=g at hk0
    refine ⟨_,rfl,_,rfl,_,rfl,x,lx,ldx,lt,n,tvs,ps,wy,l,g,rfl,hT.same W (s1.trans s5),by omega,fun H6 s6=>⟨_,rfl,?_⟩⟩
    cases hb:lostB wy ps l g with
    | false =>
     refine iteF ⟨_,s5.trans s6,s6 _ _ g5,fun g' hg'=>?_,rfl⟩
     rw [List.take_succ,hk0] at hg'
     rcases List.mem_append.mp hg' with h | h
     ·exact hno2 g' h
     ·have:g' = g:=by simpa using h
      rw [this]; exact hb
    | true =>
     refine iteT ⟨_,rfl,_,rfl,by show 2 <= sizeLine; decide,fun t ht=>?_⟩
     refine q _ _ ((s1.trans (s5.trans s6)).new ht) ?_
     obtain ⟨rest,er⟩:=pairs_pre S (m:=l + 1) (k:=ps.length) (by omega)
     have hsplit:mems (S.getD l 0)=(mems (S.getD l 0)).take m ++ g :: (mems (S.getD l 0)).drop (m + 1):=by
      have hd:(mems (S.getD l 0)).drop m=g :: (mems (S.getD l 0)).drop (m + 1):=by
       rw [List.drop_eq_getElem_cons hm]
       congr 1
       exact Option.some.inj ((List.getElem?_eq_getElem hm).symm.trans hk0)
      exact (List.take_append_drop m (mems (S.getD l 0))).symm.trans (by rw [hd])
     have ef:(pairsN S ps.length).find? (fun q=>lostB wy ps q.1 q.2)=some (l,g):=by
      rw [er,pairs_succ,List.append_assoc,List.find?_append,List.find?_eq_none.mpr (fun z hz=>by rw [hno z hz]; decide),Option.none_or]
      unfold pairsL
      rw [hsplit,List.map_append,List.append_assoc,List.find?_append,List.find?_eq_none.mpr (fun z hz=>by
       obtain ⟨g',hg',rfl⟩:=List.mem_map.mp hz
       show ¬ lostB wy ps l g' = true
       rw [hno2 g' hg']; decide),Option.none_or]
      show List.find? _ ((l,g) :: _)=_
      rw [List.find?_cons_of_pos (by exact hb)]
     rw [ef]
     exact ⟨t,rfl,upd_same⟩
   ·rintro σ H5 ⟨a3,s5,g5,hno2,rfl⟩
    rw [nV_len,List.take_length] at hno2
    refine ⟨_,_,_,s5,fun z hz=>?_,rfl⟩
    rw [pairs_succ] at hz
    rcases List.mem_append.mp hz with hz | hz
    ·exact hno z hz
    ·obtain ⟨g',hg',rfl⟩:=List.mem_map.mp hz
     exact hno2 g' hg'
  ·rintro σ H2 ⟨a1,a2,a3,s2,hno,rfl⟩
   rw [nV_len,hSl] at hno
   refine q _ _ (s1.trans s2) ?_
   rw [List.find?_eq_none.mpr (fun z hz=>by rw [hno z hz]; decide)]
   rfl
end
end K33
namespace K33
open PySem L2
theorem addW_cons (l:Option Nat) (a:As) (x:Nat) (ws:List Nat):addW l a (x :: ws)=addW l (if x ∈ a.map (·.1) then a else a ++ [(x,l)]) ws:=rfl
theorem addW_pre (l:Option Nat):∀ (ws:List Nat) (a:As),∃ r,addW l a ws=a ++ r
 | [],a=>⟨[],by rw [addW_nil,List.append_nil]⟩
 | x :: ws,a=>by
  rw [addW_cons]
  split
  ·exact addW_pre l ws a
  ·obtain ⟨r,e⟩:=addW_pre l ws (a ++ [(x,l)])
   exact ⟨[(x,l)] ++ r,by rw [e,List.append_assoc]⟩
theorem addW_sub {l:Option Nat} {ws:List Nat} {a:As} {z:Nat} (h:z ∈ a.map (·.1)):z ∈ (addW l a ws).map (·.1):=by
 obtain ⟨r,e⟩:=addW_pre l ws a
 rw [e,List.map_append]
 exact List.mem_append_left _ h
theorem addW_mem (l:Option Nat):∀ (ws:List Nat) (a:As) (x:Nat),x ∈ ws->x ∈ (addW l a ws).map (·.1)
 | y :: ws,a,x,h=>by
  rw [addW_cons]
  rcases List.mem_cons.mp h with h | h
  ·subst h
   refine addW_sub ?_
   split
   ·assumption
   ·rw [List.map_append]
    exact List.mem_append_right _ (by simp)
  ·exact addW_mem l ws _ x h
theorem runA_closed {on:Nat->List Nat} {L:Nat} (hon:∀ x,∀ z ∈ on x,z < L):∀ (f:Nat) (a:As) (i:Nat),Aok L a->i <= a.length->L <= f + i->(∀ j y,j < i->a[j]? = some y->∀ z ∈ on y.1,z ∈ a.map (·.1)) ->
  (∀ y ∈ runA on f a i,∀ z ∈ on y.1,z ∈ (runA on f a i).map (·.1))/\∀ z ∈ a.map (·.1),z ∈ (runA on f a i).map (·.1)
 | 0,a,i,ok,hi,hf,inv=>by
  have:=ok.few
  refine ⟨fun y hy z hz=>?_,fun z hz=>hz⟩
  obtain ⟨j,hj,e⟩:=List.getElem_of_mem (show y ∈ a from hy)
  exact inv j y (by omega) (by rw [List.getElem?_eq_getElem hj,e]) z hz
 | f + 1,a,i,ok,hi,hf,inv=>by
  cases h:a[i]? with
  | none =>
   rw [runA_end h]
   have hl:a.length <= i:=List.getElem?_eq_none_iff.mp h
   refine ⟨fun y hy z hz=>?_,fun z hz=>hz⟩
   obtain ⟨j,hj,e⟩:=List.getElem_of_mem hy
   exact inv j y (by omega) (by rw [List.getElem?_eq_getElem hj,e]) z hz
  | some x =>
   rw [runA_step h]
   have hlt:i < a.length:=(List.getElem?_eq_some_iff.mp h).1
   obtain ⟨r,er⟩:=addW_pre (some x.1) (on x.1) a
   have hlen:i + 1 <= (addW (some x.1) a (on x.1)).length:=by rw [er,List.length_append]; omega
   obtain ⟨h1,h2⟩:=runA_closed hon f (addW (some x.1) a (on x.1)) (i + 1) (Aok.addW (on x.1) ok (hon x.1)) hlen (by omega) (fun j y hj hy z hz=>by
    have hy':a[j]? = some y:=by
     rw [er,List.getElem?_append_left (by omega)] at hy
     exact hy
    rcases Nat.lt_or_ge j i with h3 | h3
    ·exact addW_sub (inv j y h3 hy' z hz)
    ·have:j=i:=by omega
     subst this
     rw [h] at hy'
     injection hy' with hy'
     subst hy'
     exact addW_mem _ _ _ z hz)
   exact ⟨h1,fun z hz=>h2 z (addW_sub hz)⟩
def MetA (wy:Oks->Nat) (ps:List (Int × Int)) (n g z:Nat):Prop:=z ∈ (aheadN wy ps n g).map (·.1)
theorem on_lt {wy:Oks->Nat} {ps:List (Int × Int)} (h:∀ k,∀ z ∈ wl wy k,z < ps.length) (g x:Nat):∀ z ∈ onN wy ps g x,z < ps.length:=by
 intro z hz
 unfold onN at hz
 split at hz
 ·cases hz
 ·exact h _ z hz
theorem ahead_closed {wy:Oks->Nat} {ps:List (Int × Int)} (h:∀ k,∀ z ∈ wl wy k,z < ps.length) (n g:Nat) :
  (∀ y ∈ aheadN wy ps n g,∀ z ∈ onN wy ps g y.1,z ∈ (aheadN wy ps n g).map (·.1))/\∀ z ∈ firstN wy g n,z ∈ (aheadN wy ps n g).map (·.1):=by
 have hf:∀ z ∈ firstN wy g n,z < ps.length:=fun z hz=>by
  obtain ⟨p,_,hp⟩:=List.mem_flatMap.mp hz
  exact h _ z hp
 have ok:Aok ps.length (addW none [] (firstN wy g n)):=Aok.addW _ ⟨List.nodup_nil,fun x hx=>by cases hx⟩ hf
 obtain ⟨h1,h2⟩:=runA_closed (on_lt h g) ps.length (addW none [] (firstN wy g n)) 0 ok (Nat.zero_le _) (Nat.le_refl _) (fun j y hj=>absurd hj (Nat.not_lt_zero _))
 exact ⟨h1,fun z hz=>h2 z (addW_mem _ _ _ z hz)⟩
theorem first_met {wy:Oks->Nat} {ps:List (Int × Int)} (h:∀ k,∀ z ∈ wl wy k,z < ps.length) {n g p z:Nat} (hp:p < n) (hz:z ∈ wl wy [some (p:Int),some (g:Int),none]):MetA wy ps n g z :=
 (ahead_closed h n g).2 z (List.mem_flatMap.mpr ⟨p,List.mem_range.mpr hp,hz⟩)
theorem step_met {wy:Oks->Nat} {ps:List (Int × Int)} (h:∀ k,∀ z ∈ wl wy k,z < ps.length) {n g l z:Nat} (hl:MetA wy ps n g l) (hz:z ∈ onN wy ps g l):MetA wy ps n g z:=by
 obtain ⟨y,hy,rfl⟩:=List.mem_map.mp hl
 exact (ahead_closed h n g).1 y hy z hz
theorem setG_mono {g b:Nat} {S:List Nat} {l l':Nat} (h:(S.getD l 0).testBit b=true):((setG g S l').getD l 0).testBit b=true:=by
 unfold setG
 rw [List.getD_eq_getElem?_getD,List.getElem?_set]
 by_cases e:l' = l
 ·subst e
  rw [if_pos rfl]
  split
  ·rw [Option.getD_some,Nat.testBit_or,h]; rfl
  ·rename_i hl
   rw [List.getD_eq_getElem?_getD,List.getElem?_eq_none (by omega)] at h
   rw [Option.getD_none] at h ⊢
   exact h
 ·rw [if_neg e,← List.getD_eq_getElem?_getD]
  exact h
theorem foldG_mono {g b l:Nat}:∀ (ls:List Nat) {S:List Nat},(S.getD l 0).testBit b=true->((ls.foldl (setG g) S).getD l 0).testBit b=true
 | [],_,h=>h
 | _ :: ls,_,h=>foldG_mono ls (setG_mono h)
theorem foldG_mem {g l:Nat}:∀ (ls:List Nat) {S:List Nat},l ∈ ls->l < S.length->((ls.foldl (setG g) S).getD l 0).testBit g=true
 | x :: ls,S,h,hl=>by
  rw [List.foldl_cons]
  rcases List.mem_cons.mp h with h | h
  ·subst h
   refine foldG_mono ls ?_
   unfold setG
   rw [List.getD_eq_getElem?_getD,List.getElem?_set,if_pos rfl,if_pos hl,Option.getD_some,Nat.testBit_or,Nat.testBit_two_pow]
   simp
  ·exact foldG_mem ls h (by rw [setG_len]; exact hl)
theorem met_bit_le {wy:Oks->Nat} {ps:List (Int × Int)} {n l g:Nat}:∀ {m:Nat},g < m->l < ps.length->MetA wy ps n g l->((metN wy ps n m).getD l 0).testBit g=true
 | m + 1,hg,hl,h=>by
  rw [met_succ]
  rcases Nat.lt_or_ge g m with h1 | h1
  ·exact foldG_mono _ (met_bit_le h1 hl h)
  ·have:g=m:=by omega
   subst this
   exact foldG_mem _ h (by rw [met_len]; exact hl)
def ltQ (a b:Nat × Nat):Prop:=a.1 < b.1∨(a.1=b.1/\a.2 < b.2)
end K33
namespace K33
open PySem L2
theorem setG_bit {g b l l':Nat} {S:List Nat} (h:((setG g S l').getD l 0).testBit b=true):(S.getD l 0).testBit b=true∨(b=g/\l' = l):=by
 unfold setG at h
 rw [List.getD_eq_getElem?_getD,List.getElem?_set] at h
 by_cases e:l' = l
 ·rw [if_pos e] at h
  split at h
  ·rw [Option.getD_some,Nat.testBit_or,Bool.or_eq_true] at h
   rcases h with h | h
   ·rw [e] at h; exact .inl h
   ·rw [Nat.testBit_two_pow] at h
    exact .inr ⟨(of_decide_eq_true h).symm,e⟩
  ·rw [Option.getD_none,Nat.zero_testBit] at h
   cases h
 ·rw [if_neg e,← List.getD_eq_getElem?_getD] at h
  exact .inl h
theorem foldG_bit {g b l:Nat}:∀ (ls:List Nat) {S:List Nat},((ls.foldl (setG g) S).getD l 0).testBit b=true->(S.getD l 0).testBit b=true∨(b=g/\l ∈ ls)
 | [],_,h => .inl h
 | x :: ls,S,h=>by
  rcases foldG_bit ls h with h | ⟨h1,h2⟩
  ·rcases setG_bit h with h | ⟨h1,h2⟩
   ·exact .inl h
   ·exact .inr ⟨h1,by rw [h2]; exact List.mem_cons_self⟩
  ·exact .inr ⟨h1,List.mem_cons_of_mem _ h2⟩
theorem met_bit_of {wy:Oks->Nat} {ps:List (Int × Int)} {n l g:Nat}:∀ {m:Nat},((metN wy ps n m).getD l 0).testBit g=true->MetA wy ps n g l
 | 0,h=>by
  have e:(metN wy ps n 0).getD l 0=0:=by
   unfold metN
   rw [List.range_zero,List.foldl_nil,List.getD_eq_getElem?_getD,List.getElem?_replicate]
   split <;> rfl
  rw [e,Nat.zero_testBit] at h
  cases h
 | m + 1,h=>by
  rw [met_succ] at h
  rcases foldG_bit _ h with h | ⟨rfl,h⟩
  ·exact met_bit_of h
  ·exact h
end K33
namespace L2
open PySem
theorem pi_or {X:Cx} {tg it:Expr} {a b:TI} (h1:PI X tg it a) (h2:PI X tg it b):PI X tg it (fun σ H R=>a σ H R∨b σ H R):=fun pins s σ H R I h=>h.elim (h1 pins s σ H R I) (h2 pins s σ H R I)
theorem Same.seqT {K:PySem.W.Frag} {H H':Hp} {a:Addr} {xs:List V} (e:Same H H') (h:SqT K H a xs):SqT K H' a xs:=by
 rcases h with h | h
 ·refine .inl ?_
  rcases h with h | ⟨o,h⟩
  ·exact .inl (e _ _ h)
  ·exact .inr ⟨o,e _ _ h⟩
 ·exact .inr h
def Sq (K:PySem.W.Frag) (H:Hp) (a:Addr) (xs:List V):Prop:=SqL K H a xs∨SqT K H a xs
theorem Sq.same {K:PySem.W.Frag} {H H':Hp} {a:Addr} {xs:List V} (h:Sq K H a xs) (s:Same H H'):Sq K H' a xs:=h.elim (fun z => .inl (s.seq z)) (fun z => .inr (Same.seqT s z))
theorem Sq.ix {K:PySem.W.Frag} {H:Hp} {a:Addr} {xs:List V} {i:Int} {v:V} {Q:VK} (h:Sq K H a xs) (e:atI xs i=some v) (q:Q v H):rIx K (.ref a) (.int i) H Q :=
 h.elim (fun z => .inl ⟨a,xs,i,v,rfl,rfl,z,e,q⟩) (fun z => .inr (.inl ⟨a,xs,i,v,rfl,rfl,z,e,q⟩))
theorem fs_next {α β:Type} {f:α->Option β} {xs:List α} {i:Nat} {x:α} (hx:xs[i]? = some x) (h0:(xs.take i).findSome? f=none) (hb:f x=none):(xs.take (i + 1)).findSome? f=none:=by
 rw [List.take_succ,hx,Option.toList_some,List.findSome?_append,h0,Option.none_or]
 simp [hb]
theorem fs_at {α β:Type} {f:α->Option β} {xs:List α} {i:Nat} {x:α} (hx:xs[i]? = some x) (h0:(xs.take i).findSome? f=none) {b:β} (hb:f x=some b):xs.findSome? f=some b:=by
 obtain ⟨hi,e⟩:=List.getElem?_eq_some_iff.mp hx
 have hd:xs.drop i=x :: xs.drop (i + 1):=by rw [List.drop_eq_getElem_cons hi,e]
 rw [← List.take_append_drop i xs,List.findSome?_append,h0,Option.none_or,hd,List.findSome?_cons,hb]
end L2
namespace K33
open PySem L2
def FV (K:PySem.W.Frag) (H:Hp) (v:V):Option (List PyData)->Prop
 | none=>v = .non
 | some ds=>∃ t xs,v = .ref t/\H t=some (.tup xs)/\Dens K H xs ds
abbrev Fo:=Option (List PyData)
def sizeB (L n:Nat) (nums ss:List Int):Bool:=decide (nums.length=L) && (decide (ss.length=L) && ss.all fun s=>decide (0 <= s/\s <= 1 * 2 ^ (n:Int).toNat - 1))
def bitN (S:List Nat) (l g:Nat):Bool:=(S.getD l 0).testBit g
def stF (wy:Oks->Nat) (S:List Nat) (z:Int × Int):Fo:=(wl wy [some z.1,some z.2,none]).findSome? fun l=>if bitN S l z.2.toNat then none else some [.str "start", .int z.1, .int z.2, .int l]
def startF (wy:Oks->Nat) (n:Nat) (S:List Nat):Fo:=(startsOf wy n n).findSome? (stF wy S)
def wayF (nums:List Int) (S:List Nat) (l g w:Nat):Fo:=if bitN S w g then (if nums.getD w 0 <= nums.getD l 0 then some [.str "number", .int l, .int g, .int w] else none) else some [.str "open", .int l, .int g, .int w]
def pairF (wy:Oks->Nat) (ps:List (Int × Int)) (nums:List Int) (S:List Nat) (l g:Nat):Fo:=if onN wy ps g l=[] then some [.str "lost", .int l, .int g] else (onN wy ps g l).findSome? (wayF nums S l g)
def laneF (wy:Oks->Nat) (ps:List (Int × Int)) (nums:List Int) (S:List Nat) (l:Nat):Fo:=(Yd.memN (S.getD l 0) (Builtin.Int.intBits ((S.getD l 0:Nat):Int))).findSome? fun g:Nat=>if (g:Int)=(ps.getD l (0,0)).2 then none else pairF wy ps nums S l g
def lanesF (wy:Oks->Nat) (ps:List (Int × Int)) (nums:List Int) (S:List Nat) (m:Nat):Fo:=(List.range m).findSome? (laneF wy ps nums S)
def faultF (wy:Oks->Nat) (ps:List (Int × Int)) (n:Nat) (nums ss:List Int):Fo :=
 if sizeB ps.length n nums ss then (startF wy n (ss.map Int.toNat)).or (lanesF wy ps nums (ss.map Int.toNat) ps.length) else some [.str "size"]
theorem atM {ms:List Int} {z:Nat} (h:z < ms.length):atI (ms.map V.int) (z:Int)=some (.int (ms.getD z 0)):=atI_nat (by simp [h])
theorem atS {S:List Nat} {z:Nat} (h:z < S.length):atI (nV S) (z:Int)=some (.int ((S.getD z 0:Nat):Int)):=atI_nat (nV_getD h)
def bodyC (s:Stmt):Scope:=match s with
 | .Return (some (.Call _ [.ListComp _ _ sc _] _ _)) _=>sc
 | _=>{ kind := .function,names:=[],isGenerator:=false,isCoroutine:=false }
def spSize (K:PySem.W.Frag) (c:Cs):Sp:=fun vs H Q _=>∃ (x dx lt na sa:Addr) (n:Nat) (tvs:List V) (ps:List (Int × Int)) (nums ss:List Int),vs=[.ref x, .ref na, .ref sa]/\LandAt H c x dx lt (n:Int) tvs ps/\n <= 12/\Sq K H na (nums.map V.int)/\Sq K H sa (ss.map V.int)/\ss.length <= 1000/\∀ H',Same H H'->Q (.bl (sizeB ps.length n nums ss)) H'
abbrev NSz:List Str:=["land", "numbers", "sets", "lanes"]
section
variable {P:Program} {w:World} {K:PySem.W.Frag} {mg:Str->Option Value} {base:Heap}
theorem scSz:FnScope NSz ["land", "numbers", "sets"] (defScope sSize):=⟨rfl,rfl,rfl,by decide +kernel,rfl,by decide +kernel,by decide +kernel⟩
theorem bkSz:Blk NSz (defScope sSize) (bodyC ((defBody sSize).getD 2 (.Pass ⟨0,0,0,0⟩))) ["land"] [0]:=⟨rfl,by decide +kernel,by decide +kernel,by decide +kernel,rfl,by decide +kernel⟩
theorem ndSz:(["goals", "land"]:List Str).Nodup:=by decide +kernel
theorem ok_size {c:Cs} {f fw:Addr} {fd dw:FuncData} (F:Fun K "has_size" "has_size" sSize f fd) (T:Txt mg) (L:Lnd K c) (mw:mg "is_within" = some (.ref fw)) (kw:PySem.W.keepIn K (.ref fw)=true) (bw:Binds K dw ["value", "least", "most"] []) (Gw:FnOk P w K mg base CX0 2 fw dw ["value", "least", "most"] spWithin) :
  FnOk P w K mg base CX0 3 f fd ["land", "numbers", "sets"] (spSize K c):=by
 refine F.ok scSz (fun vs H Q E h=>?_) (fun cdv A outer s H vs Q E hr h=>?_)
 ·obtain ⟨x,dx,lt,na,sa,n,tvs,ps,nums,ss,rfl,_⟩:=h
  rfl
 ·obtain ⟨x,dx,lt,na,sa,n,tvs,ps,nums,ss,rfl,hL,hn,hN,hS,hsl,q⟩:=h
  refine ⟨_,pss_cons (ps_set (i:=3) scSz.nd rfl (Or.inl rfl) (pe_callB call_len_seq rfl T.len PySem.boot_len (pa_cons (pe_fld (pv 0) rfl) pa_nil)))
   (pss_cons (ps_if (PW.pt (pw_or (pt_cmpR op_ne (pe_callB call_len_seq rfl T.len PySem.boot_len (pa_cons (pv 1) pa_nil)) (pv 3) (nomark _)) (pw_or1 (pt_cmpR op_ne (pe_callB call_len_seq rfl T.len PySem.boot_len (pa_cons (pv 2) pa_nil)) (pv 3) (nomark _))))) (pss_one (ps_ret pe_bl)) pss_nil)
   (pss_one (ps_ret (pe_callB (call_all rfl) rfl T.all PyProof.Rows.boot_all (pa_cons (pe_comp (own:=["goals"]) (capN:=["land"]) (cap:=[0]) bkSz rfl (pi_or (pi_list (pv 2)) (pi_tup (pv 2)))
    (fun C s' H' fp=>⟨pg_name (i:=0) ndSz rfl (Or.inl rfl),pts_nil,pe_call Gw hr rfl mw kw bw .nil pass0 (pa_cons (pv 0) (pa_cons pe_int (pa_cons (pe_op op_sub (pe_op op_shl pe_int (show PE _ _ (tFld K (tVar 1) "places") from pe_fld (pv 1) rfl)) pe_int) pa_nil)))⟩)) pa_nil))))),?_⟩
  have hll:tvs.length=ps.length:=Paired.length hL.2.2
  refine ⟨_,rfl,x,c.land,dx,_,_,rfl,hL.1,L.cl,L.nl,rfl,lt,_,rfl, .inr (SqT.of hL.2.1),?_⟩
  refine ⟨_,rfl,na,_,rfl,hN,_,rfl,rfl,_,rfl,?_⟩
  unfold sizeB at q
  rw [int_eq',List.length_map]
  by_cases h1:nums.length=ps.length
  rotate_left
  ·rw [decide_eq_false (show ¬ ((nums.length:Nat):Int)=(tvs.length:Nat) by omega)]
   have:=q H (Same.refl H)
   rw [decide_eq_false h1] at this
   exact iteT (iteT this)
  rw [decide_eq_true (show ((nums.length:Nat):Int)=(tvs.length:Nat) by omega)]
  refine iteF ⟨_,rfl,sa,_,rfl,hS,_,rfl,rfl,_,rfl,?_⟩
  rw [int_eq',List.length_map]
  by_cases h2:ss.length=ps.length
  rotate_left
  ·rw [decide_eq_false (show ¬ ((ss.length:Nat):Int)=(tvs.length:Nat) by omega)]
   have:=q H (Same.refl H)
   rw [decide_eq_true h1,decide_eq_false h2] at this
   exact iteT this
  rw [decide_eq_true (show ((ss.length:Nat):Int)=(tvs.length:Nat) by omega)]
  refine iteF ?_
  have step:∀ (i:Nat) (acc:List V) (z:Int),ss[i]? = some z->((ss.take i).map fun s=>V.bl (decide (0 <= s/\s <= 1 * 2 ^ (n:Int).toNat - 1)))=acc->((ss.take (i + 1)).map fun s=>V.bl (decide (0 <= s/\s <= 1 * 2 ^ (n:Int).toNat - 1)))=acc ++ [V.bl (decide (0 <= z/\z <= 1 * 2 ^ (n:Int).toNat - 1))]:=fun i acc z hz e=>by
   rw [List.take_succ,hz,List.map_append,e]; rfl
  have get:∀ {i:Nat} {v:V},(ss.map V.int)[i]? = some v->∃ z,ss[i]? = some z/\v = .int z:=fun {i v} h=>by
   rw [List.getElem?_map] at h
   cases e:ss[i]? with
   | none=>rw [e] at h; cases h
   | some k=>rw [e] at h; exact ⟨k,rfl,(Option.some.inj h).symm⟩
  have fin:∀ D,H D=none->∃ (p:Addr) (bs:List Bool),[V.ref D]=[.ref p]/\SqL K (upd H D (.lst (ss.map fun s=>V.bl (decide (0 <= s/\s <= 1 * 2 ^ (n:Int).toNat - 1))))) p (bs.map V.bl)/\Q (.bl (bs.all id)) (upd H D (.lst (ss.map fun s=>V.bl (decide (0 <= s/\s <= 1 * 2 ^ (n:Int).toNat - 1))))):=fun D hD=>by
   refine ⟨D,ss.map fun s=>decide (0 <= s/\s <= 1 * 2 ^ (n:Int).toNat - 1),rfl,SqL.of (by rw [upd_same,List.map_map]; rfl),?_⟩
   have:=q _ ((Same.refl H).new (o := .lst (ss.map fun s=>V.bl (decide (0 <= s/\s <= 1 * 2 ^ (n:Int).toNat - 1)))) hD)
   rw [decide_eq_true h1,decide_eq_true h2,Bool.true_and,Bool.true_and] at this
   rw [List.all_map]
   exact this
  rcases hS with hS | hS
  ·refine .inl ⟨_,rfl,sa,rfl,⟨_,hS⟩,?_⟩
   refine comp_gen ss.length (by rw [PySem.sizeLine_eq]; omega) (fun i acc H'=>H' = H/\((ss.take i).map fun s=>V.bl (decide (0 <= s/\s <= 1 * 2 ^ (n:Int).toNat - 1)))=acc) ⟨rfl,rfl⟩ (fun i acc H' h=>by rw [← h.2,List.length_map]; exact List.length_take_le _ _) (fun i acc H' hi h=>?_) (fun acc H' h=>?_)
   ·obtain ⟨rfl,hacc⟩:=h
    refine ⟨⟨_,_,hS,List.getElem?_eq_getElem (by rw [List.length_map]; exact hi)⟩,fun v H2 y=>?_⟩
    obtain ⟨e,y⟩:=y
    subst e
    obtain ⟨z,hz,rfl⟩:=get (y _ hS)
    exact ⟨_,rfl,_,rfl,x,c.land,dx,_,_,rfl,hL.1,L.cl,L.np,rfl,_,_,rfl,rfl,⟨by omega,by omega,by decide⟩,_,_,rfl,rfl,z,0,_,rfl,rfl,step i acc z hz hacc⟩
   ·obtain ⟨rfl,hacc⟩:=h
    rw [List.take_length] at hacc
    subst hacc
    exact ⟨⟨_,hS,by rw [List.length_map]; exact Nat.le_refl _⟩,fun D hD=>fin D hD⟩
  ·refine .inr ⟨_,rfl,sa,rfl,⟨_,hS⟩,?_⟩
   refine comp_gen ss.length (by rw [PySem.sizeLine_eq]; omega) (fun i acc H'=>H' = H/\((ss.take i).map fun s=>V.bl (decide (0 <= s/\s <= 1 * 2 ^ (n:Int).toNat - 1)))=acc) ⟨rfl,rfl⟩ (fun i acc H' h=>by rw [← h.2,List.length_map]; exact List.length_take_le _ _) (fun i acc H' hi h=>?_) (fun acc H' h=>?_)
   ·obtain ⟨rfl,hacc⟩:=h
    refine ⟨⟨_,_,hS,List.getElem?_eq_getElem (by rw [List.length_map]; exact hi)⟩,fun v H2 y=>?_⟩
    obtain ⟨e,y⟩:=y
    subst e
    obtain ⟨z,hz,rfl⟩:=get (y _ hS)
    exact ⟨_,rfl,_,rfl,x,c.land,dx,_,_,rfl,hL.1,L.cl,L.np,rfl,_,_,rfl,rfl,⟨by omega,by omega,by decide⟩,_,_,rfl,rfl,z,0,_,rfl,rfl,step i acc z hz hacc⟩
   ·obtain ⟨rfl,hacc⟩:=h
    rw [List.take_length] at hacc
    subst hacc
    exact ⟨⟨_,hS,by rw [List.length_map]; exact Nat.le_refl _⟩,fun D hD=>fin D hD⟩
end
end K33
namespace K33
open PySem L2
structure PapIn (K:PySem.W.Frag) (H:Hp) (na sa:Addr) (ps:List (Int × Int)) (nums:List Int) (S:List Nat):Prop where
 n:Sq K H na (nums.map V.int)
 s:Sq K H sa (nV S)
 nl:nums.length=ps.length
 sl:S.length=ps.length
 lt:∀ z ∈ S,z < 2 ^ 400
theorem PapIn.same {K:PySem.W.Frag} {H H':Hp} {na sa:Addr} {ps:List (Int × Int)} {nums:List Int} {S:List Nat} (h:PapIn K H na sa ps nums S) (s:Same H H'):PapIn K H' na sa ps nums S:=⟨h.n.same s,h.s.same s,h.nl,h.sl,h.lt⟩
structure HasM (P:Program) (w:World) (K:PySem.W.Frag) (mg:Str->Option Value) (base:Heap) (fx:Addr) (dx:FuncData):Prop where
 m:mg "has" = some (.ref fx)
 k:PySem.W.keepIn K (.ref fx)=true
 b:Binds K dx ["some", "number"] []
 G:FnOk P w K mg base CX0 1 fx dx ["some", "number"] spHas
def spStF (K:PySem.W.Frag) (c:Cs) (C:Addr) (J:TIn):Sp:=fun vs H Q _=>∃ (x lx ldx lt sa:Addr) (n:Nat) (tvs:List V) (ps:List (Int × Int)) (wy:Oks->Nat) (S:List Nat),vs=[.ref x, .ref sa]/\TabIn c C J H x lx ldx lt n tvs ps wy/\Sq K H sa (nV S)/\S.length=ps.length/\∀ v H',Same H H'->FV K H' v (startF wy n S)->Q v H'
def spWayF (K:PySem.W.Frag):Sp:=fun vs H Q _=>∃ (na sa:Addr) (ps:List (Int × Int)) (nums:List Int) (S:List Nat) (l g w:Nat),vs=[.ref na, .ref sa, .int l, .int g, .int w]/\PapIn K H na sa ps nums S/\l < ps.length/\w < ps.length/\∀ v H',Same H H'->FV K H' v (wayF nums S l g w)->Q v H'
def spPairF (K:PySem.W.Frag) (c:Cs) (C:Addr) (J:TIn):Sp:=fun vs H Q _=>∃ (x lx ldx lt na sa:Addr) (n:Nat) (tvs:List V) (ps:List (Int × Int)) (wy:Oks->Nat) (nums:List Int) (S:List Nat) (l g:Nat),vs=[.ref x, .ref na, .ref sa, .int l, .int g]/\TabIn c C J H x lx ldx lt n tvs ps wy/\PapIn K H na sa ps nums S/\l < ps.length/\∀ v H',Same H H'->FV K H' v (pairF wy ps nums S l g)->Q v H'
def spLaneF (K:PySem.W.Frag) (c:Cs) (C:Addr) (J:TIn):Sp:=fun vs H Q _=>∃ (x lx ldx lt na sa:Addr) (n:Nat) (tvs:List V) (ps:List (Int × Int)) (wy:Oks->Nat) (nums:List Int) (S:List Nat) (l:Nat),vs=[.ref x, .ref na, .ref sa, .int l]/\TabIn c C J H x lx ldx lt n tvs ps wy/\PapIn K H na sa ps nums S/\l < ps.length/\∀ v H',Same H H'->FV K H' v (laneF wy ps nums S l)->Q v H'
def spFault (K:PySem.W.Frag) (c:Cs) (C:Addr) (J:TIn):Sp:=fun vs H Q _=>∃ (x lx ldx lt pa na sa:Addr) (n:Nat) (tvs:List V) (ps:List (Int × Int)) (wy:Oks->Nat) (nums ss:List Int),vs=[.ref x, .ref pa]/\TabIn c C J H x lx ldx lt n tvs ps wy/\H pa=some (.tup [.ref na, .ref sa])/\Sq K H na (nums.map V.int)/\Sq K H sa (ss.map V.int)/\ss.length <= 1000/\∀ v H',Same H H'->FV K H' v (faultF wy ps n nums ss)->Q v H'
theorem mem_starts {wy:Oks->Nat} {n m:Nat} {z:Int × Int} (h:z ∈ startsOf wy n m):∃ p g:Nat,z=((p:Int),(g:Int))/\p < m/\g < n:=by
 obtain ⟨p,hp,h⟩:=List.mem_flatMap.mp h
 obtain ⟨g,hg,e⟩:=List.mem_map.mp h
 exact ⟨p,g,e.symm,List.mem_range.mp hp,List.mem_range.mp (List.mem_filter.mp hg).1⟩
theorem FV.non {K:PySem.W.Frag} {H:Hp} {v:V} {o:Fo} (h:FV K H v o):decide (v=V.non)=decide (o=none):=by
 cases o with
 | none=>have h:v = .non:=h; rw [h]; rfl
 | some ds=>obtain ⟨t,xs,rfl,_⟩:=h; rfl
section
variable {P:Program} {w:World} {K:PySem.W.Frag} {mg:Str->Option Value} {base:Heap}
theorem scWf:FnScope ["numbers", "sets", "lane", "goal", "way"] ["numbers", "sets", "lane", "goal", "way"] (defScope sWayF):=⟨rfl,rfl,rfl,by decide +kernel,rfl,by decide +kernel,by decide +kernel⟩
theorem ok_wayF {f fx:Addr} {fd dx:FuncData} (F:Fun K "way_fault" "way_fault" sWayF f fd) (X:HasM P w K mg base fx dx):FnOk P w K mg base CX0 2 f fd ["numbers", "sets", "lane", "goal", "way"] (spWayF K):=by
 refine F.ok scWf (fun vs H Q E h=>?_) (fun cdv A outer s H vs Q E hr h=>?_)
 ·obtain ⟨na,sa,ps,nums,S,l,g,w',rfl,_⟩:=h
  rfl
 ·obtain ⟨na,sa,ps,nums,S,l,g,w',rfl,hP,hl,hw,q⟩:=h
  refine ⟨_,pss_cons (ps_if (pt_not (pt_val (pe_call X.G hr rfl X.m X.k X.b .nil pass0 (pa_cons (pe_ix ix_seq (pv 1) (pv 4) (fun _ _=>rfl)) (pa_cons (pv 3) pa_nil))))) (pss_one (ps_ret (pe_tup (pa_cons pe_str (pa_cons (pv 2) (pa_cons (pv 3) (pa_cons (pv 4) pa_nil))))))) pss_nil)
   (pss_cons (ps_if (pt_cmpR op_le (pe_ix ix_seq (pv 0) (pv 4) (fun _ _=>rfl)) (pe_ix ix_seq (pv 0) (pv 2) (fun _ _=>rfl)) (nomark _)) (pss_one (ps_ret (pe_tup (pa_cons pe_str (pa_cons (pv 2) (pa_cons (pv 3) (pa_cons (pv 4) pa_nil))))))) pss_nil)
   (pss_one (ps_ret pe_non))),?_⟩
  have tup:∀ nm:Str,wayF nums S l g w' = some [.str nm, .int l, .int g, .int w']->∀ t,H t=none->Q (.ref t) (upd H t (.tup [.str nm, .int l, .int g, .int w'])):=fun nm e t ht=>q _ _ ((Same.refl H).new ht) (by rw [e]; exact ⟨t,_,rfl,upd_same, .cons (.str _) (.cons (.int _) (.cons (.int _) (.cons (.int _) .nil)))⟩)
  refine ⟨_,rfl,_,rfl,hP.s.ix (atS (by rw [hP.sl]; exact hw)) ⟨_,rfl,S.getD w' 0,g,rfl,_,rfl,?_⟩⟩
  cases hb:(S.getD w' 0).testBit g with
  | false=>exact iteT ⟨_,rfl,_,rfl,_,rfl,by show 4 <= sizeLine; decide,fun t ht=>tup "open" (by unfold wayF bitN; rw [hb]; rfl) t ht⟩
  | true =>
   refine iteF ⟨_,rfl,_,rfl,hP.n.ix (atM (by rw [hP.nl]; exact hw)) ⟨_,rfl,_,rfl,hP.n.ix (atM (by rw [hP.nl]; exact hl)) ⟨_,_,rfl,rfl,_,rfl,?_⟩⟩⟩
   by_cases hle:nums.getD w' 0 <= nums.getD l 0
   ·rw [decide_eq_true hle]
    exact iteT ⟨_,rfl,_,rfl,_,rfl,by show 4 <= sizeLine; decide,fun t ht=>tup "number" (by unfold wayF bitN; rw [hb,if_pos rfl,if_pos hle]) t ht⟩
   ·rw [decide_eq_false hle]
    exact iteF (q _ _ (Same.refl H) (by unfold wayF bitN; rw [hb,if_pos rfl,if_neg hle]; rfl))
theorem scPf:FnScope ["table", "numbers", "sets", "lane", "goal", "ways", "way", "found"] ["table", "numbers", "sets", "lane", "goal"] (defScope sPairF):=⟨rfl,rfl,rfl,by decide +kernel,rfl,by decide +kernel,by decide +kernel⟩
theorem ok_pairF {c:Cs} {J:TIn} {C f fw fo fy:Addr} {fd dw d_o dy:FuncData} (F:Fun K "pair_fault" "pair_fault" sPairF f fd) (W:Way K C fw dw J) (mo:mg "onward" = some (.ref fo)) (ko:PySem.W.keepIn K (.ref fo)=true) (bo:Binds K d_o ["table", "lane", "goal"] []) (Go:FnOk P w K mg base CX0 4 fo d_o ["table", "lane", "goal"] (spOn c C J))
  (my:mg "way_fault" = some (.ref fy)) (ky:PySem.W.keepIn K (.ref fy)=true) (by':Binds K dy ["numbers", "sets", "lane", "goal", "way"] []) (Gy:FnOk P w K mg base CX0 2 fy dy ["numbers", "sets", "lane", "goal", "way"] (spWayF K)):FnOk P w K mg base CX0 5 f fd ["table", "numbers", "sets", "lane", "goal"] (spPairF K c C J):=by
 refine F.ok scPf (fun vs H Q E h=>?_) (fun cdv A outer s H vs Q E hr h=>?_)
 ·obtain ⟨x,lx,ldx,lt,na,sa,n,tvs,ps,wy,nums,S,l,g,rfl,_⟩:=h
  rfl
 ·obtain ⟨x,lx,ldx,lt,na,sa,n,tvs,ps,wy,nums,S,l,g,rfl,hT,hP,hl,q⟩:=h
  have hr2:Room 2 _:=hr.mono (by decide)
  refine ⟨_,pss_cons (ps_set (i:=5) scPf.nd rfl (Or.inl rfl) (pe_call Go hr rfl mo ko bo .nil pass0 (pa_cons (pv 0) (pa_cons (pv 3) (pa_cons (pv 4) pa_nil)))))
   (pss_cons (ps_if (pt_not (pt_truth (pv 5) (fun _=>rfl))) (pss_one (ps_ret (pe_tup (pa_cons pe_str (pa_cons (pv 3) (pa_cons (pv 4) pa_nil)))))) pss_nil)
   (pss_cons (ps_for PassesOwn.never rfl (pi_list (pv 5)) (pg_name (i:=6) scPf.nd rfl (Or.inl rfl))
    (pss_cons (ps_set (i:=7) scPf.nd rfl (Or.inl rfl) (pe_call Gy hr2 rfl my ky by' .nil pass0 (pa_cons (pv 1) (pa_cons (pv 2) (pa_cons (pv 3) (pa_cons (pv 4) (pa_cons (pv 6) pa_nil)))))))
    (pss_one (ps_if (pt_cmpR op_notN (pv 7) pe_non (nomark _)) (pss_one (ps_ret (pv 7))) pss_nil))))
   (pss_one (ps_ret pe_non)))),?_⟩
  refine ⟨_,rfl,_,rfl,_,rfl,x,lx,ldx,lt,n,tvs,ps,wy,l,g,rfl,hT,hl,fun D H1 s1 hD gD=>?_⟩
  have hlt:∀ z ∈ onN wy ps g l,z < ps.length:=by
   intro z hz
   unfold onN at hz
   split at hz
   ·cases hz
   ·exact hT.ok _ z hz
  unfold pairF at q
  generalize onN wy ps g l=us at hlt gD q
  refine ⟨_,rfl,_, .inl ⟨_,SqL.of gD,rfl⟩,?_⟩
  cases us with
  | nil =>
   refine iteT ⟨_,rfl,_,rfl,by show 3 <= sizeLine; decide,fun t ht=>?_⟩
   exact q _ _ (s1.new ht) (by rw [if_pos rfl]; exact ⟨t,_,rfl,upd_same, .cons (.str _) (.cons (.int _) (.cons (.int _) .nil))⟩)
  | cons u0 us0 =>
   rw [if_neg (by intro z; cases z)] at q
   refine iteF ?_
   generalize u0 :: us0=us at hlt gD q
   refine ⟨_,rfl,D,rfl,⟨_,SqL.of gD⟩,?_⟩
   refine for_list (K:=K) (a:=D) (xs:=nV us) (fun i σ H2=>∃ a6 a7:Option V,Same H1 H2/\(us.take i).findSome? (wayF nums S l g)=none/\σ=[some (.ref x),some (.ref na),some (.ref sa),some (.int l),some (.int g),some (.ref D),a6,a7])
    ⟨none,none,Same.refl _,rfl,rfl⟩ (fun i σ H2 _ ⟨_,_,s2,_⟩=>SqL.of (s2 _ _ gD)) ?_ ?_
   ·rintro i v σ H2 hv ⟨a6,a7,s2,h0,rfl⟩
    have hi:i < us.length:=by have:=(List.getElem?_eq_some_iff.mp hv).1; rw [nV_len] at this; exact this
    have hk0:=List.getElem?_eq_getElem hi
    have hv':=nV_get hk0
    rw [hv'] at hv
    have hv:=Option.some.inj hv
    subst hv
    have hz:=hlt _ (List.getElem_mem hi)
    generalize us[i]=z at hk0 hz
    refine ⟨_,rfl,_,rfl,_,rfl,_,rfl,_,rfl,na,sa,ps,nums,S,l,g,z,rfl,hP.same (s1.trans s2),hl,hz,fun fv H3 s3 hfv=>?_⟩
    refine ⟨_,rfl,rfl,_,rfl,?_⟩
    rw [hfv.non]
    cases hw:wayF nums S l g z with
    | none=>exact iteF ⟨_,_,s2.trans s3,fs_next hk0 h0 hw,rfl⟩
    | some ds =>
     rw [hw] at hfv
     exact iteT ⟨_,rfl,q _ _ ((s1.trans s2).trans s3) (by rw [fs_at hk0 h0 hw]; exact hfv)⟩
   ·rintro σ H2 ⟨a6,a7,s2,h0,rfl⟩
    rw [nV_len,List.take_length] at h0
    exact q _ _ (s1.trans s2) (by rw [h0]; rfl)
theorem scLf:FnScope ["table", "numbers", "sets", "lane", "end", "goal", "found"] ["table", "numbers", "sets", "lane"] (defScope sLaneF):=⟨rfl,rfl,rfl,by decide +kernel,rfl,by decide +kernel,by decide +kernel⟩
theorem ok_laneF {c:Cs} {J:TIn} {C f fw fe fm fy:Addr} {fd dw de dm dy:FuncData} (F:Fun K "lane_fault" "lane_fault" sLaneF f fd) (L:Lnd K c) (W:Way K C fw dw J) (nl:NoAttr K C "land") (M:EndM K c fe de) (Ge:FnOk P w K mg base CX0 1 fe de ["self", "lane"] (spAt c Prod.snd))
  (mm:mg "members" = some (.ref fm)) (km:PySem.W.keepIn K (.ref fm)=true) (bm:Binds K dm ["some"] []) (Gm:FnOk P w K mg base CX0 2 fm dm ["some"] spMem)
  (my:mg "pair_fault" = some (.ref fy)) (ky:PySem.W.keepIn K (.ref fy)=true) (by':Binds K dy ["table", "numbers", "sets", "lane", "goal"] []) (Gy:FnOk P w K mg base CX0 5 fy dy ["table", "numbers", "sets", "lane", "goal"] (spPairF K c C J)):FnOk P w K mg base CX0 6 f fd ["table", "numbers", "sets", "lane"] (spLaneF K c C J):=by
 refine F.ok scLf (fun vs H Q E h=>?_) (fun cdv A outer s H vs Q E hr h=>?_)
 ·obtain ⟨x,lx,ldx,lt,na,sa,n,tvs,ps,wy,nums,S,l,rfl,_⟩:=h
  rfl
 ·obtain ⟨x,lx,ldx,lt,na,sa,n,tvs,ps,wy,nums,S,l,rfl,hT,hP,hl,q⟩:=h
  have hr1:Room 1 _:=hr.mono (by decide)
  have hr2:Room 2 _:=hr.mono (by decide)
  refine ⟨_,pss_cons (ps_set (i:=4) scLf.nd rfl (Or.inl rfl) (pe_meth (pe_fld (pv 0) rfl) L.cl M.m Ge hr1 M.b .nil pass0 (pa_cons (pv 3) pa_nil)))
   (pss_cons (ps_for PassesOwn.never rfl (pi_list (pe_call Gm hr2 rfl mm km bm .nil pass0 (pa_cons (pe_ix ix_seq (pv 2) (pv 3) (fun _ _=>rfl)) pa_nil))) (pg_name (i:=5) scLf.nd rfl (Or.inl rfl))
    (pss_one (ps_if (pt_cmpR op_ne (pv 5) (pv 4) (nomark _))
     (pss_cons (ps_set (i:=6) scLf.nd rfl (Or.inl rfl) (pe_call Gy hr rfl my ky by' .nil pass0 (pa_cons (pv 0) (pa_cons (pv 1) (pa_cons (pv 2) (pa_cons (pv 3) (pa_cons (pv 5) pa_nil)))))))
     (pss_one (ps_if (pt_cmpR op_notN (pv 6) pe_non (nomark _)) (pss_one (ps_ret (pv 6))) pss_nil))) pss_nil)))
   (pss_one (ps_ret pe_non))),?_⟩
  obtain ⟨dx,fs,hx,hf⟩:=hT.i
  have he:=List.getElem?_eq_getElem hl
  have heD:ps.getD l (0,0)=ps[l]:=by rw [List.getD_eq_getElem?_getD,he]; rfl
  refine ⟨_,rfl,x,C,dx,fs,_,rfl,hx,W.cl,nl,hf,lx,ldx,_,rfl,hT.l.1,rfl,_,rfl,lx,ldx,lt,(n:Int),tvs,ps,l,ps[l],rfl,hT.l,he,?_⟩
  have hlS:l < S.length:=by rw [hP.sl]; exact hl
  refine ⟨_,rfl,_,rfl,hP.s.ix (atS hlS) ⟨S.getD l 0,rfl,hP.lt _ (by rw [List.getD_eq_getElem?_getD,List.getElem?_eq_getElem hlS]; exact List.getElem_mem hlS),fun D hD=>⟨D,rfl,⟨_,SqL.of upd_same⟩,?_⟩⟩⟩
  unfold laneF at q
  show _
  have e1:memV (S.getD l 0)=nV (Yd.memN (S.getD l 0) (Builtin.Int.intBits ((S.getD l 0:Nat):Int))):=rfl
  rw [e1]
  generalize Yd.memN (S.getD l 0) (Builtin.Int.intBits ((S.getD l 0:Nat):Int))=us at q ⊢
  have s1:=(Same.refl H).new (o := .lst (nV us)) hD
  have gD:(upd H D (.lst (nV us))) D=some (.lst (nV us)):=upd_same
  generalize upd H D (.lst (nV us))=H1 at s1 gD ⊢
  rw [heD] at q
  refine for_list (K:=K) (a:=D) (xs:=nV us) (fun i σ H2=>∃ a5 a6:Option V,Same H1 H2/\(us.take i).findSome? (fun g:Nat=>if (g:Int)=(ps[l]).2 then none else pairF wy ps nums S l g)=none/\σ=[some (.ref x),some (.ref na),some (.ref sa),some (.int l),some (.int (ps[l]).2),a5,a6])
   ⟨none,none,Same.refl _,rfl,rfl⟩ (fun i σ H2 _ ⟨_,_,s2,_⟩=>SqL.of (s2 _ _ gD)) ?_ ?_
  ·rintro i v σ H2 hv ⟨a5,a6,s2,h0,rfl⟩
   have hi:i < us.length:=by have:=(List.getElem?_eq_some_iff.mp hv).1; rw [nV_len] at this; exact this
   have hk0:=List.getElem?_eq_getElem hi
   have hv':=nV_get hk0
   rw [hv'] at hv
   have hv:=Option.some.inj hv
   subst hv
   generalize us[i]=z at hk0
   refine ⟨_,rfl,_,rfl,rfl,_,rfl,?_⟩
   rw [int_eq']
   by_cases hz:(z:Int)=(ps[l]).2
   ·rw [decide_eq_true hz]
    exact iteF ⟨_,_,s2,fs_next hk0 h0 (by rw [if_pos hz]),rfl⟩
   rw [decide_eq_false hz]
   refine iteT ⟨_,rfl,_,rfl,_,rfl,_,rfl,_,rfl,x,lx,ldx,lt,na,sa,n,tvs,ps,wy,nums,S,l,z,rfl,hT.same W (s1.trans s2),hP.same (s1.trans s2),hl,fun fv H3 s3 hfv=>?_⟩
   refine ⟨_,rfl,rfl,_,rfl,?_⟩
   rw [hfv.non]
   cases hw:pairF wy ps nums S l z with
   | none=>exact iteF ⟨_,_,s2.trans s3,fs_next hk0 h0 (by rw [if_neg hz]; exact hw),rfl⟩
   | some ds =>
    rw [hw] at hfv
    exact iteT ⟨_,rfl,q _ _ ((s1.trans s2).trans s3) (by rw [fs_at hk0 h0 (by rw [if_neg hz]; exact hw)]; exact hfv)⟩
  ·rintro σ H2 ⟨a5,a6,s2,h0,rfl⟩
   rw [nV_len,List.take_length] at h0
   exact q _ _ (s1.trans s2) (by rw [h0]; rfl)
theorem scSf:FnScope ["table", "sets", "place", "goal", "lane"] ["table", "sets"] (defScope sStF):=⟨rfl,rfl,rfl,by decide +kernel,rfl,by decide +kernel,by decide +kernel⟩
theorem ok_stF {c:Cs} {J:TIn} {C f fw fs' fx:Addr} {fd dw ds dx0:FuncData} (F:Fun K "start_fault" "start_fault" sStF f fd) (W:Way K C fw dw J) (Gw:FnOk P w K mg base CX0 3 fw dw ["self", "place", "goal", "came"] (spWays J)) (X:HasM P w K mg base fx dx0)
  (ms:mg "starts" = some (.ref fs')) (ks:PySem.W.keepIn K (.ref fs')=true) (bs:Binds K ds ["table"] []) (Gs:FnOk P w K mg base CX0 4 fs' ds ["table"] (spStarts c C J)):FnOk P w K mg base CX0 5 f fd ["table", "sets"] (spStF K c C J):=by
 refine F.ok scSf (fun vs H Q E h=>?_) (fun cdv A outer s H vs Q E hr h=>?_)
 ·obtain ⟨x,lx,ldx,lt,sa,n,tvs,ps,wy,S,rfl,_⟩:=h
  rfl
 ·obtain ⟨x,lx,ldx,lt,sa,n,tvs,ps,wy,S,rfl,hT,hS,hsl,q⟩:=h
  have hr1:Room 1 _:=hr.mono (by decide)
  have hr3:Room 3 _:=hr.mono (by decide)
  refine ⟨_,pss_cons (ps_for PassesOwn.never rfl (pi_list (pe_call Gs hr rfl ms ks bs .nil pass0 (pa_cons (pv 0) pa_nil))) (pg_tup rfl (pgs_cons (pg_name (i:=2) scSf.nd rfl (Or.inl rfl)) (pgs_cons (pg_name (i:=3) scSf.nd rfl (Or.inl rfl)) pgs_nil)))
    (pss_one (ps_for PassesOwn.never rfl (pi_list (pe_meth (pv 0) W.cl W.m Gw hr3 W.b .nil pass0 (pa_cons (pv 2) (pa_cons (pv 3) (pa_cons pe_non pa_nil))))) (pg_name (i:=4) scSf.nd rfl (Or.inl rfl))
     (pss_one (ps_if (pt_not (pt_val (pe_call X.G hr1 rfl X.m X.k X.b .nil pass0 (pa_cons (pe_ix ix_seq (pv 1) (pv 4) (fun _ _=>rfl)) (pa_cons (pv 3) pa_nil))))) (pss_one (ps_ret (pe_tup (pa_cons pe_str (pa_cons (pv 2) (pa_cons (pv 3) (pa_cons (pv 4) pa_nil))))))) pss_nil)))))
   (pss_one (ps_ret pe_non)),?_⟩
  obtain ⟨dx,fs,hx,hf⟩:=hT.i
  obtain ⟨dx',fs2,hx',hw'⟩:=W.inst _ _ _ hT.j
  rw [hx] at hx'
  injection hx' with hx'
  injection hx' with _ e1 e2
  subst e1 e2
  refine ⟨_,rfl,x,dx,lx,ldx,lt,fs,n,tvs,ps,wy,rfl,hT.j,hx,hf,hT.l,hT.n12,fun D us H1 s1 hD gD hU=>⟨D,rfl,⟨_,SqL.of gD⟩,?_⟩⟩
  have hul:us.length=(startsOf wy n n).length:=Paired.length hU
  unfold startF at q
  have hmem:∀ z ∈ startsOf wy n n,∃ p g:Nat,z=((p:Int),(g:Int))/\p < n/\g < n:=fun z hz=>mem_starts hz
  generalize startsOf wy n n=zs at q hU hul hmem
  refine for_list (K:=K) (a:=D) (xs:=us) (fun i σ H2=>∃ a2 a3 a4:Option V,Same H1 H2/\(zs.take i).findSome? (stF wy S)=none/\σ=[some (.ref x),some (.ref sa),a2,a3,a4])
   ⟨none,none,none,Same.refl _,rfl,rfl⟩ (fun i σ H2 _ ⟨_,_,_,s2,_⟩=>SqL.of (s2 _ _ gD)) ?_ ?_
  ·rintro i v σ H2 hv ⟨a2,a3,a4,s2,h0,rfl⟩
   obtain ⟨z,hz,t,rfl,gt⟩:=Lns.get hU hv
   obtain ⟨p,g,rfl,hp,hg⟩:=hmem z (List.mem_of_getElem? hz)
   refine ⟨t,_,rfl,SqT.of (s2 _ _ gt),rfl,_,_,rfl,_,_,rfl,rfl,?_⟩
   have s12:=s1.trans s2
   refine ⟨_,rfl,x,dx,fs,rfl,s12 _ _ hx,hw',_,rfl,_,rfl,x,wy,⟨(p:Int),(g:Int),none,[]⟩,rfl,W.stay _ _ _ _ hT.j s12,fun H3 D3 s3 hD3=>⟨D3,rfl,⟨_,SqL.of upd_same⟩,?_⟩⟩
   have hk:keyOf ⟨(p:Int),(g:Int),none,[]⟩ = [some (p:Int),some (g:Int),none]:=rfl
   rw [hk,memV_wl]
   have hlt:=hT.ok [some (p:Int),some (g:Int),none]
   have est:stF wy S ((p:Int),(g:Int))=(wl wy [some (p:Int),some (g:Int),none]).findSome? fun l=>if bitN S l g then none else some [.str "start", .int (p:Int), .int (g:Int), .int l]:=rfl
   generalize wl wy [some (p:Int),some (g:Int),none]=ws at hlt est ⊢
   have s4:=s3.new (o := .lst (nV ws)) hD3
   have g4:(upd H3 D3 (.lst (nV ws))) D3=some (.lst (nV ws)):=upd_same
   generalize upd H3 D3 (.lst (nV ws))=H4 at s4 g4 ⊢
   refine for_list (K:=K) (a:=D3) (xs:=nV ws) (fun j σ H5=>∃ a4:Option V,Same H4 H5/\(ws.take j).findSome? (fun l=>if bitN S l g then none else some [PyData.str "start", .int (p:Int), .int (g:Int), .int l])=none/\σ=[some (.ref x),some (.ref sa),some (.int p),some (.int g),a4])
    ⟨_,Same.refl _,rfl,rfl⟩ (fun j σ H5 _ ⟨_,s5,_⟩=>SqL.of (s5 _ _ g4)) ?_ ?_
   ·rintro j v σ H5 hv5 ⟨a4,s5,h5,rfl⟩
    have hj:j < ws.length:=by have:=(List.getElem?_eq_some_iff.mp hv5).1; rw [nV_len] at this; exact this
    have hk0:=List.getElem?_eq_getElem hj
    have hv':=nV_get hk0
    rw [hv'] at hv5
    have hv5:=Option.some.inj hv5
    subst hv5
    have hzl:=hlt _ (List.getElem_mem hj)
    generalize ws[j]=l at hk0 hzl
    have s05:=s12.trans (s4.trans s5)
    refine ⟨_,rfl,_,rfl,(hS.same s05).ix (atS (by rw [hsl]; exact hzl)) ⟨_,rfl,S.getD l 0,g,rfl,_,rfl,?_⟩⟩
    cases hb:(S.getD l 0).testBit g with
    | true=>exact iteF ⟨_,s5,fs_next hk0 h5 (by unfold bitN; rw [hb]; rfl),rfl⟩
    | false =>
     refine iteT ⟨_,rfl,_,rfl,_,rfl,by show 4 <= sizeLine; decide,fun t' ht'=>?_⟩
     refine q _ _ (s05.new ht') ?_
     rw [fs_at hz h0 (est.trans (fs_at hk0 h5 (by unfold bitN; rw [hb]; rfl)))]
     exact ⟨t',_,rfl,upd_same, .cons (.str _) (.cons (.int _) (.cons (.int _) (.cons (.int _) .nil)))⟩
   ·rintro σ H5 ⟨a4,s5,h5,rfl⟩
    rw [nV_len,List.take_length] at h5
    exact ⟨_,_,_,s2.trans (s4.trans s5),fs_next hz h0 (est.trans h5),rfl⟩
  ·rintro σ H2 ⟨a2,a3,a4,s2,h0,rfl⟩
   rw [hul,List.take_length] at h0
   exact q _ _ (s1.trans s2) (by rw [h0]; rfl)
end
end K33
namespace K33
open PySem L2
theorem size_nat {L n:Nat} {nums ss:List Int} (h:sizeB L n nums ss=true):nums.length=L/\ss.length=L/\∀ s ∈ ss,0 <= s/\s <= 1 * 2 ^ (n:Int).toNat - 1:=by
 unfold sizeB at h
 simp only [Bool.and_eq_true,decide_eq_true_eq,List.all_eq_true] at h
 exact h
theorem sets_nV {ss:List Int} (h:∀ s ∈ ss,0 <= s):ss.map V.int=nV (ss.map Int.toNat):=by
 unfold nV
 rw [List.map_map]
 refine List.map_congr_left fun s hs=>?_
 show V.int s=V.int ((s.toNat:Nat):Int)
 rw [Int.toNat_of_nonneg (h s hs)]
theorem sets_lt {n:Nat} (hn:n <= 12) {ss:List Int} (h:∀ s ∈ ss,0 <= s/\s <= 1 * 2 ^ (n:Int).toNat - 1):∀ z ∈ ss.map Int.toNat,z < 2 ^ n:=by
 intro z hz
 obtain ⟨s,hs,rfl⟩:=List.mem_map.mp hz
 obtain ⟨h1,h2⟩:=h s hs
 rw [Int.toNat_natCast,Int.one_mul,show (2:Int) ^ n=((2 ^ n:Nat):Int) by rw [Int.natCast_pow]; rfl] at h2
 have:=Nat.two_pow_pos n
 omega
abbrev NFa:List Str:=["table", "paper", "numbers", "sets", "found", "lane"]
section
variable {P:Program} {w:World} {K:PySem.W.Frag} {mg:Str->Option Value} {base:Heap}
theorem scFa:FnScope NFa ["table", "paper"] (defScope sFault):=⟨rfl,rfl,rfl,by decide +kernel,rfl,by decide +kernel,by decide +kernel⟩
theorem ok_fault {c:Cs} {J:TIn} {C f fw fz fs' fy:Addr} {fd dw dz ds dy:FuncData} (F:Fun K "fault" "fault" sFault f fd) (T:Txt mg) (W:Way K C fw dw J) (nl:NoAttr K C "land")
  (mz:mg "has_size" = some (.ref fz)) (kz:PySem.W.keepIn K (.ref fz)=true) (bz:Binds K dz ["land", "numbers", "sets"] []) (Gz:FnOk P w K mg base CX0 3 fz dz ["land", "numbers", "sets"] (spSize K c))
  (ms:mg "start_fault" = some (.ref fs')) (ks:PySem.W.keepIn K (.ref fs')=true) (bs:Binds K ds ["table", "sets"] []) (Gs:FnOk P w K mg base CX0 5 fs' ds ["table", "sets"] (spStF K c C J))
  (my:mg "lane_fault" = some (.ref fy)) (ky:PySem.W.keepIn K (.ref fy)=true) (by':Binds K dy ["table", "numbers", "sets", "lane"] []) (Gy:FnOk P w K mg base CX0 6 fy dy ["table", "numbers", "sets", "lane"] (spLaneF K c C J)):FnOk P w K mg base CX0 7 f fd ["table", "paper"] (spFault K c C J):=by
 refine F.ok scFa (fun vs H Q E h=>?_) (fun cdv A outer s H vs Q E hr h=>?_)
 ·obtain ⟨x,lx,ldx,lt,pa,na,sa,n,tvs,ps,wy,nums,ss,rfl,_⟩:=h
  rfl
 ·obtain ⟨x,lx,ldx,lt,pa,na,sa,n,tvs,ps,wy,nums,ss,rfl,hT,gp,hN,hS,hsl,q⟩:=h
  have hr3:Room 3 _:=hr.mono (by decide)
  have hr5:Room 5 _:=hr.mono (by decide)
  refine ⟨_,pss_cons (ps_set (i:=2) scFa.nd rfl (Or.inl rfl) (pe_ix ix_tup (pv 1) pe_int (fun _ _=>rfl)))
   (pss_cons (ps_set (i:=3) scFa.nd rfl (Or.inl rfl) (pe_ix ix_tup (pv 1) pe_int (fun _ _=>rfl)))
   (pss_cons (ps_if (pt_not (pt_val (pe_call Gz hr3 rfl mz kz bz .nil pass0 (pa_cons (pe_fld (pv 0) rfl) (pa_cons (pv 2) (pa_cons (pv 3) pa_nil)))))) (pss_one (ps_ret (pe_tup (pa_cons pe_str pa_nil)))) pss_nil)
   (pss_cons (ps_set (i:=4) scFa.nd rfl (Or.inl rfl) (pe_call Gs hr5 rfl ms ks bs .nil pass0 (pa_cons (pv 0) (pa_cons (pv 3) pa_nil))))
   (pss_cons (ps_set (i:=5) scFa.nd rfl (Or.inl rfl) pe_int)
   (pss_cons (ps_while PassesOwn.never (PW.pt (pw_and (pt_cmpR op_isN (pv 4) pe_non (nomark _)) (pw_and1 (pt_cmpR op_lt (pv 5) (pe_callB call_len_seq rfl T.len PySem.boot_len (pa_cons (pv 3) pa_nil)) (nomark _)))))
    (pss_cons (ps_set (i:=4) scFa.nd rfl (Or.inl rfl) (pe_call Gy hr rfl my ky by' .nil pass0 (pa_cons (pv 0) (pa_cons (pv 2) (pa_cons (pv 3) (pa_cons (pv 5) pa_nil))))))
    (pss_one (ps_aug (i:=5) scFa.nd rfl (Or.inl rfl) pe_int ip_add))))
   (pss_one (ps_ret (pv 4)))))))),?_⟩
  obtain ⟨dx,fs,hx,hf⟩:=hT.i
  have hP:SqT K H pa [.ref na, .ref sa]:=SqT.of gp
  refine ⟨_,rfl,pa,_,0,_,rfl,rfl,hP,atI_nat (j:=0) rfl,?_⟩
  refine ⟨_,rfl,pa,_,1,_,rfl,rfl,hP,atI_nat (j:=1) rfl,?_⟩
  refine ⟨_,rfl,x,C,dx,fs,_,rfl,hx,W.cl,nl,hf,_,rfl,_,rfl,lx,ldx,lt,na,sa,n,tvs,ps,nums,ss,rfl,hT.l,hT.n12,hN,hS,hsl,fun H1 s1=>⟨_,rfl,?_⟩⟩
  unfold faultF at q
  cases hz:sizeB ps.length n nums ss with
  | false =>
   refine iteT ⟨by show 1 <= sizeLine; decide,fun t ht=>?_⟩
   refine q _ _ (s1.new ht) ?_
   rw [hz]
   exact ⟨t,_,rfl,upd_same, .cons (.str _) .nil⟩
  | true =>
   rw [hz,if_pos rfl] at q
   refine iteF ?_
   obtain ⟨z1,z2,z3⟩:=size_nat hz
   have eS:=sets_nV fun s hs=>(z3 s hs).1
   have hlt:=sets_lt hT.n12 z3
   have hSl:(ss.map Int.toNat).length=ps.length:=by rw [List.length_map]; exact z2
   rw [eS] at hS
   generalize ss.map Int.toNat=S at q hS hlt hSl eS
   have h400:∀ z ∈ S,z < 2 ^ 400:=fun z hz'=>Nat.lt_of_lt_of_le (hlt z hz') (Nat.pow_le_pow_right (by decide) (by have:=hT.n12; omega))
   refine ⟨_,rfl,_,rfl,x,lx,ldx,lt,sa,n,tvs,ps,wy,S,rfl,hT.same W s1,hS.same s1,hSl,fun fv H2 s2 hfv=>?_⟩
   have s12:=s1.trans s2
   have h40:=hT.few
   refine ⟨fun m σ H'=>∃ (v:V) (i:Nat),m=ps.length - i/\i <= ps.length/\Same H H'/\FV K H' v ((startF wy n S).or (lanesF wy ps nums S i))/\σ=[some (.ref x),some (.ref pa),some (.ref na),some (.ref sa),some v,some (.int (i:Int))],?_,?_⟩
   ·refine ⟨ps.length,fv,0,rfl,Nat.zero_le _,s12,?_,rfl⟩
    rw [show lanesF wy ps nums S 0=none from rfl,Option.or_none]
    exact hfv
   rintro m σ H' ⟨v,i,rfl,hi,s',hv,rfl⟩
   refine ⟨_,rfl,rfl,_,rfl,?_⟩
   rw [hv.non]
   cases ho:(startF wy n S).or (lanesF wy ps nums S i) with
   | some ds =>
    rw [ho] at hv
    refine iteF (iteF ?_)
    refine ⟨_,rfl,q _ _ s' ?_⟩
    have hmono:(startF wy n S).or (lanesF wy ps nums S ps.length)=some ds:=by
     cases hs:startF wy n S with
     | some d'=>rw [hs] at ho; exact ho
     | none =>
      rw [hs,Option.none_or] at ho
      rw [Option.none_or]
      unfold lanesF at ho ⊢
      have e:List.range ps.length=List.range i ++ (List.range ps.length).drop i:=by
       have:=(List.take_append_drop i (List.range ps.length)).symm
       rw [List.take_range,Nat.min_eq_left hi] at this
       exact this
      rw [e,List.findSome?_append,ho]; rfl
    rw [hmono]
    exact hv
   | none =>
    refine iteT ⟨_,rfl,_,rfl,sa,_,rfl,hS.same s',_,_,rfl,rfl,_,rfl,?_⟩
    rw [nV_len,hSl]
    by_cases hlt2:i < ps.length
    rotate_left
    ·rw [decide_eq_false (show ¬ (i:Int) < (ps.length:Nat) by omega)]
     have:i=ps.length:=by omega
     subst this
     refine iteF ⟨_,rfl,q _ _ s' ?_⟩
     rw [ho]
     rw [ho] at hv
     exact hv
    rw [decide_eq_true (show (i:Int) < (ps.length:Nat) by omega)]
    refine iteT ⟨fun σ' H3=>∃ (v:V),Same H H3/\FV K H3 v ((startF wy n S).or (lanesF wy ps nums S (i + 1)))/\σ' = [some (.ref x),some (.ref pa),some (.ref na),some (.ref sa),some v,some (.int ((i:Int) + 1))],?_,?_⟩
    ·rintro σ' H3 ⟨v',s3,hv3,rfl⟩
     exact ⟨ps.length - (i + 1),by omega,v',i + 1,rfl,hlt2,s3,hv3,rfl⟩
    refine ⟨_,rfl,_,rfl,_,rfl,_,rfl,x,lx,ldx,lt,na,sa,n,tvs,ps,wy,nums,S,i,rfl,hT.same W s',⟨hN.same s',hS.same s',z1,hSl,h400⟩,hlt2,fun lv H3 s3 hlv=>?_⟩
    refine ⟨_,rfl,_,_,rfl,rfl,lv,s'.trans s3,?_,rfl⟩
    have hs:startF wy n S=none:=by
     cases e:startF wy n S with
     | none=>rfl
     | some d'=>rw [e] at ho; cases ho
    rw [hs,Option.none_or] at ho ⊢
    unfold lanesF at ho ⊢
    rw [List.range_succ,List.findSome?_append,ho,Option.none_or]
    simpa using hlv
end
end K33
namespace K33
open PySem L2
def spCell (K:PySem.W.Frag):Sp:=fun vs H Q _=>∃ (a:Addr) (ns:List Int) (k:Nat),vs=[.ref a, .int k]/\SqL K H a (ns.map V.int)/\∀ d,Q (.int d) H
def spMix:Sp:=fun vs H Q _=>∃ (c k:Int),vs=[.int c, .int k]/\∀ d,0 <= d->d < 2147483647->Q (.int d) H
section
variable {P:Program} {w:World} {K:PySem.W.Frag} {mg:Str->Option Value} {base:Heap}
theorem scCell:FnScope ["_law_script", "_law_k"] ["_law_script", "_law_k"] (defScope sCell):=⟨rfl,rfl,rfl,by decide +kernel,rfl,by decide +kernel,by decide +kernel⟩
theorem ok_cell {f:Addr} {fd:FuncData} (F:Fun K "_law_cell_at" "_law_cell_at" sCell f fd) (T:Txt mg):FnOk P w K mg base CX0 1 f fd ["_law_script", "_law_k"] (spCell K):=by
 refine F.ok scCell (fun vs H Q E h=>?_) (fun cdv A outer s H vs Q E hr h=>?_)
 ·obtain ⟨a,ns,k,rfl,_⟩:=h
  rfl
 ·obtain ⟨a,ns,k,rfl,hS,q⟩:=h
  refine ⟨_,pss_cons (ps_if (pt_cmpR op_lt (pv 1) (pe_callB call_len_seq rfl T.len PySem.boot_len (pa_cons (pv 0) pa_nil)) (nomark _))
    (pss_one (ps_ret (pe_ix ix_list (pv 0) (pv 1) (fun _ _=>rfl)))) pss_nil) (pss_one (ps_ret pe_int)),?_⟩
  refine ⟨_,rfl,_,rfl,a,_,rfl, .inl hS,_,_,rfl,rfl,_,rfl,?_⟩
  refine ite2 (fun h=>?_) fun _=>q _
  have h':(k:Int) < ((ns.map V.int).length:Nat):=of_decide_eq_true h
  rw [List.length_map] at h'
  have hk:k < ns.length:=by omega
  exact ⟨_,rfl,_,rfl,a,_,k,V.int ns[k],rfl,rfl,hS,atI_nat (by simp [hk]),q _⟩
theorem scMix:FnScope ["_law_cell", "_law_k", "_law_number"] ["_law_cell", "_law_k"] (defScope sMixed):=⟨rfl,rfl,rfl,by decide +kernel,rfl,by decide +kernel,by decide +kernel⟩
theorem ok_mix {f:Addr} {fd:FuncData} (F:Fun K "_law_mixed" "_law_mixed" sMixed f fd):FnOk P w K mg base CX0 1 f fd ["_law_cell", "_law_k"] spMix:=by
 refine F.ok scMix (fun vs H Q E h=>?_) (fun cdv A outer s H vs Q E hr h=>?_)
 ·obtain ⟨c,k,rfl,_⟩:=h
  rfl
 ·obtain ⟨c,k,rfl,q⟩:=h
  refine ⟨_,pss_cons (ps_set (i:=2) scMix.nd rfl (Or.inl rfl) (pe_op op_mod (pe_op op_mul (pe_op op_add (pe_op op_add (pe_op op_mod (pv 0) pe_int) (pe_op op_mul pe_int (pv 1))) pe_int) pe_int) pe_int))
   (pss_one (ps_ret (pe_op op_mod (pe_op op_mul (pv 2) (pe_op op_add (pe_op op_fdiv (pv 2) pe_int) pe_int)) pe_int))),?_⟩
  have pos:(0:Int) < 2147483647:=by decide
  refine ⟨_,rfl,_,_,rfl,rfl,pos,_,rfl,_,_,rfl,rfl, .inl ⟨by decide,by decide⟩,_,_,rfl,rfl,_,_,rfl,rfl,_,_,rfl,rfl, .inr ⟨by decide,by decide⟩,_,_,rfl,rfl,pos,?_⟩
  dsimp only
  have h1:=Int.emod_nonneg ((c % 2147483647 + 7919 * k + 1) * 48271) (show (2147483647:Int) ≠ 0 by decide)
  have h2:=Int.emod_lt_of_pos ((c % 2147483647 + 7919 * k + 1) * 48271) pos
  generalize (c % 2147483647 + 7919 * k + 1) * 48271 % 2147483647=m at h1 h2
  refine ⟨_,rfl,_,rfl,_,_,rfl,rfl,⟨by decide,by decide⟩,_,_,rfl,rfl,_,_,rfl,rfl, .inl ⟨by omega,by omega⟩,_,_,rfl,rfl,pos,?_⟩
  exact q _ (Int.emod_nonneg _ (by decide)) (Int.emod_lt_of_pos _ pos)
end
end K33
namespace L2
open PySem
theorem comp_keys {a:Addr} {o:Obj} {kvs:List (Key × V)} {g:TG} {tt:TT} {te:TE} {σ0:St} {H:Hp} {Q:VK} (p:Key->Bool) (f:Key->V) (hn:kvs.length < sizeLine) (ha:H a=some (.frz o (.dK kvs)))
  (hs:∀ (k:Key) (acc:List V) (N:List V->Hp->Prop),k ∈ kvs.map (·.1)->N (if p k then acc ++ [f k] else acc) H->g (kV k) σ0 H fun σ2 H2=>tt σ2 H2 fun b H3=>if b=true then te σ2 H3 fun y H4=>N (acc ++ [y]) H4 else N acc H3)
  (hq:∀ D,H D=none->Q (.ref D) (upd H D (.lst (((kvs.map (·.1)).filter p).map f)))):CompR (Itk a o kvs) g tt te σ0 Q H:=by
 refine comp_gen kvs.length hn (fun i acc H'=>H' = H/\acc=(((kvs.map (·.1)).take i).filter p).map f) ⟨rfl,rfl⟩ (fun i acc H' h=>?_) ?_ ?_
 ·rw [h.2,List.length_map]
  exact Nat.le_trans (List.length_filter_le _ _) (List.length_take_le _ _)
 ·rintro i acc H' hi ⟨rfl,rfl⟩
  refine ⟨⟨ha,hi⟩,fun x H2 y=>?_⟩
  obtain ⟨e,k,hk2,rfl⟩:=y
  subst e
  refine hs k _ (fun acc' H3=>H3=H2/\acc' = (((kvs.map (·.1)).take (i + 1)).filter p).map f) (List.mem_of_getElem? hk2) ⟨rfl,?_⟩
  rw [List.take_succ,hk2,List.filter_append]
  cases hp:p k with
  | true=>simp [hp]
  | false=>simp [hp]
 ·rintro acc H' ⟨rfl,rfl⟩
  rw [List.take_of_length_le (by rw [List.length_map]; exact Nat.le_refl _)]
  exact ⟨⟨ha,rfl⟩,hq⟩
theorem upd_back {H:Hp} {a:Addr} {o u:HO} (h:H a=some u):upd (upd H a o) a u=H:=by
 rw [upd_upd]
 funext b
 unfold upd
 by_cases e:b=a
 ·rw [if_pos e,e,h]
 ·rw [if_neg e]
theorem upd_comm {H:Hp} {a b:Addr} {o u:HO} (h:a ≠ b):upd (upd H a o) b u=upd (upd H b u) a o:=by
 funext c
 unfold upd
 by_cases e:c=b
 ·rw [if_pos e,if_neg (fun z=>h (z.symm.trans e)),if_pos e]
 ·rw [if_neg e]
  by_cases e2:c=a
  ·rw [if_pos e2,if_pos e2]
  ·rw [if_neg e2,if_neg e2,if_neg e]
end L2
namespace K33
open PySem L2 LkM
def lk (x:Nat × Nat):L2.Key × V:=(Sum.inl (x.1:Int), .int (x.2:Int))
def dV (d:Dn):List (L2.Key × V):=d.map lk
theorem dV_len (d:Dn):(dV d).length=d.length:=List.length_map ..
theorem dV_keys (d:Dn):(dV d).map (·.1)=(ks d).map fun k:Nat=>(Sum.inl (k:Int):L2.Key):=by
 unfold dV ks
 rw [List.map_map,List.map_map]; rfl
theorem lk_val (l:Nat):∀ d:Dn,valV (dV d) (Sum.inl (l:Int))=(valD d l).map fun g:Nat=>V.int (g:Int)
 | []=>rfl
 | x :: d=>by
  have ih:=lk_val l d
  show valV (lk x :: dV d) _=_
  by_cases h:x.1=l
  ·rw [valV_pos (show (lk x).1=Sum.inl (l:Int) by rw [← h]; rfl)]
   unfold valD
   rw [List.find?_cons,show decide (x.1=l)=true from decide_eq_true h]; rfl
  ·rw [valV_neg (show ¬ (lk x).1=Sum.inl (l:Int) from fun z=>h (by have:=Sum.inl.inj z; omega)),ih]
   unfold valD
   rw [List.find?_cons,show decide (x.1=l)=false from decide_eq_false h]
theorem val_none {d:Dn} {l:Nat}:valD d l=none↔l ∉ ks d:=by
 constructor
 ·intro h hm
  obtain ⟨g,e⟩:=val_some hm
  rw [h] at e; cases e
 ·intro h
  cases e:valD d l with
  | none=>rfl
  | some g=>exact absurd (ks_mem (val_mem e)) h
theorem lk_is (d:Dn) (l:Nat):(valV (dV d) (Sum.inl (l:Int))).isSome=decide (l ∈ ks d):=by
 rw [lk_val]
 by_cases h:l ∈ ks d
 ·obtain ⟨g,e⟩:=val_some h
  rw [e,decide_eq_true h]; rfl
 ·rw [val_none.mpr h,decide_eq_false h]; rfl
theorem lk_put {d:Dn} {l:Nat} (g:Nat) (h:l ∉ ks d):putK (dV d) (Sum.inl (l:Int)) (.int (g:Int))=dV (d ++ [(l,g)]):=by
 rw [putK_new _ (by rw [lk_val,val_none.mpr h]; rfl)]
 unfold dV
 rw [List.map_append]; rfl
structure LdAt (H:Hp) (D:Addr) (ds:List Addr) (L:Ld):Prop where
 l:H D=some (.lst (ds.map V.ref))
 len:ds.length=L.length
 nd:ds.Nodup
 d:∀ i d,ds[i]? = some d->H d=some (.dK (dV (L.getD i [])))
theorem LdAt.same {H H':Hp} {D:Addr} {ds:List Addr} {L:Ld} (h:LdAt H D ds L) (s:Same H H'):LdAt H' D ds L:=⟨s _ _ h.l,h.len,h.nd,fun i d e=>s _ _ (h.d i d e)⟩
theorem LdAt.put {H:Hp} {D d:Addr} {ds:List Addr} {L:Ld} {w:Nat} {e:Dn} (h:LdAt H D ds L) (hd:ds[w]? = some d):LdAt (upd H d (.dK (dV e))) D ds (L.set w e):=by
 have hw:w < L.length:=by rw [← h.len]; exact (List.getElem?_eq_some_iff.mp hd).1
 refine ⟨?_,by rw [List.length_set]; exact h.len,h.nd,fun i b hb=>?_⟩
 ·rw [upd_ne (ne_of h.l (h.d w d hd) (by intro z; cases z))]; exact h.l
 ·rw [getD_set]
  by_cases e1:w=i
  ·subst e1
   rw [hd] at hb
   cases hb
   rw [if_pos ⟨rfl,hw⟩]; exact upd_same
  ·rw [if_neg fun z=>e1 z.1]
   have hne:b ≠ d:=fun z=>by
    subst z
    obtain ⟨h3,e3⟩:=List.getElem?_eq_some_iff.mp hd
    obtain ⟨h4,e4⟩:=List.getElem?_eq_some_iff.mp hb
    exact e1 ((List.getElem_inj h.nd).mp (e3.trans e4.symm))
   rw [upd_ne hne]; exact h.d i b hb
def gsN (S:List Nat) (l:Nat):List Nat:=mems (S.getD l 0)
def spLeads (c:Cs) (C:Addr) (J:TIn):Sp:=fun vs H Q _=>∃ (x lx ldx lt sa:Addr) (n:Nat) (tvs:List V) (ps:List (Int × Int)) (wy:Oks->Nat) (S:List Nat),vs=[.ref x, .ref sa]/\TabIn c C J H x lx ldx lt n tvs ps wy/\H sa=some (.tup (nV S))/\S.length=ps.length/\(∀ z ∈ S,z < 2 ^ n) /\
 ∀ (D:Addr) (ds:List Addr) (H':Hp),Same H H'->LdAt H' D ds (leadsN (onN wy ps) (gsN S) ps.length)->Q (.ref D) H'
abbrev NLe:List Str:=["table", "sets", "leads", "lane", "goals", "goal", "way"]
section
variable {P:Program} {w:World} {K:PySem.W.Frag} {mg:Str->Option Value} {base:Heap}
theorem scLe:FnScope NLe ["table", "sets"] (defScope sLeads):=⟨rfl,rfl,rfl,by decide +kernel,rfl,by decide +kernel,by decide +kernel⟩
theorem bkLe:Blk NLe (defScope sLeads) (asgC ((defBody sLeads).getD 0 (.Pass ⟨0,0,0,0⟩))) [] []:=⟨rfl,by decide +kernel,by decide +kernel,by decide +kernel,rfl,by decide +kernel⟩
theorem ndLe:(["goals"]:List Str).Nodup:=by decide +kernel
theorem ok_leads {c:Cs} {J:TIn} {C f fw fb fo:Addr} {fd dw db d_o:FuncData} (F:Fun K "leads_of" "leads_of" sLeads f fd) (T:Txt mg) (W:Way K C fw dw J)
  (mb:mg "members" = some (.ref fb)) (kb:PySem.W.keepIn K (.ref fb)=true) (bb:Binds K db ["some"] []) (Gb:FnOk P w K mg base CX0 2 fb db ["some"] spMem)
  (mo:mg "onward" = some (.ref fo)) (ko:PySem.W.keepIn K (.ref fo)=true) (bo:Binds K d_o ["table", "lane", "goal"] []) (Go:FnOk P w K mg base CX0 4 fo d_o ["table", "lane", "goal"] (spOn c C J)) :
  FnOk P w K mg base CX0 5 f fd ["table", "sets"] (spLeads c C J):=by
 refine F.ok scLe (fun vs H Q E h=>?_) (fun cdv A outer s H vs Q E hr h=>?_)
 ·obtain ⟨x,lx,ldx,lt,sa,n,tvs,ps,wy,S,rfl,_⟩:=h
  rfl
 ·obtain ⟨x,lx,ldx,lt,sa,n,tvs,ps,wy,S,rfl,hT,gS,hSl,hSlt,q⟩:=h
  have hr2:Room 2 _:=hr.mono (by decide)
  have hr4:Room 4 _:=hr.mono (by decide)
  have hn:=hT.n12
  have h40:=hT.few
  refine ⟨_,pss_cons (ps_setComp (i:=2) (own:=["goals"]) (capN:=[]) (cap:=[]) bkLe rfl scLe.nd rfl rfl (pi_tup (pv 1)) (fun C s' H' fp=>⟨pg_name (i:=0) ndLe rfl (Or.inl rfl),pts_nil,pe_dnewK⟩))
   (pss_cons (ps_for PassesOwn.never rfl (pi_enumT rfl T.enum (pa_cons (pv 1) pa_nil)) (pg_tup rfl (pgs_cons (pg_name (i:=3) scLe.nd rfl (Or.inl rfl)) (pgs_cons (pg_name (i:=4) scLe.nd rfl (Or.inl rfl)) pgs_nil)))
    (pss_one (ps_for PassesOwn.never rfl (pi_list (pe_call Gb hr2 rfl mb kb bb .nil pass0 (pa_cons (pv 4) pa_nil))) (pg_name (i:=5) scLe.nd rfl (Or.inl rfl))
     (pss_one (ps_for PassesOwn.never rfl (pi_list (pe_call Go hr4 rfl mo ko bo .nil pass0 (pa_cons (pv 0) (pa_cons (pv 3) (pa_cons (pv 5) pa_nil))))) (pg_name (i:=6) scLe.nd rfl (Or.inl rfl))
      (pss_one (ps_expr (pe_dset (pe_ix ix_list (pv 2) (pv 6) (fun _ _=>rfl)) (pv 3) (pv 5) ⟨rfl,rfl,rfl,rfl⟩))))))))
   (pss_one (ps_ret (pv 2)))),?_⟩
  have hSn:(nV S).length=ps.length:=by rw [nV_len]; exact hSl
  refine ⟨_,rfl,sa,rfl,⟨_,SqT.of gS⟩,comp_gen (nV S).length (by rw [PySem.sizeLine_eq]; omega) (fun i acc H4=>∃ ds:List Addr,acc=ds.map V.ref/\ds.length=i/\ds.Nodup/\Same H H4/\∀ d ∈ ds,H d=none/\H4 d=some (.dK [])) ⟨[],rfl,rfl,List.nodup_nil,Same.refl H,fun d hd=>by cases hd⟩ (fun i acc H4 ⟨ds,e,hl,_⟩=>by rw [e,List.length_map,hl]; exact Nat.le_refl _) ?_ ?_⟩
  ·rintro i acc H4 hi ⟨ds,rfl,hl,nd,s4,hd⟩
   refine ⟨⟨nV S,(nV S)[i],SqT.of (s4 _ _ gS),List.getElem?_eq_getElem hi⟩,fun y H5 hy=>?_⟩
   obtain ⟨rfl,_⟩:=hy
   intro p hp
   refine ⟨ds ++ [p],by rw [List.map_append]; rfl,by rw [List.length_append,hl]; rfl,?_,s4.new hp,fun d hdm=>?_⟩
   ·rw [List.nodup_append]
    refine ⟨nd,by simp,fun a ha b hb e=>?_⟩
    rw [List.mem_singleton.mp hb] at e
    subst e
    rw [(hd a ha).2] at hp; cases hp
   ·rcases List.mem_append.mp hdm with hm | hm
    ·refine ⟨(hd d hm).1,?_⟩
     rw [upd_ne (ne_of_none (hd d hm).2 hp)]; exact (hd d hm).2
    ·rw [List.mem_singleton.mp hm]
     exact ⟨s4.free hp,upd_same⟩
  rintro acc H4 ⟨ds,rfl,hdl,nd,s4,hd⟩
  refine ⟨⟨nV S,SqT.of (s4 _ _ gS),Nat.le_refl _⟩,fun D hD=>?_⟩
  have hD0:H D=none:=s4.free hD
  have s5:=s4.new (o := .lst (ds.map V.ref)) hD
  have hds:∀ d ∈ ds,H d=none:=fun d hm=>(hd d hm).1
  have g5:LdAt (upd H4 D (.lst (ds.map V.ref))) D ds (List.replicate ps.length []):=by
   refine ⟨upd_same,by rw [hdl,hSn,List.length_replicate],nd,fun i d e=>?_⟩
   have hm:=List.mem_of_getElem? e
   rw [upd_ne (ne_of_none (hd d hm).2 hD),(hd d hm).2,rep_getD]; rfl
  show gName 2 (V.ref D) _ (upd H4 D (.lst (ds.map V.ref))) _
  generalize upd H4 D (.lst (ds.map V.ref))=H5 at s5 g5 ⊢
  have wr:∀ {H2:Hp} {d:Addr} {o:HO},Same H H2->d ∈ ds->Same H (upd H2 d o):=fun {H2 d o} s2 hm b u e=>by rw [upd_ne (ne_of_none e (hds d hm))]; exact s2 _ _ e
  refine ⟨_,rfl,sa,rfl,⟨_,SqT.of (s5 _ _ gS)⟩,?_⟩
  refine for_enum (sq:=fun H=>SqT K H sa) (xs:=nV S) (fun i σ H2=>∃ a3 a4 a5 a6:Option V,Same H H2/\LdAt H2 D ds ((List.range i).foldl (laneL (onN wy ps) (gsN S)) (List.replicate ps.length []))/\σ=[some (.ref x),some (.ref sa),some (.ref D),a3,a4,a5,a6])
   ⟨none,none,none,none,s5,g5,rfl⟩ (fun i σ H2 _ ⟨_,_,_,_,s2,_⟩=>SqT.of (s2 _ _ gS)) ?_ ?_
  ·rintro l v r σ H2 hv ⟨a3,a4,a5,a6,s2,g2,rfl⟩ hr2'
   have hl:l < S.length:=by have:=(List.getElem?_eq_some_iff.mp hv).1; rw [nV_len] at this; exact this
   have hv':=nV_getD hl
   rw [hv'] at hv
   have hv:=Option.some.inj hv
   subst hv
   have hmlt:S.getD l 0 < 2 ^ n:=by
    rw [List.getD_eq_getElem?_getD,List.getElem?_eq_getElem hl]
    exact hSlt _ (List.getElem_mem hl)
   have s3:=s2.new (o := .tup [.int (l:Int), .int ((S.getD l 0:Nat):Int)]) hr2'
   have g3:=g2.same ((Same.refl H2).new (o := .tup [.int (l:Int), .int ((S.getD l 0:Nat):Int)]) hr2')
   refine ⟨r,_,rfl,SqT.of upd_same,rfl,_,_,rfl,_,_,rfl,rfl,?_⟩
   generalize upd H2 r (.tup [.int (l:Int), .int ((S.getD l 0:Nat):Int)])=H3 at s3 g3 ⊢
   refine ⟨_,rfl,S.getD l 0,rfl,Nat.lt_of_lt_of_le hmlt (Nat.pow_le_pow_right (by decide) (by omega)),fun Mb hMb=>⟨Mb,rfl,⟨_,SqL.of upd_same⟩,?_⟩⟩
   rw [memV_mems]
   have s4:=s3.new (o := .lst (nV (mems (S.getD l 0)))) hMb
   have g4:=g3.same ((Same.refl H3).new (o := .lst (nV (mems (S.getD l 0)))) hMb)
   have gM:(upd H3 Mb (.lst (nV (mems (S.getD l 0))))) Mb=some (.lst (nV (mems (S.getD l 0)))):=upd_same
   have nMb:∀ d ∈ ds,Mb ≠ d:=fun d hm z=>by
    obtain ⟨i,hi,ei⟩:=List.getElem_of_mem hm
    have e:=g3.d i d (by rw [List.getElem?_eq_getElem hi,ei])
    rw [← z,hMb] at e; cases e
   generalize upd H3 Mb (.lst (nV (mems (S.getD l 0))))=H4 at s4 g4 gM ⊢
   generalize hL0:(List.range l).foldl (laneL (onN wy ps) (gsN S)) (List.replicate ps.length [])=L0 at g4
   have hok0:LdOk (onN wy ps) (gsN S) ps.length L0:=by
    rw [← hL0]
    exact LdOk.all _ LdOk.init fun z hz=>by have:=List.mem_range.mp hz; omega
   refine for_list (K:=K) (a:=Mb) (xs:=nV (mems (S.getD l 0))) (fun m σ H5=>∃ a5 a6:Option V,Same H H5/\H5 Mb=some (.lst (nV (mems (S.getD l 0))))/\LdAt H5 D ds (((mems (S.getD l 0)).take m).foldl (goalL (onN wy ps) l) L0)/\σ=[some (.ref x),some (.ref sa),some (.ref D),some (.int (l:Int)),some (.int ((S.getD l 0:Nat):Int)),a5,a6])
    ⟨_,_,s4,gM,g4,rfl⟩ (fun m σ H5 _ ⟨_,_,_,g5,_⟩=>SqL.of g5) ?_ ?_
   ·rintro m v σ H5 hv ⟨a5,a6,s5',gM5,g5',rfl⟩
    have hm:m < (mems (S.getD l 0)).length:=by have:=(List.getElem?_eq_some_iff.mp hv).1; rw [nV_len] at this; exact this
    have hk0:=List.getElem?_eq_getElem hm
    have hv':=nV_get hk0
    rw [hv'] at hv
    have hv:=Option.some.inj hv
    subst hv
    generalize (mems (S.getD l 0))[m]=g at hk0
    have hgm:g ∈ gsN S l:=List.mem_of_getElem? hk0
    have hok1:LdOk (onN wy ps) (gsN S) ps.length (((mems (S.getD l 0)).take m).foldl (goalL (onN wy ps) l) L0):=LdOk.lane (by omega) _ hok0 fun z hz=>List.mem_of_mem_take hz
    have htk:((mems (S.getD l 0)).take (m + 1)).foldl (goalL (onN wy ps) l) L0=goalL (onN wy ps) l (((mems (S.getD l 0)).take m).foldl (goalL (onN wy ps) l) L0) g:=by
     rw [List.take_succ,hk0,List.foldl_append]; rfl
    rw [htk]
    generalize ((mems (S.getD l 0)).take m).foldl (goalL (onN wy ps) l) L0=L1 at g5' hok1
    refine ⟨_,rfl,_,rfl,_,rfl,x,lx,ldx,lt,n,tvs,ps,wy,l,g,rfl,hT.same W s5',by omega,fun Ow H6 s6 hOw gOw=>⟨Ow,rfl,⟨_,SqL.of gOw⟩,?_⟩⟩
    have nOw:∀ d ∈ ds,Ow ≠ d:=fun d hm z=>by
     obtain ⟨i,hi,ei⟩:=List.getElem_of_mem hm
     have e:=g5'.d i d (by rw [List.getElem?_eq_getElem hi,ei])
     rw [← z,hOw] at e; cases e
    have hon:∀ z ∈ onN wy ps g l,z < ps.length:=on_lt hT.ok g l
    refine for_list (K:=K) (a:=Ow) (xs:=nV (onN wy ps g l)) (fun k σ H7=>∃ a6:Option V,Same H H7/\H7 Mb=some (.lst (nV (mems (S.getD l 0))))/\H7 Ow=some (.lst (nV (onN wy ps g l)))/\LdAt H7 D ds (((onN wy ps g l).take k).foldl (addL l g) L1)/\σ=[some (.ref x),some (.ref sa),some (.ref D),some (.int (l:Int)),some (.int ((S.getD l 0:Nat):Int)),some (.int (g:Int)),a6])
     ⟨_,s5'.trans s6,s6 _ _ gM5,gOw,g5'.same s6,rfl⟩ (fun k σ H7 _ ⟨_,_,_,g7,_⟩=>SqL.of g7) ?_ ?_
    ·rintro k v σ H7 hv ⟨a6,s7,gM7,gO7,g7,rfl⟩
     have hk:k < (onN wy ps g l).length:=by have:=(List.getElem?_eq_some_iff.mp hv).1; rw [nV_len] at this; exact this
     have hw0:=List.getElem?_eq_getElem hk
     have hv':=nV_get hw0
     rw [hv'] at hv
     have hv:=Option.some.inj hv
     subst hv
     generalize (onN wy ps g l)[k]=wa at hw0
     have hwm:wa ∈ onN wy ps g l:=List.mem_of_getElem? hw0
     have hwl:=hon wa hwm
     have hok2:LdOk (onN wy ps) (gsN S) ps.length (((onN wy ps g l).take k).foldl (addL l g) L1):=LdOk.goal (by omega) hgm _ hok1 fun z hz=>List.mem_of_mem_take hz
     have htk2:((onN wy ps g l).take (k + 1)).foldl (addL l g) L1=addL l g (((onN wy ps g l).take k).foldl (addL l g) L1) wa:=by
      rw [List.take_succ,hw0,List.foldl_append]; rfl
     rw [htk2]
     generalize ((onN wy ps g l).take k).foldl (addL l g) L1=L2 at g7 hok2
     have hdl:wa < ds.length:=by rw [g7.len,hok2.len]; exact hwl
     have hd0:=List.getElem?_eq_getElem hdl
     generalize ds[wa]=d at hd0
     have hdm:d ∈ ds:=List.mem_of_getElem? hd0
     have gd:=g7.d wa d hd0
     have hfew:=hok2.few wa
     refine ⟨_,rfl,_,rfl,D,_,_, .ref d,rfl,rfl,SqL.of g7.l,atI_nat (by rw [List.getElem?_map,hd0]; rfl),d,rfl, .inl ⟨_, .inl gd⟩,_,rfl,_,rfl,_,Sum.inl (l:Int),gd,rfl,by rw [dV_len,PySem.sizeLine_eq]; omega,fun v hv=>?_,fun hv=>?_⟩
     ·have hin:l ∈ ks (L2.getD wa []):=by
       have e:=lk_is (L2.getD wa []) l
       rw [hv] at e
       exact of_decide_eq_true e.symm
      refine ⟨_,s7,gM7,gO7,?_,rfl⟩
      unfold addL addD
      rw [if_pos hin]
      have:L2.set wa (L2.getD wa [])=L2:=by
       have hlt:wa < L2.length:=by rw [hok2.len]; exact hwl
       rw [List.getD_eq_getElem?_getD,List.getElem?_eq_getElem hlt]
       exact List.set_getElem_self hlt
      rw [this]; exact g7
     ·have hin:l ∉ ks (L2.getD wa []):=by
       have e:=lk_is (L2.getD wa []) l
       rw [hv] at e
       exact of_decide_eq_false e.symm
      rw [lk_put g hin]
      refine ⟨_,wr s7 hdm,by rw [upd_ne (nMb d hdm)]; exact gM7,by rw [upd_ne (nOw d hdm)]; exact gO7,?_,rfl⟩
      unfold addL addD
      rw [if_neg hin]
      exact g7.put hd0
    ·rintro σ H7 ⟨a6,s7,gM7,gO7,g7,rfl⟩
     rw [nV_len,List.take_length] at g7
     exact ⟨_,_,s7,gM7,g7,rfl⟩
   ·rintro σ H5 ⟨a5,a6,s5',gM5,g5',rfl⟩
    refine ⟨_,_,_,_,s5',?_,rfl⟩
    rw [nV_len,List.take_length] at g5'
    rw [List.range_succ,List.foldl_append,hL0]
    exact g5'
  ·rintro σ H2 ⟨a3,a4,a5,a6,s2,g2,rfl⟩
   rw [hSn] at g2
   exact ⟨_,rfl,q D ds H2 s2 g2⟩
end
end K33
namespace K33
open PySem L2 LkM
def ifAllC (s:Stmt):Scope:=match s with
 | .For _ _ (.If (.BoolOp _ [_, .Call _ [.ListComp _ _ sc _] _ _] _) _ _ _ :: _) _ _=>sc
 | _=>noScope
theorem free_succ (L:Ld) (a:Dn) (i:Nat):(List.range (i + 1)).filter (freeB L a)=if freeB L a i=true then (List.range i).filter (freeB L a) ++ [i] else (List.range i).filter (freeB L a):=by
 rw [List.range_succ,List.filter_append]
 cases h:freeB L a i with
 | true=>simp [h]
 | false=>simp [h]
theorem not_take {fs:List Nat} (nd:fs.Nodup) {i l:Nat} (h:fs[i]? = some l):l ∉ fs.take i:=by
 intro hm
 obtain ⟨j,hj,e⟩:=List.mem_take_iff_getElem.mp hm
 obtain ⟨h3,e3⟩:=List.getElem?_eq_some_iff.mp h
 have:j=i:=(List.getElem_inj nd).mp (e.trans e3.symm)
 omega
theorem all_in (d a:Dn):(((dV d).map (·.1)).filter fun _=>true).map (fun k=>V.bl (valV (dV a) k).isSome)=((ks d).map fun k=>decide (k ∈ ks a)).map V.bl:=by
 rw [List.filter_eq_self.mpr (fun _ _=>rfl),dV_keys,List.map_map,List.map_map]
 refine List.map_congr_left fun k _=>?_
 show V.bl (valV (dV a) (Sum.inl (k:Int))).isSome=V.bl (decide (k ∈ ks a))
 rw [lk_is]
def spNext:Sp:=fun vs H Q _=>∃ (D nu:Addr) (ds:List Addr) (L:Ld) (a:Dn),vs=[.ref D, .ref nu]/\LdAt H D ds L/\H nu=some (.dK (dV a))/\nu ∉ ds/\L.length <= 1000/\(∀ w,(L.getD w []).length <= 1000) /\
 ∀ (Fr:Addr) (H':Hp),Same H H'->H Fr=none->H' Fr=some (.lst (nV (freeN L a)))->Q (.ref Fr) H'
def spNumb:Sp:=fun vs H Q _=>∃ (D:Addr) (ds:List Addr) (L:Ld),vs=[.ref D]/\LdAt H D ds L/\L.length <= 1000/\(∀ w,(L.getD w []).length <= 1000) /\
 ∀ (nu:Addr) (H':Hp),Same H H'->H nu=none->nu ∉ ds->H' nu=some (.dK (dV (numN L)))->Q (.ref nu) H'
abbrev NNx:List Str:=["leads", "numbers", "free", "lane", "before"]
abbrev NNb:List Str:=["leads", "numbers", "moves", "free", "lane"]
section
variable {P:Program} {w:World} {K:PySem.W.Frag} {mg:Str->Option Value} {base:Heap}
theorem scNx:FnScope NNx ["leads", "numbers"] (defScope sNext):=⟨rfl,rfl,rfl,by decide +kernel,rfl,by decide +kernel,by decide +kernel⟩
theorem bkNx:Blk NNx (defScope sNext) (ifAllC ((defBody sNext).getD 1 (.Pass ⟨0,0,0,0⟩))) ["numbers"] [1]:=⟨rfl,by decide +kernel,by decide +kernel,by decide +kernel,rfl,by decide +kernel⟩
theorem ndNx:(["other", "numbers"]:List Str).Nodup:=by decide +kernel
theorem ok_next {f:Addr} {fd:FuncData} (F:Fun K "lanes_next" "lanes_next" sNext f fd) (T:Txt mg):FnOk P w K mg base CX0 1 f fd ["leads", "numbers"] spNext:=by
 refine F.ok scNx (fun vs H Q E h=>?_) (fun cdv A outer s H vs Q E hr h=>?_)
 ·obtain ⟨D,nu,ds,L,a,rfl,_⟩:=h
  rfl
 ·obtain ⟨D,nu,ds,L,a,rfl,hL,hnu,hnd,hl1,hl2,q⟩:=h
  have hu1:=Nat.lt_of_le_of_lt (Nat.add_le_add_left (show 1 <= 64 by decide) _) hr.units
  refine ⟨_,pss_cons (ps_set (i:=2) scNx.nd rfl (Or.inl rfl) (pe_lst pa_nil))
   (pss_cons (ps_for PassesOwn.never rfl (pi_enumL rfl T.enum (pa_cons (pv 0) pa_nil)) (pg_tup rfl (pgs_cons (pg_name (i:=3) scNx.nd rfl (Or.inl rfl)) (pgs_cons (pg_name (i:=4) scNx.nd rfl (Or.inl rfl)) pgs_nil)))
    (pss_one (ps_if (PW.pt (pw_and (pt_cmp (pc_dnotin hu1 (pv 3) (pv 1)) (by with_unfolding_all rfl)) (pw_and1 (pt_val (pe_callB (call_all rfl) rfl T.all PyProof.Rows.boot_all (pa_cons (pe_thaw (pe_comp (own:=["other"]) (capN:=["numbers"]) (cap:=[1]) bkNx rfl (pi_keys (pv 4))
      (fun C s' H' fp=>⟨pg_name (i:=0) ndNx rfl (Or.inl rfl),pts_nil,pe_cmp (pc_din hu1 (pv 0) (pv 1)) (by with_unfolding_all rfl)⟩))) pa_nil))))))
     (pss_one (ps_expr (pe_bm PySem.F.plainAttrs_list PySem.F.slot_list_append PySem.F.type_list_append mt_append (pv 2) (pa_cons (pv 3) pa_nil)))) pss_nil)))
   (pss_one (ps_ret (pv 2)))),?_⟩
  refine ⟨Nat.zero_le _,fun Fr hFr=>?_⟩
  have s0:=(Same.refl H).new (o := .lst []) hFr
  have g0:(upd H Fr (.lst [])) Fr=some (.lst (nV ((List.range 0).filter (freeB L a)))):=upd_same
  generalize upd H Fr (.lst [])=H0 at s0 g0 ⊢
  have hlen:(ds.map V.ref).length=L.length:=by rw [List.length_map]; exact hL.len
  refine ⟨_,rfl,D,rfl,⟨_,SqL.of (s0 _ _ hL.l)⟩,?_⟩
  refine for_enum (sq:=fun H=>SqL K H D) (xs:=ds.map V.ref) (fun i σ H2=>∃ a3 a4:Option V,Same H H2/\H2 Fr=some (.lst (nV ((List.range i).filter (freeB L a))))/\σ=[some (.ref D),some (.ref nu),some (.ref Fr),a3,a4])
   ⟨none,none,s0,g0,rfl⟩ (fun i σ H2 _ ⟨_,_,s2,_⟩=>SqL.of (s2 _ _ hL.l)) ?_ ?_
  ·rintro i v p σ H2 hv ⟨a3,a4,s2,g2,rfl⟩ hp
   have hi:i < ds.length:=by have:=(List.getElem?_eq_some_iff.mp hv).1; rw [List.length_map] at this; exact this
   have hd0:=List.getElem?_eq_getElem hi
   generalize ds[i]=d at hd0
   rw [List.getElem?_map,hd0] at hv
   have hv:V.ref d=v:=Option.some.inj hv
   subst hv
   have s3:=s2.new (o := .tup [.int (i:Int), .ref d]) hp
   have g3:(upd H2 p (.tup [.int (i:Int), .ref d])) Fr=some (.lst (nV ((List.range i).filter (freeB L a)))):=by rw [upd_ne (ne_of_none g2 hp)]; exact g2
   refine ⟨p,_,rfl,SqT.of upd_same,rfl,_,_,rfl,_,_,rfl,rfl,?_⟩
   generalize upd H2 p (.tup [.int (i:Int), .ref d])=H3 at s3 g3 ⊢
   have gd:=s3 _ _ (hL.d i d hd0)
   have gnu:=s3 _ _ hnu
   have hil:i < L.length:=by rw [← hL.len]; exact hi
   have hfl:((List.range i).filter (freeB L a)).length <= i:=by
    have:=List.length_filter_le (freeB L a) (List.range i)
    rwa [List.length_range] at this
   refine ⟨_,rfl,_,rfl,nu,_,rfl,DGet.k (k:=Sum.inl (i:Int)) gnu,_,rfl,?_⟩
   rw [lk_is]
   by_cases hm:i ∈ ks a
   ·rw [decide_eq_true hm]
    refine iteF (iteF ⟨_,_,s3,?_,rfl⟩)
    rw [free_succ,if_neg (by unfold freeB; rw [decide_eq_true hm]; simp)]
    exact g3
   rw [decide_eq_false hm]
   refine iteT ⟨_,rfl,d,_,rfl,gd,fun o=>?_⟩
   have ndu:nu ≠ d:=fun z=>hnd (by rw [z]; exact List.mem_of_getElem? hd0)
   refine comp_keys (fun _=>true) (fun k=>V.bl (valV (dV a) k).isSome) (by rw [dV_len,PySem.sizeLine_eq]; have:=hl2 i; omega) upd_same (fun k acc N hk hN=>?_) (fun B hB=>?_)
   ·exact ⟨_,rfl,_,rfl,nu,_,rfl,DGet.k (k:=k) (by rw [upd_ne ndu]; exact gnu),hN⟩
   have nf:∀ o' u',H d ≠ some (.frz o' u'):=fun o' u' z=>by rw [hL.d i d hd0] at z; cases z
   have nBd:B ≠ d:=Ne.symm (ne_of_none (H:=upd H3 d (.frz o (.dK (dV (L.getD i []))))) upd_same hB)
   have hB3:H3 B=none:=by rw [upd_ne nBd] at hB; exact hB
   refine ⟨d,o, .dK (dV (L.getD i [])),by rw [upd_ne (Ne.symm nBd)]; exact upd_same,nf,?_⟩
   rw [upd_comm nBd,upd_back gd,all_in]
   have s4:=s3.new (o := .lst (((ks (L.getD i [])).map fun k=>decide (k ∈ ks a)).map V.bl)) hB3
   have g4:(upd H3 B (.lst (((ks (L.getD i [])).map fun k=>decide (k ∈ ks a)).map V.bl))) B=some (.lst (((ks (L.getD i [])).map fun k=>decide (k ∈ ks a)).map V.bl)):=upd_same
   have gF4:(upd H3 B (.lst (((ks (L.getD i [])).map fun k=>decide (k ∈ ks a)).map V.bl))) Fr=some (.lst (nV ((List.range i).filter (freeB L a)))):=by rw [upd_ne (ne_of_none g3 hB3)]; exact g3
   generalize upd H3 B (.lst (((ks (L.getD i [])).map fun k=>decide (k ∈ ks a)).map V.bl))=H4 at s4 g4 gF4 ⊢
   refine ⟨B,_,rfl,SqL.of g4,_,rfl,?_⟩
   rw [all_id]
   have efb:freeB L a i=(ks (L.getD i [])).all fun k=>decide (k ∈ ks a):=by
    unfold freeB
    rw [decide_eq_false hm]; rfl
   rw [← efb]
   cases hb:freeB L a i with
   | false =>
    refine iteF ⟨_,_,s4,?_,rfl⟩
    rw [free_succ,hb,if_neg (by decide)]; exact gF4
   | true =>
    refine iteT ⟨_,rfl, .inl ⟨rfl,_,SqL.of gF4⟩,_,rfl,Fr,_,_,rfl,rfl,gF4,by rw [PySem.sizeLine_eq,nV_len]; omega,?_⟩
    refine ⟨_,_,fun b o e=>by rw [upd_ne (ne_of_none e hFr)]; exact s4 _ _ e,?_,rfl⟩
    rw [free_succ,hb,if_pos rfl,nV_app,upd_same]; rfl
  ·rintro σ H2 ⟨a3,a4,s2,g2,rfl⟩
   rw [hlen] at g2
   exact ⟨_,rfl,q Fr H2 s2 hFr g2⟩
theorem scNb:FnScope NNb ["leads"] (defScope sNumb):=⟨rfl,rfl,rfl,by decide +kernel,rfl,by decide +kernel,by decide +kernel⟩
theorem ok_numb {f fx:Addr} {fd dx:FuncData} (F:Fun K "number_lanes" "number_lanes" sNumb f fd) (mx:mg "lanes_next" = some (.ref fx)) (kx:PySem.W.keepIn K (.ref fx)=true) (bx:Binds K dx ["leads", "numbers"] []) (Gx:FnOk P w K mg base CX0 1 fx dx ["leads", "numbers"] spNext) :
  FnOk P w K mg base CX0 2 f fd ["leads"] spNumb:=by
 refine F.ok scNb (fun vs H Q E h=>?_) (fun cdv A outer s H vs Q E hr h=>?_)
 ·obtain ⟨D,ds,L,rfl,_⟩:=h
  rfl
 ·obtain ⟨D,ds,L,rfl,hL,hl1,hl2,q⟩:=h
  have hu1:=Nat.lt_of_le_of_lt (Nat.add_le_add_left (show 1 <= 64 by decide) _) hr.units
  refine ⟨_,pss_cons (ps_set (i:=1) scNb.nd rfl (Or.inl rfl) pe_dnewK)
   (pss_cons (ps_set (i:=2) scNb.nd rfl (Or.inl rfl) pe_int)
   (pss_cons (ps_set (i:=3) scNb.nd rfl (Or.inl rfl) (pe_call Gx hr rfl mx kx bx .nil pass0 (pa_cons (pv 0) (pa_cons (pv 1) pa_nil))))
   (pss_cons (ps_while PassesOwn.never (pt_truth (pv 3) (fun _=>rfl))
    (pss_cons (ps_for PassesOwn.never rfl (pi_list (pv 3)) (pg_name (i:=4) scNb.nd rfl (Or.inl rfl)) (pss_one (ps_dput hu1 (pv 1) (pv 4) (pv 2) rfl)))
    (pss_cons (ps_aug (i:=2) scNb.nd rfl (Or.inl rfl) pe_int ip_add)
    (pss_one (ps_set (i:=3) scNb.nd rfl (Or.inl rfl) (pe_call Gx hr rfl mx kx bx .nil pass0 (pa_cons (pv 0) (pa_cons (pv 1) pa_nil))))))))
   (pss_one (ps_ret (pv 1)))))),?_⟩
  refine fun nu hnu=>?_
  have s0:=(Same.refl H).new (o := .dK []) hnu
  have g0:(upd H nu (.dK [])) nu=some (.dK (dV [])):=upd_same
  have hnd:nu ∉ ds:=fun hm=>by
   obtain ⟨i,hi,ei⟩:=List.getElem_of_mem hm
   have e:=hL.d i nu (by rw [List.getElem?_eq_getElem hi,ei])
   rw [hnu] at e; cases e
  generalize upd H nu (.dK [])=H0 at s0 g0 ⊢
  refine ⟨_,rfl,_,rfl,D,nu,ds,L,[],rfl,hL.same s0,g0,hnd,hl1,hl2,fun Fr H1 s1 hFr gFr=>?_⟩
  refine ⟨fun m σ H'=>∃ (a:Dn) (mv f:Nat) (fr:Addr) (a4:Option V),m=f/\NumOk L a mv/\numN L=numR L f a mv/\L.length + 1 <= f + a.length/\Same H H'/\H' nu=some (.dK (dV a))/\H' fr=some (.lst (nV (freeN L a)))/\σ=[some (.ref D),some (.ref nu),some (.int (mv:Nat)),some (.ref fr),a4],
   ⟨L.length + 1,[],0,L.length + 1,Fr,_,rfl,NumOk.nil L,rfl,by simp,s0.trans s1,s1 _ _ g0,gFr,rfl⟩,?_⟩
  rintro m σ H2 ⟨a,mv,f,fr,a4,rfl,hN,hrun,hf,s2,gn2,gf2,rfl⟩
  refine ⟨_,rfl,_, .inl ⟨_,SqL.of gf2,rfl⟩,?_⟩
  have hal:=hN.len
  by_cases he:freeN L a=[]
  ·rw [he]
   refine iteF ⟨_,rfl,q nu H2 s2 hnu hnd ?_⟩
   rw [hrun,numR_end he]; exact gn2
  ·have ht:(!(nV (freeN L a)).isEmpty)=true:=by
    unfold nV
    cases e:freeN L a with
    | nil=>exact absurd e he
    | cons _ _=>rfl
   rw [ht]
   cases m with
   | zero=>omega
   | succ m =>
   rw [numR_step he] at hrun
   have hN1:=hN.step he
   have hal1:=hN1.len
   have hks:=ks_addA a (freeN L a) mv
   have hpos:=List.length_pos_iff.mpr he
   have hladd:(addA a (freeN L a) mv).length=a.length + (freeN L a).length:=by unfold addA; rw [List.length_append,List.length_map]
   refine iteT ⟨fun σ' H'=>∃ (fr':Addr) (a4':Option V),Same H H'/\H' nu=some (.dK (dV (addA a (freeN L a) mv)))/\H' fr' = some (.lst (nV (freeN L (addA a (freeN L a) mv))))/\σ' = [some (.ref D),some (.ref nu),some (.int ((mv + 1:Nat):Int)),some (.ref fr'),a4'],?_,?_⟩
   ·rintro σ' H' ⟨fr',a4',s',gn',gf',rfl⟩
    exact ⟨m,Nat.lt_succ_self _,addA a (freeN L a) mv,mv + 1,m,fr',a4',rfl,hN1,hrun,by omega,s',gn',gf',rfl⟩
   refine ⟨_,rfl,fr,rfl,⟨_,SqL.of gf2⟩,?_⟩
   have hfn:fr ≠ nu:=ne_of gf2 gn2 (by intro z; cases z)
   have hnd1:=free_nd L a
   have hmf:∀ l ∈ freeN L a,l ∉ ks a:=fun l hl=>(mem_free.mp hl).2.1
   generalize hfs:freeN L a=fs at gf2 hnd1 hmf hladd hal1 ⊢
   refine for_list (K:=K) (a:=fr) (xs:=nV fs) (fun i σ H3=>∃ a4:Option V,Same H H3/\H3 fr=some (.lst (nV fs))/\H3 nu=some (.dK (dV (addA a (fs.take i) mv)))/\σ=[some (.ref D),some (.ref nu),some (.int (mv:Nat)),some (.ref fr),a4])
    ⟨_,s2,gf2,by unfold addA; rw [List.take_zero,List.map_nil,List.append_nil]; exact gn2,rfl⟩ (fun i σ H3 _ ⟨_,_,g3,_⟩=>SqL.of g3) ?_ ?_
   ·rintro i v σ H3 hv ⟨a4,s3,gf3,gn3,rfl⟩
    have hi:i < fs.length:=by have:=(List.getElem?_eq_some_iff.mp hv).1; rw [nV_len] at this; exact this
    have hk0:=List.getElem?_eq_getElem hi
    have hv':=nV_get hk0
    rw [hv'] at hv
    have hv:=Option.some.inj hv
    subst hv
    generalize fs[i]=l at hk0
    have hnew:l ∉ ks (addA a (fs.take i) mv):=by
     rw [ks_addA]
     intro hm
     rcases List.mem_append.mp hm with hm | hm
     ·exact hmf l (List.mem_of_getElem? hk0) hm
     ·exact not_take hnd1 hk0 hm
    have hll:(addA a (fs.take i) mv).length <= a.length + i:=by
     unfold addA
     rw [List.length_append,List.length_map]
     have:=List.length_take_le i fs
     omega
    refine ⟨_,rfl,_,rfl,_,rfl,nu,_,rfl,DPut.k (k:=Sum.inl (l:Int)) gn3 (by rw [dV_len,PySem.sizeLine_eq]; omega),?_⟩
    refine ⟨_,fun b o e=>by rw [upd_ne (ne_of_none e hnu)]; exact s3 _ _ e,by rw [upd_ne hfn]; exact gf3,?_,rfl⟩
    rw [upd_same,lk_put mv hnew,List.take_succ,hk0]
    unfold addA
    rw [List.map_append,← List.append_assoc]; rfl
   ·rintro σ H3 ⟨a4,s3,gf3,gn3,rfl⟩
    rw [nV_len,List.take_length] at gn3
    refine ⟨_,rfl,_,_,rfl,rfl,?_⟩
    refine ⟨_,rfl,_,rfl,D,nu,ds,L,_,rfl,hL.same s3,gn3,hnd,hl1,hl2,fun Fr2 H4 s4 hFr2 gFr2=>?_⟩
    exact ⟨Fr2,_,s3.trans s4,s4 _ _ gn3,gFr2,rfl⟩
end
end K33
namespace K33
open PySem L2 LkM
def whB (s:Stmt):List Stmt:=match s with
 | .While _ b _ _=>b
 | _=>[]
def asgCall (s:Stmt):Scope:=match s with
 | .Assign _ (.Call _ [.ListComp _ _ sc _] _ _) _=>sc
 | _=>noScope
def retCall (s:Stmt):Scope:=match s with
 | .Return (some (.Call _ [.ListComp _ _ sc _] _ _)) _=>sc
 | _=>noScope
theorem in_nV (x:Nat) (us:List Nat):inV (.int (x:Int)) (nV us)=decide (x ∈ us):=by
 rw [show nV us=(iz us).map V.int from natV_iz us,inV_int]
 exact iz_dec
theorem flat_nV (us:List Nat):(nV us).all flatV=true:=by
 rw [show nV us=(iz us).map V.int from natV_iz us]
 exact flat_ints _
theorem iz_idx (l:Nat):∀ us:List Nat,(iz us).idxOf (l:Int)=us.idxOf l
 | []=>rfl
 | x :: us=>by
  show List.idxOf (l:Int) ((x:Int) :: iz us)=_
  rw [List.idxOf_cons,List.idxOf_cons,iz_idx l us]
  by_cases h:x=l
  ·rw [h]; simp
  ·have h1:((x:Int) == (l:Int))=false:=by simp; omega
   have h2:(x == l)=false:=by simp; exact h
   rw [h1,h2]
theorem cut_from (us:List Nat) {i:Nat} (h:i <= us.length):cutV (nV us) (some (i:Int)) none=nV (us.drop i):=by
 unfold cutV
 rw [HT.sIx_nat,HT.sIx_none,nV_len,Nat.min_eq_left h,List.take_of_length_le (by rw [List.length_drop,nV_len]; exact Nat.le_refl _)]
 unfold nV
 rw [List.map_drop]
theorem cut_to (us:List Nat) (i:Nat):cutV (nV us) none (some (i:Int))=nV (us.take i):=by
 unfold cutV
 rw [HT.sIx_nat,HT.sIx_none,nV_len,List.drop_zero,Nat.sub_zero]
 unfold nV
 rw [← List.map_take]
 congr 1
 rcases Nat.le_total i us.length with h | h
 ·rw [Nat.min_eq_left h]
 ·rw [Nat.min_eq_right h,List.take_of_length_le (Nat.le_refl _),List.take_of_length_le h]
theorem backs_V (d a:Dn):(((dV d).map (·.1)).filter fun k=>!(valV (dV a) k).isSome).map kV=nV ((ks d).filter fun k=>!decide (k ∈ ks a)):=by
 rw [dV_keys]
 unfold nV
 rw [List.filter_map,List.map_map]
 congr 1
 refine List.filter_congr fun k _=>?_
 show (!(valV (dV a) (Sum.inl (k:Int))).isSome)=_
 rw [lk_is]
def pI (q:Nat × Nat):Int × Int:=((q.1:Int),(q.2:Int))
def spBack:Sp:=fun vs H Q _=>∃ (D nu:Addr) (ds:List Addr) (L:Ld) (a:Dn),vs=[.ref D, .ref nu]/\LdAt H D ds L/\H nu=some (.dK (dV a))/\nu ∉ ds/\L.length <= 1000/\(∀ w,(L.getD w []).length <= 1000)/\(∀ w,∀ x ∈ ks (L.getD w []),x < L.length)/\freeN L a=[]/\a.length < L.length /\
 ∀ (R:Addr) (H':Hp),Same H H'->H' R=some (.lst (nV (walkN L a)))->Q (.ref R) H'
def spRing:Sp:=fun vs H Q _=>∃ (D nu:Addr) (ds:List Addr) (L:Ld) (a:Dn),vs=[.ref D, .ref nu]/\LdAt H D ds L/\H nu=some (.dK (dV a))/\nu ∉ ds/\L.length <= 1000/\(∀ w,(L.getD w []).length <= 1000)/\(∀ w,∀ x ∈ ks (L.getD w []),x < L.length)/\freeN L a=[]/\a.length < L.length /\
 ∀ (R:Addr) (us:List V) (H':Hp),Same H H'->H' R=some (.tup us)->Lns H' us ((ringN L (walkN L a).reverse).map pI)->Q (.ref R) H'
abbrev NBk:List Str:=["leads", "numbers", "left", "walked", "lane"]
abbrev NRg:List Str:=["leads", "numbers", "lanes", "following"]
section
variable {P:Program} {w:World} {K:PySem.W.Frag} {mg:Str->Option Value} {base:Heap}
theorem scBk:FnScope NBk ["leads", "numbers"] (defScope sBack):=⟨rfl,rfl,rfl,by decide +kernel,rfl,by decide +kernel,by decide +kernel⟩
theorem bkB1:Blk NBk (defScope sBack) (asgC ((defBody sBack).getD 0 (.Pass ⟨0,0,0,0⟩))) ["numbers"] [1]:=⟨rfl,by decide +kernel,by decide +kernel,by decide +kernel,rfl,by decide +kernel⟩
theorem bkB2:Blk NBk (defScope sBack) (asgCall ((whB ((defBody sBack).getD 3 (.Pass ⟨0,0,0,0⟩))).getD 1 (.Pass ⟨0,0,0,0⟩))) ["numbers"] [1]:=⟨rfl,by decide +kernel,by decide +kernel,by decide +kernel,rfl,by decide +kernel⟩
theorem ndB1:(["lane", "numbers"]:List Str).Nodup:=by decide +kernel
theorem ok_back {f:Addr} {fd:FuncData} (F:Fun K "walk_back" "walk_back" sBack f fd) (T:Txt mg):FnOk P w K mg base CX0 1 f fd ["leads", "numbers"] spBack:=by
 refine F.ok scBk (fun vs H Q E h=>?_) (fun cdv A outer s H vs Q E hr h=>?_)
 ·obtain ⟨D,nu,ds,L,a,rfl,_⟩:=h
  rfl
 ·obtain ⟨D,nu,ds,L,a,rfl,hL,hnu,hnd,hl1,hl2,hlt,hfr,hal,q⟩:=h
  have hu1:=Nat.lt_of_le_of_lt (Nat.add_le_add_left (show 1 <= 64 by decide) _) hr.units
  refine ⟨_,pss_cons (ps_setComp (i:=2) (own:=["lane"]) (capN:=["numbers"]) (cap:=[1]) bkB1 rfl scBk.nd rfl rfl (pi_range1 rfl T.range (pa_cons (pe_callB call_len_seq rfl T.len PySem.boot_len (pa_cons (pv 0) pa_nil)) pa_nil))
    (fun C s' H' fp=>⟨pg_name (i:=0) ndB1 rfl (Or.inl rfl),pts_one (pt_cmp (pc_dnotin hu1 (pv 0) (pv 1)) (by with_unfolding_all rfl)),pv 0⟩))
   (pss_cons (ps_set (i:=3) scBk.nd rfl (Or.inl rfl) (pe_lst pa_nil))
   (pss_cons (ps_set (i:=4) scBk.nd rfl (Or.inl rfl) (pe_ix ix_list (pv 2) pe_int (fun _ _=>rfl)))
   (pss_cons (ps_while PassesOwn.never (pt_cmpR (show OpR _ (compareOp .NotIn) (rIn K true) from op_notIn_seq) (pv 4) (pv 3) (by with_unfolding_all rfl))
    (pss_cons (ps_expr (pe_bm PySem.F.plainAttrs_list PySem.F.slot_list_append PySem.F.type_list_append mt_append (pv 3) (pa_cons (pv 4) pa_nil)))
    (pss_one (ps_set (i:=4) scBk.nd rfl (Or.inl rfl) (pe_callB (call_minL rfl) rfl T.min PyProof.Rows.boot_min (pa_cons (pe_thaw (pe_comp (own:=["other"]) (capN:=["numbers"]) (cap:=[1]) bkB2 rfl (pi_keys (pe_ix ix_list (pv 0) (pv 4) (fun _ _=>rfl)))
     (fun C s' H' fp=>⟨pg_name (i:=0) ndNx rfl (Or.inl rfl),pts_one (pt_cmp (pc_dnotin hu1 (pv 0) (pv 1)) (by with_unfolding_all rfl)),pv 0⟩))) pa_nil))))))
   (pss_one (ps_ret (pe_slice sl_list (pv 3) (po_some (pe_bm PySem.F.plainAttrs_list PySem.F.slot_list_index PySem.F.type_list_index mt_lindex (pv 3) (pa_cons (pv 4) pa_nil))) po_none)))))),?_⟩
  have hlen:(ds.map V.ref).length=L.length:=by rw [List.length_map]; exact hL.len
  refine ⟨_,rfl,D,_,rfl, .inl (SqL.of hL.l),(L.length:Int),by rw [hlen],by omega,by omega,?_⟩
  rw [Int.toNat_natCast]
  refine comp_rng (lo:=0) (fun k=>!decide (k ∈ ks a)) (fun k=>V.int k) (by rw [PySem.sizeLine_eq]; omega) (fun i acc N hi h=>?_) (fun Lf hLf=>?_)
  ·rw [Int.zero_add]
   refine ⟨_,rfl,_,rfl,nu,_,rfl,DGet.k (k:=Sum.inl (i:Int)) hnu,_,rfl,?_⟩
   rw [lk_is]
   cases hb:(!decide (i ∈ ks a)) with
   | true =>
    rw [hb] at h
    exact iteT ⟨_,rfl,h⟩
   | false =>
    rw [hb] at h
    exact iteF h
  have eL:(List.filter (fun k=>!decide (k ∈ ks a)) (List.range L.length)).map (fun k:Nat=>V.int (k:Int))=nV (leftN L a):=rfl
  show gName 2 (V.ref Lf) _ (upd H Lf (.lst ((List.filter (fun k=>!decide (k ∈ ks a)) (List.range L.length)).map (fun k:Nat=>V.int (k:Int))))) _
  rw [eL]
  have s0:=(Same.refl H).new (o := .lst (nV (leftN L a))) hLf
  have g0:(upd H Lf (.lst (nV (leftN L a)))) Lf=some (.lst (nV (leftN L a))):=upd_same
  generalize upd H Lf (.lst (nV (leftN L a)))=H0 at s0 g0 ⊢
  refine ⟨Nat.zero_le _,fun Wk hWk=>?_⟩
  have hWk0:H Wk=none:=s0.free hWk
  have s1:=s0.new (o := .lst []) hWk
  have gl1:(upd H0 Wk (.lst [])) Lf=some (.lst (nV (leftN L a))):=by rw [upd_ne (ne_of_none g0 hWk)]; exact g0
  have gw1:(upd H0 Wk (.lst [])) Wk=some (.lst (nV [])):=upd_same
  generalize upd H0 Wk (.lst [])=H1 at s1 gl1 gw1 ⊢
  have hne:=left_ne hal
  have hhd:(nV (leftN L a))[0]? = some (.int (((leftN L a).headD 0:Nat):Int)):=by
   cases e:leftN L a with
   | nil=>exact absurd e hne
   | cons z t=>rfl
  refine ⟨_,rfl,Lf,_,0,_,rfl,rfl,SqL.of gl1,atI_nat (j:=0) hhd,?_⟩
  have hW0:WkOk L a [] ((leftN L a).headD 0):=by
   cases e:leftN L a with
   | nil=>exact absurd e hne
   | cons z t =>
    have hz:z ∈ leftN L a:=by rw [e]; exact List.mem_cons_self
    obtain ⟨h1,h2⟩:=List.mem_filter.mp hz
    exact ⟨List.nodup_nil,(fun y hy=>by cases hy),⟨List.mem_range.mp h1,by simpa using h2⟩,(fun i x y hx=>by simp at hx),fun x hx=>by simp at hx⟩
  refine ⟨fun m σ H'=>∃ (wk:List Nat) (l f:Nat),m=f/\WkOk L a wk l/\walkN L a=walkR L a f wk l/\L.length + 1 <= f + wk.length/\Same H H'/\H' Wk=some (.lst (nV wk))/\σ=[some (.ref D),some (.ref nu),some (.ref Lf),some (.ref Wk),some (.int (l:Nat))],
   ⟨L.length + 1,[],_,L.length + 1,rfl,hW0,rfl,by simp,s1,gw1,rfl⟩,?_⟩
  rintro m σ H2 ⟨wk,l,f,rfl,hW,hrun,hf,s2,gw2,rfl⟩
  have hwl:wk.length <= L.length:=nd_le _ _ hW.nd fun x hx=>(hW.lt x hx).1
  refine ⟨_,rfl,_,rfl,Wk,_,rfl, .inl (SqL.of gw2),rfl,flat_nV wk,_,rfl,?_⟩
  show if (!inV (.int (l:Int)) (nV wk))=true then _ else _
  rw [in_nV]
  cases m with
  | zero=>omega
  | succ m =>
  rw [walkR] at hrun
  by_cases hm:l ∈ wk
  ·rw [decide_eq_true hm]
   rw [if_pos hm] at hrun
   have hii:wk.idxOf l <= wk.length:=Nat.le_of_lt (List.idxOf_lt_length_of_mem hm)
   refine iteF ⟨_,rfl,_,rfl, .inl ⟨rfl,_,SqL.of gw2⟩,_,rfl,Wk,iz wk,(l:Int),rfl,rfl,by rw [gw2]; exact congrArg (fun z=>some (HO.lst z)) (natV_iz wk),iz_mem.mpr ⟨l,hm,rfl⟩,by unfold iz; rw [List.length_map]; omega,_,rfl,Wk,_,rfl,SqL.of gw2,fun R hR=>?_⟩
   rw [iz_idx,cut_from wk hii]
   refine q R _ (s2.new hR) ?_
   rw [upd_same,hrun]
  ·rw [decide_eq_false hm]
   rw [if_neg hm] at hrun
   have hstep:=hW.step hlt hfr hm
   refine iteT ⟨fun σ' H'=>Same H H'/\H' Wk=some (.lst (nV (wk ++ [l])))/\σ' = [some (.ref D),some (.ref nu),some (.ref Lf),some (.ref Wk),some (.int ((minN (backs L a l):Nat):Int))],?_,?_⟩
   ·rintro σ' H' ⟨s',gw',rfl⟩
    exact ⟨m,Nat.lt_succ_self _,wk ++ [l],_,m,rfl,hstep,hrun,by rw [List.length_append,List.length_singleton]; omega,s',gw',rfl⟩
   refine ⟨_,rfl, .inl ⟨rfl,_,SqL.of gw2⟩,_,rfl,Wk,_,_,rfl,rfl,gw2,by rw [PySem.sizeLine_eq,nV_len]; omega,?_⟩
   have s3:Same H (upd H2 Wk (.lst (nV wk ++ [V.int (l:Int)]))):=fun b o e=>by rw [upd_ne (ne_of_none e hWk0)]; exact s2 _ _ e
   have gw3:(upd H2 Wk (.lst (nV wk ++ [V.int (l:Int)]))) Wk=some (.lst (nV (wk ++ [l]))):=by rw [upd_same,nV_app]; rfl
   generalize upd H2 Wk (.lst (nV wk ++ [V.int (l:Int)]))=H3 at s3 gw3 ⊢
   have hll:l < ds.length:=by rw [hL.len]; exact hW.cur.1
   have hd0:=List.getElem?_eq_getElem hll
   generalize ds[l]=d at hd0
   have gd:=s3 _ _ (hL.d l d hd0)
   have gnu:=s3 _ _ hnu
   have ndu:nu ≠ d:=fun z=>hnd (by rw [z]; exact List.mem_of_getElem? hd0)
   refine ⟨_,rfl,_,rfl,D,_,_, .ref d,rfl,rfl,SqL.of (s3 _ _ hL.l),atI_nat (by rw [List.getElem?_map,hd0]; rfl),d,_,rfl,gd,fun o=>?_⟩
   refine comp_keys (fun k=>!(valV (dV a) k).isSome) kV (by rw [dV_len,PySem.sizeLine_eq]; have:=hl2 l; omega) upd_same (fun k acc N hk hN=>?_) (fun B hB=>?_)
   ·refine ⟨_,rfl,_,rfl,nu,_,rfl,DGet.k (k:=k) (by rw [upd_ne ndu]; exact gnu),_,rfl,?_⟩
    cases hb:(!(valV (dV a) k).isSome) with
    | true =>
     rw [hb] at hN
     exact iteT ⟨_,rfl,hN⟩
    | false =>
     rw [hb] at hN
     exact iteF hN
   have nf:∀ o' u',H d ≠ some (.frz o' u'):=fun o' u' z=>by rw [hL.d l d hd0] at z; cases z
   have nBd:B ≠ d:=Ne.symm (ne_of_none (H:=upd H3 d (.frz o (.dK (dV (L.getD l []))))) upd_same hB)
   have hB3:H3 B=none:=by rw [upd_ne nBd] at hB; exact hB
   refine ⟨d,o, .dK (dV (L.getD l [])),by rw [upd_ne (Ne.symm nBd)]; exact upd_same,nf,?_⟩
   rw [upd_comm nBd,upd_back gd,backs_V]
   have s4:=s3.new (o := .lst (nV (backs L a l))) hB3
   have g4:(upd H3 B (.lst (nV (backs L a l)))) B=some (.lst ((iz (backs L a l)).map V.int)):=by rw [upd_same]; exact congrArg (fun z=>some (HO.lst z)) (natV_iz _)
   have gw4:(upd H3 B (.lst (nV (backs L a l)))) Wk=some (.lst (nV (wk ++ [l]))):=by rw [upd_ne (ne_of_none gw3 hB3)]; exact gw3
   have hbn:=backs_ne hfr hW.cur.1 hW.cur.2
   refine ⟨B,iz (backs L a l),rfl,SqL.of g4,fun z=>hbn (List.map_eq_nil_iff.mp z),fun k hk hle=>?_⟩
   obtain ⟨k',hk',rfl⟩:=iz_mem.mp hk
   have ek:k' = minN (backs L a l):=minN_eq hk' fun z hz=>by
    have:=hle (z:Int) (iz_mem.mpr ⟨z,hz,rfl⟩)
    omega
   rw [ek]
   exact ⟨s4,gw4,rfl⟩
theorem scRg:FnScope NRg ["leads", "numbers"] (defScope sRing):=⟨rfl,rfl,rfl,by decide +kernel,rfl,by decide +kernel,by decide +kernel⟩
theorem bkRg:Blk NRg (defScope sRing) (retCall ((defBody sRing).getD 2 (.Pass ⟨0,0,0,0⟩))) ["leads"] [0]:=⟨rfl,by decide +kernel,by decide +kernel,by decide +kernel,rfl,by decide +kernel⟩
theorem ndRg:(["lane", "after", "leads"]:List Str).Nodup:=by decide +kernel
theorem ok_ring {f fx:Addr} {fd dx:FuncData} (F:Fun K "find_ring" "find_ring" sRing f fd) (T:Txt mg) (mx:mg "walk_back" = some (.ref fx)) (kx:PySem.W.keepIn K (.ref fx)=true) (bx:Binds K dx ["leads", "numbers"] []) (Gx:FnOk P w K mg base CX0 1 fx dx ["leads", "numbers"] spBack) :
  FnOk P w K mg base CX0 2 f fd ["leads", "numbers"] spRing:=by
 refine F.ok scRg (fun vs H Q E h=>?_) (fun cdv A outer s H vs Q E hr h=>?_)
 ·obtain ⟨D,nu,ds,L,a,rfl,_⟩:=h
  rfl
 ·obtain ⟨D,nu,ds,L,a,rfl,hL,hnu,hnd,hl1,hl2,hlt,hfr,hal,q⟩:=h
  have hu1:=Nat.lt_of_le_of_lt (Nat.add_le_add_left (show 1 <= 64 by decide) _) hr.units
  refine ⟨_,pss_cons (ps_set (i:=2) scRg.nd rfl (Or.inl rfl) (pe_lstRev rfl rfl T.list rfl T.revd (pa_cons (pe_call Gx hr rfl mx kx bx .nil pass0 (pa_cons (pv 0) (pa_cons (pv 1) pa_nil))) pa_nil)))
   (pss_cons (ps_set (i:=3) scRg.nd rfl (Or.inl rfl) (pe_op op_cat (pe_slice sl_list (pv 2) (po_some pe_int) po_none) (pe_slice sl_list (pv 2) po_none (po_some pe_int))))
   (pss_one (ps_ret (pe_callTy call_tuple_of rfl T.tuple PySem.Pv.boot_tuple (pa_cons (pe_comp (own:=["lane", "after"]) (capN:=["leads"]) (cap:=[0]) bkRg rfl (pi_zip rfl T.zip (pa_cons (pv 2) (pa_cons (pv 3) pa_nil)))
    (fun C s' H' fp=>⟨(show PG _ _ (gTup K 2 _) from pg_tup rfl (pgs_cons (pg_name (i:=0) ndRg rfl (Or.inl rfl)) (pgs_cons (pg_name (i:=1) ndRg rfl (Or.inl rfl)) pgs_nil))),pts_nil,
     pe_tup (pa_cons (pv 0) (pa_cons (pe_dget hu1 (pe_ix (show IxR _ (rIxL K) from ix_list) (pv 2) (pv 1) (fun _ _=>rfl)) (pv 0) (fun _ _=>rfl)) pa_nil))⟩)) pa_nil))))),?_⟩
  have hcyc:=walk_ok hlt hfr hal
  refine ⟨_,rfl,_,rfl,D,nu,ds,L,a,rfl,hL,hnu,hnd,hl1,hl2,hlt,hfr,hal,fun R H1 s1 gR=>⟨R,_,rfl,SqL.of gR,fun Ln hLn=>?_⟩⟩
  generalize walkN L a=cy at hcyc gR q
  have hcl:cy.length <= L.length:=nd_le _ _ hcyc.nd hcyc.lt
  have erev:(nV cy).reverse=nV cy.reverse:=by unfold nV; rw [List.map_reverse]
  rw [erev]
  have hfwd:=hcyc.fwd
  have hrl:cy.reverse.length=cy.length:=List.length_reverse ..
  have hrlt:∀ x ∈ cy.reverse,x < L.length:=fun x hx=>hcyc.lt x (List.mem_reverse.mp hx)
  generalize cy.reverse=r at hfwd hrl hrlt q
  have s2:=s1.new (o := .lst (nV r)) hLn
  have g2:(upd H1 Ln (.lst (nV r))) Ln=some (.lst (nV r)):=upd_same
  generalize upd H1 Ln (.lst (nV r))=H2 at s2 g2 ⊢
  have hrne:1 <= r.length:=by rw [hrl]; exact List.length_pos_iff.mpr hcyc.ne
  refine ⟨_,rfl,1,rfl,Ln,_,rfl,SqL.of g2,fun c1 hc1=>?_⟩
  rw [show cutV (nV r) (some 1) none=nV (r.drop 1) from cut_from r (i:=1) hrne]
  have s3:=s2.new (o := .lst (nV (r.drop 1))) hc1
  have g3:(upd H2 c1 (.lst (nV (r.drop 1)))) Ln=some (.lst (nV r)):=by rw [upd_ne (ne_of_none g2 hc1)]; exact g2
  have g3':(upd H2 c1 (.lst (nV (r.drop 1)))) c1=some (.lst (nV (r.drop 1))):=upd_same
  generalize upd H2 c1 (.lst (nV (r.drop 1)))=H3 at s3 g3 g3' ⊢
  refine ⟨_,rfl,1,rfl,Ln,_,rfl,SqL.of g3,fun c2 hc2=>?_⟩
  rw [show cutV (nV r) none (some 1)=nV (r.take 1) from cut_to r 1]
  have s4:=s3.new (o := .lst (nV (r.take 1))) hc2
  have g4:(upd H3 c2 (.lst (nV (r.take 1)))) Ln=some (.lst (nV r)):=by rw [upd_ne (ne_of_none g3 hc2)]; exact g3
  have g4a:(upd H3 c2 (.lst (nV (r.take 1)))) c1=some (.lst (nV (r.drop 1))):=by rw [upd_ne (ne_of_none g3' hc2)]; exact g3'
  have g4b:(upd H3 c2 (.lst (nV (r.take 1)))) c2=some (.lst (nV (r.take 1))):=upd_same
  generalize upd H3 c2 (.lst (nV (r.take 1)))=H4 at s4 g4 g4a g4b ⊢
  refine ⟨c1,c2,_,_,rfl,rfl,g4a,g4b,by rw [nV_len,nV_len,List.length_drop,List.length_take,PySem.sizeLine_eq]; omega,fun Fo hFo=>?_⟩
  rw [← nV_app]
  have s5:=s4.new (o := .lst (nV (rot r))) hFo
  have g5:(upd H4 Fo (.lst (nV (rot r)))) Ln=some (.lst (nV r)):=by rw [upd_ne (ne_of_none g4 hFo)]; exact g4
  have g5':(upd H4 Fo (.lst (nV (rot r)))) Fo=some (.lst (nV (rot r))):=upd_same
  show gName 3 (V.ref Fo) _ (upd H4 Fo (.lst (nV (rot r)))) _
  generalize upd H4 Fo (.lst (nV (rot r)))=H5 at s5 g5 g5' ⊢
  have hrt:=rot_len r
  have hrot:∀ x ∈ rot r,x ∈ r:=fun x hx=>by
   unfold rot at hx
   rcases List.mem_append.mp hx with h | h
   ·exact List.mem_of_mem_drop h
   ·exact List.mem_of_mem_take h
  refine ⟨_,rfl,_,rfl,Ln,Fo,rfl,⟨_,SqL.of g5⟩,⟨_,SqL.of g5'⟩,comp_gen r.length (by rw [PySem.sizeLine_eq]; omega) (fun i acc H6=>Same H5 H6/\Lns H6 acc ((((r.zip (rot r)).take i).map fun p=>(p.1,(valD (L.getD p.2 []) p.1).getD 0)).map pI)) ⟨Same.refl _, .nil⟩ (fun i acc H6 h=>?_) ?_ ?_⟩
  ·rw [Paired.length h.2,List.length_map,List.length_map]
   exact List.length_take_le _ _
  ·rintro i acc H6 hi ⟨s6,hU⟩
   have hx0:=List.getElem?_eq_getElem hi
   have hi2:i < (rot r).length:=by omega
   have hy0:=List.getElem?_eq_getElem hi2
   generalize r[i]=x at hx0
   generalize (rot r)[i]=y at hy0
   refine ⟨⟨_,_,_,_,SqL.of (s6 _ _ g5),SqL.of (s6 _ _ g5'),nV_get hx0,nV_get hy0⟩,fun z H7 hz=>?_⟩
   obtain ⟨p,hp,rfl,hz⟩:=hz
   obtain ⟨x',y',ex,ey,rfl⟩:=hz _ _ (SqL.of (s6 _ _ g5)) (SqL.of (s6 _ _ g5'))
   rw [nV_get hx0] at ex
   rw [nV_get hy0] at ey
   have ex:=Option.some.inj ex
   have ey:=Option.some.inj ey
   subst ex ey
   have s7:=s6.new (o := .tup [.int (x:Int), .int (y:Int)]) hp
   have hU7:=Lns.same ((Same.refl H6).new (o := .tup [.int (x:Int), .int (y:Int)]) hp) hU
   refine ⟨p,_,rfl,SqT.of upd_same,rfl,_,_,rfl,_,_,rfl,rfl,?_⟩
   generalize upd H6 p (.tup [.int (x:Int), .int (y:Int)])=H7 at s7 hU7 ⊢
   have hyl:y < L.length:=hrlt y (hrot y (List.mem_of_getElem? hy0))
   have hyd:y < ds.length:=by rw [hL.len]; exact hyl
   have hd0:=List.getElem?_eq_getElem hyd
   generalize ds[y]=d at hd0
   have gd:=s7 _ _ (s5 _ _ (hL.d y d hd0))
   obtain ⟨gl,hgl⟩:=val_some (hfwd i x y hx0 hy0)
   refine ⟨_,rfl,_,rfl,_,rfl,D,_,_, .ref d,rfl,rfl,SqL.of (s7 _ _ (s5 _ _ hL.l)),atI_nat (by rw [List.getElem?_map,hd0]; rfl),_,rfl,d, .int (gl:Int),rfl,?_,by show 2 <= sizeLine; decide,fun t ht=>?_⟩
   ·have e:=lk_val x (L.getD y [])
    rw [hgl] at e
    have e2:=DGet.k (k:=Sum.inl (x:Int)) gd
    rw [e] at e2
    exact e2
   refine ⟨s7.new ht,?_⟩
   have ez:(r.zip (rot r))[i]? = some (x,y):=by rw [List.getElem?_zip_eq_some]; exact ⟨hx0,hy0⟩
   rw [List.take_succ,ez,List.map_append,List.map_append]
   refine Lns.snoc ⟨t,rfl,?_⟩ (Lns.same ((Same.refl H7).new ht) hU7)
   rw [upd_same]
   show some (HO.tup [V.int (x:Int),V.int (gl:Int)])=some (HO.tup [V.int ((x:Nat):Int),V.int (((valD (L.getD y []) x).getD 0:Nat):Int)])
   rw [hgl]; rfl
  ·rintro acc H6 ⟨s6,hU⟩
   refine ⟨⟨_,_,SqL.of (s6 _ _ g5),SqL.of (s6 _ _ g5'), .inl (by rw [List.getElem?_eq_none]; rw [nV_len]; exact Nat.le_refl _)⟩,fun Cm hCm=>?_⟩
   have hU2:=Lns.same ((Same.refl H6).new (o := .lst acc) hCm) hU
   have s7:=(s5.trans s6).new (o := .lst acc) hCm
   have g7:(upd H6 Cm (.lst acc)) Cm=some (.lst acc):=upd_same
   generalize upd H6 Cm (.lst acc)=H7 at hU2 s7 g7 ⊢
   refine ⟨Cm,_,rfl, .inl ⟨SqL.of g7,fun t ht=>?_⟩⟩
   have hz:(r.zip (rot r)).length=r.length:=by rw [List.length_zip,hrt,Nat.min_self]
   rw [List.take_of_length_le (by omega)] at hU2
   exact q t acc _ (s7.new ht) upd_same (Lns.same ((Same.refl H7).new ht) hU2)
end
end K33
namespace K33
open PySem L2 LkM
inductive LkR
 | lost (q:Nat × Nat)
 | ring (r:List (Nat × Nat))
 | paper (N:List Nat)
def ldN (wy:Oks->Nat) (ps:List (Int × Int)) (n:Nat):Ld:=leadsN (onN wy ps) (gsN (metN wy ps n n)) ps.length
def lookN (wy:Oks->Nat) (ps:List (Int × Int)) (n:Nat):LkR:=match lostN wy ps n with
 | some q => .lost q
 | none=>if (numN (ldN wy ps n)).length < ps.length then .ring (ringN (ldN wy ps n) (walkN (ldN wy ps n) (numN (ldN wy ps n))).reverse) else .paper (numsOf (numN (ldN wy ps n)) ps.length)
def LookV (H:Hp) (v:V) (S:List Nat):LkR->Prop
 | .lost q=>∃ t p,v = .ref t/\H t=some (.tup [.str "lost", .ref p])/\H p=some (.tup [.int (q.1:Int), .int (q.2:Int)])
 | .ring r=>∃ t p us,v = .ref t/\H t=some (.tup [.str "ring", .ref p])/\H p=some (.tup us)/\Lns H us (r.map pI)
 | .paper N=>∃ t p a b,v = .ref t/\H t=some (.tup [.str "paper", .ref p])/\H p=some (.tup [.ref a, .ref b])/\H a=some (.tup (nV N))/\H b=some (.tup (nV S))
def spLook (c:Cs) (C:Addr) (J:TIn):Sp:=fun vs H Q _=>∃ (x lx ldx lt:Addr) (n:Nat) (tvs:List V) (ps:List (Int × Int)) (wy:Oks->Nat),vs=[.ref x]/\TabIn c C J H x lx ldx lt n tvs ps wy /\
 ∀ (v:V) (H':Hp),Same H H'->LookV H' v (metN wy ps n n) (lookN wy ps n)->Q v H'
abbrev NLk:List Str:=["table", "pair", "sets", "leads", "numbers"]
def retPap (s:Stmt):Scope:=match s with
 | .Return (some (.Tuple [_, .Tuple [.Call _ [.ListComp _ _ sc _] _ _,_] _ _] _ _)) _=>sc
 | _=>noScope
section
variable {P:Program} {w:World} {K:PySem.W.Frag} {mg:Str->Option Value} {base:Heap}
theorem scLk:FnScope NLk ["table"] (defScope sLook):=⟨rfl,rfl,rfl,by decide +kernel,rfl,by decide +kernel,by decide +kernel⟩
theorem bkLk:Blk NLk (defScope sLook) (retPap ((defBody sLook).getD 6 (.Pass ⟨0,0,0,0⟩))) ["numbers"] [4]:=⟨rfl,by decide +kernel,by decide +kernel,by decide +kernel,rfl,by decide +kernel⟩
theorem ok_look {c:Cs} {J:TIn} {C f fw fl fm fa fb fr:Addr} {fd dw dl dm da db dr:FuncData} (F:Fun K "look" "look" sLook f fd) (T:Txt mg) (W:Way K C fw dw J)
  (ml:mg "lost" = some (.ref fl)) (kl:PySem.W.keepIn K (.ref fl)=true) (bl:Binds K dl ["table"] []) (Gl:FnOk P w K mg base CX0 7 fl dl ["table"] (spLost c C J))
  (mm:mg "met" = some (.ref fm)) (km:PySem.W.keepIn K (.ref fm)=true) (bm:Binds K dm ["table"] []) (Gm:FnOk P w K mg base CX0 6 fm dm ["table"] (spMet c C J))
  (ma:mg "leads_of" = some (.ref fa)) (ka:PySem.W.keepIn K (.ref fa)=true) (ba:Binds K da ["table", "sets"] []) (Ga:FnOk P w K mg base CX0 5 fa da ["table", "sets"] (spLeads c C J))
  (mb:mg "number_lanes" = some (.ref fb)) (kb:PySem.W.keepIn K (.ref fb)=true) (bb:Binds K db ["leads"] []) (Gb:FnOk P w K mg base CX0 2 fb db ["leads"] spNumb)
  (mr:mg "find_ring" = some (.ref fr)) (kr:PySem.W.keepIn K (.ref fr)=true) (br:Binds K dr ["leads", "numbers"] []) (Gr:FnOk P w K mg base CX0 2 fr dr ["leads", "numbers"] spRing) :
  FnOk P w K mg base CX0 8 f fd ["table"] (spLook c C J):=by
 refine F.ok scLk (fun vs H Q E h=>?_) (fun cdv A outer s H vs Q E hr h=>?_)
 ·obtain ⟨x,lx,ldx,lt,n,tvs,ps,wy,rfl,_⟩:=h
  rfl
 ·obtain ⟨x,lx,ldx,lt,n,tvs,ps,wy,rfl,hT,q⟩:=h
  have hr6:Room 6 _:=hr.mono (by decide)
  have hr5:Room 5 _:=hr.mono (by decide)
  have hr2:Room 2 _:=hr.mono (by decide)
  have hu1:=Nat.lt_of_le_of_lt (Nat.add_le_add_left (show 1 <= 64 by decide) _) hr.units
  have hn:=hT.n12
  have h40:=hT.few
  refine ⟨_,pss_cons (ps_set (i:=1) scLk.nd rfl (Or.inl rfl) (pe_call Gl hr rfl ml kl bl .nil pass0 (pa_cons (pv 0) pa_nil)))
   (pss_cons (ps_if (pt_cmpR op_notN (pv 1) pe_non (nomark _)) (pss_one (ps_ret (pe_tup (pa_cons pe_str (pa_cons (pv 1) pa_nil))))) pss_nil)
   (pss_cons (ps_set (i:=2) scLk.nd rfl (Or.inl rfl) (pe_call Gm hr6 rfl mm km bm .nil pass0 (pa_cons (pv 0) pa_nil)))
   (pss_cons (ps_set (i:=3) scLk.nd rfl (Or.inl rfl) (pe_call Ga hr5 rfl ma ka ba .nil pass0 (pa_cons (pv 0) (pa_cons (pv 2) pa_nil))))
   (pss_cons (ps_set (i:=4) scLk.nd rfl (Or.inr rfl) (pe_call Gb hr2 rfl mb kb bb .nil pass0 (pa_cons (pv 3) pa_nil)))
   (pss_cons (ps_if (pt_cmpR op_lt (pe_callB call_lenD rfl T.len PySem.boot_len (pa_cons (pv 4) pa_nil)) (pe_callB call_len_seq rfl T.len PySem.boot_len (pa_cons (pv 2) pa_nil)) (nomark _))
    (pss_one (ps_ret (pe_tup (pa_cons pe_str (pa_cons (pe_call Gr hr2 rfl mr kr br .nil pass0 (pa_cons (pv 3) (pa_cons (pv 4) pa_nil))) pa_nil))))) pss_nil)
   (pss_one (ps_ret (pe_tup (pa_cons pe_str (pa_cons (pe_tup (pa_cons (pe_callTy call_tuple_of rfl T.tuple PySem.Pv.boot_tuple (pa_cons (pe_comp (own:=["lane"]) (capN:=["numbers"]) (cap:=[4]) bkLk rfl
     (pi_range1 rfl T.range (pa_cons (pe_callB call_len_seq rfl T.len PySem.boot_len (pa_cons (pv 2) pa_nil)) pa_nil))
     (fun C s' H' fp=>⟨pg_name (i:=0) ndB1 rfl (Or.inl rfl),pts_nil,pe_dget hu1 (pv 1) (pv 0) (fun _ _=>rfl)⟩)) pa_nil)) (pa_cons (pv 2) pa_nil))) pa_nil)))))))))),?_⟩
  refine ⟨_,rfl,x,lx,ldx,lt,n,tvs,ps,wy,rfl,hT,fun v H1 s1 hv=>?_⟩
  refine ⟨_,rfl,rfl,_,rfl,?_⟩
  unfold lookN at q
  cases hlo:lostN wy ps n with
  | some p =>
   rw [hlo] at hv q
   obtain ⟨t,rfl,gt⟩:=hv
   refine iteT ⟨_,rfl,by show 2 <= sizeLine; decide,fun t2 ht2=>?_⟩
   exact q _ _ (s1.new ht2) ⟨t2,t,rfl,upd_same,by rw [upd_ne (ne_of_none gt ht2)]; exact gt⟩
  | none =>
  rw [hlo] at hv q
  have hv:v = .non:=hv
  subst hv
  refine iteF ⟨_,rfl,x,lx,ldx,lt,n,tvs,ps,wy,rfl,hT.same W s1,fun Se H2 s2 hSe gS=>?_⟩
  have hSl:=met_len wy ps n n
  have hSlt:=met_lt wy ps n n (Nat.le_refl _)
  refine ⟨_,rfl,_,rfl,x,lx,ldx,lt,Se,n,tvs,ps,wy,metN wy ps n n,rfl,hT.same W (s1.trans s2),gS,hSl,hSlt,fun D ds H3 s3 hLd=>?_⟩
  have hok:LdOk (onN wy ps) (gsN (metN wy ps n n)) ps.length (ldN wy ps n):=leads_ok
  have hLd:LdAt H3 D ds (ldN wy ps n):=hLd
  dsimp only at q
  generalize ldN wy ps n=L at hok hLd q
  have hLl:=hok.len
  have hfew:∀ w,(L.getD w []).length <= 1000:=fun w=>Nat.le_trans (hok.few w) (by omega)
  have hlt:∀ w,∀ z ∈ ks (L.getD w []),z < L.length:=fun w z hz=>by
   obtain ⟨y,hy,rfl⟩:=mem_ks hz
   rw [hLl]; exact (hok.of w y hy).1
  obtain ⟨m,hN,hfr⟩:=num_ok L
  refine ⟨_,rfl,D,ds,L,rfl,hLd,by omega,hfew,fun nu H4 s4 hnu hnd gnu=>?_⟩
  have gS4:=s4 _ _ (s3 _ _ gS)
  have s04:=s1.trans (s2.trans (s3.trans s4))
  generalize metN wy ps n n=S at gS4 hSl hSlt q
  generalize numN L=a at gnu hN hfr q
  have hNl:=hN.len
  refine ⟨_,rfl,nu,_,rfl,gnu,_,rfl,Se,_,rfl, .inr (SqT.of gS4),_,_,rfl,rfl,_,rfl,?_⟩
  rw [dV_len,nV_len,hSl]
  by_cases hlen:a.length < ps.length
  ·rw [if_pos hlen] at q
   rw [decide_eq_true (show ((a.length:Nat):Int) < ((ps.length:Nat):Int) by omega)]
   refine iteT ⟨_,rfl,_,rfl,D,nu,ds,L,a,rfl,hLd.same s4,gnu,hnd,by omega,hfew,hlt,hfr,by omega,fun R us H5 s5 gR hU=>⟨by show 2 <= sizeLine; decide,fun t ht=>?_⟩⟩
   exact q _ _ ((s04.trans s5).new ht) ⟨t,R,us,rfl,upd_same,by rw [upd_ne (ne_of_none gR ht)]; exact gR,Lns.same ((Same.refl H5).new ht) hU⟩
  ·rw [if_neg hlen] at q
   rw [decide_eq_false (show ¬ ((a.length:Nat):Int) < ((ps.length:Nat):Int) by omega)]
   have full:∀ z,z < ps.length->z ∈ ks a:=nd_full hN.nd (fun z hz=>by rw [← hLl]; exact hN.lt z hz) (by unfold ks; rw [List.length_map]; omega)
   refine iteF ⟨_,rfl,Se,_,rfl, .inr (SqT.of gS4),(ps.length:Int),by rw [nV_len,hSl],by omega,by omega,?_⟩
   rw [Int.toNat_natCast]
   refine comp_rng (lo:=0) (fun _=>true) (fun k=>V.int (((valD a k).getD 0:Nat):Int)) (by rw [PySem.sizeLine_eq]; omega) (fun i acc N hi h=>?_) (fun Cm hCm=>?_)
   ·rw [Int.zero_add]
    obtain ⟨g,hg⟩:=val_some (full i hi)
    refine ⟨_,rfl,_,rfl,nu, .int (g:Int),rfl,?_,?_⟩
    ·have e:=lk_val i a
     rw [hg] at e
     have e2:=DGet.k (k:=Sum.inl (i:Int)) gnu
     rw [e] at e2
     exact e2
    ·rw [hg] at h
     exact h
   have eN:(List.filter (fun _=>true) (List.range ps.length)).map (fun k:Nat=>V.int (((valD a k).getD 0:Nat):Int))=nV (numsOf a ps.length):=by
    rw [List.filter_eq_self.mpr (fun _ _=>rfl)]
    unfold nV LkM.numsOf
    rw [List.map_map]; rfl
   rw [eN]
   have s5:=s04.new (o := .lst (nV (numsOf a ps.length))) hCm
   have g5:(upd H4 Cm (.lst (nV (numsOf a ps.length)))) Cm=some (.lst (nV (numsOf a ps.length))):=upd_same
   have gS5:(upd H4 Cm (.lst (nV (numsOf a ps.length)))) Se=some (.tup (nV S)):=by rw [upd_ne (ne_of_none gS4 hCm)]; exact gS4
   generalize upd H4 Cm (.lst (nV (numsOf a ps.length)))=H5 at s5 g5 gS5 ⊢
   refine ⟨Cm,_,rfl, .inl ⟨SqL.of g5,fun ta hta=>?_⟩⟩
   have s6:=s5.new (o := .tup (nV (numsOf a ps.length))) hta
   have g6:(upd H5 ta (.tup (nV (numsOf a ps.length)))) ta=some (.tup (nV (numsOf a ps.length))):=upd_same
   have gS6:(upd H5 ta (.tup (nV (numsOf a ps.length)))) Se=some (.tup (nV S)):=by rw [upd_ne (ne_of_none gS5 hta)]; exact gS5
   generalize upd H5 ta (.tup (nV (numsOf a ps.length)))=H6 at s6 g6 gS6 ⊢
   refine ⟨_,rfl,by show 2 <= sizeLine; decide,fun tp htp=>?_⟩
   have s7:=s6.new (o := .tup [.ref ta, .ref Se]) htp
   have g7:(upd H6 tp (.tup [.ref ta, .ref Se])) tp=some (.tup [.ref ta, .ref Se]):=upd_same
   have ga7:(upd H6 tp (.tup [.ref ta, .ref Se])) ta=some (.tup (nV (numsOf a ps.length))):=by rw [upd_ne (ne_of_none g6 htp)]; exact g6
   have gS7:(upd H6 tp (.tup [.ref ta, .ref Se])) Se=some (.tup (nV S)):=by rw [upd_ne (ne_of_none gS6 htp)]; exact gS6
   generalize upd H6 tp (.tup [.ref ta, .ref Se])=H7 at s7 g7 ga7 gS7 ⊢
   refine ⟨by show 2 <= sizeLine; decide,fun t ht=>?_⟩
   exact q _ _ (s7.new ht) ⟨t,tp,ta,Se,rfl,upd_same,by rw [upd_ne (ne_of_none g7 ht)]; exact g7,by rw [upd_ne (ne_of_none ga7 ht)]; exact ga7,by rw [upd_ne (ne_of_none gS7 ht)]; exact gS7⟩
end
end K33
namespace L2
open PySem
mutual
theorem Den.same {K:PySem.W.Frag} {H H':Hp} (s:Same H H'):∀ {x:V} {d:PyData},Den K H x d->Den K H' x d
 | _,_, .non => .non
 | _,_, .bl b => .bl b
 | _,_, .int i => .int i
 | _,_, .str x => .str x
 | _,_, .lst h t => .lst (s.seq h) (Dens.same s t)
 | _,_, .tup h t => .tup (Same.seqT s h) (Dens.same s t)
theorem Dens.same {K:PySem.W.Frag} {H H':Hp} (s:Same H H'):∀ {xs:List V} {ds:List PyData},Dens K H xs ds->Dens K H' xs ds
 | _,_, .nil => .nil
 | _,_, .cons h t => .cons (Den.same s h) (Dens.same s t)
end
end L2
namespace K33
open PySem L2
structure RowG (n:Nat) (ps:List (Int × Int)) (r:Rw):Prop where
 pg:∃ p g:Nat,r.p=(p:Int)/\r.g=(g:Int)/\p < n/\g < n/\g ≠ p/\r.c ∈ cames ps p
 s:∀ k ∈ r.s,k ∈ ixM Prod.fst ps r.p
 few:r.s.length <= 40
theorem rows_fit {n:Nat} {ps:List (Int × Int)} {rs:List Rw} (hg:∀ r ∈ rs,RowG n ps r) (nd:(rs.map keyN).Nodup):firstBad n ps rs rs.length=none:=by
 refine firstBad_none fun k hk=>?_
 have hr:rs[k]? = some rs[k]:=List.getElem?_eq_getElem hk
 have egd:rs.getD k ⟨0,0,none,[]⟩ = rs[k]:=by rw [List.getD_eq_getElem?_getD,hr]; rfl
 rw [egd,bad_fits]
 have hm:rs[k] ∈ rs:=List.getElem_mem hk
 have G:=hg _ hm
 obtain ⟨p,g,e1,e2,hp,hg',hpg,e3⟩:=G.pg
 have hfit:fits n ps rs[k]=true:=by
  unfold fits
  have ho:okP n (rs[k].p,rs[k].g)=true:=by
   unfold okP
   simp only [Bool.and_eq_true,decide_eq_true_eq,Bool.not_eq_true',decide_eq_false_iff_not]
   rw [e1,e2]
   refine ⟨⟨by omega,by omega⟩,⟨by omega,by omega⟩,by omega⟩
  rw [ho,Bool.true_and]
  have hs:(rs[k].s.all fun z=>decide (z ∈ ixM Prod.fst ps rs[k].p))=true:=by
   rw [List.all_eq_true]
   exact fun z hz=>decide_eq_true (G.s z hz)
  rw [hs,Bool.and_true]
  cases hc:rs[k].c with
  | none=>rfl
  | some z =>
   rw [hc] at e3
   rcases List.mem_cons.mp e3 with e | e
   ·cases e
   ·obtain ⟨z',hz,e⟩:=List.mem_map.mp e
    cases e
    show decide (z ∈ ixM Prod.snd ps rs[k].p)=true
    rw [e1]
    exact decide_eq_true hz
 rw [hfit]
 have hany:((rs.take k).any fun a=>decide (keyOf a=keyOf rs[k]))=false:=by
  rw [List.any_eq_false]
  intro a ha hd
  have e:=key_eq (of_decide_eq_true hd)
  obtain ⟨j,hj,ea⟩:=List.mem_take_iff_getElem.mp ha
  have hj':j < k:=by omega
  have:=List.pairwise_iff_getElem.mp nd j k (by rw [List.length_map]; omega) (by rw [List.length_map]; exact hk) hj'
  rw [List.getElem_map,List.getElem_map,ea] at this
  exact this e
 rw [hany]; rfl
theorem natV_snoc (us:List Nat) (k:Nat):natV us ++ [V.int (k:Int)]=natV (us ++ [k]):=by unfold natV; rw [List.map_append]; rfl
def cix:Option Nat->Nat
 | none=>0
 | some k=>k + 1
def allC (m:Nat):List (Option Nat):=none :: (List.range m).map some
theorem allC_V (m:Nat):[V.non] ++ ((List.range m).map fun k:Nat=>V.int (k:Int))=(allC m).map cV:=by
 unfold allC
 rw [List.map_cons,List.map_map]
 rfl
theorem allC_get {m j:Nat} {v:V} (h:((allC m).map cV)[j]? = some v):∃ c,v=cV c/\cix c=j/\∀ k,c=some k->k < m:=by
 rw [List.getElem?_map] at h
 cases j with
 | zero=>exact ⟨none,(Option.some.inj h).symm,rfl,fun k e=>by cases e⟩
 | succ j =>
  unfold allC at h
  rw [List.getElem?_cons_succ,List.getElem?_map] at h
  by_cases hj:j < m
  ·rw [List.getElem?_range hj] at h
   exact ⟨some j,(Option.some.inj h).symm,rfl,fun k e=>by cases e; exact hj⟩
  ·rw [List.getElem?_eq_none (by rw [List.length_range]; omega)] at h
   cases h
def Bef (i j t:Nat) (c:Option Nat) (xs:List Nat) (r:Rw):Prop:=r.g < (i:Int)∨(r.g=(i:Int)/\(cix r.c < j∨(r.c=c/\∃ p ∈ xs.take t,r.p=(p:Int))))
theorem Bef.new {i j t p:Nat} {c:Option Nat} {xs:List Nat} {rs:List Rw} (h:∀ r ∈ rs,Bef i j t c xs r) (hj:cix c=j) (hp:xs[t]? = some p) (nd:xs.Nodup) {us:List Nat}:keyN ⟨(p:Int),(i:Int),c,us⟩ ∉ rs.map keyN:=by
 intro hm
 obtain ⟨r,hr,e⟩:=List.mem_map.mp hm
 have e1:r.p=(p:Int):=congrArg (fun z=>z.1) e
 have e2:r.g=(i:Int):=congrArg (fun z=>z.2.1) e
 have e3:r.c=c:=congrArg (fun z=>z.2.2) e
 rcases h r hr with h | ⟨_,h | ⟨_,p',hp',e4⟩⟩
 ·omega
 ·rw [e3] at h; omega
 ·have:p' = p:=by omega
  subst this
  obtain ⟨k,hk,ek⟩:=List.mem_take_iff_getElem.mp hp'
  obtain ⟨ht,et⟩:=List.getElem?_eq_some_iff.mp hp
  have:=List.pairwise_iff_getElem.mp nd k t (by omega) ht (by omega)
  exact this (ek.trans et.symm)
theorem Bef.next {i j t:Nat} {c:Option Nat} {xs:List Nat} {r:Rw} (h:Bef i j t c xs r):Bef i j (t + 1) c xs r:=by
 rcases h with h | ⟨e,h | ⟨e2,p,hp,e3⟩⟩
 ·exact .inl h
 ·exact .inr ⟨e, .inl h⟩
 ·exact .inr ⟨e, .inr ⟨e2,p,by rw [List.take_succ]; exact List.mem_append_left _ hp,e3⟩⟩
theorem Bef.at {i j t p:Nat} {c:Option Nat} {xs:List Nat} (hp:xs[t]? = some p) {us:List Nat}:Bef i j (t + 1) c xs ⟨(p:Int),(i:Int),c,us⟩ :=
 .inr ⟨rfl, .inr ⟨rfl,p,by rw [List.take_succ,hp]; exact List.mem_append_right _ List.mem_cons_self,rfl⟩⟩
theorem Bef.end {i j t:Nat} {c:Option Nat} {xs:List Nat} {r:Rw} (h:Bef i j t c xs r) (hj:cix c=j) (c':Option Nat) (xs':List Nat):Bef i (j + 1) 0 c' xs' r:=by
 rcases h with h | ⟨e,h | ⟨e2,p,hp,e3⟩⟩
 ·exact .inl h
 ·exact .inr ⟨e, .inl (by omega)⟩
 ·exact .inr ⟨e, .inl (by rw [e2]; omega)⟩
theorem Bef.zero {i j:Nat} {c:Option Nat} {xs:List Nat} {r:Rw} (h:Bef i j 0 c xs r) (c':Option Nat) (xs':List Nat):Bef i j 0 c' xs' r:=by
 rcases h with h | ⟨e,h | ⟨e2,p,hp,e3⟩⟩
 ·exact .inl h
 ·exact .inr ⟨e, .inl h⟩
 ·rw [List.take_zero] at hp; cases hp
theorem Bef.up {i j:Nat} {c:Option Nat} {xs:List Nat} {r:Rw} (h:Bef i j 0 c xs r) (c':Option Nat) (xs':List Nat):Bef (i + 1) 0 0 c' xs' r:=by
 rcases h with h | ⟨e,_⟩
 ·exact .inl (by omega)
 ·exact .inl (by omega)
theorem good_land {n:Nat} {ps:List (Int × Int)} (hn:2 <= n/\n <= 12) (hl:ps.length <= 40) (h:∀ q ∈ ps,okP n q=true):dueOf n ps = .good:=by
 unfold dueOf
 rw [decide_eq_true (show (1:Int) <= (n:Int)/\(n:Int) <= 12 by omega),if_neg (by decide),if_neg (by omega),badIx_none h]
theorem told_way {n:Nat} {ps:List (Int × Int)} {rs:List Rw} {kvs:List Ent} (hg:∀ r ∈ rs,RowG n ps r) (hp:ps.length <= 40) (h:∀ k,valO kvs k=(lastR rs k).map setV) (k:Oks):(valO kvs k).getD (.int 0) = .int (wayOf rs k)/\wayOf rs k < 2 ^ 400:=by
 constructor
 ·rw [h]
  unfold wayOf
  cases lastR rs k with
  | none=>rfl
  | some r=>rfl
 ·unfold wayOf
  cases e:lastR rs k with
  | none=>show 0 < 2 ^ 400; decide
  | some r=>exact set_lt fun z hz=>by have:=ixM_le ((hg r (last_mem e)).s z hz); omega
theorem wl_told {n:Nat} {ps:List (Int × Int)} {rs:List Rw} (hg:∀ r ∈ rs,RowG n ps r) (k:Oks):(∀ z ∈ wl (wayOf rs) k,z < ps.length)/\(wl (wayOf rs) k).length <= ps.length:=by
 have hb:=Yd.bits_lt (wayOf rs k)
 have h1:∀ z ∈ wl (wayOf rs) k,z < ps.length:=by
  intro z hz
  have h:=(Yd.memN_mem hb).mp hz
  unfold wayOf at h
  cases e:lastR rs k with
  | none=>rw [e] at h; dsimp only at h; rw [Nat.zero_testBit] at h; cases h
  | some r =>
   rw [e] at h
   dsimp only at h
   rw [Yd.setN_bit,Nat.zero_testBit,Bool.false_or] at h
   exact ixM_le ((hg r (last_mem e)).s z (of_decide_eq_true h))
 exact ⟨h1,nodup_le _ _ ((Yd.memN_rise _ _).imp fun h=>Nat.ne_of_lt h) h1⟩
theorem bit0 (m k:Nat):decide (V.int (Builtin.bitAnd ((m:Int) / 2 ^ (k:Int).toNat) 1)=V.int 0) = !m.testBit k:=by
 rw [int_eq,Int.toNat_natCast]
 have e:((m:Int) / 2 ^ k)=((m / 2 ^ k:Nat):Int):=by
  rw [Int.natCast_ediv,Int.natCast_pow]
  rfl
 rw [e,show (1:Int)=((1:Nat):Int) from rfl,Yd.bitAnd_nat,Nat.testBit_eq_decide_div_mod_eq,Nat.and_one_is_mod]
 rcases (show m / 2 ^ k % 2=0∨m / 2 ^ k % 2=1 by omega) with z | z <;> rw [z] <;> rfl
theorem bit1 (m k:Nat):decide (V.int (Builtin.bitAnd ((m:Int) / 2 ^ (k:Int).toNat) 1)=V.int 1)=m.testBit k:=by
 rw [int_eq,Int.toNat_natCast,← Yd.has_bit m k]
end K33
namespace K33
open PySem L2 LkM
theorem addW_all {S:Nat->Prop} {l:Option Nat}:∀ {ws:List Nat} {a:As},(∀ z ∈ a.map (·.1),S z)->(∀ z ∈ ws,S z)->∀ z ∈ (addW l a ws).map (·.1),S z
 | [],a,h,_=>h
 | x :: ws,a,h,hw=>by
  rw [addW_cons]
  refine addW_all ?_ fun z hz=>hw z (List.mem_cons_of_mem _ hz)
  split
  ·exact h
  ·intro z hz
   rw [List.map_append] at hz
   rcases List.mem_append.mp hz with hz | hz
   ·exact h z hz
   ·rw [List.mem_singleton.mp hz]
    exact hw x List.mem_cons_self
theorem runA_all {S:Nat->Prop} {on:Nat->List Nat} (hon:∀ l,S l->∀ z ∈ on l,S z):∀ (f:Nat) (a:As) (i:Nat),(∀ z ∈ a.map (·.1),S z)->∀ z ∈ (runA on f a i).map (·.1),S z
 | 0,a,i,h=>h
 | f + 1,a,i,h=>by
  cases e:a[i]? with
  | none=>rw [runA_end e]; exact h
  | some x =>
   rw [runA_step e]
   exact runA_all hon f _ _ (addW_all h (hon x.1 (h x.1 (List.mem_map.mpr ⟨x,List.mem_of_getElem? e,rfl⟩))))
theorem met_all {S:Nat->Prop} {wy:Oks->Nat} {ps:List (Int × Int)} {n g:Nat} (h0:∀ p,p < n->∀ z ∈ wl wy [some (p:Int),some (g:Int),none],S z) (h1:∀ l,S l->∀ z ∈ onN wy ps g l,S z) {z:Nat} (h:MetA wy ps n g z):S z:=by
 refine runA_all h1 _ _ _ (addW_all (fun z hz=>by cases hz) fun z hz=>?_) z h
 obtain ⟨p,hp,hz⟩:=List.mem_flatMap.mp hz
 exact h0 p (List.mem_range.mp hp) z hz
theorem mem_mems {m p:Nat}:p ∈ mems m↔m.testBit p=true:=Yd.memN_mem (Yd.bits_lt m)
theorem mem_pairs {S:List Nat} {m:Nat} {q:Nat × Nat}:q ∈ pairsN S m↔q.1 < m/\(S.getD q.1 0).testBit q.2=true:=by
 unfold pairsN pairsL
 rw [List.mem_flatMap]
 constructor
 ·rintro ⟨l,hl,h⟩
  obtain ⟨g,hg,rfl⟩:=List.mem_map.mp h
  exact ⟨List.mem_range.mp hl,mem_mems.mp hg⟩
 ·rintro ⟨h1,h2⟩
  exact ⟨q.1,List.mem_range.mpr h1,List.mem_map.mpr ⟨q.2,mem_mems.mpr h2,rfl⟩⟩
theorem bit_lt {S:List Nat} {n l g:Nat} (h:∀ z ∈ S,z < 2 ^ n) (hb:(S.getD l 0).testBit g=true):g < n:=by
 have hlt:S.getD l 0 < 2 ^ n:=by
  rw [List.getD_eq_getElem?_getD]
  cases e:S[l]? with
  | none=>exact Nat.two_pow_pos n
  | some y=>exact h y (List.mem_of_getElem? e)
 refine Classical.byContradiction fun hn=>?_
 rw [Nat.testBit_lt_two_pow (Nat.lt_of_lt_of_le hlt (Nat.pow_le_pow_right (by decide) (by omega)))] at hb
 cases hb
structure RingOk (wy:Oks->Nat) (ps:List (Int × Int)) (n:Nat) (r:List (Nat × Nat)):Prop where
 ne:r ≠ []
 nd:(r.map (·.1)).Nodup
 few:r.length <= ps.length
 st:∀ k p q,r[if k=0 then r.length - 1 else k - 1]? = some p->r[k]? = some q->p.1 < ps.length/\p.2 < n/\MetA wy ps n p.2 p.1/\q.1 ∈ onN wy ps p.2 p.1
theorem ring_at {L:Ld} {r:List Nat} {i:Nat} {q:Nat × Nat} (h:(ringN L r)[i]? = some q):∃ x y,r[i]? = some x/\(rot r)[i]? = some y/\q=(x,(valD (L.getD y []) x).getD 0):=by
 unfold ringN at h
 rw [List.getElem?_map] at h
 cases e:(r.zip (rot r))[i]? with
 | none=>rw [e] at h; cases h
 | some p =>
  rw [e] at h
  obtain ⟨h1,h2⟩:=List.getElem?_zip_eq_some.mp e
  exact ⟨p.1,p.2,h1,h2,(Option.some.inj h).symm⟩
theorem ring_len (L:Ld) (r:List Nat):(ringN L r).length=r.length:=by
 unfold ringN
 rw [List.length_map,List.length_zip,rot_len,Nat.min_self]
theorem ring_fst (L:Ld) (r:List Nat):(ringN L r).map (·.1)=r:=by
 unfold ringN
 rw [List.map_map]
 have:((fun x:Nat × Nat=>x.1) ∘ fun p:Nat × Nat=>(p.1,(valD (L.getD p.2 []) p.1).getD 0))=Prod.fst:=rfl
 rw [this,List.map_fst_zip]
 rw [rot_len]; exact Nat.le_refl _
theorem rot_prev {r:List Nat} {k x y:Nat} (hx:(rot r)[if k=0 then r.length - 1 else k - 1]? = some x) (hy:r[k]? = some y):x=y:=by
 have hk:=(List.getElem?_eq_some_iff.mp hy).1
 unfold rot at hx
 by_cases h:k=0
 ·subst h
  rw [if_pos rfl,List.getElem?_append_right (by rw [List.length_drop]; exact Nat.le_refl _),List.length_drop,Nat.sub_self,List.getElem?_take,if_pos (by omega),hy] at hx
  exact (Option.some.inj hx).symm
 ·rw [if_neg h,List.getElem?_append_left (by rw [List.length_drop]; omega),List.getElem?_drop,show 1 + (k - 1)=k by omega,hy] at hx
  exact (Option.some.inj hx).symm
theorem ring_ok {wy:Oks->Nat} {ps:List (Int × Int)} {n:Nat} (hl:(numN (ldN wy ps n)).length < ps.length):RingOk wy ps n (ringN (ldN wy ps n) (walkN (ldN wy ps n) (numN (ldN wy ps n))).reverse):=by
 have hok:LdOk (onN wy ps) (gsN (metN wy ps n n)) ps.length (ldN wy ps n):=leads_ok
 generalize ldN wy ps n=L at hok hl
 have hLl:=hok.len
 have hlt:∀ w,∀ z ∈ ks (L.getD w []),z < L.length:=fun w z hz=>by
  obtain ⟨y,hy,rfl⟩:=mem_ks hz
  rw [hLl]; exact (hok.of w y hy).1
 obtain ⟨m,hN,hfr⟩:=num_ok L
 have hcyc:=walk_ok hlt hfr (by omega)
 generalize walkN L (numN L)=cy at hcyc
 have hcl:cy.length <= L.length:=nd_le _ _ hcyc.nd hcyc.lt
 refine ⟨fun z=>hcyc.ne ?_,by rw [ring_fst]; exact List.pairwise_reverse.mpr (hcyc.nd.imp fun h=>Ne.symm h),by rw [ring_len,List.length_reverse]; omega,fun k p q hp hq=>?_⟩
 ·have:=congrArg List.length z
  rw [ring_len,List.length_reverse] at this
  exact List.length_eq_zero_iff.mp this
 ·rw [ring_len] at hp
  obtain ⟨x,y,hx,hy,rfl⟩:=ring_at hp
  obtain ⟨x2,y2,hx2,hy2,rfl⟩:=ring_at hq
  have exy:y=x2:=rot_prev hy hx2
  subst exy
  obtain ⟨g,hg⟩:=val_some (hcyc.fwd _ x y hx hy)
  obtain ⟨b1,b2,b3⟩:=hok.of y (x,g) (val_mem hg)
  dsimp only at b1 b2 b3
  rw [hg]
  have hb:=mem_mems.mp b2
  exact ⟨b1,bit_lt (met_lt wy ps n n (Nat.le_refl _)) hb,met_bit_of hb,b3⟩
theorem iz_nat (S:List Nat):(iz S).map Int.toNat=S:=by
 unfold iz
 rw [List.map_map]
 conv=>rhs; rw [← List.map_id S]
 refine List.map_congr_left fun z _=>?_
 exact Int.toNat_natCast z
theorem fault_none {n:Nat} {ps:List (Int × Int)} {nums:List Int} {S:List Nat} {wy:Oks->Nat} (hnl:nums.length=ps.length) (hSl:S.length=ps.length) (hlt:∀ z ∈ S,z < 2 ^ n) (h1:∀ p g:Nat,p < n->g < n->∀ z ∈ wl wy [some (p:Int),some (g:Int),none],bitN S z g=true)
  (h2:∀ l g:Nat,l < ps.length->bitN S l g=true->¬ (ps.getD l (0,0)).2=(g:Int)->onN wy ps g l ≠ []/\∀ z ∈ onN wy ps g l,bitN S z g=true/\nums.getD l 0 < nums.getD z 0):faultF wy ps n nums (iz S)=none:=by
 have hsz:sizeB ps.length n nums (iz S)=true:=by
  unfold sizeB
  rw [decide_eq_true hnl,Bool.true_and,decide_eq_true (by unfold iz; rw [List.length_map]; exact hSl),Bool.true_and,List.all_eq_true]
  intro s hs
  obtain ⟨z,hz,rfl⟩:=List.mem_map.mp hs
  have:=hlt z hz
  refine decide_eq_true ⟨by omega,?_⟩
  rw [Int.toNat_natCast,Int.one_mul,show (2:Int) ^ n=((2 ^ n:Nat):Int) by rw [Int.natCast_pow]; rfl]
  omega
 unfold faultF
 rw [hsz,if_pos rfl,iz_nat]
 have hst:startF wy n S=none:=by
  unfold startF
  rw [List.findSome?_eq_none_iff]
  intro z hz
  obtain ⟨p,g,rfl,hp,hg⟩:=mem_starts hz
  unfold stF
  rw [List.findSome?_eq_none_iff]
  intro l hl
  rw [if_pos (by show bitN S l ((g:Int)).toNat=true; rw [Int.toNat_natCast]; exact h1 p g hp hg l hl)]
 have hln:lanesF wy ps nums S ps.length=none:=by
  unfold lanesF
  rw [List.findSome?_eq_none_iff]
  intro l hl
  unfold laneF
  rw [List.findSome?_eq_none_iff]
  intro g hg
  have hb:bitN S l g=true:=(Yd.memN_mem (Yd.bits_lt _)).mp hg
  by_cases he:(g:Int)=(ps.getD l (0,0)).2
  ·rw [if_pos he]
  ·rw [if_neg he]
   obtain ⟨h3,h4⟩:=h2 l g (List.mem_range.mp hl) hb (fun z=>he z.symm)
   unfold pairF
   rw [if_neg h3,List.findSome?_eq_none_iff]
   intro z hz
   obtain ⟨h5,h6⟩:=h4 z hz
   unfold wayF
   rw [h5,if_pos rfl,if_neg (by omega)]
 rw [hst,hln]
 rfl
theorem wl_in {rs:List Rw} {k:Oks} {z:Nat} (h:z ∈ wl (wayOf rs) k):∃ r ∈ rs,keyOf r=k/\z ∈ r.s:=by
 have h:=(Yd.memN_mem (Yd.bits_lt (wayOf rs k))).mp h
 unfold wayOf at h
 cases e:lastR rs k with
 | none=>rw [e] at h; dsimp only at h; rw [Nat.zero_testBit] at h; cases h
 | some r =>
  rw [e] at h
  dsimp only at h
  rw [Yd.setN_bit,Nat.zero_testBit,Bool.false_or] at h
  have e2:=e
  unfold lastR at e2
  have e3:=List.find?_some e2
  exact ⟨r,last_mem e,of_decide_eq_true e3,of_decide_eq_true h⟩
inductive LkOk (wy:Oks->Nat) (ps:List (Int × Int)) (n:Nat):LkR->Prop
 | lost {l g:Nat} (h:lostN wy ps n=some (l,g)):LkOk wy ps n (.lost (l,g))
 | ring {r:List (Nat × Nat)} (h:lostN wy ps n=none) (hr:RingOk wy ps n r):LkOk wy ps n (.ring r)
 | paper {N:List Nat} (h:lostN wy ps n=none) (hN:NumsOk (onN wy ps) (gsN (metN wy ps n n)) ps.length N):LkOk wy ps n (.paper N)
theorem look_ok (wy:Oks->Nat) (ps:List (Int × Int)) (n:Nat):LkOk wy ps n (lookN wy ps n):=by
 unfold lookN
 cases hl:lostN wy ps n with
 | some q=>exact .lost hl
 | none =>
  dsimp only
  by_cases h:(numN (ldN wy ps n)).length < ps.length
  ·rw [if_pos h]
   exact .ring hl (ring_ok h)
  ·rw [if_neg h]
   refine .paper hl ?_
   have hok:LdOk (onN wy ps) (gsN (metN wy ps n n)) ps.length (ldN wy ps n):=leads_ok
   obtain ⟨m,hN,_⟩:=num_ok (ldN wy ps n)
   have h1:=hN.len
   have h2:=hok.len
   exact nums_ok (show (numN (ldN wy ps n)).length=ps.length by omega)
structure Fr (wy:Oks->Nat) (ps:List (Int × Int)) (n:Nat) (nums:List Int) (S:List Nat):Prop where
 nl:nums.length=ps.length
 sl:S.length=ps.length
 lt:∀ z ∈ S,z < 2 ^ n
 a:∀ p g:Nat,p < n->g < n->∀ z ∈ wl wy [some (p:Int),some (g:Int),none],bitN S z g=true
 b:∀ l g:Nat,l < ps.length->bitN S l g=true->¬ (ps.getD l (0,0)).2=(g:Int)->onN wy ps g l ≠ []/\∀ z ∈ onN wy ps g l,bitN S z g=true/\nums.getD l 0 < nums.getD z 0
theorem fr_iff {n:Nat} {ps:List (Int × Int)} {nums:List Int} {S:List Nat} {wy:Oks->Nat} (hn:n <= 12):faultF wy ps n nums (iz S)=none↔Fr wy ps n nums S:=by
 refine ⟨fun h=>?_,fun h=>fault_none h.nl h.sl h.lt h.a h.b⟩
 unfold faultF at h
 cases hz:sizeB ps.length n nums (iz S) with
 | false=>rw [hz,if_neg (by decide)] at h; cases h
 | true =>
  rw [hz,if_pos rfl,iz_nat,Option.or_eq_none_iff] at h
  obtain ⟨z1,z2,z3⟩:=size_nat hz
  have hlt:=sets_lt hn z3
  rw [iz_nat] at hlt
  obtain ⟨hst,hln⟩:=h
  refine ⟨z1,by unfold iz at z2; rw [List.length_map] at z2; exact z2,hlt,fun p g hp hg z hm=>?_,fun l g hl hb he=>?_⟩
  ·unfold startF at hst
   rw [List.findSome?_eq_none_iff] at hst
   have hs:((p:Int),(g:Int)) ∈ startsOf wy n n:=by
    refine List.mem_flatMap.mpr ⟨p,List.mem_range.mpr hp,List.mem_map.mpr ⟨g,List.mem_filter.mpr ⟨List.mem_range.mpr hg,?_⟩,rfl⟩⟩
    unfold isStart
    rw [Bool.not_eq_true',decide_eq_false_iff_not]
    intro e
    have:=mem_mems.mp hm
    rw [e,Nat.zero_testBit] at this
    cases this
   have h1:=hst _ hs
   unfold stF at h1
   rw [List.findSome?_eq_none_iff] at h1
   have h2:=h1 z hm
   dsimp only at h2
   rw [Int.toNat_natCast] at h2
   cases hb:bitN S z g with
   | true=>rfl
   | false=>rw [hb,if_neg (by decide)] at h2; cases h2
  ·unfold lanesF at hln
   rw [List.findSome?_eq_none_iff] at hln
   have h1:=hln l (List.mem_range.mpr hl)
   unfold laneF at h1
   rw [List.findSome?_eq_none_iff] at h1
   have h2:=h1 g (mem_mems.mpr hb)
   rw [if_neg (fun e=>he e.symm)] at h2
   unfold pairF at h2
   by_cases ho:onN wy ps g l=[]
   ·rw [if_pos ho] at h2; cases h2
   ·rw [if_neg ho,List.findSome?_eq_none_iff] at h2
    refine ⟨ho,fun z hz'=>?_⟩
    have h3:=h2 z hz'
    unfold wayF at h3
    cases hb:bitN S z g with
    | false=>rw [hb,if_neg (by decide)] at h3; cases h3
    | true =>
     rw [hb,if_pos rfl] at h3
     by_cases hnn:nums.getD z 0 <= nums.getD l 0
     ·rw [if_pos hnn] at h3; cases h3
     ·exact ⟨rfl,by omega⟩
theorem on_end {wy:Oks->Nat} {ps:List (Int × Int)} {g l z:Nat} (h:z ∈ onN wy ps g l):¬ (ps.getD l (0,0)).2=(g:Int)/\z ∈ wl wy [some (ps.getD l (0,0)).2,some (g:Int),some (l:Int)]:=by
 unfold onN at h
 split at h
 ·cases h
 ·next e=>exact ⟨e,h⟩
theorem Fr.met {wy:Oks->Nat} {ps:List (Int × Int)} {n g l:Nat} {nums:List Int} {S:List Nat} (h:Fr wy ps n nums S) (hwl:∀ k,∀ z ∈ wl wy k,z < ps.length) (hg:g < n) (hm:MetA wy ps n g l):l < ps.length/\bitN S l g=true :=
 met_all (S:=fun z=>z < ps.length/\bitN S z g=true) (fun p hp z hz=>⟨hwl _ z hz,h.a p g hp hg z hz⟩) (fun l hl z hz=>⟨on_lt hwl g l z hz,((h.b l g hl.1 hl.2 (on_end hz).1).2 z hz).1⟩) hm
theorem Fr.less {wy:Oks->Nat} {ps:List (Int × Int)} {n:Nat} {nums:List Int} {S:List Nat} (h:Fr wy ps n nums S) (hwl:∀ k,∀ z ∈ wl wy k,z < ps.length):Fr wy ps n nums (metN wy ps n n):=by
 have hlt:=met_lt wy ps n n (Nat.le_refl _)
 refine ⟨h.nl,met_len _ _ _ _,hlt,fun p g hp hg z hz=>met_bit_le hg (hwl _ z hz) (first_met hwl hp hz),fun l g hl hb he=>?_⟩
 have hgn:=bit_lt hlt hb
 have hm:MetA wy ps n g l:=met_bit_of hb
 obtain ⟨h1,h2⟩:=h.b l g hl (h.met hwl hgn hm).2 he
 exact ⟨h1,fun z hz=>⟨met_bit_le hgn (on_lt hwl g l z hz) (step_met hwl hm hz),(h2 z hz).2⟩⟩
theorem getD_add {nums:List Int} {l:Nat} (d:Int) (h:l < nums.length):(nums.map (· + d)).getD l 0=nums.getD l 0 + d:=by
 rw [List.getD_eq_getElem?_getD,List.getD_eq_getElem?_getD,List.getElem?_map,List.getElem?_eq_getElem h]
 rfl
theorem fr_add {wy:Oks->Nat} {ps:List (Int × Int)} {n:Nat} {nums:List Int} {S:List Nat} (hwl:∀ k,∀ z ∈ wl wy k,z < ps.length) (d:Int):Fr wy ps n (nums.map (· + d)) S↔Fr wy ps n nums S:=by
 have e:∀ {l z:Nat},nums.length=ps.length->l < ps.length->z < ps.length->((nums.map (· + d)).getD l 0 < (nums.map (· + d)).getD z 0↔nums.getD l 0 < nums.getD z 0):=fun {l z} hl h1 h2=>by
  rw [getD_add d (by omega),getD_add d (by omega)]
  omega
 constructor
 ·intro h
  have hl:nums.length=ps.length:=by have:=h.nl; rw [List.length_map] at this; exact this
  refine ⟨hl,h.sl,h.lt,h.a,fun l g hlt hb he=>?_⟩
  obtain ⟨h1,h2⟩:=h.b l g hlt hb he
  exact ⟨h1,fun z hz=>⟨(h2 z hz).1,(e hl hlt (on_lt hwl g l z hz)).mp (h2 z hz).2⟩⟩
 ·intro h
  refine ⟨by rw [List.length_map]; exact h.nl,h.sl,h.lt,h.a,fun l g hlt hb he=>?_⟩
  obtain ⟨h1,h2⟩:=h.b l g hlt hb he
  exact ⟨h1,fun z hz=>⟨(h2 z hz).1,(e h.nl hlt (on_lt hwl g l z hz)).mpr (h2 z hz).2⟩⟩
theorem Fr.look {wy:Oks->Nat} {ps:List (Int × Int)} {n:Nat} {nums:List Int} (h:Fr wy ps n nums (metN wy ps n n)):lostN wy ps n=none/\∃ N,lookN wy ps n = .paper N:=by
 have hlost:lostN wy ps n=none:=by
  unfold lostN
  rw [List.find?_eq_none]
  intro q hq hb
  obtain ⟨h1,h2⟩:=mem_pairs.mp hq
  unfold lostB at hb
  rw [Bool.and_eq_true,Bool.not_eq_true',decide_eq_false_iff_not,List.isEmpty_iff] at hb
  exact (h.b q.1 q.2 h1 h2 hb.1).1 hb.2
 refine ⟨hlost,?_⟩
 have hk:=look_ok wy ps n
 cases hr:lookN wy ps n with
 | paper N=>exact ⟨N,rfl⟩
 | lost q =>
  rw [hr] at hk
  cases hk with
  | lost h'=>rw [hlost] at h'; cases h'
 | ring r =>
  rw [hr] at hk
  cases hk with
  | ring _ ho =>
   exfalso
   have up:∀ k p q,r[if k=0 then r.length - 1 else k - 1]? = some p->r[k]? = some q->nums.getD p.1 0 < nums.getD q.1 0:=fun k p q hp hq=>by
    obtain ⟨a1,a2,a3,a4⟩:=ho.st k p q hp hq
    exact ((h.b p.1 p.2 a1 (met_bit_le a2 a1 a3) (on_end a4).1).2 q.1 a4).2
   have hl:0 < r.length:=List.length_pos_iff.mpr ho.ne
   have all:∀ k (hk:k < r.length),nums.getD (r[0]).1 0 <= nums.getD (r[k]).1 0:=by
    intro k
    induction k with
    | zero=>intro _; exact Int.le_refl _
    | succ k ih =>
     intro hk
     have h1:=ih (by omega)
     have h2:=up (k + 1) r[k] r[k + 1] (by rw [if_neg (by omega)]; exact List.getElem?_eq_getElem (by omega)) (List.getElem?_eq_getElem hk)
     omega
   have h1:=all (r.length - 1) (by omega)
   have h2:=up 0 r[r.length - 1] r[0] (by rw [if_pos rfl]; exact List.getElem?_eq_getElem (by omega)) (List.getElem?_eq_getElem hl)
   omega
structure AlvOk (ps:List (Int × Int)) (nums:List Int) (A:List Nat):Prop where
 len:A.length=ps.length
 on:∀ l g:Nat,l < ps.length->bitN A l g=true->(ps.getD l (0,0)).2=(g:Int)∨∃ o,o < ps.length/\(ps.getD o (0,0)).1=(ps.getD l (0,0)).2/\nums.getD l 0 < nums.getD o 0/\bitN A o g=true
structure RowA (ps:List (Int × Int)) (nums:List Int) (A:List Nat) (r:Rw):Prop where
 rise:∀ z ∈ r.s,bitN A z r.g.toNat=true/\∀ c,r.c=some c->nums.getD c 0 < nums.getD z 0
 one:∀ z,z < ps.length->(ps.getD z (0,0)).1=r.p->bitN A z r.g.toNat=true->(∀ c,r.c=some c->nums.getD c 0 < nums.getD z 0)->r.s ≠ []
def AllK (n:Nat) (ps:List (Int × Int)) (rs:List Rw):Prop:=∀ (p g:Nat) (c:Option Nat),p < n->g < n->p ≠ g->c ∈ cames ps p->((p:Int),(g:Int),c) ∈ rs.map keyN
theorem nd_inj {α β:Type} {f:α->β}:∀ {xs:List α},(xs.map f).Nodup->∀ {a b:α},a ∈ xs->b ∈ xs->f a=f b->a=b
 | x :: xs,nd,a,b,ha,hb,e=>by
  rw [List.map_cons,List.nodup_cons] at nd
  rcases List.mem_cons.mp ha with ha | ha <;> rcases List.mem_cons.mp hb with hb | hb
  ·rw [ha,hb]
  ·exact absurd (List.mem_map.mpr ⟨b,hb,by rw [← e,ha]⟩) nd.1
  ·exact absurd (List.mem_map.mpr ⟨a,ha,by rw [e,hb]⟩) nd.1
  ·exact nd_inj nd.2 ha hb e
theorem last_at {rs:List Rw} {r:Rw} (nd:(rs.map keyN).Nodup) (hr:r ∈ rs):lastR rs (keyOf r)=some r:=by
 cases e:lastR rs (keyOf r) with
 | none =>
  unfold lastR at e
  rw [List.find?_eq_none] at e
  exact absurd (decide_eq_true rfl) (e r (List.mem_reverse.mpr hr))
 | some r' =>
  have h1:=last_mem e
  have h2:keyOf r' = keyOf r:=by
   unfold lastR at e
   have e3:=List.find?_some e
   exact of_decide_eq_true e3
  rw [nd_inj nd h1 hr (key_eq h2)]
theorem wl_of {rs:List Rw} {r:Rw} {z:Nat} (nd:(rs.map keyN).Nodup) (hr:r ∈ rs):z ∈ wl (wayOf rs) (keyOf r)↔z ∈ r.s:=by
 unfold wl
 rw [Yd.memN_mem (Yd.bits_lt _)]
 unfold wayOf
 rw [last_at nd hr]
 dsimp only
 rw [Yd.setN_bit,Nat.zero_testBit,Bool.false_or,decide_eq_true_eq]
theorem fr_rows {n:Nat} {ps:List (Int × Int)} {nums:List Int} {A:List Nat} {rs:List Rw} (hok:∀ q ∈ ps,okP n q=true) (hnl:nums.length=ps.length) (hg:∀ r ∈ rs,RowG n ps r) (nd:(rs.map keyN).Nodup) (hk:AllK n ps rs) (ha:∀ r ∈ rs,RowA ps nums A r) (hA:AlvOk ps nums A):Fr (wayOf rs) ps n nums (metN (wayOf rs) ps n n):=by
 have hwl:∀ k,∀ z ∈ wl (wayOf rs) k,z < ps.length:=fun k=>(wl_told hg k).1
 have hlt:=met_lt (wayOf rs) ps n n (Nat.le_refl _)
 have row:∀ {p:Int} {g z:Nat} {c:Option Nat},z ∈ wl (wayOf rs) (okey (p,(g:Int),c))->bitN A z g=true/\∀ k,c=some k->nums.getD k 0 < nums.getD z 0:=fun {p g z c} hz=>by
  obtain ⟨r,hr,ek,hs⟩:=wl_in hz
  have ek':keyN r=(p,(g:Int),c):=okey_inj ek
  have e2:r.g=(g:Int):=congrArg (fun y=>y.2.1) ek'
  have e3:r.c=c:=congrArg (fun y=>y.2.2) ek'
  obtain ⟨h1,h2⟩:=(ha r hr).rise z hs
  rw [e2,Int.toNat_natCast] at h1
  exact ⟨h1,fun k hk=>h2 k (e3.trans hk)⟩
 refine ⟨hnl,met_len _ _ _ _,hlt,fun p g hp hg z hz=>met_bit_le hg (hwl _ z hz) (first_met hwl hp hz),fun l g hl hb he=>?_⟩
 have hgn:=bit_lt hlt hb
 have hm:MetA (wayOf rs) ps n g l:=met_bit_of hb
 have hAl:bitN A l g=true:=met_all (S:=fun z=>bitN A z g=true) (fun p hp z hz=>(row (c:=none) hz).1) (fun l hl z hz=>(row (c:=some l) (on_end hz).2).1) hm
 have hokl:=hok _ (List.getElem_mem hl)
 have egd:ps.getD l (0,0)=ps[l]:=by rw [List.getD_eq_getElem?_getD,List.getElem?_eq_getElem hl]; rfl
 rw [← egd] at hokl
 unfold okP at hokl
 simp only [Bool.and_eq_true,decide_eq_true_eq,Bool.not_eq_true',decide_eq_false_iff_not] at hokl
 obtain ⟨p0,hp0⟩:∃ p0:Nat,(ps.getD l (0,0)).2=(p0:Int):=⟨(ps.getD l (0,0)).2.toNat,by omega⟩
 have hk':=hk p0 g (some l) (by omega) hgn (fun e=>he (by rw [hp0,e])) (List.mem_cons_of_mem _ (List.mem_map.mpr ⟨l,List.mem_filter.mpr ⟨List.mem_range.mpr hl,decide_eq_true hp0⟩,rfl⟩))
 obtain ⟨r,hr,ek⟩:=List.mem_map.mp hk'
 have e1:r.p=(p0:Int):=congrArg (fun y=>y.1) ek
 have e2:r.g=(g:Int):=congrArg (fun y=>y.2.1) ek
 have e3:r.c=some l:=congrArg (fun y=>y.2.2) ek
 have eon:onN (wayOf rs) ps g l=wl (wayOf rs) (keyOf r):=by
  unfold onN keyOf
  rw [if_neg he,hp0,e1,e2,e3]; rfl
 refine ⟨fun e=>?_,fun z hz=>⟨met_bit_le hgn (on_lt hwl g l z hz) (step_met hwl hm hz),(row (c:=some l) (on_end hz).2).2 l rfl⟩⟩
 rcases hA.on l g hl hAl with h | ⟨o,ho,h1,h2,h3⟩
 ·exact he h
 ·refine (ha r hr).one o ho (by rw [h1,hp0,e1]) (by rw [e2,Int.toNat_natCast]; exact h3) (fun c hc=>by rw [e3] at hc; cases hc; exact h2) ?_
  rw [eon] at e
  refine List.eq_nil_iff_forall_not_mem.mpr fun z hz=>?_
  have:=(wl_of nd hr).mpr hz
  rw [e] at this
  cases this
end K33
namespace L2
open PySem PySem.Spec PyProof.Rows
theorem op_fdivL {X:Cx}:OpR X (binaryOp .FloorDiv) (rI (fun _ j=>0 < j/\j < 2 ^ 200) fun i j => .int (i / j)):=opI fun i j _ _ _ _ _ hc q=>by
 have h1:(0:Int) < j:=hc.1
 have h2:j < 2 ^ 200:=hc.2
 refine floordiv_int (by omega) (by rw [Int.fdiv_eq_ediv_of_nonneg i (by omega)]; exact q) (.inl (PyProof.noPylong_of_log2 ?_))
 have h3:j.natAbs < 2 ^ 200:=by omega
 have h4:j.natAbs ≠ 0:=by omega
 have:=(Nat.log2_lt h4).mpr h3
 omega
end L2
namespace K33
open PySem L2 LkM
def spDr:Sp:=fun vs H Q _=>∃ (c b:Int) (m:Nat),vs=[.int c, .int m, .int b]/\m <= 200/\0 < b/\b < 2 ^ 200/\∀ (D:Addr) (ds:List Int) (H':Hp),Same H H'->H D=none->H' D=some (.lst (ds.map V.int))->ds.length=m->Q (.ref D) H'
abbrev PDr:List Str:=["_law_cell", "_law_amount", "_law_base"]
abbrev NDr:List Str:=["_law_cell", "_law_amount", "_law_base", "_law_drawn", "_law_rest", "_law_k", "_law_number"]
def spLanes (K:PySem.W.Frag):Sp:=fun vs H Q _=>∃ (a:Addr) (ns:List Int) (n:Nat),vs=[.ref a, .int n]/\SqL K H a (ns.map V.int)/\ns.length <= 63/\2 <= n/\n <= 5/\∀ (D:Addr) (lvs:List V) (ps:List (Int × Int)) (H':Hp),Same H H'->H D=none->H' D=some (.lst lvs)->Lns H' lvs ps->ps.length <= 10->(∀ q ∈ ps,okP n q=true)->Q (.ref D) H'
abbrev NLn:List Str:=["_law_script", "_law_places", "_law_lanes_here", "_law_k", "_law_draw"]
section
variable {P:Program} {w:World} {K:PySem.W.Frag} {mg:Str->Option Value} {base:Heap}
theorem scDr:FnScope NDr PDr (defScope sDraws):=⟨rfl,rfl,rfl,by decide +kernel,rfl,by decide +kernel,by decide +kernel⟩
theorem ints_snoc (ds:List Int) (i:Int):ds.map V.int ++ [V.int i]=(ds ++ [i]).map V.int:=by rw [List.map_append]; rfl
theorem ok_draws {f fm:Addr} {fd dm:FuncData} (F:Fun K "_law_draws" "_law_draws" sDraws f fd) (T:Txt mg)
  (mm:mg "_law_mixed" = some (.ref fm)) (km:PySem.W.keepIn K (.ref fm)=true) (bm:Binds K dm ["_law_cell", "_law_k"] []) (Gm:FnOk P w K mg base CX0 1 fm dm ["_law_cell", "_law_k"] spMix) :
  FnOk P w K mg base CX0 2 f fd PDr spDr:=by
 refine F.ok scDr (fun vs H Q E h=>?_) (fun cdv A outer s H vs Q E hr h=>?_)
 ·obtain ⟨c,b,m,rfl,_⟩:=h
  rfl
 ·obtain ⟨c,b,m,rfl,hm,hb0,hb1,q⟩:=h
  refine ⟨_,pss_cons (ps_set (i:=3) scDr.nd rfl (Or.inl rfl) (pe_lst pa_nil))
   (pss_cons (ps_set (i:=4) scDr.nd rfl (Or.inl rfl) (pe_op op_fdiv (pv 0) pe_int))
   (pss_cons (ps_for PassesOwn.never rfl (pi_range1 rfl T.range (pa_cons (pv 1) pa_nil)) (pg_name (i:=5) scDr.nd rfl (Or.inl rfl))
    (pss_one (ps_if (pt_cmpR op_eq (pe_op op_mod (pv 0) pe_int) pe_int (nomark _))
     (pss_cons (ps_expr (pe_bm PySem.F.plainAttrs_list PySem.F.slot_list_append PySem.F.type_list_append mt_append (pv 3) (pa_cons (pe_op op_mod (pv 4) (pv 2)) pa_nil)))
      (pss_one (ps_set (i:=4) scDr.nd rfl (Or.inl rfl) (pe_op op_fdivL (pv 4) (pv 2)))))
     (pss_cons (ps_set (i:=6) scDr.nd rfl (Or.inl rfl) (pe_call Gm hr rfl mm km bm .nil pass0 (pa_cons (pv 4) (pa_cons (pv 5) pa_nil))))
      (pss_one (ps_expr (pe_bm PySem.F.plainAttrs_list PySem.F.slot_list_append PySem.F.type_list_append mt_append (pv 3) (pa_cons (pe_op op_mod (pe_op op_mul (pv 6) (pe_op op_add (pe_op op_fdiv (pv 6) pe_int) pe_int)) pe_int) pa_nil))))))))
   (pss_one (ps_ret (pv 3))))),?_⟩
  refine ⟨Nat.zero_le _,fun D hD=>?_⟩
  have s0:=(Same.refl H).new (o := .lst []) hD
  refine ⟨_,rfl,_,_,rfl,rfl,⟨by decide,by decide⟩,?_⟩
  refine ⟨_,rfl,(m:Int),rfl,by omega,by omega,?_⟩
  rw [Int.toNat_natCast]
  refine for_range (n:=m) (fun i σ H2=>∃ (a5 a6:Option V) (r:Int) (ds:List Int),Same H H2/\H2 D=some (.lst (ds.map V.int))/\ds.length=i/\σ=[some (.int c),some (.int m),some (.int b),some (.ref D),some (.int r),a5,a6])
   ⟨none,none,_,[],s0,upd_same,rfl,rfl⟩ ?_ ?_
  ·rintro i σ H2 hi ⟨a5,a6,r,ds,s2,gD,hl,rfl⟩
   have hll:(ds.map V.int).length < sizeLine:=by rw [List.length_map,PySem.sizeLine_eq]; omega
   have put:∀ z:Int,Same H (upd H2 D (.lst (ds.map V.int ++ [.int z])))/\(upd H2 D (.lst (ds.map V.int ++ [.int z]))) D=some (.lst ((ds ++ [z]).map V.int))/\(ds ++ [z]).length=i + 1:=fun z =>
    ⟨fun a o e=>by rw [upd_ne (ne_of_none e hD)]; exact s2 _ _ e,by rw [upd_same,ints_snoc],by rw [List.length_append,hl]; rfl⟩
   refine ⟨_,rfl,_,_,rfl,rfl,(by decide:(0:Int) < 2),rfl,_,rfl,?_⟩
   refine ite2 (fun _=>?_) fun _=>?_
   ·refine ⟨_,rfl, .inl ⟨rfl,_,SqL.of gD⟩,_,rfl,_,rfl,_,_,rfl,rfl,hb0,D,_,_,rfl,rfl,gD,hll,?_⟩
    refine ⟨_,rfl,_,rfl,_,_,rfl,rfl,⟨hb0,hb1⟩,?_⟩
    obtain ⟨p1,p2,p3⟩:=put (r % b)
    exact ⟨_,_,_,_,p1,p2,p3,rfl⟩
   ·refine ⟨_,rfl,_,rfl,_,_,rfl,fun d h0 h1=>?_⟩
    refine ⟨_,rfl, .inl ⟨rfl,_,SqL.of gD⟩,_,rfl,_,rfl,_,_,rfl,rfl,⟨by decide,by decide⟩,_,_,rfl,rfl,_,_,rfl,rfl, .inl ⟨by omega,by omega⟩,_,_,rfl,rfl,(by decide:(0:Int) < 2147483399),D,_,_,rfl,rfl,gD,hll,?_⟩
    obtain ⟨p1,p2,p3⟩:=put (d * (d / 613 + 40692) % 2147483399)
    exact ⟨_,_,_,_,p1,p2,p3,rfl⟩
  ·rintro σ H2 ⟨a5,a6,r,ds,s2,gD,hl,rfl⟩
   exact ⟨_,rfl,q D ds H2 s2 hD gD hl⟩
theorem scLn:FnScope NLn ["_law_script", "_law_places"] (defScope sLanes):=⟨rfl,rfl,rfl,by decide +kernel,rfl,by decide +kernel,by decide +kernel⟩
theorem ok_lanes {f fm:Addr} {fd dm:FuncData} (F:Fun K "_law_lanes" "_law_lanes" sLanes f fd) (T:Txt mg)
  (mm:mg "_law_draws" = some (.ref fm)) (km:PySem.W.keepIn K (.ref fm)=true) (bm:Binds K dm PDr []) (Gm:FnOk P w K mg base CX0 2 fm dm PDr spDr) :
  FnOk P w K mg base CX0 3 f fd ["_law_script", "_law_places"] (spLanes K):=by
 refine F.ok scLn (fun vs H Q E h=>?_) (fun cdv A outer s H vs Q E hr h=>?_)
 ·obtain ⟨a,ns,n,rfl,_⟩:=h
  rfl
 ·obtain ⟨a,ns,n,rfl,hS,h63,hn2,hn5,q⟩:=h
  refine ⟨_,pss_cons (ps_set (i:=2) scLn.nd rfl (Or.inl rfl) (pe_lst pa_nil))
   (pss_cons (ps_for PassesOwn.never rfl (pi_range2 rfl T.range (pa_cons pe_int (pa_cons (pe_callB (call_min2 rfl) rfl T.min PyProof.Rows.boot_min (pa_cons (pe_callB call_len_seq rfl T.len PySem.boot_len (pa_cons (pv 0) pa_nil)) (pa_cons pe_int pa_nil))) pa_nil))) (pg_name (i:=3) scLn.nd rfl (Or.inl rfl))
    (pss_cons (ps_set (i:=4) scLn.nd rfl (Or.inl rfl) (pe_ix ix_list (pe_call Gm hr rfl mm km bm .nil pass0 (pa_cons (pe_ix ix_list (pv 0) (pv 3) (fun _ _=>rfl)) (pa_cons pe_int (pa_cons (pe_op op_pow pe_int pe_int) pa_nil)))) pe_int (fun _ _=>rfl)))
    (pss_one (ps_expr (pe_bm PySem.F.plainAttrs_list PySem.F.slot_list_append PySem.F.type_list_append mt_append (pv 2) (pa_cons (pe_tup (pa_cons (pe_op op_mod (pv 4) (pv 1)) (pa_cons (pe_op op_mod (pe_op op_add (pe_op op_add (pe_op op_mod (pv 4) (pv 1)) pe_int) (pe_op op_mod (pe_op op_fdiv (pv 4) (pv 1)) (pe_op op_sub (pv 1) pe_int))) (pv 1)) pa_nil))) pa_nil))))))
   (pss_one (ps_ret (pv 2)))),?_⟩
  refine ⟨Nat.zero_le _,fun D hD=>?_⟩
  have s0:=(Same.refl H).new (o := .lst []) hD
  refine ⟨_,rfl,a,_,rfl, .inl (s0.seq hS),_,_,rfl,?_⟩
  obtain ⟨m,hm,hm26⟩:∃ m:Nat,(if (13:Int) < ((ns.map V.int).length:Nat) then (13:Int) else ((ns.map V.int).length:Nat))=(m:Int)/\(m <= 13/\m <= ns.length):=by
   rw [List.length_map]
   split
   ·exact ⟨13,rfl,by omega,by omega⟩
   ·exact ⟨ns.length,rfl,by omega,by omega⟩
  rw [hm]
  refine ⟨3,(m:Int),rfl,⟨by omega,by omega,by omega,by omega⟩,?_⟩
  refine for_range (lo:=3) (n:=((m:Int) - 3).toNat) (fun i σ H2=>∃ (a3 a4:Option V) (lvs:List V) (ps:List (Int × Int)),Same H H2/\H2 D=some (.lst lvs)/\Lns H2 lvs ps/\ps.length=i/\(∀ q ∈ ps,okP n q=true)/\σ=[some (.ref a),some (.int n),some (.ref D),a3,a4])
   ⟨none,none,[],[],s0,upd_same, .nil,rfl,(fun e he=>by cases he),rfl⟩ ?_ ?_
  ·rintro i σ H2 hi ⟨a3,a4,lvs,ps,s2,gD,hLv,hl,hok,rfl⟩
   have hk:3 + i < ns.length:=by omega
   have ek:(3:Int) + (i:Int)=((3 + i:Nat):Int):=by omega
   rw [ek]
   refine ⟨_,rfl,_,rfl,a,_,_,V.int ns[3 + i],rfl,rfl,s2.seq hS,atI_nat (by simp [hk]),_,_,rfl,rfl,⟨by decide,by decide,by decide⟩,ns[3 + i],_,1,rfl,by decide,by decide +kernel,by decide +kernel,fun E ds H3 s3 hE gE hdl=>?_⟩
   obtain ⟨d,rfl⟩:∃ d,ds=[d]:=List.length_eq_one_iff.mp hdl
   refine ⟨E,_,0,V.int d,rfl,rfl,SqL.of gE,atI_nat (j:=0) rfl,?_⟩
   have hmod:0 <= d % (n:Int)/\d % (n:Int) < n:=⟨Int.emod_nonneg _ (by omega),Int.emod_lt_of_pos _ (by omega)⟩
   have hmod2:0 <= d / (n:Int) % ((n:Int) - 1)/\d / (n:Int) % ((n:Int) - 1) < (n:Int) - 1:=⟨Int.emod_nonneg _ (by omega),Int.emod_lt_of_pos _ (by omega)⟩
   have np:(0:Int) < (n:Int):=by omega
   have gD3:=s3 _ _ gD
   refine ⟨_,rfl, .inl ⟨rfl,_,SqL.of gD3⟩,_,rfl,_,rfl,_,_,rfl,rfl,np,_,rfl,_,rfl,_,_,rfl,rfl,np,_,_,rfl,rfl,_,rfl,_,rfl,_,_,rfl,rfl,⟨np,by omega⟩,_,rfl,_,_,rfl,rfl,_,_,rfl,rfl,(by show (0:Int) < (n:Int) - 1; omega),_,_,rfl,rfl,_,rfl,_,_,rfl,rfl,np,?_⟩
   refine ⟨by show 2 <= sizeLine; decide,fun t ht=>?_⟩
   have s9:=s3.new (o := .tup [.int (d % (n:Int)), .int ((d % (n:Int) + 1 + d / (n:Int) % ((n:Int) - 1)) % (n:Int))]) ht
   have hll:lvs.length=ps.length:=Paired.length hLv
   refine ⟨D,lvs,_,rfl,rfl,s9 _ _ gD,by rw [PySem.sizeLine_eq]; omega,?_⟩
   have nlt:D ≠ t:=ne_of_none gD3 ht
   refine ⟨_,_,lvs ++ [.ref t],ps ++ [(d % (n:Int),(d % (n:Int) + 1 + d / (n:Int) % ((n:Int) - 1)) % (n:Int))],fun b o e=>?_,upd_same,?_,by rw [List.length_append,hl]; rfl,fun q hq=>?_,rfl⟩
   ·rw [upd_ne (ne_of_none e hD)]; exact s9 _ _ (s2 _ _ e)
   ·refine Lns.snoc ⟨t,rfl,by rw [upd_ne (Ne.symm nlt)]; exact upd_same⟩ ?_
    have z:Lns _ lvs ps:=Lns.same s9 hLv
    exact lns_off (s9 _ _ gD) z
   ·rcases List.mem_append.mp hq with z | z
    ·exact hok q z
    ·rw [List.mem_singleton.mp z]; exact okP_next hmod.1 hmod.2 hmod2.1 hmod2.2
  ·rintro σ H2 ⟨a3,a4,lvs,ps,s2,gD,hLv,hl,hok,rfl⟩
   exact ⟨_,rfl,q D lvs ps H2 s2 hD gD hLv (by omega) hok⟩
end
end K33
namespace L2
open PySem
theorem comp_lstI {K:PySem.W.Frag} {a:Addr} {xs:List V} {g:TG} {te:TE} {σ0:St} {H:Hp} {Q:VK} (f:Nat->V) (hn:xs.length < sizeLine) (ha:SqL K H a xs)
  (hs:∀ (i:Nat) (x:V) (N:V->Hp->Prop),xs[i]? = some x->N (f i) H->g x σ0 H fun σ2 H2=>te σ2 H2 N)
  (hq:∀ D,H D=none->Q (.ref D) (upd H D (.lst ((List.range xs.length).map f)))):CompR (Itl K a) g tYes te σ0 Q H:=by
 refine comp_gen xs.length hn (fun i acc H'=>H' = H/\acc=(List.range i).map f) ⟨rfl,rfl⟩ (fun i acc H' h=>by rw [h.2,List.length_map,List.length_range]; exact Nat.le_refl _) (fun i acc H' hi h=>?_) (fun acc H' h=>?_)
 ·obtain ⟨rfl,rfl⟩:=h
  refine ⟨⟨xs,xs[i],ha,by simp [hi]⟩,fun v H2 y=>?_⟩
  obtain ⟨e,y⟩:=y
  subst e
  exact hs i v (fun y H4=>H4=H2/\(List.range i).map f ++ [y]=(List.range (i + 1)).map f) (y xs ha) ⟨rfl,by rw [List.range_succ,List.map_append]; rfl⟩
 ·obtain ⟨rfl,rfl⟩:=h
  exact ⟨⟨xs,ha,Nat.le_refl _⟩,hq⟩
end L2
namespace K33
open PySem L2 LkM
theorem and_inv (a s:Nat):∃ m:Nat,Builtin.bitAnd (a:Int) (Builtin.bitNot (1 * 2 ^ (s:Int).toNat))=(m:Int)/\∀ g,m.testBit g=true->a.testBit g=true:=by
 rw [PyProof.Rows.bitAnd_not,Int.one_mul,Int.toNat_natCast,show (2:Int) ^ s=((2 ^ s:Nat):Int) by rw [Int.natCast_pow]; rfl,Yd.bitAnd_nat]
 have h1:(a &&& 2 ^ s) &&& (a ^^^ (a &&& 2 ^ s))=0:=by
  refine Nat.eq_of_testBit_eq fun i=>?_
  rw [Nat.testBit_and,Nat.testBit_xor,Nat.testBit_and,Nat.zero_testBit]
  cases a.testBit i <;> cases (2 ^ s).testBit i <;> rfl
 have h2:(a &&& 2 ^ s) ||| (a ^^^ (a &&& 2 ^ s))=a:=by
  refine Nat.eq_of_testBit_eq fun i=>?_
  rw [Nat.testBit_or,Nat.testBit_xor,Nat.testBit_and]
  cases a.testBit i <;> cases (2 ^ s).testBit i <;> rfl
 have h3:=PyProof.Rows.nat_or_add_and (a &&& 2 ^ s) (a ^^^ (a &&& 2 ^ s))
 rw [h1,h2] at h3
 refine ⟨a ^^^ (a &&& 2 ^ s),by omega,fun g hg=>?_⟩
 rw [Nat.testBit_xor,Nat.testBit_and] at hg
 cases ha:a.testBit g with
 | true=>rfl
 | false=>rw [ha] at hg; cases hg
theorem AlvOk.put {ps:List (Int × Int)} {nums:List Int} {A:List Nat} {l o m:Nat} (h:AlvOk ps nums A) (hl:l < ps.length) (ho:o < ps.length) (e:(ps.getD o (0,0)).1=(ps.getD l (0,0)).2) (hn:nums.getD l 0 < nums.getD o 0) (hm:∀ g,m.testBit g=true->(A.getD o 0).testBit g=true):AlvOk ps nums (A.set l (A.getD l 0 ||| m)):=by
 have hat:∀ z,(A.set l (A.getD l 0 ||| m)).getD z 0=if l=z then A.getD l 0 ||| m else A.getD z 0:=fun z=>by
  rw [List.getD_eq_getElem?_getD,List.getElem?_set]
  by_cases hz:l=z
  ·rw [if_pos hz,if_pos hz,if_pos (by rw [h.len]; exact hl)]; rfl
  ·rw [if_neg hz,if_neg hz,List.getD_eq_getElem?_getD]
 have mono:∀ z g,bitN A z g=true->bitN (A.set l (A.getD l 0 ||| m)) z g=true:=fun z g hb=>by
  unfold bitN at hb ⊢
  rw [hat]
  split
  ·next e=>subst e; rw [Nat.testBit_or,hb]; rfl
  ·exact hb
 refine ⟨by rw [List.length_set]; exact h.len,fun z g hz hb=>?_⟩
 have old:bitN A z g=true->(ps.getD z (0,0)).2=(g:Int)∨∃ o,o < ps.length/\(ps.getD o (0,0)).1=(ps.getD z (0,0)).2/\nums.getD z 0 < nums.getD o 0/\bitN (A.set l (A.getD l 0 ||| m)) o g=true:=fun hb'=>by
  rcases h.on z g hz hb' with h1 | ⟨o',h1,h2,h3,h4⟩
  ·exact .inl h1
  ·exact .inr ⟨o',h1,h2,h3,mono _ _ h4⟩
 unfold bitN at hb
 rw [hat] at hb
 by_cases hlz:l=z
 ·subst hlz
  rw [if_pos rfl,Nat.testBit_or,Bool.or_eq_true] at hb
  rcases hb with hb | hb
  ·exact old hb
  ·exact .inr ⟨o,ho,e,hn,mono _ _ (hm g hb)⟩
 ·rw [if_neg hlz] at hb
  exact old hb
def spAl (K:PySem.W.Frag):Sp:=fun vs H Q _=>∃ (l nu:Addr) (lvs:List V) (ps:List (Int × Int)) (nums:List Int) (n:Nat),vs=[.ref l, .ref nu, .int n]/\H l=some (.lst lvs)/\Lns H lvs ps/\ps.length <= 10/\(∀ q ∈ ps,okP n q=true)/\n <= 5/\SqL K H nu (nums.map V.int)/\nums.length=ps.length /\
 ∀ (D:Addr) (A:List Nat) (H':Hp),Same H H'->H D=none->H' D=some (.lst (nV A))->AlvOk ps nums A->Q (.ref D) H'
abbrev PAl:List Str:=["_law_lanes_here", "_law_numbers", "_law_places"]
abbrev NAl:List Str:=["_law_lanes_here", "_law_numbers", "_law_places", "_law_alive_here", "_law_again", "_law_lane", "_law_other", "_law_start", "_law_end", "_law_more"]
section
variable {P:Program} {w:World} {K:PySem.W.Frag} {mg:Str->Option Value} {base:Heap}
theorem scAl:FnScope NAl PAl (defScope sLAlive):=⟨rfl,rfl,rfl,by decide +kernel,rfl,by decide +kernel,by decide +kernel⟩
theorem bkAl:Blk NAl (defScope sLAlive) (asgC ((defBody sLAlive).getD 0 (.Pass ⟨0,0,0,0⟩))) [] []:=⟨rfl,by decide +kernel,by decide +kernel,by decide +kernel,rfl,by decide +kernel⟩
theorem ndAl:(["_law_start", "_law_end"]:List Str).Nodup:=by decide +kernel
theorem ok_alive {f:Addr} {fd:FuncData} (F:Fun K "_law_alive" "_law_alive" sLAlive f fd) (T:Txt mg):FnOk P w K mg base CX0 1 f fd PAl (spAl K):=by
 refine F.ok scAl (fun vs H Q E h=>?_) (fun cdv A outer s H vs Q E hr h=>?_)
 ·obtain ⟨l,nu,lvs,ps,nums,n,rfl,_⟩:=h
  rfl
 ·obtain ⟨l,nu,lvs,ps,nums,n,rfl,gl,hLn,hpl,hok,hn5,hN,hnl,q⟩:=h
  refine ⟨_,pss_cons (ps_setComp (i:=3) (own:=["_law_start", "_law_end"]) (capN:=[]) (cap:=[]) bkAl rfl scAl.nd rfl rfl (pi_list (pv 0))
    (fun C s' H' fp=>⟨(show PG _ _ (gTup K 2 _) from pg_tup rfl (pgs_cons (pg_name (i:=0) ndAl rfl (Or.inl rfl)) (pgs_cons (pg_name (i:=1) ndAl rfl (Or.inl rfl)) pgs_nil))),pts_nil,pe_op op_shl pe_int (pv 1)⟩))
   (pss_cons (ps_for PassesOwn.never rfl (pi_range1 rfl T.range (pa_cons (pe_callB call_len_seq rfl T.len PySem.boot_len (pa_cons (pv 0) pa_nil)) pa_nil)) (pg_name (i:=4) scAl.nd rfl (Or.inl rfl))
    (pss_one (ps_for PassesOwn.never rfl (pi_range1 rfl T.range (pa_cons (pe_callB call_len_seq rfl T.len PySem.boot_len (pa_cons (pv 0) pa_nil)) pa_nil)) (pg_name (i:=5) scAl.nd rfl (Or.inl rfl))
     (pss_one (ps_for PassesOwn.never rfl (pi_range1 rfl T.range (pa_cons (pe_callB call_len_seq rfl T.len PySem.boot_len (pa_cons (pv 0) pa_nil)) pa_nil)) (pg_name (i:=6) scAl.nd rfl (Or.inl rfl))
      (pss_cons (ps_asg (pe_ix ix_list (pv 0) (pv 5) (fun _ _=>rfl)) (pg_tup rfl (pgs_cons (pg_name (i:=7) scAl.nd rfl (Or.inl rfl)) (pgs_cons (pg_name (i:=8) scAl.nd rfl (Or.inl rfl)) pgs_nil))))
      (pss_one (ps_if (PW.pt (pw_and (pt_cmpR op_eq (pe_ix ix_tup (pe_ix ix_list (pv 0) (pv 6) (fun _ _=>rfl)) pe_int (fun _ _=>rfl)) (pv 8) (nomark _)) (pw_and1 (pt_cmpR op_gt (pe_ix ix_list (pv 1) (pv 6) (fun _ _=>rfl)) (pe_ix ix_list (pv 1) (pv 5) (fun _ _=>rfl)) (nomark _)))))
       (pss_cons (ps_set (i:=9) scAl.nd rfl (Or.inl rfl) (pe_op op_and (pe_ix ix_list (pv 3) (pv 6) (fun _ _=>rfl)) (pe_un un_inv (pe_op op_shl pe_int (pv 7)))))
       (pss_one (ps_asg (pe_op op_or (pe_ix ix_list (pv 3) (pv 5) (fun _ _=>rfl)) (pv 9)) (pg_sub (pv 3) (pv 5) set_list)))) pss_nil))))))))
   (pss_one (ps_ret (pv 3)))),?_⟩
  have hll:lvs.length=ps.length:=Paired.length hLn
  have ends:∀ {i:Nat} (hi:i < ps.length),∃ a b:Nat,ps[i]=((a:Int),(b:Int))/\a < 5/\b < 5:=fun {i} hi=>by
   have hokk:=hok _ (List.getElem_mem hi)
   unfold okP at hokk
   simp only [Bool.and_eq_true,decide_eq_true_eq,Bool.not_eq_true',decide_eq_false_iff_not] at hokk
   exact ⟨(ps[i]).1.toNat,(ps[i]).2.toNat,by refine Prod.ext ?_ ?_ <;> dsimp only <;> omega,by omega,by omega⟩
  refine ⟨_,rfl,l,rfl,⟨_,SqL.of gl⟩,?_⟩
  refine comp_lstI (K:=K) (a:=l) (xs:=lvs) (fun i=>V.int (((2 ^ (ps.getD i (0,0)).2.toNat:Nat):Nat):Int)) (by rw [PySem.sizeLine_eq]; omega) (SqL.of gl) (fun i x N hx h=>?_) (fun D hD=>?_)
  ·have hi:i < ps.length:=by have:=(List.getElem?_eq_some_iff.mp hx).1; omega
   obtain ⟨v,hv,u,rfl,gu⟩:=Lns.get2 hLn (List.getElem?_eq_getElem hi)
   rw [hv] at hx
   cases hx
   obtain ⟨a,b,ep,ha,hb⟩:=ends hi
   refine ⟨u,_,rfl,SqT.of gu,rfl,_,_,rfl,_,_,rfl,rfl,_,rfl,_,_,rfl,rfl,⟨by rw [ep]; show (0:Int) <= (b:Int); omega,by rw [ep]; show (b:Int) <= _; omega,by decide⟩,?_⟩
   have egd:ps.getD i (0,0)=ps[i]:=by rw [List.getD_eq_getElem?_getD,List.getElem?_eq_getElem hi]; rfl
   rw [egd] at h
   show N (V.int (1 * 2 ^ (ps[i]).2.toNat)) H
   rw [Int.one_mul,show (2:Int) ^ (ps[i]).2.toNat=((2 ^ (ps[i]).2.toNat:Nat):Int) by rw [Int.natCast_pow]; rfl]
   exact h
  rw [hll]
  have eA:((List.range ps.length).map fun i=>V.int (((2 ^ (ps.getD i (0,0)).2.toNat:Nat):Nat):Int))=nV ((List.range ps.length).map fun i=>2 ^ (ps.getD i (0,0)).2.toNat):=by unfold nV; rw [List.map_map]; rfl
  rw [eA]
  have A0:AlvOk ps nums ((List.range ps.length).map fun i=>2 ^ (ps.getD i (0,0)).2.toNat):=by
   refine ⟨by rw [List.length_map,List.length_range],fun z g hz hb => .inl ?_⟩
   unfold bitN at hb
   rw [List.getD_eq_getElem?_getD,List.getElem?_map,List.getElem?_range hz] at hb
   have hb:(2 ^ (ps.getD z (0,0)).2.toNat).testBit g=true:=hb
   rw [Nat.testBit_two_pow] at hb
   have hb:=of_decide_eq_true hb
   obtain ⟨a,b,ep,ha,hb'⟩:=ends hz
   have egd:ps.getD z (0,0)=ps[z]:=by rw [List.getD_eq_getElem?_getD,List.getElem?_eq_getElem hz]; rfl
   rw [egd,ep] at hb ⊢
   dsimp only at hb ⊢
   omega
  have s0:=(Same.refl H).new (o := .lst (nV ((List.range ps.length).map fun i=>2 ^ (ps.getD i (0,0)).2.toNat))) hD
  have g0:(upd H D (.lst (nV ((List.range ps.length).map fun i=>2 ^ (ps.getD i (0,0)).2.toNat)))) D=some (.lst (nV ((List.range ps.length).map fun i=>2 ^ (ps.getD i (0,0)).2.toNat))):=upd_same
  show gName 3 (V.ref D) _ (upd H D (.lst (nV ((List.range ps.length).map fun i=>2 ^ (ps.getD i (0,0)).2.toNat)))) _
  generalize ((List.range ps.length).map fun i=>2 ^ (ps.getD i (0,0)).2.toNat)=A1 at A0 s0 g0 ⊢
  generalize upd H D (.lst (nV A1))=H1 at s0 g0 ⊢
  refine ⟨_,rfl,l,_,rfl, .inl (SqL.of (s0 _ _ gl)),(lvs.length:Int),rfl,by omega,by omega,?_⟩
  rw [Int.toNat_natCast,hll]
  refine for_range (n:=ps.length) (fun i σ H2=>∃ (a4 a5 a6 a7 a8 a9:Option V) (A:List Nat),Same H H2/\H2 D=some (.lst (nV A))/\AlvOk ps nums A/\σ=[some (.ref l),some (.ref nu),some (.int n),some (.ref D),a4,a5,a6,a7,a8,a9])
   ⟨none,none,none,none,none,none,_,s0,g0,A0,rfl⟩ ?_ ?_
  rotate_left
  ·rintro σ H2 ⟨a4,a5,a6,a7,a8,a9,A,s2,g2,hA,rfl⟩
   exact ⟨_,rfl,q D A H2 s2 hD g2 hA⟩
  rintro i σ H2 hi ⟨a4,a5,a6,a7,a8,a9,A,s2,g2,hA,rfl⟩
  refine ⟨_,rfl,l,_,rfl, .inl (SqL.of (s2 _ _ gl)),(lvs.length:Int),rfl,by omega,by omega,?_⟩
  rw [Int.toNat_natCast,hll]
  refine for_range (n:=ps.length) (fun j σ H3=>∃ (a5 a6 a7 a8 a9:Option V) (A:List Nat),Same H H3/\H3 D=some (.lst (nV A))/\AlvOk ps nums A/\σ=[some (.ref l),some (.ref nu),some (.int n),some (.ref D),some (.int (0 + (i:Int))),a5,a6,a7,a8,a9])
   ⟨_,_,_,_,_,_,s2,g2,hA,rfl⟩ ?_ ?_
  rotate_left
  ·rintro σ H3 ⟨a5,a6,a7,a8,a9,A,s3,g3,hA3,rfl⟩
   exact ⟨_,_,_,_,_,_,A,s3,g3,hA3,rfl⟩
  rintro j σ H3 hj ⟨a5,a6,a7,a8,a9,A,s3,g3,hA3,rfl⟩
  refine ⟨_,rfl,l,_,rfl, .inl (SqL.of (s3 _ _ gl)),(lvs.length:Int),rfl,by omega,by omega,?_⟩
  rw [Int.toNat_natCast,hll,Int.zero_add,Int.zero_add]
  refine for_range (n:=ps.length) (fun k σ H4=>∃ (a6 a7 a8 a9:Option V) (A:List Nat),Same H H4/\H4 D=some (.lst (nV A))/\AlvOk ps nums A/\σ=[some (.ref l),some (.ref nu),some (.int n),some (.ref D),some (.int (i:Int)),some (.int (j:Int)),a6,a7,a8,a9])
   ⟨_,_,_,_,_,s3,g3,hA3,rfl⟩ ?_ ?_
  rotate_left
  ·rintro σ H4 ⟨a6,a7,a8,a9,A,s4,g4,hA4,rfl⟩
   exact ⟨_,_,_,_,_,A,s4,g4,hA4,rfl⟩
  rintro k σ H4 hk ⟨a6,a7,a8,a9,A,s4,g4,hA4,rfl⟩
  rw [Int.zero_add]
  have hAl:=hA4.len
  have egj:ps.getD j (0,0)=ps[j]:=by rw [List.getD_eq_getElem?_getD,List.getElem?_eq_getElem hj]; rfl
  have egk:ps.getD k (0,0)=ps[k]:=by rw [List.getD_eq_getElem?_getD,List.getElem?_eq_getElem hk]; rfl
  obtain ⟨vj,hvj,uj,rfl,guj⟩:=Lns.get2 hLn (List.getElem?_eq_getElem hj)
  obtain ⟨vk,hvk,uk,rfl,guk⟩:=Lns.get2 hLn (List.getElem?_eq_getElem hk)
  obtain ⟨aj,bj,ej,haj,hbj⟩:=ends hj
  rw [ej] at guj egj
  have guj:H uj=some (.tup [.int (aj:Int), .int (bj:Int)]):=guj
  refine ⟨_,rfl,_,rfl,l,_,(j:Int),_,rfl,rfl,SqL.of (s4 _ _ gl),atI_nat hvj,uj,_,rfl,SqT.of (s4 _ _ guj),rfl,_,_,rfl,_,_,rfl,rfl,?_⟩
  refine ⟨_,rfl,_,rfl,l,_,(k:Int),_,rfl,rfl,SqL.of (s4 _ _ gl),atI_nat hvk,uk,_,0,_,rfl,rfl,SqT.of (s4 _ _ guk),atI_nat (j:=0) rfl,_,rfl,rfl,_,rfl,?_⟩
  rw [int_eq]
  by_cases he:(ps[k]).1=(bj:Int)
  rotate_left
  ·rw [decide_eq_false he]
   exact iteF (iteF ⟨_,_,_,_,A,s4,g4,hA4,rfl⟩)
  rw [decide_eq_true he]
  refine iteT ⟨_,rfl,_,rfl,nu,_,_,_,rfl,rfl,s4.seq hN,atM (by omega),_,rfl,_,rfl,nu,_,_,_,rfl,rfl,s4.seq hN,atM (by omega),_,_,rfl,rfl,_,rfl,?_⟩
  by_cases hup:nums.getD j 0 < nums.getD k 0
  rotate_left
  ·rw [decide_eq_false hup]
   exact iteF ⟨_,_,_,_,A,s4,g4,hA4,rfl⟩
  rw [decide_eq_true hup]
  refine iteT ⟨_,rfl,_,rfl,D,_,_,_,rfl,rfl,SqL.of g4,atI_nat (nV_getD (p:=k) (by omega)),_,rfl,_,_,rfl,rfl,⟨by omega,by omega,by decide⟩,_,rfl,_,_,rfl,rfl,?_⟩
  obtain ⟨m,em,hm⟩:=and_inv (A.getD k 0) aj
  show gName 9 (V.int (Builtin.bitAnd ((A.getD k 0:Nat):Int) (Builtin.bitNot (1 * 2 ^ (aj:Int).toNat)))) _ _ _
  rw [em]
  refine ⟨_,rfl,_,rfl,D,_,_,_,rfl,rfl,SqL.of g4,atI_nat (nV_getD (p:=j) (by omega)),_,rfl,_,_,rfl,rfl,?_⟩
  dsimp only
  rw [Yd.bitOr_nat]
  refine ⟨_,rfl,_,rfl,D,_,(j:Int),j,rfl,rfl,g4,ixN_nat (by rw [nV_len]; omega),?_⟩
  rw [nV_set]
  exact ⟨_,_,_,_,_,(fun b o e=>by rw [upd_ne (ne_of_none e hD)]; exact s4 _ _ e),upd_same,hA4.put hj hk (by rw [egk,egj]; exact he) hup hm,rfl⟩
end
end K33
namespace K33
open PySem L2 LkM
theorem comp_natF {K:PySem.W.Frag} {a:Addr} {xs:List Nat} {g:TG} {tt:TT} {te:TE} {σ0:St} {H:Hp} {Q:VK} (q:Nat->Bool) (hn:xs.length < sizeLine) (ha:SqL K H a (natV xs))
  (hs:∀ (k:Nat) (acc:List V) (N:List V->Hp->Prop),k ∈ xs->N (if q k then acc ++ [V.int (k:Int)] else acc) H->g (.int (k:Int)) σ0 H fun σ2 H2=>tt σ2 H2 fun b H3=>if b=true then te σ2 H3 fun y H4=>N (acc ++ [y]) H4 else N acc H3)
  (hq:∀ D,H D=none->Q (.ref D) (upd H D (.lst (natV (xs.filter q))))):CompR (Itl K a) g tt te σ0 Q H:=by
 refine comp_lst (xs:=natV xs) (fun v=>match v with | .int k=>q k.toNat | _=>false) (fun v=>v) (by unfold natV; rw [List.length_map]; exact hn) ha (fun x acc N hx h=>?_) fun D hD=>?_
 ·obtain ⟨k,hk,rfl⟩:=List.mem_map.mp hx
  exact hs k acc N hk h
 ·have e:((natV xs).filter (fun v=>match v with | .int k=>q k.toNat | _=>false)).map (fun v=>v)=natV (xs.filter q):=by
   unfold natV
   rw [List.map_id'',List.filter_map]
   ·congr 1
   ·intro _; rfl
  rw [e]
  exact hq D hD
def cA (ps:List (Int × Int)) (A:List Nat) (p:Int) (g m:Nat):List Nat:=(List.range m).filter fun z=>decide ((ps.getD z (0,0)).1=p) && bitN A z g
def cB (nums:List Int) (c:Option Nat) (zs:List Nat):List Nat:=match c with
 | none=>zs
 | some k=>zs.filter fun z=>decide (nums.getD k 0 < nums.getD z 0)
theorem cA_succ (ps:List (Int × Int)) (A:List Nat) (p:Int) (g m:Nat):cA ps A p g (m + 1)=if decide ((ps.getD m (0,0)).1=p) && bitN A m g then cA ps A p g m ++ [m] else cA ps A p g m:=by
 unfold cA
 rw [List.range_succ,List.filter_append]
 cases h:(decide ((ps.getD m (0,0)).1=p) && bitN A m g)
 ·rw [if_neg (by decide),List.filter_cons_of_neg (by rw [h]; decide),List.filter_nil,List.append_nil]
 ·rw [if_pos rfl,List.filter_cons_of_pos (by rw [h]),List.filter_nil]
theorem cA_len (ps:List (Int × Int)) (A:List Nat) (p:Int) (g m:Nat):(cA ps A p g m).length <= m:=by
 have:=List.length_filter_le (fun z=>decide ((ps.getD z (0,0)).1=p) && bitN A z g) (List.range m)
 rw [List.length_range] at this
 exact this
theorem cB_len (nums:List Int) (c:Option Nat) (zs:List Nat):(cB nums c zs).length <= zs.length:=by
 cases c with
 | none=>exact Nat.le_refl _
 | some k=>exact List.length_filter_le _ _
theorem mem_cand {ps:List (Int × Int)} {nums:List Int} {A:List Nat} {p:Int} {g z:Nat} {c:Option Nat}:z ∈ cB nums c (cA ps A p g ps.length)↔z < ps.length/\(ps.getD z (0,0)).1=p/\bitN A z g=true/\∀ k,c=some k->nums.getD k 0 < nums.getD z 0:=by
 have h1:z ∈ cA ps A p g ps.length↔z < ps.length/\(ps.getD z (0,0)).1=p/\bitN A z g=true:=by
  unfold cA
  rw [List.mem_filter,List.mem_range,Bool.and_eq_true,decide_eq_true_eq]
 cases c with
 | none =>
  show z ∈ cA ps A p g ps.length↔_
  rw [h1]
  exact ⟨fun ⟨a,b,c⟩=>⟨a,b,c,fun k e=>by cases e⟩,fun ⟨a,b,c,_⟩=>⟨a,b,c⟩⟩
 | some k =>
  show z ∈ (cA ps A p g ps.length).filter _↔_
  rw [List.mem_filter,h1,decide_eq_true_eq]
  exact ⟨fun ⟨⟨a,b,c⟩,d⟩=>⟨a,b,c,fun k e=>by cases e; exact d⟩,fun ⟨a,b,c,d⟩=>⟨⟨a,b,c⟩,d k rfl⟩⟩
def dB (d:Int) (i:Nat):Bool:=decide (V.int (Builtin.bitAnd (d / 2 ^ (i:Int).toNat) 1)=V.int 1)
def ifC (s:Stmt):Scope:=match s with
 | .If _ (.Assign _ (.ListComp _ _ sc _) _ :: _) _ _=>sc
 | _=>{ kind := .function,names:=[],isGenerator:=false,isCoroutine:=false }
def spWy (K:PySem.W.Frag):Sp:=fun vs H Q _=>∃ (l nu al ke:Addr) (lvs:List V) (ps:List (Int × Int)) (nums:List Int) (A:List Nat) (p d:Int) (g:Nat) (c:Option Nat),vs=[.ref l, .ref nu, .ref al, .ref ke, .int d]/\H l=some (.lst lvs)/\Lns H lvs ps/\ps.length <= 10/\SqL K H nu (nums.map V.int)/\nums.length=ps.length/\SqL K H al (nV A)/\A.length=ps.length /\
 SqT K H ke [.int p, .int (g:Int),cV c]/\(∀ k,c=some k->k < ps.length) /\
 ∀ (D:Addr) (us:List Nat) (H':Hp),Same H H'->H D=none->H' D=some (.lst (natV us))->(∀ z ∈ us,z ∈ cB nums c (cA ps A p g ps.length))->(cB nums c (cA ps A p g ps.length) ≠ []->us ≠ [])->us.length <= 10->Q (.ref D) H'
abbrev PWy:List Str:=["_law_lanes_here", "_law_numbers", "_law_alive_here", "_law_key", "_law_draw"]
abbrev NWy:List Str:=["_law_lanes_here", "_law_numbers", "_law_alive_here", "_law_key", "_law_draw", "_law_place", "_law_goal", "_law_came", "_law_some", "_law_lane", "_law_found"]
section
variable {P:Program} {w:World} {K:PySem.W.Frag} {mg:Str->Option Value} {base:Heap}
theorem scWy:FnScope NWy PWy (defScope sWays):=⟨rfl,rfl,rfl,by decide +kernel,rfl,by decide +kernel,by decide +kernel⟩
theorem bkY1:Blk NWy (defScope sWays) (ifC ((defBody sWays).getD 3 (.Pass ⟨0,0,0,0⟩))) ["_law_numbers", "_law_came"] [1,7]:=⟨rfl,by decide +kernel,by decide +kernel,by decide +kernel,rfl,by decide +kernel⟩
theorem bkY2:Blk NWy (defScope sWays) (asgC ((defBody sWays).getD 4 (.Pass ⟨0,0,0,0⟩))) ["_law_draw"] [4]:=⟨rfl,by decide +kernel,by decide +kernel,by decide +kernel,rfl,by decide +kernel⟩
theorem ndY1:(["_law_lane", "_law_numbers", "_law_came"]:List Str).Nodup:=by decide +kernel
theorem ndY2:(["_law_lane", "_law_draw"]:List Str).Nodup:=by decide +kernel
theorem ok_ways {f:Addr} {fd:FuncData} (F:Fun K "_law_ways" "_law_ways" sWays f fd) (T:Txt mg):FnOk P w K mg base CX0 1 f fd PWy (spWy K):=by
 refine F.ok scWy (fun vs H Q E h=>?_) (fun cdv A outer s H vs Q E hr h=>?_)
 ·obtain ⟨l,nu,al,ke,lvs,ps,nums,A,p,d,g,c,rfl,_⟩:=h
  rfl
 ·obtain ⟨l,nu,al,ke,lvs,ps,nums,A,p,d,g,c,rfl,gl,hLn,hpl,hN,hnl,hA,hAl,hK,hc,q⟩:=h
  have hu:=hr.units
  refine ⟨_,pss_cons (ps_asg (pv 3) (pg_tup rfl (pgs_cons (pg_name (i:=5) scWy.nd rfl (Or.inl rfl)) (pgs_cons (pg_name (i:=6) scWy.nd rfl (Or.inl rfl)) (pgs_cons (pg_name (i:=7) scWy.nd rfl (Or.inr rfl)) pgs_nil)))))
   (pss_cons (ps_set (i:=8) scWy.nd rfl (Or.inl rfl) (pe_lst pa_nil))
   (pss_cons (ps_for PassesOwn.never rfl (pi_range1 rfl T.range (pa_cons (pe_callB call_len_seq rfl T.len PySem.boot_len (pa_cons (pv 0) pa_nil)) pa_nil)) (pg_name (i:=9) scWy.nd rfl (Or.inl rfl))
    (pss_one (ps_if (PW.pt (pw_and (pt_cmpR op_eq (pe_ix ix_tup (pe_ix ix_list (pv 0) (pv 9) (fun _ _=>rfl)) pe_int (fun _ _=>rfl)) (pv 5) (nomark _)) (pw_and1 (pt_cmpR op_eq (pe_op op_and (pe_op op_shr (pe_ix ix_list (pv 2) (pv 9) (fun _ _=>rfl)) (pv 6)) pe_int) pe_int (nomark _)))))
     (pss_one (ps_expr (pe_bm PySem.F.plainAttrs_list PySem.F.slot_list_append PySem.F.type_list_append mt_append (pv 8) (pa_cons (pv 9) pa_nil)))) pss_nil)))
   (pss_cons (ps_post (ps_if (pt_cmpR op_notN (pv 7) pe_non (nomark _))
    (pss_one (ps_setComp (i:=8) (own:=["_law_lane"]) (capN:=["_law_numbers", "_law_came"]) (cap:=[1,7]) bkY1 rfl scWy.nd rfl rfl (pi_list (pv 8))
     (fun C s' H' fp=>⟨pg_name (i:=0) ndY1 rfl (Or.inl rfl),pts_one (pt_cmpR op_gt (pe_ix (show IxR _ (rIxL K) from ix_list) (pv 1) (pv 0) (fun _ _=>rfl)) (pe_ix (show IxR _ (rIxL K) from ix_list) (pv 1) (pv 2) (fun _ _=>rfl)) (nomark _)),pv 0⟩))) pss_nil))
   (pss_cons (ps_setComp (i:=10) (own:=["_law_lane"]) (capN:=["_law_draw"]) (cap:=[4]) bkY2 rfl scWy.nd rfl rfl (pi_list (pv 8))
     (fun C s' H' fp=>⟨pg_name (i:=0) ndY2 rfl (Or.inl rfl),pts_one (pt_cmpR op_eq (pe_op op_and (pe_op op_shr (pv 1) (pv 0)) pe_int) pe_int (nomark _)),pv 0⟩))
   (pss_cons (ps_if (PW.pt (pw_and (pt_cmpR (op_eqI hu) (pv 10) (pe_lst pa_nil) (nomark _)) (pw_and1 (pt_cmpR (op_neI hu) (pv 8) (pe_lst pa_nil) (nomark _)))))
    (pss_one (ps_ret (pe_lst (pa_cons (pe_ix ix_list (pv 8) (pe_op op_mod (pv 4) (pe_callB call_len_seq rfl T.len PySem.boot_len (pa_cons (pv 8) pa_nil))) (fun _ _=>rfl)) pa_nil)))) pss_nil)
   (pss_one (ps_ret (pv 10)))))))),?_⟩
  have hll:lvs.length=ps.length:=Paired.length hLn
  refine ⟨_,rfl,ke,_,rfl,hK,rfl,_,_,rfl,_,_,rfl,_,_,rfl,rfl,?_⟩
  refine ⟨Nat.zero_le _,fun S0 hS0=>?_⟩
  have s0:=(Same.refl H).new (o := .lst []) hS0
  have g0:(upd H S0 (.lst [])) S0=some (.lst (natV (cA ps A p g 0))):=upd_same
  generalize upd H S0 (.lst [])=H1 at s0 g0 ⊢
  refine ⟨_,rfl,l,_,rfl, .inl (SqL.of (s0 _ _ gl)),(lvs.length:Int),rfl,by omega,by omega,?_⟩
  rw [Int.toNat_natCast,hll]
  refine for_range (n:=ps.length) (fun i σ H2=>∃ (a9:Option V),Same H H2/\H2 S0=some (.lst (natV (cA ps A p g i)))/\σ=[some (.ref l),some (.ref nu),some (.ref al),some (.ref ke),some (.int d),some (.int p),some (.int (g:Int)),some (cV c),some (.ref S0),a9,none])
   ⟨none,s0,g0,rfl⟩ ?_ ?_
  ·rintro i σ H2 hi ⟨a9,s2,g2,rfl⟩
   rw [Int.zero_add]
   obtain ⟨v,hv,u,rfl,gu⟩:=Lns.get2 hLn (List.getElem?_eq_getElem hi)
   have egi:ps.getD i (0,0)=ps[i]:=by rw [List.getD_eq_getElem?_getD,List.getElem?_eq_getElem hi]; rfl
   have hlen:=cA_len ps A p g i
   refine ⟨_,rfl,_,rfl,l,_,(i:Int),_,rfl,rfl,SqL.of (s2 _ _ gl),atI_nat hv,u,_,0,_,rfl,rfl,SqT.of (s2 _ _ gu),atI_nat (j:=0) rfl,_,rfl,rfl,_,rfl,?_⟩
   rw [int_eq]
   by_cases he:(ps[i]).1=p
   rotate_left
   ·rw [decide_eq_false he]
    exact iteF (iteF ⟨_,s2,by rw [cA_succ,egi,decide_eq_false he]; exact g2,rfl⟩)
   rw [decide_eq_true he]
   refine iteT ⟨_,rfl,_,rfl,al,_,_,_,rfl,rfl,s2.seq hA,atI_nat (nV_getD (p:=i) (by omega)),_,rfl,_,_,rfl,rfl,(show (0:Int) <= (g:Int) by omega),_,_,rfl,rfl,rfl,_,rfl,?_⟩
   dsimp only
   rw [bit1]
   cases hb:(A.getD i 0).testBit g with
   | false =>
    have hb':bitN A i g=false:=hb
    exact iteF ⟨_,s2,by rw [cA_succ,egi,hb',Bool.and_false]; exact g2,rfl⟩
   | true =>
    have hb':bitN A i g=true:=hb
    refine iteT ⟨_,rfl, .inl ⟨rfl,_,SqL.of g2⟩,_,rfl,S0,_,_,rfl,rfl,g2,by unfold natV; rw [List.length_map,PySem.sizeLine_eq]; omega,?_⟩
    exact ⟨_,(fun b o e=>by rw [upd_ne (ne_of_none e hS0)]; exact s2 _ _ e),by rw [upd_same,cA_succ,egi,hb',decide_eq_true he,natV_snoc]; rfl,rfl⟩
  rintro σ H2 ⟨a9,s2,g2,rfl⟩
  have hCl:=cA_len ps A p g ps.length
  refine ⟨fun σ H3=>∃ (So:Addr),Same H H3/\H3 So=some (.lst (natV (cB nums c (cA ps A p g ps.length))))/\σ=[some (.ref l),some (.ref nu),some (.ref al),some (.ref ke),some (.int d),some (.int p),some (.int (g:Int)),some (cV c),some (.ref So),a9,none],?_,?_⟩
  ·refine ⟨_,rfl,rfl,_,rfl,?_⟩
   cases c with
   | none=>exact iteF ⟨S0,s2,g2,rfl⟩
   | some k =>
    have hk:=hc k rfl
    refine iteT ⟨_,rfl,S0,rfl,⟨_,SqL.of g2⟩,?_⟩
    refine comp_natF (fun i=>decide (nums.getD k 0 < nums.getD i 0)) (by rw [PySem.sizeLine_eq]; omega) (SqL.of g2) (fun i acc N hi h=>?_) (fun S2 hS2=>?_)
    ·have hil':i < ps.length:=List.mem_range.mp (List.mem_filter.mp hi).1
     refine ⟨_,rfl,_,rfl,nu,_,_,_,rfl,rfl,s2.seq hN,atM (by omega),_,rfl,_,rfl,nu,_,_,_,rfl,rfl,s2.seq hN,atM (by omega),_,_,rfl,rfl,_,rfl,?_⟩
     cases hb:decide (nums.getD k 0 < nums.getD i 0) with
     | true =>
      rw [hb] at h
      exact iteT ⟨_,rfl,h⟩
     | false =>
      rw [hb] at h
      exact iteF h
    ·exact ⟨S2,s2.new hS2,upd_same,rfl⟩
  rintro σ H3 ⟨So,s3,g3,rfl⟩
  have hBl:=cB_len nums c (cA ps A p g ps.length)
  generalize cB nums c (cA ps A p g ps.length)=xs at q g3 hBl
  refine ⟨_,rfl,So,rfl,⟨_,SqL.of g3⟩,?_⟩
  refine comp_natF (dB d) (by rw [PySem.sizeLine_eq]; omega) (SqL.of g3) (fun i acc N hi h=>?_) (fun Fo hFo=>?_)
  ·refine ⟨_,rfl,_,rfl,_,_,rfl,rfl,(show (0:Int) <= (i:Int) by omega),_,_,rfl,rfl,rfl,_,rfl,?_⟩
   dsimp only
   show (if decide (V.int (Builtin.bitAnd (d / 2 ^ (i:Int).toNat) 1)=V.int 1)=true then _ else _)
   change (if dB d i=true then _ else _)
   cases hb:dB d i with
   | true =>
    rw [hb] at h
    exact iteT ⟨_,rfl,h⟩
   | false =>
    rw [hb] at h
    exact iteF h
  have hsub:∀ z ∈ xs.filter (dB d),z ∈ xs:=fun z hz=>(List.mem_filter.mp hz).1
  have hfl:=List.length_filter_le (dB d) xs
  have s4:=s3.new (o := .lst (natV (xs.filter (dB d)))) hFo
  have g4:(upd H3 Fo (.lst (natV (xs.filter (dB d))))) Fo=some (.lst (natV (xs.filter (dB d)))):=upd_same
  have g3':(upd H3 Fo (.lst (natV (xs.filter (dB d))))) So=some (.lst (natV xs)):=by rw [upd_ne (ne_of_none g3 hFo)]; exact g3
  have hFo':=s3.free hFo
  show gName 10 (V.ref Fo) _ (upd H3 Fo (.lst (natV (xs.filter (dB d))))) _
  generalize upd H3 Fo (.lst (natV (xs.filter (dB d))))=H4 at s4 g4 g3' ⊢
  generalize xs.filter (dB d)=us at hsub hfl g4
  refine ⟨_,rfl,Nat.zero_le _,fun e0 he0=>?_⟩
  have s5:=s4.new (o := .lst []) he0
  have g5:(upd H4 e0 (.lst [])) So=some (.lst (natV xs)):=by rw [upd_ne (ne_of_none g3' he0)]; exact g3'
  have gF5:(upd H4 e0 (.lst [])) Fo=some (.lst (natV us)):=by rw [upd_ne (ne_of_none g4 he0)]; exact g4
  have ge5:(upd H4 e0 (.lst [])) e0=some (.lst (([]:List Int).map V.int)):=upd_same
  generalize upd H4 e0 (.lst [])=H5 at s5 g5 gF5 ge5 ⊢
  refine ⟨Fo,e0,iz us,[],rfl,rfl,SqL.of (by rw [gF5,natV_iz]),SqL.of ge5,_,rfl,?_⟩
  refine ite2 (fun hd=>?_) fun hd=>iteF ⟨_,rfl,q Fo us H5 s5 hFo' gF5 hsub (fun _ e=>?_) (by omega)⟩
  rotate_left
  ·rw [e] at hd
   exact absurd hd (by decide)
  have hus:us=[]:=by
   have:=of_decide_eq_true hd
   unfold iz at this
   exact List.map_eq_nil_iff.mp this
  refine ⟨_,rfl,Nat.zero_le _,fun e1 he1=>?_⟩
  have s6:=s5.new (o := .lst []) he1
  have g6:(upd H5 e1 (.lst [])) So=some (.lst (natV xs)):=by rw [upd_ne (ne_of_none g5 he1)]; exact g5
  have gF6:(upd H5 e1 (.lst [])) Fo=some (.lst (natV us)):=by rw [upd_ne (ne_of_none gF5 he1)]; exact gF5
  have ge6:(upd H5 e1 (.lst [])) e1=some (.lst (([]:List Int).map V.int)):=upd_same
  generalize upd H5 e1 (.lst [])=H6 at s6 g6 gF6 ge6 ⊢
  refine ⟨So,e1,iz xs,[],rfl,rfl,SqL.of (by rw [g6,natV_iz]),SqL.of ge6,_,rfl,?_⟩
  refine ite2 (fun hd2=>?_) fun hd2=>⟨_,rfl,q Fo us H6 s6 hFo' gF6 hsub (fun hx=>?_) (by omega)⟩
  rotate_left
  ·refine absurd ?_ hx
   have h3:decide (iz xs=[])=true:=by
    cases hz:decide (iz xs=[]) with
    | true=>rfl
    | false=>rw [hz] at hd2; exact absurd rfl hd2
   have:=of_decide_eq_true h3
   unfold iz at this
   exact List.map_eq_nil_iff.mp this
  have hx0:0 < xs.length:=by
   refine List.length_pos_iff.mpr fun e=>?_
   rw [e] at hd2
   exact absurd hd2 (by decide)
  have hnx:(natV xs).length=xs.length:=by unfold natV; rw [List.length_map]
  have np:(0:Int) < ((xs.length:Nat):Int):=by omega
  obtain ⟨k,hk,hkl⟩:∃ k:Nat,d % ((xs.length:Nat):Int)=(k:Int)/\k < xs.length:=by
   have h1:=Int.emod_nonneg d (show ((xs.length:Nat):Int) ≠ 0 by omega)
   have h2:=Int.emod_lt_of_pos d np
   exact ⟨(d % ((xs.length:Nat):Int)).toNat,by omega,by omega⟩
  refine ⟨_,rfl,_,rfl,_,rfl,So,_,rfl, .inl (SqL.of g6),_,_,rfl,rfl,by rw [hnx]; exact np,?_⟩
  refine ⟨So,natV xs,(k:Int),V.int ((xs[k]:Nat):Int),rfl,by rw [hnx]; exact congrArg V.int hk,SqL.of g6,atI_nat (by unfold natV; rw [List.getElem?_map,List.getElem?_eq_getElem hkl]; rfl),?_⟩
  refine ⟨by show 1 <= sizeLine; decide,fun R hR=>?_⟩
  exact q R [xs[k]] _ (s6.new hR) (s6.free hR) upd_same (fun z hz=>by rw [List.mem_singleton.mp hz]; exact List.getElem_mem hkl) (fun _ e=>by cases e) (by show 1 <= 10; decide)
end
end K33
namespace K33
open PySem L2 LkM
theorem keyV (r:Rw):(keyOf r).map okV=[.int r.p, .int r.g,cV r.c]:=by
 unfold keyOf
 cases r.c <;> rfl
def EntV (H:Hp) (x:Ent) (r:Rw):Prop:=x.1=keyOf r/\H x.2.1=some (.tup ((keyOf r).map okV))/\∃ U,x.2.2 = .ref U/\H U=some (.lst (natV r.s))
theorem entV_same {H H':Hp} (s:Same H H') {kvs:List Ent} {rs:List Rw} (h:Paired (EntV H) kvs rs):Paired (EntV H') kvs rs:=by
 induction h with
 | nil=>exact .nil
 | cons h1 _ ih=>obtain ⟨a,b,U,c,d⟩:=h1; exact .cons ⟨a,s _ _ b,U,c,s _ _ d⟩ ih
theorem ent_off {P:Program} {w:World} {H:Hp} {D:Addr} {kv kv':List Ent} (hd:H D=some (DicO P w D kv)) {kvs:List Ent} {rs:List Rw} (h:Paired (EntV H) kvs rs):Paired (EntV (upd H D (DicO P w D kv'))) kvs rs:=by
 induction h with
 | nil=>exact .nil
 | cons h1 _ ih =>
  obtain ⟨a,b,U,c,d⟩:=h1
  exact .cons ⟨a,by rw [upd_ne (ne_of b hd (by intro z; cases z))]; exact b,U,c,by rw [upd_ne (ne_of d hd (by intro z; cases z))]; exact d⟩ ih
theorem ent_snocV {H:Hp} {kvs:List Ent} {rs:List Rw} {x:Ent} {r:Rw} (h:Paired (EntV H) kvs rs) (hx:EntV H x r):Paired (EntV H) (kvs ++ [x]) (rs ++ [r]):=by
 induction h with
 | nil=>exact .cons hx .nil
 | cons h1 _ ih=>exact .cons h1 ih
theorem ent_keys {P:Program} {w:World} {H:Hp} {D:Addr} {kvs:List Ent} {rs:List Rw} (hd:H D=some (DicO P w D kvs)) (h:Paired (EntV H) kvs rs):DicAt P w H D kvs:=by
 refine ⟨hd,?_⟩
 clear hd
 induction h with
 | nil=>intro x hx; cases hx
 | cons h1 _ ih =>
  intro x hx
  rcases List.mem_cons.mp hx with e | hx
  ·rw [e,h1.1]; exact h1.2.1
  ·exact ih x hx
theorem ent_none {H:Hp} {kvs:List Ent} {rs:List Rw} {r:Rw} (h:Paired (EntV H) kvs rs) (hn:keyN r ∉ rs.map keyN):valO kvs (keyOf r)=none:=by
 induction h with
 | nil=>rfl
 | @cons x r' _ _ h1 _ ih =>
  rw [List.map_cons,List.mem_cons] at hn
  rw [valO_cons,h1.1,if_neg (fun e=>hn (.inl (key_eq e).symm))]
  exact ih fun z=>hn (.inr z)
theorem ent_at {H:Hp} {kvs:List Ent} {rs:List Rw} (h:Paired (EntV H) kvs rs) (nd:(rs.map keyN).Nodup) {r:Rw} (hr:r ∈ rs):∃ U,valO kvs (keyOf r)=some (.ref U)/\H U=some (.lst (natV r.s)):=by
 induction h with
 | nil=>cases hr
 | @cons x r' _ _ h1 _ ih =>
  rw [List.map_cons,List.nodup_cons] at nd
  obtain ⟨a,b,U,c,d⟩:=h1
  rw [valO_cons]
  rcases List.mem_cons.mp hr with e | hr
  ·rw [e,if_pos a]
   exact ⟨U,by rw [c],d⟩
  ·rw [if_neg (fun e=>nd.1 (List.mem_map.mpr ⟨r,hr,(key_eq (a.symm.trans e)).symm⟩))]
   exact ih nd.2 hr
structure EntT (P:Program) (w:World) (H0 H:Hp) (D:Addr) (kvs:List Ent) (rs:List Rw) (n:Nat) (ps:List (Int × Int)):Prop where
 s:Same H0 H
 nD:H0 D=none
 d:H D=some (DicO P w D kvs)
 r:Paired (EntV H) kvs rs
 g:∀ r ∈ rs,RowG n ps r
 nd:(rs.map keyN).Nodup
theorem EntT.same {P:Program} {w:World} {H0 H H':Hp} {D:Addr} {kvs:List Ent} {rs:List Rw} {n:Nat} {ps:List (Int × Int)} (h:EntT P w H0 H D kvs rs n ps) (s:Same H H'):EntT P w H0 H' D kvs rs n ps:=⟨h.s.trans s,h.nD,s _ _ h.d,entV_same s h.r,h.g,h.nd⟩
theorem EntT.add {P:Program} {w:World} {H0 H:Hp} {D tt U:Addr} {kvs:List Ent} {rs:List Rw} {n:Nat} {ps:List (Int × Int)} (h:EntT P w H0 H D kvs rs n ps) {r:Rw}
  (gt:H tt=some (.tup ((keyOf r).map okV))) (gU:H U=some (.lst (natV r.s))) (hr:RowG n ps r) (hn:keyN r ∉ rs.map keyN):EntT P w H0 (upd H D (DicO P w D (putO kvs (keyOf r) tt (.ref U)))) D (putO kvs (keyOf r) tt (.ref U)) (rs ++ [r]) n ps where
 s:=fun b o e=>by rw [upd_ne (ne_of_none e h.nD)]; exact h.s _ _ e
 nD:=h.nD
 d:=upd_same
 r:=by
  have e:putO kvs (keyOf r) tt (.ref U)=kvs ++ [(keyOf r,tt, .ref U)]:=by
   unfold putO
   rw [ent_none h.r hn,if_neg (by decide)]
  rw [e]
  exact ent_off h.d (ent_snocV h.r ⟨rfl,gt,U,rfl,gU⟩)
 g:=fun r' hr'=>by
  rcases List.mem_append.mp hr' with z | z
  ·exact h.g _ z
  ·rw [List.mem_singleton.mp z]; exact hr
 nd:=by
  rw [List.map_append]
  refine List.nodup_append.mpr ⟨h.nd,List.nodup_cons.mpr ⟨List.not_mem_nil,List.nodup_nil⟩,fun a ha b hb e=>?_⟩
  rw [List.map_cons,List.map_nil] at hb
  rw [List.mem_singleton.mp hb] at e
  rw [e] at ha
  exact hn ha
def Cov (n:Nat) (ps:List (Int × Int)) (i j t:Nat) (cc:Option Nat) (xs:List Nat) (rs:List Rw):Prop:=∀ (p g:Nat) (c:Option Nat),p < n->p ≠ g->c ∈ cames ps p->(g < i∨(g=i/\(cix c < j∨(c=cc/\p ∈ xs.take t))))->((p:Int),(g:Int),c) ∈ rs.map keyN
theorem cix_inj {a b:Option Nat} (h:cix a=cix b):a=b:=by
 cases a <;> cases b <;> simp only [cix] at h
 ·rfl
 ·omega
 ·omega
 ·rw [show (_:Nat)=_ from Nat.succ.inj h]
theorem cames_lt {ps:List (Int × Int)} {p:Nat} {c:Option Nat} (h:c ∈ cames ps p):cix c < ps.length + 1:=by
 rcases List.mem_cons.mp h with e | e
 ·rw [e]; show 0 < _; omega
 ·obtain ⟨k,hk,rfl⟩:=List.mem_map.mp e
  have:=ixM_le hk
  show k + 1 < _
  omega
theorem Cov.zero {n i j:Nat} {ps:List (Int × Int)} {rs:List Rw} {c:Option Nat} {xs:List Nat} (h:Cov n ps i j 0 c xs rs) (c':Option Nat) (xs':List Nat):Cov n ps i j 0 c' xs' rs:=fun p g c2 hp hpg hc hw=>h p g c2 hp hpg hc (by
 rcases hw with hw | ⟨e,hw | ⟨_,hw⟩⟩
 ·exact .inl hw
 ·exact .inr ⟨e, .inl hw⟩
 ·rw [List.take_zero] at hw; cases hw)
theorem Cov.next {n i j t p0:Nat} {ps:List (Int × Int)} {rs rs':List Rw} {cc:Option Nat} {xs:List Nat} (h:Cov n ps i j t cc xs rs) (hp0:xs[t]? = some p0) (hsub:∀ k ∈ rs.map keyN,k ∈ rs'.map keyN) (hnew:p0 ≠ i->((p0:Int),(i:Int),cc) ∈ rs'.map keyN):Cov n ps i j (t + 1) cc xs rs':=fun p g c hp hpg hc hw=>by
 rcases hw with hw | ⟨e,hw | ⟨e2,hw⟩⟩
 ·exact hsub _ (h p g c hp hpg hc (.inl hw))
 ·exact hsub _ (h p g c hp hpg hc (.inr ⟨e, .inl hw⟩))
 ·rw [List.take_succ,hp0] at hw
  rcases List.mem_append.mp hw with hw | hw
  ·exact hsub _ (h p g c hp hpg hc (.inr ⟨e, .inr ⟨e2,hw⟩⟩))
  ·have:p=p0:=by simpa using hw
   subst this
   subst e e2
   exact hnew hpg
theorem Cov.end {n i j t:Nat} {ps:List (Int × Int)} {rs:List Rw} {cc:Option Nat} {xs:List Nat} (h:Cov n ps i j t cc xs rs) (ht:xs.length <= t) (hj:cix cc=j) (hxs:∀ p,p < n->cc ∈ cames ps p->p ∈ xs):Cov n ps i (j + 1) 0 none [] rs:=fun p g c hp hpg hc hw=>h p g c hp hpg hc (by
 rcases hw with hw | ⟨e,hw | ⟨_,hw⟩⟩
 ·exact .inl hw
 ·rcases Nat.lt_or_ge (cix c) j with h1 | h1
  ·exact .inr ⟨e, .inl h1⟩
  ·have:c=cc:=cix_inj (by omega)
   subst this
   exact .inr ⟨e, .inr ⟨rfl,by rw [List.take_of_length_le ht]; exact hxs p hp hc⟩⟩
 ·rw [List.take_zero] at hw; cases hw)
theorem Cov.up {n i:Nat} {ps:List (Int × Int)} {rs:List Rw} (h:Cov n ps i (ps.length + 1) 0 none [] rs):Cov n ps (i + 1) 0 0 none [] rs:=fun p g c hp hpg hc hw=>h p g c hp hpg hc (by
 rcases hw with hw | ⟨e,hw | ⟨_,hw⟩⟩
 ·rcases Nat.lt_or_ge g i with h1 | h1
  ·exact .inl h1
  ·exact .inr ⟨by omega, .inl (cames_lt hc)⟩
 ·omega
 ·rw [List.take_zero] at hw; cases hw)
def spEn (P:Program) (w:World) (K:PySem.W.Frag):Sp:=fun vs H Q _=>∃ (l nu al:Addr) (lvs:List V) (ps:List (Int × Int)) (nums:List Int) (A:List Nat) (n:Nat) (c:Int),vs=[.ref l, .ref nu, .ref al, .int n, .int c]/\H l=some (.lst lvs)/\Lns H lvs ps/\ps.length <= 10/\(∀ q ∈ ps,okP n q=true)/\2 <= n/\n <= 5/\SqL K H nu (nums.map V.int)/\nums.length=ps.length/\SqL K H al (nV A)/\A.length=ps.length /\
 ∀ (D:Addr) (kvs:List Ent) (rs:List Rw) (H':Hp),EntT P w H H' D kvs rs n ps->(∀ r ∈ rs,RowA ps nums A r/\r.s.length <= 10)->AllK n ps rs->rs.length <= 75->Q (.ref D) H'
abbrev PEn:List Str:=["_law_lanes_here", "_law_numbers", "_law_alive_here", "_law_places", "_law_cell"]
abbrev NEn:List Str:=["_law_lanes_here", "_law_numbers", "_law_alive_here", "_law_places", "_law_cell", "_law_found", "_law_draws_here", "_law_goal", "_law_came", "_law_some", "_law_place", "_law_key"]
section
variable {P:Program} {w:World} {K:PySem.W.Frag} {mg:Str->Option Value} {base:Heap}
theorem scEn:FnScope NEn PEn (defScope sEntr):=⟨rfl,rfl,rfl,by decide +kernel,rfl,by decide +kernel,by decide +kernel⟩
theorem ok_entries {f fd' fy:Addr} {fd dd dy:FuncData} (F:Fun K "_law_entries" "_law_entries" sEntr f fd) (T:Txt mg)
  (mm:mg "_law_draws" = some (.ref fd')) (km:PySem.W.keepIn K (.ref fd')=true) (bm:Binds K dd PDr []) (Gm:FnOk P w K mg base CX0 2 fd' dd PDr spDr)
  (my:mg "_law_ways" = some (.ref fy)) (ky:PySem.W.keepIn K (.ref fy)=true) (by':Binds K dy PWy []) (Gy:FnOk P w K mg base CX0 1 fy dy PWy (spWy K)) :
  FnOk P w K mg base CX0 3 f fd PEn (spEn P w K):=by
 refine F.ok scEn (fun vs H Q E h=>?_) (fun cdv A outer s H vs Q E hr h=>?_)
 ·obtain ⟨l,nu,al,lvs,ps,nums,A,n,c,rfl,_⟩:=h
  rfl
 ·obtain ⟨l,nu,al,lvs,ps,nums,A,n,c,rfl,gl,hLn,hpl,hok,hn2,hn5,hN,hnl,hA,hAl,q⟩:=h
  have hr1:Room 1 _:=hr.mono (by decide)
  have hu1:=Nat.lt_of_le_of_lt (Nat.add_le_add_left (show 1 <= 64 by decide) _) hr.units
  refine ⟨_,pss_cons (ps_set (i:=5) scEn.nd rfl (Or.inl rfl) (show PE _ _ (tONew P w) from pe_onew))
   (pss_cons (ps_set (i:=6) scEn.nd rfl (Or.inl rfl) (pe_call Gm hr rfl mm km bm .nil pass0 (pa_cons (pv 4) (pa_cons (pe_op op_mul (pv 3) (pe_op op_add (pv 3) (pe_callB call_len_seq rfl T.len PySem.boot_len (pa_cons (pv 0) pa_nil)))) (pa_cons (pe_op op_pow pe_int pe_int) pa_nil)))))
   (pss_cons (ps_for PassesOwn.never rfl (pi_range1 rfl T.range (pa_cons (pv 3) pa_nil)) (pg_name (i:=7) scEn.nd rfl (Or.inl rfl))
    (pss_one (ps_for PassesOwn.never rfl (pi_list (pe_op op_cat (pe_lst (pa_cons pe_non pa_nil)) (pe_callTy (call_list_rng rfl) rfl T.list PySem.Pv.boot_list (pa_cons (pe_callTy call_rng rfl T.range PyProof.Rows.boot_range (pa_cons (pe_callB call_len_seq rfl T.len PySem.boot_len (pa_cons (pv 0) pa_nil)) pa_nil)) pa_nil)))) (pg_name (i:=8) scEn.nd rfl (Or.inl rfl))
     (pss_cons (ps_set (i:=9) scEn.nd rfl (Or.inl rfl) (pe_callTy (call_list_rng rfl) rfl T.list PySem.Pv.boot_list (pa_cons (pe_callTy call_rng rfl T.range PyProof.Rows.boot_range (pa_cons (pv 3) pa_nil)) pa_nil)))
     (pss_cons (ps_post (ps_if (pt_cmpR op_notN (pv 8) pe_non (nomark _)) (pss_one (ps_set (i:=9) scEn.nd rfl (Or.inl rfl) (pe_lst (pa_cons (pe_ix ix_tup (pe_ix ix_list (pv 0) (pv 8) (fun _ _=>rfl)) pe_int (fun _ _=>rfl)) pa_nil)))) pss_nil))
     (pss_one (ps_for PassesOwn.never rfl (pi_list (pv 9)) (pg_name (i:=10) scEn.nd rfl (Or.inl rfl))
      (pss_cons (ps_set (i:=11) scEn.nd rfl (Or.inl rfl) (pe_tup (pa_cons (pv 10) (pa_cons (pv 7) (pa_cons (pv 8) pa_nil)))))
      (pss_one (ps_if (pt_cmpR op_ne (pv 10) (pv 7) (nomark _))
       (pss_one (ps_oput hu1 (pv 5) (pv 11) (pe_call Gy hr1 rfl my ky by' .nil pass0 (pa_cons (pv 0) (pa_cons (pv 1) (pa_cons (pv 2) (pa_cons (pv 11) (pa_cons (pe_ix ix_list (pv 6) (pe_callB call_lenO rfl T.len PySem.boot_len (pa_cons (pv 5) pa_nil)) (fun _ _=>rfl)) pa_nil)))))) rfl)) pss_nil))))))))))
   (pss_one (ps_ret (pv 5))))),?_⟩
  have hll:lvs.length=ps.length:=Paired.length hLn
  refine fun D hD=>?_
  have s0:=(Same.refl H).new (o:=DicO P w D []) hD
  have g0:(upd H D (DicO P w D [])) D=some (DicO P w D []):=upd_same
  generalize upd H D (DicO P w D [])=H0 at s0 g0 ⊢
  refine ⟨_,rfl,_,rfl,_,rfl,_,rfl,l,_,rfl, .inl (SqL.of (s0 _ _ gl)),_,_,rfl,rfl,_,_,rfl,rfl, .inl ⟨by omega,by omega⟩,_,_,rfl,rfl,⟨by decide,by decide,by decide⟩,c,10 ^ (5:Int).toNat,n * (n + ps.length),by rw [hll,Int.natCast_mul,Int.natCast_add]; rfl,?_,by decide +kernel,by decide +kernel,fun Dr ds H1 s1 hDr gDr hdl=>?_⟩
  ·exact Nat.le_trans (Nat.mul_le_mul hn5 (Nat.add_le_add hn5 hpl)) (by decide)
  have I0:EntT P w H H1 D [] [] n ps:=⟨s0.trans s1,hD,s1 _ _ g0, .nil,(fun r hr=>by cases hr),List.nodup_nil⟩
  have nDr:Dr ≠ D:=Ne.symm (ne_of_none g0 hDr)
  refine ⟨_,rfl,(n:Int),rfl,by omega,by omega,?_⟩
  rw [Int.toNat_natCast]
  refine for_range (n:=n) (fun i σ H2=>∃ (a7 a8 a9 a10 a11:Option V) (kvs:List Ent) (rs:List Rw),EntT P w H H2 D kvs rs n ps/\H2 Dr=some (.lst (ds.map V.int))/\(∀ r ∈ rs,RowA ps nums A r/\r.s.length <= 10)/\(∀ r ∈ rs,Bef i 0 0 none [] r)/\Cov n ps i 0 0 none [] rs/\rs.length <= i * (n + ps.length)/\σ=[some (.ref l),some (.ref nu),some (.ref al),some (.int n),some (.int c),some (.ref D),some (.ref Dr),a7,a8,a9,a10,a11])
   ⟨none,none,none,none,none,[],[],I0,gDr,(fun r hr=>by cases hr),(fun r hr=>by cases hr),(fun p g c' _ _ _ hw=>?_),Nat.zero_le _,rfl⟩ ?_ ?_
  ·rcases hw with hw | ⟨_,hw | ⟨_,hw⟩⟩
   ·omega
   ·omega
   ·cases hw
  rotate_left
  ·rintro σ H3 ⟨a7,a8,a9,a10,a11,kvs,rs,hR,_,hRA,_,hcov,hrl,rfl⟩
   refine ⟨_,rfl,q D kvs rs H3 hR hRA (fun p g c' hp hg hpg hc=>hcov p g c' hp hpg hc (.inl hg)) (Nat.le_trans hrl (Nat.le_trans (Nat.mul_le_mul hn5 (Nat.add_le_add hn5 hpl)) (by decide)))⟩
  rintro i σ H2 hi ⟨a7,a8,a9,a10,a11,kvs,rs,I2,gn2,hRA2,hb,hcov2,hlen,rfl⟩
  rw [Int.zero_add]
  refine ⟨by show 1 <= sizeLine; decide,fun o1 ho1=>?_⟩
  have t1:=(Same.refl H2).new (o := .lst [.non]) ho1
  have g1:(upd H2 o1 (.lst [.non])) o1=some (.lst [.non]):=upd_same
  generalize upd H2 o1 (.lst [.non])=H3 at t1 g1 ⊢
  refine ⟨_,rfl,l,_,rfl, .inl (SqL.of (t1 _ _ (I2.s _ _ gl))),_,rfl,fun o2 ho2=>?_⟩
  rw [hll]
  have t2:=t1.new (o:=RngO o2 (ps.length:Int)) ho2
  have g2:(upd H3 o2 (RngO o2 (ps.length:Int))) o2=some (RngO o2 (ps.length:Int)):=upd_same
  have g1':(upd H3 o2 (RngO o2 (ps.length:Int))) o1=some (.lst [.non]):=by rw [upd_ne (ne_of_none g1 ho2)]; exact g1
  generalize upd H3 o2 (RngO o2 (ps.length:Int))=H4 at t2 g2 g1' ⊢
  refine ⟨o2,ps.length,rfl,g2,by omega,fun o3 ho3=>?_⟩
  have t3:=t2.new (o := .lst ((List.range ps.length).map fun k:Nat=>V.int (k:Int))) ho3
  have g3:(upd H4 o3 (.lst ((List.range ps.length).map fun k:Nat=>V.int (k:Int)))) o3=some (.lst ((List.range ps.length).map fun k:Nat=>V.int (k:Int))):=upd_same
  have g1'':(upd H4 o3 (.lst ((List.range ps.length).map fun k:Nat=>V.int (k:Int)))) o1=some (.lst [.non]):=by rw [upd_ne (ne_of_none g1' ho3)]; exact g1'
  generalize upd H4 o3 (.lst ((List.range ps.length).map fun k:Nat=>V.int (k:Int)))=H5 at t3 g3 g1'' ⊢
  refine ⟨o1,o3,_,_,rfl,rfl,g1'',g3,by rw [List.length_map,List.length_range,PySem.sizeLine_eq]; simp only [List.length_singleton]; omega,fun C hC=>?_⟩
  rw [allC_V]
  have t4:=t3.new (o := .lst ((allC ps.length).map cV)) hC
  have gC:(upd H5 C (.lst ((allC ps.length).map cV))) C=some (.lst ((allC ps.length).map cV)):=upd_same
  have nC:C ≠ D:=Ne.symm (ne_of_none (t3 _ _ I2.d) hC)
  generalize upd H5 C (.lst ((allC ps.length).map cV))=H6 at t4 gC ⊢
  refine ⟨C,rfl,⟨_,SqL.of gC⟩,?_⟩
  have hCl:((allC ps.length).map cV).length=ps.length + 1:=by unfold allC; rw [List.length_map,List.length_cons,List.length_map,List.length_range]
  refine for_list (K:=K) (a:=C) (xs:=(allC ps.length).map cV) (fun j σ H7=>∃ (a8 a9 a10 a11:Option V) (kvs:List Ent) (rs:List Rw),EntT P w H H7 D kvs rs n ps/\H7 Dr=some (.lst (ds.map V.int))/\H7 C=some (.lst ((allC ps.length).map cV))/\(∀ r ∈ rs,RowA ps nums A r/\r.s.length <= 10)/\(∀ r ∈ rs,Bef i j 0 none [] r)/\Cov n ps i j 0 none [] rs/\rs.length <= i * (n + ps.length) + (if j=0 then 0 else n + j - 1)/\σ=[some (.ref l),some (.ref nu),some (.ref al),some (.int n),some (.int c),some (.ref D),some (.ref Dr),some (.int (i:Int)),a8,a9,a10,a11])
   ⟨_,_,_,_,kvs,rs,I2.same t4,t4 _ _ gn2,gC,hRA2,hb,hcov2,by rw [if_pos rfl]; omega,rfl⟩ (fun j σ H7 _ ⟨_,_,_,_,_,_,_,_,g,_⟩=>SqL.of g) ?_ ?_
  rotate_left
  ·rintro σ H7 ⟨a8,a9,a10,a11,kvs,rs,I7,gn7,_,hRA7,hb7,hcov7,hl7,rfl⟩
   rw [hCl] at hb7 hl7 hcov7
   refine ⟨_,_,_,_,_,kvs,rs,I7,gn7,hRA7,(fun r hr=>(hb7 r hr).up none []),hcov7.up,?_,rfl⟩
   rw [if_neg (by omega)] at hl7
   rw [Nat.add_mul,Nat.one_mul]
   omega
  rintro j v σ H7 hv ⟨a8,a9,a10,a11,kvs,rs,I7,gn7,gC7,hRA7,hb7,hcov7,hl7,rfl⟩
  have hj:j < ps.length + 1:=by rw [← hCl]; exact (List.getElem?_eq_some_iff.mp hv).1
  obtain ⟨cc,rfl,hcix,hcc⟩:=allC_get hv
  refine ⟨_,rfl,_,rfl,fun o5 ho5=>?_⟩
  have t5:=(Same.refl H7).new (o:=RngO o5 (n:Int)) ho5
  have g5:(upd H7 o5 (RngO o5 (n:Int))) o5=some (RngO o5 (n:Int)):=upd_same
  generalize upd H7 o5 (RngO o5 (n:Int))=H8 at t5 g5 ⊢
  refine ⟨o5,n,rfl,g5,by omega,fun o6 ho6=>?_⟩
  have t6:=t5.new (o := .lst ((List.range n).map fun k:Nat=>V.int (k:Int))) ho6
  have g6:(upd H8 o6 (.lst ((List.range n).map fun k:Nat=>V.int (k:Int)))) o6=some (.lst (natV (List.range n))):=upd_same
  have n6:o6 ≠ D:=Ne.symm (ne_of_none (t5 _ _ I7.d) ho6)
  generalize upd H8 o6 (.lst ((List.range n).map fun k:Nat=>V.int (k:Int)))=H9 at t6 g6 ⊢
  refine ⟨fun σ Ha=>∃ (So:Addr) (xs:List Nat),Same H7 Ha/\Ha So=some (.lst (natV xs))/\So ≠ D/\(if j=0 then 0 else n + j - 1) + xs.length <= n + j/\xs.length <= 5/\xs.Nodup/\(∀ p ∈ xs,p < n/\cc ∈ cames ps p)/\(∀ p,p < n->cc ∈ cames ps p->p ∈ xs)/\σ=[some (.ref l),some (.ref nu),some (.ref al),some (.int n),some (.int c),some (.ref D),some (.ref Dr),some (.int (i:Int)),some (cV cc),some (.ref So),a10,a11],?_,?_⟩
  ·refine ⟨_,rfl,rfl,_,rfl,?_⟩
   cases cc with
   | none =>
    have hj0:j=0:=hcix.symm
    exact iteF ⟨o6,List.range n,t6,g6,n6,by rw [if_pos hj0,List.length_range]; omega,by rw [List.length_range]; exact hn5,List.nodup_range,(fun p hp=>⟨List.mem_range.mp hp,List.mem_cons_self⟩),(fun p hp _=>List.mem_range.mpr hp),rfl⟩
   | some k =>
    have hk:=hcc k rfl
    have hj0:j=k + 1:=hcix.symm
    obtain ⟨v,hv',u,rfl,gu⟩:=Lns.get2 hLn (List.getElem?_eq_getElem hk)
    have s9:=I7.s.trans t6
    refine iteT ⟨_,rfl,_,rfl,l,lvs,(k:Int),_,rfl,rfl,SqL.of (s9 _ _ gl),atI_nat hv',u,_,1,_,rfl,rfl,SqT.of (s9 _ _ gu),atI_nat (j:=1) rfl,by show 1 <= sizeLine; decide,fun So hSo=>?_⟩
    have hokk:=hok _ (List.getElem_mem hk)
    unfold okP at hokk
    simp only [Bool.and_eq_true,decide_eq_true_eq,Bool.not_eq_true',decide_eq_false_iff_not] at hokk
    obtain ⟨p0,hp0⟩:∃ p0:Nat,(ps[k]).2=(p0:Int):=⟨(ps[k]).2.toNat,by omega⟩
    have egk:ps.getD k (0,0)=ps[k]:=by rw [List.getD_eq_getElem?_getD,List.getElem?_eq_getElem hk]; rfl
    refine ⟨So,[p0],t6.new hSo,by rw [upd_same,hp0]; rfl,Ne.symm (ne_of_none (t6 _ _ I7.d) hSo),by rw [if_neg (by omega)]; simp only [List.length_singleton]; omega,by show 1 <= 5; decide,List.nodup_cons.mpr ⟨List.not_mem_nil,List.nodup_nil⟩,(fun p hp=>?_),(fun p hp hpc=>?_),rfl⟩
    ·rw [List.mem_singleton.mp hp]
     refine ⟨by omega,List.mem_cons_of_mem _ (List.mem_map.mpr ⟨k,List.mem_filter.mpr ⟨List.mem_range.mpr hk,decide_eq_true ?_⟩,rfl⟩)⟩
     rw [egk]
     exact hp0
    ·rcases List.mem_cons.mp hpc with e | e
     ·cases e
     ·obtain ⟨k',hk',e⟩:=List.mem_map.mp e
      cases e
      have h2:=of_decide_eq_true (List.mem_filter.mp hk').2
      have h2:(ps.getD k (0,0)).2=(p:Int):=h2
      rw [egk,hp0] at h2
      exact List.mem_singleton.mpr (by omega)
  rintro σ Ha ⟨So,xs,tS,gS,nS,hxc,hxl,hnd,hxp,hxall,rfl⟩
  have gCa:=tS _ _ gC7
  refine ⟨_,rfl,So,rfl,⟨_,SqL.of gS⟩,?_⟩
  generalize hcn:(if j=0 then 0 else n + j - 1)=cn at hxc hl7
  refine for_list (K:=K) (a:=So) (xs:=natV xs) (fun t σ Hb=>∃ (a10 a11:Option V) (kvs:List Ent) (rs:List Rw),EntT P w H Hb D kvs rs n ps/\Hb Dr=some (.lst (ds.map V.int))/\Hb C=some (.lst ((allC ps.length).map cV))/\Hb So=some (.lst (natV xs))/\(∀ r ∈ rs,RowA ps nums A r/\r.s.length <= 10)/\(∀ r ∈ rs,Bef i j t cc xs r)/\Cov n ps i j t cc xs rs/\rs.length <= i * (n + ps.length) + cn + t/\σ=[some (.ref l),some (.ref nu),some (.ref al),some (.int n),some (.int c),some (.ref D),some (.ref Dr),some (.int (i:Int)),some (cV cc),some (.ref So),a10,a11])
   ⟨_,_,kvs,rs,I7.same tS,tS _ _ gn7,gCa,gS,hRA7,(fun r hr=>(hb7 r hr).zero cc xs),hcov7.zero cc xs,by omega,rfl⟩ (fun t σ Hb _ ⟨_,_,_,_,_,_,_,g,_⟩=>SqL.of g) ?_ ?_
  rotate_left
  ·rintro σ Hb ⟨a10,a11,kvs,rs,Ib,gnb,gCb,gSb,hRAb,hbb,hcovb,hlb,rfl⟩
   have hxl':(natV xs).length=xs.length:=by unfold natV; rw [List.length_map]
   exact ⟨_,_,_,_,kvs,rs,Ib,gnb,gCb,hRAb,(fun r hr=>(hbb r hr).end hcix none []),hcovb.end (by omega) hcix hxall,by rw [if_neg (by omega)]; omega,rfl⟩
  rintro t v σ Hb hv2 ⟨a10,a11,kvs,rs,Ib,gnb,gCb,gSb,hRAb,hbb,hcovb,hlb,rfl⟩
  obtain ⟨p,hp,rfl⟩:=natV_get hv2
  have htx:t < xs.length:=(List.getElem?_eq_some_iff.mp hp).1
  obtain ⟨hpn,hpc⟩:=hxp p (List.mem_of_getElem? hp)
  have hrr:kvs.length=rs.length:=Paired.length Ib.r
  refine ⟨_,rfl,_,rfl,_,rfl,by show 3 <= sizeLine; decide,fun tt htt=>?_⟩
  have u1:=(Same.refl Hb).new (o := .tup [.int (p:Int), .int (i:Int),cV cc]) htt
  have gT:(upd Hb tt (.tup [.int (p:Int), .int (i:Int),cV cc])) tt=some (.tup [.int (p:Int), .int (i:Int),cV cc]):=upd_same
  generalize upd Hb tt (.tup [.int (p:Int), .int (i:Int),cV cc])=Hc at u1 gT ⊢
  have Ic:=Ib.same u1
  have gnc:=u1 _ _ gnb
  have gCc:=u1 _ _ gCb
  have gSc:=u1 _ _ gSb
  refine ⟨_,rfl,_,rfl,rfl,_,rfl,?_⟩
  rw [int_eq]
  by_cases hpi:(p:Int)=(i:Int)
  ·rw [decide_eq_true hpi]
   exact iteF ⟨_,_,kvs,rs,Ic,gnc,gCc,gSc,hRAb,(fun r hr=>(hbb r hr).next),hcovb.next hp (fun _ h=>h) (fun h=>absurd (by omega) h),by omega,rfl⟩
  rw [decide_eq_false hpi]
  have hpi':p ≠ i:=by omega
  have hidx:rs.length < ds.length:=by
   rw [hdl]
   have h1:(i + 1) * (n + ps.length) <= n * (n + ps.length):=Nat.mul_le_mul_right _ (by omega)
   rw [Nat.add_mul,Nat.one_mul] at h1
   omega
  refine iteT ⟨_,rfl,_,rfl,_,rfl,_,rfl,_,rfl,_,rfl,D,kvs,rfl,Ic.d,Dr,_,_,V.int ds[rs.length],rfl,rfl,SqL.of gnc,by rw [hrr]; exact atI_nat (by simp [hidx]),l,nu,al,tt,lvs,ps,nums,A,(p:Int),_,i,cc,rfl,Ic.s _ _ gl,Lns.same Ic.s hLn,hpl,Ic.s.seq hN,hnl,Ic.s.seq hA,hAl,SqT.of gT,hcc,fun U us Hd sd hU gU hus hne hul=>?_⟩
  have Id:=Ic.same sd
  have gTd:=sd _ _ gT
  have ek:(keyOf ⟨(p:Int),(i:Int),cc,us⟩).map okV=[.int (p:Int), .int (i:Int),cV cc]:=keyV _
  refine ⟨_,rfl,_,rfl,D,kvs,keyOf ⟨(p:Int),(i:Int),cc,us⟩,tt,rfl,ent_keys Id.d Id.r,rfl,by rw [ek]; exact gTd,by rw [PySem.sizeLine_eq]; have:=cames_lt hpc; have h1:i * (n + ps.length) <= 5 * 15:=Nat.mul_le_mul (by omega) (by omega); omega,?_⟩
  have hnew:=Bef.new (us:=us) hbb hcix hp hnd
  have Ie:=Id.add (r:=⟨(p:Int),(i:Int),cc,us⟩) (by rw [ek]; exact gTd) gU ⟨⟨p,i,rfl,rfl,hpn,hi,Ne.symm hpi',hpc⟩,(fun z hz=>?_),Nat.le_trans hul (by decide)⟩ hnew
  ·refine ⟨_,_,_,_,Ie,?_,?_,?_,(fun r hr=>?_),(fun r hr=>?_),hcovb.next hp (fun k hk=>?_) (fun _=>?_),by rw [List.length_append]; show rs.length + 1 <= _; omega,rfl⟩
   ·rw [upd_ne nDr]; exact sd _ _ gnc
   ·rw [upd_ne nC]; exact sd _ _ gCc
   ·rw [upd_ne nS]; exact sd _ _ gSc
   ·rcases List.mem_append.mp hr with z | z
    ·exact hRAb r z
    ·rw [List.mem_singleton.mp z]
     refine ⟨⟨fun z hz=>?_,fun z hz h1 h2 h3=>hne fun e=>?_⟩,hul⟩
     ·obtain ⟨_,_,h3,h4⟩:=mem_cand.mp (hus z hz)
      exact ⟨by show bitN A z ((i:Int)).toNat=true; rw [Int.toNat_natCast]; exact h3,h4⟩
     ·have:z ∈ cB nums cc (cA ps A (p:Int) i ps.length):=mem_cand.mpr ⟨hz,h1,by have h2:bitN A z ((i:Int)).toNat=true:=h2; rw [Int.toNat_natCast] at h2; exact h2,h3⟩
      rw [e] at this
      cases this
   ·rcases List.mem_append.mp hr with z | z
    ·exact (hbb r z).next
    ·rw [List.mem_singleton.mp z]; exact Bef.at hp
   ·rw [List.map_append]; exact List.mem_append_left _ hk
   ·rw [List.map_append]; exact List.mem_append_right _ List.mem_cons_self
  ·obtain ⟨h1,h2,_,_⟩:=mem_cand.mp (hus z hz)
   exact List.mem_filter.mpr ⟨List.mem_range.mpr h1,decide_eq_true h2⟩
end
end K33
namespace K33
open PySem L2 LkM
structure EntD (P:Program) (w:World) (H:Hp) (D:Addr) (kvs:List Ent) (rs:List Rw) (n:Nat) (ps:List (Int × Int)):Prop where
 d:H D=some (DicO P w D kvs)
 r:Paired (EntV H) kvs rs
 g:∀ r ∈ rs,RowG n ps r
 nd:(rs.map keyN).Nodup
 all:AllK n ps rs
 few:rs.length <= 75
theorem EntD.same {P:Program} {w:World} {H H':Hp} {D:Addr} {kvs:List Ent} {rs:List Rw} {n:Nat} {ps:List (Int × Int)} (h:EntD P w H D kvs rs n ps) (s:Same H H'):EntD P w H' D kvs rs n ps:=⟨s _ _ h.d,entV_same s h.r,h.g,h.nd,h.all,h.few⟩
def setR (k:Key) (us:List Nat) (r:Rw):Rw:=if keyN r=k then { r with s:=us } else r
theorem setR_key (k:Key) (us:List Nat) (r:Rw):keyN (setR k us r)=keyN r:=by
 unfold setR
 split <;> rfl
theorem setR_keys (k:Key) (us:List Nat) (rs:List Rw):(rs.map (setR k us)).map keyN=rs.map keyN:=by
 rw [List.map_map]
 exact List.map_congr_left fun r _=>setR_key k us r
theorem ent_putV {H:Hp} {U:Addr} {us:List Nat} {k:Key} (gU:H U=some (.lst (natV us))) {kvs:List Ent} {rs:List Rw} (h:Paired (EntV H) kvs rs):Paired (EntV H) (kvs.map (putE (okey k) (.ref U))) (rs.map (setR k us)):=by
 induction h with
 | nil=>exact .nil
 | @cons x r _ _ h1 _ ih =>
  refine .cons ?_ ih
  obtain ⟨a,b,U',c,d⟩:=h1
  unfold putE setR
  by_cases e:keyN r=k
  ·rw [if_pos (by rw [a]; exact congrArg okey e),if_pos e]
   exact ⟨a,b,U,rfl,gU⟩
  ·rw [if_neg (fun z=>e (okey_inj (a.symm.trans z))),if_neg e]
   exact ⟨a,b,U',c,d⟩
theorem putE_refs (k:Oks) (v:V) (kvs:List Ent):(kvs.map (putE k v)).map (fun x=>V.ref x.2.1)=kvs.map (fun x=>V.ref x.2.1):=by
 rw [List.map_map]
 refine List.map_congr_left fun x _=>?_
 show V.ref (putE k v x).2.1=_
 unfold putE
 split <;> rfl
theorem EntD.put {P:Program} {w:World} {H:Hp} {D U tt:Addr} {kvs:List Ent} {rs:List Rw} {n:Nat} {ps:List (Int × Int)} (h:EntD P w H D kvs rs n ps) {r:Rw} {us:List Nat} (hr:r ∈ rs) (gU:H U=some (.lst (natV us))) (hs:∀ z ∈ us,z ∈ ixM Prod.fst ps r.p) (hl:us.length <= 40) :
  ∃ kvs',putO kvs (keyOf r) tt (.ref U)=kvs'/\EntD P w (upd H D (DicO P w D kvs')) D kvs' (rs.map (setR (keyN r) us)) n ps/\kvs'.map (fun x=>V.ref x.2.1)=kvs.map (fun x=>V.ref x.2.1):=by
 obtain ⟨U0,hv,_⟩:=ent_at h.r h.nd hr
 refine ⟨kvs.map (putE (keyOf r) (.ref U)),by unfold putO; rw [hv]; rfl,⟨upd_same,ent_off h.d (ent_putV (k:=keyN r) gU h.r),fun r' hr'=>?_,by rw [setR_keys]; exact h.nd,fun p g c a b c' d=>by rw [setR_keys]; exact h.all p g c a b c' d,by rw [List.length_map]; exact h.few⟩,putE_refs _ _ _⟩
 obtain ⟨r0,h0,rfl⟩:=List.mem_map.mp hr'
 have G:=h.g r0 h0
 unfold setR
 by_cases e:keyN r0=keyN r
 ·rw [if_pos e]
  have e1:r0.p=r.p:=congrArg (fun y=>y.1) e
  exact ⟨G.pg,fun z hz=>by show z ∈ ixM Prod.fst ps r0.p; rw [e1]; exact hs z hz,hl⟩
 ·rw [if_neg e]; exact G
theorem set_len {k:Key} {us:List Nat} {rs:List Rw} {b:Nat} (h:∀ r ∈ rs,r.s.length <= b) (hu:us.length <= b):∀ r ∈ rs.map (setR k us),r.s.length <= b:=fun r hr=>by
 obtain ⟨r0,h0,rfl⟩:=List.mem_map.mp hr
 unfold setR
 split
 ·exact hu
 ·exact h r0 h0
def OffD (D:Addr) (H H':Hp):Prop:=∀ b o,b ≠ D->H b=some o->H' b=some o
theorem OffD.same {D:Addr} {H H1 H2:Hp} (h:OffD D H H1) (s:Same H1 H2):OffD D H H2:=fun b o n e=>s _ _ (h b o n e)
theorem OffD.upd {D:Addr} {H H1:Hp} {o:HO} (h:OffD D H H1):OffD D H (upd H1 D o):=fun b u n e=>by rw [upd_ne n]; exact h b u n e
theorem OffD.lns {D:Addr} {H H1:Hp} {o:HO} (h:OffD D H H1) (hD:H D=some o) (ho:∀ xs,o ≠ .tup xs) {lvs:List V} {ps:List (Int × Int)} (hL:Lns H lvs ps):Lns H1 lvs ps:=by
 induction hL with
 | nil=>exact .nil
 | cons h1 _ ih =>
  obtain ⟨u,rfl,gu⟩:=h1
  exact .cons ⟨u,rfl,h _ _ (ne_of gu hD (fun z=>ho _ z.symm)) gu⟩ ih
theorem row_key {rs:List Rw} {k:Key} (h:k ∈ rs.map keyN):∃ r ∈ rs,keyN r=k:=by
 obtain ⟨r,hr,e⟩:=List.mem_map.mp h
 exact ⟨r,hr,e⟩
theorem cut1 (us:List Nat):cutV (nV us) (some 1) none=nV (us.drop 1):=by
 cases us with
 | nil=>rfl
 | cons a us=>exact cut_from (i:=1) (a :: us) (by rw [List.length_cons]; omega)
def rLok (P:Program) (w:World):List V->Hp->VK->Prop:=fun xs H Q=>∃ (a:Addr) (kvs:List Ent),xs=[.ref a]/\H a=some (DicO P w a kvs)/\∀ l,H l=none->Q (.ref l) (upd H l (.lst (kvs.map fun x=>V.ref x.2.1)))
def forB (s:Stmt):List Stmt:=match s with
 | .For _ _ b _ _=>b
 | _=>[]
def spCh (P:Program) (w:World):Sp:=fun vs H Q _=>∃ (l D:Addr) (lvs:List V) (ps:List (Int × Int)) (kvs:List Ent) (rs:List Rw) (n:Nat) (c:Int),vs=[.ref l, .ref D, .int c]/\H l=some (.lst lvs)/\Lns H lvs ps/\ps.length <= 10/\2 <= n/\EntD P w H D kvs rs n ps/\(∀ r ∈ rs,r.s.length <= 10) /\
 ∀ (kvs':List Ent) (rs':List Rw) (H':Hp),OffD D H H'->EntD P w H' D kvs' rs' n ps->Q .non H'
abbrev PCh:List Str:=["_law_lanes_here", "_law_entries_here", "_law_cell"]
abbrev NCh:List Str:=["_law_lanes_here", "_law_entries_here", "_law_cell", "_law_keys", "_law_draws_here", "_law_draw", "_law_key", "_law_out", "_law_way"]
section
variable {P:Program} {w:World} {K:PySem.W.Frag} {mg:Str->Option Value} {base:Heap}
theorem scCh:FnScope NCh PCh (defScope sChgd):=⟨rfl,rfl,rfl,by decide +kernel,rfl,by decide +kernel,by decide +kernel⟩
theorem bkCh:Blk NCh (defScope sChgd) (asgC ((forB ((defBody sChgd).getD 2 (.Pass ⟨0,0,0,0⟩))).getD 1 (.Pass ⟨0,0,0,0⟩))) ["_law_lanes_here", "_law_key"] [0,6]:=⟨rfl,by decide +kernel,by decide +kernel,by decide +kernel,rfl,by decide +kernel⟩
theorem ndCh:(["_law_lane", "_law_lanes_here", "_law_key"]:List Str).Nodup:=by decide +kernel
theorem ok_changed {f fd':Addr} {fd dd:FuncData} (F:Fun K "_law_changed" "_law_changed" sChgd f fd) (T:Txt mg)
  (mm:mg "_law_draws" = some (.ref fd')) (km:PySem.W.keepIn K (.ref fd')=true) (bm:Binds K dd PDr []) (Gm:FnOk P w K mg base CX0 2 fd' dd PDr spDr) :
  FnOk P w K mg base CX0 3 f fd PCh (spCh P w):=by
 refine F.ok scCh (fun vs H Q E h=>?_) (fun cdv A outer s H vs Q E hr h=>?_)
 ·obtain ⟨l,D,lvs,ps,kvs,rs,n,c,rfl,_⟩:=h
  rfl
 ·obtain ⟨l,D,lvs,ps,kvs,rs,n,c,rfl,gl,hLn,hpl,hn2,hE,hE10,q⟩:=h
  have hu:=hr.units
  have hu1:=Nat.lt_of_le_of_lt (Nat.add_le_add_left (show 1 <= 64 by decide) _) hr.units
  refine ⟨_,pss_cons (ps_set (i:=3) scCh.nd rfl (Or.inl rfl) (pe_callTy (show CallR _ (.type "list") (rLok P w) from call_list_okeys rfl) rfl T.list PySem.Pv.boot_list (pa_cons (pv 1) pa_nil)))
   (pss_cons (ps_set (i:=4) scCh.nd rfl (Or.inl rfl) (pe_call Gm hr rfl mm km bm .nil pass0 (pa_cons (pe_op op_fdiv (pv 2) pe_int) (pa_cons (pe_op op_mod (pv 2) pe_int) (pa_cons (pe_op op_pow pe_int pe_int) pa_nil)))))
   (pss_one (ps_for PassesOwn.never rfl (pi_list (pv 4)) (pg_name (i:=5) scCh.nd rfl (Or.inl rfl))
    (pss_cons (ps_set (i:=6) scCh.nd rfl (Or.inr rfl) (pe_ix ix_list (pv 3) (pe_op op_mod (pv 5) (pe_callB call_len_seq rfl T.len PySem.boot_len (pa_cons (pv 3) pa_nil))) (fun _ _=>rfl)))
    (pss_cons (ps_setComp (i:=7) (own:=["_law_lane"]) (capN:=["_law_lanes_here", "_law_key"]) (cap:=[0,6]) bkCh rfl scCh.nd rfl rfl (pi_range1 rfl T.range (pa_cons (pe_callB call_len_seq rfl T.len PySem.boot_len (pa_cons (pv 0) pa_nil)) pa_nil))
     (fun C s' H' fp=>⟨pg_name (i:=0) ndCh rfl (Or.inl rfl),pts_one (pt_cmpR op_eq (pe_ix (show IxR _ (rIxT K) from ix_tup) (pe_ix (show IxR _ (rIxL K) from ix_list) (pv 1) (pv 0) (fun _ _=>rfl)) pe_int (fun _ _=>rfl)) (pe_ix (show IxR _ (rIxT K) from ix_tup) (pv 2) pe_int (fun _ _=>rfl)) (nomark _)),pv 0⟩))
    (pss_cons (ps_set (i:=8) scCh.nd rfl (Or.inl rfl) (pe_op op_mod (pe_op op_fdiv (pv 5) pe_int) pe_int))
    (pss_cons (ps_post (ps_if (PW.pt (pw_and (pt_cmpR op_eq (pv 8) pe_int (nomark _)) (pw_and1 (pt_cmpR (op_neI hu) (pv 7) (pe_lst pa_nil) (nomark _)))))
     (pss_one (ps_oput hu1 (pv 1) (pv 6) (pe_op op_cat (show PE _ _ (tOIx P w _ _) from pe_oix hu1 (pv 1) (pv 6) (fun _ _=>rfl)) (pe_lst (pa_cons (pe_ix ix_list (pv 7) (pe_op op_mod (pe_op op_fdiv (pv 5) pe_int) (pe_callB call_len_seq rfl T.len PySem.boot_len (pa_cons (pv 7) pa_nil))) (fun _ _=>rfl)) pa_nil))) rfl)) pss_nil))
    (pss_cons (ps_post (ps_if (pt_cmpR op_eq (pv 8) pe_int (nomark _))
     (pss_one (ps_oput hu1 (pv 1) (pv 6) (pe_slice sl_list (show PE _ _ (tOIx P w _ _) from pe_oix hu1 (pv 1) (pv 6) (fun _ _=>rfl)) (po_some pe_int) po_none) rfl)) pss_nil))
    (pss_cons (ps_post (ps_if (pt_cmpR op_eq (pv 8) pe_int (nomark _))
     (pss_one (ps_oput hu1 (pv 1) (pv 6) (pe_lst pa_nil) rfl)) pss_nil))
    (pss_one (ps_if (pt_cmpR op_eq (pv 8) pe_int (nomark _))
     (pss_one (ps_oput hu1 (pv 1) (pv 6) (pv 7) rfl)) pss_nil))))))))))),?_⟩
  have hll:lvs.length=ps.length:=Paired.length hLn
  have nlD:l ≠ D:=ne_of gl hE.d (by intro z; cases z)
  have hk0:kvs.length=rs.length:=Paired.length hE.r
  have hpos:0 < rs.length:=by
   have:=hE.all 0 1 none (by omega) (by omega) (by decide) List.mem_cons_self
   have:=List.length_pos_of_mem this
   rw [List.length_map] at this
   exact this
  refine ⟨_,rfl,D,kvs,rfl,hE.d,fun Ks hKs=>?_⟩
  have s1:=(Same.refl H).new (o := .lst (kvs.map fun x=>V.ref x.2.1)) hKs
  have gK:(upd H Ks (.lst (kvs.map fun x=>V.ref x.2.1))) Ks=some (.lst (kvs.map fun x=>V.ref x.2.1)):=upd_same
  have nK:Ks ≠ D:=Ne.symm (ne_of_none hE.d hKs)
  generalize upd H Ks (.lst (kvs.map fun x=>V.ref x.2.1))=H1 at s1 gK ⊢
  obtain ⟨m,hm,hm4⟩:∃ m:Nat,c % 4=(m:Int)/\m < 4:=by
   have h1:=Int.emod_nonneg c (show (4:Int) ≠ 0 by decide)
   have h2:=Int.emod_lt_of_pos c (show (0:Int) < 4 by decide)
   exact ⟨(c % 4).toNat,by omega,by omega⟩
  refine ⟨_,rfl,_,_,rfl,rfl,⟨by decide,by decide⟩,_,rfl,_,_,rfl,rfl,(by decide:(0:Int) < 4),_,_,rfl,rfl,⟨by decide,by decide,by decide⟩,c / 4,10 ^ (9:Int).toNat,m,by rw [← hm]; rfl,by omega,by decide +kernel,by decide +kernel,fun Dr ds H2 s2 hDr gDr hdl=>?_⟩
  have s02:=s1.trans s2
  have nDr:Dr ≠ D:=Ne.symm (ne_of_none (s1 _ _ hE.d) hDr)
  refine ⟨_,rfl,Dr,rfl,⟨_,SqL.of gDr⟩,?_⟩
  refine for_list (K:=K) (a:=Dr) (xs:=ds.map V.int) (fun i σ H3=>∃ (a5 a6 a7 a8:Option V) (kv:List Ent) (rw':List Rw),OffD D H H3/\EntD P w H3 D kv rw' n ps/\(∀ r ∈ rw',r.s.length <= 10 + i)/\rw'.length=rs.length/\kv.map (fun x=>V.ref x.2.1)=kvs.map (fun x=>V.ref x.2.1)/\H3 Dr=some (.lst (ds.map V.int))/\H3 Ks=some (.lst (kvs.map fun x=>V.ref x.2.1))/\σ=[some (.ref l),some (.ref D),some (.int c),some (.ref Ks),some (.ref Dr),a5,a6,a7,a8])
   ⟨none,none,none,none,kvs,rs,(fun b o _ e=>s02 _ _ e),hE.same s02,hE10,rfl,rfl,gDr,s2 _ _ gK,rfl⟩ (fun i σ H3 _ ⟨_,_,_,_,_,_,_,_,_,_,_,g,_⟩=>SqL.of g) ?_ ?_
  rotate_left
  ·rintro σ H3 ⟨a5,a6,a7,a8,kv,rw',o3,hE3,_,_,_,_,_,rfl⟩
   exact q kv rw' H3 o3 hE3
  rintro i v σ H3 hv ⟨a5,a6,a7,a8,kv,rw',o3,hE3,hlen3,hrl3,hkv,gD3,gK3,rfl⟩
  have hi:i < ds.length:=by have:=(List.getElem?_eq_some_iff.mp hv).1; rw [List.length_map] at this; exact this
  obtain ⟨d,hd⟩:∃ d:Int,v=V.int d:=by
   rw [List.getElem?_map,List.getElem?_eq_getElem hi] at hv
   exact ⟨ds[i],(Option.some.inj hv).symm⟩
  subst hd
  have hkl:kv.length=rw'.length:=Paired.length hE3.r
  have hKl:(kvs.map fun x=>V.ref x.2.1).length=rs.length:=by rw [List.length_map]; exact hk0
  have np:(0:Int) < ((rs.length:Nat):Int):=by omega
  obtain ⟨k,hk,hkl2⟩:∃ k:Nat,d % ((rs.length:Nat):Int)=(k:Int)/\k < rs.length:=by
   have h1:=Int.emod_nonneg d (show ((rs.length:Nat):Int) ≠ 0 by omega)
   have h2:=Int.emod_lt_of_pos d np
   exact ⟨(d % ((rs.length:Nat):Int)).toNat,by omega,by omega⟩
  have hkv':k < kv.length:=by omega
  have hkr:k < rw'.length:=by omega
  obtain ⟨x,hx⟩:∃ x,kv[k]? = some x:=⟨kv[k],List.getElem?_eq_getElem hkv'⟩
  have hat:∀ {kv:List Ent} {rw':List Rw},Paired (EntV H3) kv rw'->∀ {k:Nat} {x:Ent},kv[k]? = some x->∃ r,rw'[k]? = some r/\EntV H3 x r:=by
   intro kv rw' h
   induction h with
   | nil=>intro k x hx; cases hx
   | cons h1 _ ih =>
    intro k x hx
    cases k with
    | zero=>cases hx; exact ⟨_,rfl,h1⟩
    | succ k=>exact ih hx
  obtain ⟨r,hr',eV1,eV2,U0,eV3,eV4⟩:=hat hE3.r hx
  have hrm:r ∈ rw':=List.mem_of_getElem? hr'
  have hKx:(kvs.map fun x=>V.ref x.2.1)[k]? = some (V.ref x.2.1):=by rw [← hkv,List.getElem?_map,hx]; rfl
  refine ⟨_,rfl,_,rfl,_,rfl,Ks,_,rfl, .inl (SqL.of gK3),_,_,rfl,rfl,by rw [hKl]; exact np,Ks,_,(k:Int),_,rfl,by rw [hKl]; exact congrArg V.int hk,SqL.of gK3,atI_nat hKx,?_⟩
  have nDt:x.2.1 ≠ D:=ne_of eV2 hE3.d (by intro z; cases z)
  rw [keyV] at eV2
  have gl3:=o3 _ _ nlD gl
  have hL3:=o3.lns hE.d (by intro xs z; cases z) hLn
  refine ⟨_,rfl,l,_,rfl, .inl (SqL.of gl3),(lvs.length:Int),rfl,by omega,by omega,?_⟩
  rw [Int.toNat_natCast,hll]
  refine comp_ix (sel:=Prod.fst) (ps:=ps) (pl:=r.p) (by rw [PySem.sizeLine_eq]; omega) (fun z acc N pr hpr h=>?_) (fun Ou hOu=>?_)
  ·obtain ⟨v,hv,u,rfl,gu⟩:=Lns.get2 hL3 hpr
   refine ⟨_,rfl,_,rfl,l,lvs,_,_,rfl,rfl,SqL.of gl3,atI_nat hv,u,_,0,_,rfl,rfl,SqT.of gu,atI_nat (j:=0) rfl,_,rfl,x.2.1,_,0,_,rfl,rfl,SqT.of eV2,atI_nat (j:=0) rfl,rfl,_,rfl,?_⟩
   rw [int_eq]
   cases hb:decide (pr.1=r.p) with
   | true =>
    have hb':decide (Prod.fst pr=r.p)=true:=hb
    rw [hb'] at h
    exact iteT ⟨_,rfl,h⟩
   | false =>
    have hb':decide (Prod.fst pr=r.p)=false:=hb
    rw [hb'] at h
    exact iteF h
  have hil:=ixM_len Prod.fst ps r.p
  have s4:=(Same.refl H3).new (o := .lst (natV (ixM Prod.fst ps r.p))) hOu
  have gO:(upd H3 Ou (.lst (natV (ixM Prod.fst ps r.p)))) Ou=some (.lst (natV (ixM Prod.fst ps r.p))):=upd_same
  have nO:Ou ≠ D:=Ne.symm (ne_of_none hE3.d hOu)
  show gName 7 (V.ref Ou) _ (upd H3 Ou (.lst (natV (ixM Prod.fst ps r.p)))) _
  generalize upd H3 Ou (.lst (natV (ixM Prod.fst ps r.p)))=H4 at s4 gO ⊢
  generalize hout:ixM Prod.fst ps r.p=out at hil gO ⊢
  have houtm:∀ z ∈ out,z ∈ ixM Prod.fst ps r.p:=fun z hz=>by rw [hout]; exact hz
  refine ⟨_,rfl,_,_,rfl,rfl,⟨by decide,by decide⟩,_,_,rfl,rfl,(by decide:(0:Int) < 4),?_⟩
  show gName 8 (V.int (d / 1000 % 4)) _ _ _
  generalize d / 1000 % 4=way
  have hb40:10 + i + 1 <= 40:=by omega
  refine ⟨fun σ H5=>∃ (kv:List Ent) (rw':List Rw),OffD D H H5/\EntD P w H5 D kv rw' n ps/\(∀ r ∈ rw',r.s.length <= 10 + i + 1)/\rw'.length=rs.length/\kv.map (fun x=>V.ref x.2.1)=kvs.map (fun x=>V.ref x.2.1)/\H5 Dr=some (.lst (ds.map V.int))/\H5 Ks=some (.lst (kvs.map fun x=>V.ref x.2.1))/\H5 Ou=some (.lst (natV out))/\H5 x.2.1=some (.tup [.int r.p, .int r.g,cV r.c])/\keyN r ∈ rw'.map keyN/\σ=[some (.ref l),some (.ref D),some (.int c),some (.ref Ks),some (.ref Dr),some (.int d),some (.ref x.2.1),some (.ref Ou),some (.int way)],?_,?_⟩
  ·have skip:∀ {H5:Hp},Same H4 H5->∃ (kv:List Ent) (rw':List Rw),OffD D H H5/\EntD P w H5 D kv rw' n ps/\(∀ r ∈ rw',r.s.length <= 10 + i + 1)/\rw'.length=rs.length/\kv.map (fun x=>V.ref x.2.1)=kvs.map (fun x=>V.ref x.2.1)/\H5 Dr=some (.lst (ds.map V.int))/\H5 Ks=some (.lst (kvs.map fun x=>V.ref x.2.1))/\H5 Ou=some (.lst (natV out))/\H5 x.2.1=some (.tup [.int r.p, .int r.g,cV r.c])/\keyN r ∈ rw'.map keyN/\([some (.ref l),some (.ref D),some (.int c),some (.ref Ks),some (.ref Dr),some (.int d),some (.ref x.2.1),some (.ref Ou),some (.int way)]:St)=[some (.ref l),some (.ref D),some (.int c),some (.ref Ks),some (.ref Dr),some (.int d),some (.ref x.2.1),some (.ref Ou),some (.int way)] :=
    fun {H5} s=>⟨kv,rw',(o3.same s4).same s,hE3.same (s4.trans s),(fun r hr=>Nat.le_succ_of_le (hlen3 r hr)),hrl3,hkv,s _ _ (s4 _ _ gD3),s _ _ (s4 _ _ gK3),s _ _ gO,s _ _ (s4 _ _ eV2),List.mem_map.mpr ⟨r,hrm,rfl⟩,rfl⟩
   refine ⟨_,rfl,rfl,_,rfl,?_⟩
   refine ite2 (fun _=>?_) fun _=>iteF (skip (Same.refl _))
   refine ⟨_,rfl,Nat.zero_le _,fun e1 he1=>?_⟩
   have s6:=(Same.refl H4).new (o := .lst []) he1
   have ge6:(upd H4 e1 (.lst [])) e1=some (.lst (([]:List Int).map V.int)):=upd_same
   generalize upd H4 e1 (.lst [])=H5 at s6 ge6 ⊢
   have gO5:=s6 _ _ gO
   refine ⟨Ou,e1,iz out,[],rfl,rfl,SqL.of (by rw [gO5,natV_iz]),SqL.of ge6,_,rfl,?_⟩
   refine ite2 (fun hd2=>?_) fun _=>skip s6
   have hx0:0 < out.length:=by
    refine List.length_pos_iff.mpr fun e=>?_
    rw [e] at hd2
    exact absurd hd2 (by decide)
   have hnx:(natV out).length=out.length:=by unfold natV; rw [List.length_map]
   have np2:(0:Int) < ((out.length:Nat):Int):=by omega
   obtain ⟨k2,hk2,hkl3⟩:∃ k2:Nat,d / 4000 % ((out.length:Nat):Int)=(k2:Int)/\k2 < out.length:=by
    have h1:=Int.emod_nonneg (d / 4000) (show ((out.length:Nat):Int) ≠ 0 by omega)
    have h2:=Int.emod_lt_of_pos (d / 4000) np2
    exact ⟨(d / 4000 % ((out.length:Nat):Int)).toNat,by omega,by omega⟩
   have hE5:=hE3.same (s4.trans s6)
   have eV5:=s6 _ _ (s4 _ _ eV2)
   obtain ⟨U1,hU1,gU1⟩:=ent_at hE5.r hE5.nd hrm
   have hDK:=ent_keys hE5.d hE5.r
   have hl1:=hlen3 r hrm
   refine ⟨_,rfl,_,rfl,D,kv,keyOf r,x.2.1,_,rfl,⟨.inl hDK.1,hDK.2⟩,rfl,by rw [keyV]; exact eV5,hU1,?_⟩
   refine ⟨_,rfl,_,rfl,_,_,rfl,rfl,⟨by decide,by decide⟩,_,rfl,Ou,_,rfl, .inl (SqL.of gO5),_,_,rfl,rfl,by rw [hnx]; exact np2,Ou,natV out,(k2:Int),V.int ((out[k2]:Nat):Int),rfl,by rw [hnx]; exact congrArg V.int hk2,SqL.of gO5,atI_nat (by unfold natV; rw [List.getElem?_map,List.getElem?_eq_getElem hkl3]; rfl),by show 1 <= sizeLine; decide,fun e2 he2=>?_⟩
   have s7:=s6.new (o := .lst [V.int ((out[k2]:Nat):Int)]) he2
   have g7:(upd H5 e2 (.lst [V.int ((out[k2]:Nat):Int)])) e2=some (.lst [V.int ((out[k2]:Nat):Int)]):=upd_same
   have gU7:(upd H5 e2 (.lst [V.int ((out[k2]:Nat):Int)])) U1=some (.lst (natV r.s)):=by rw [upd_ne (ne_of_none gU1 he2)]; exact gU1
   generalize upd H5 e2 (.lst [V.int ((out[k2]:Nat):Int)])=H6 at s7 g7 gU7 ⊢
   refine ⟨U1,e2,_,_,rfl,rfl,gU7,g7,by unfold natV; rw [List.length_map,PySem.sizeLine_eq]; simp only [List.length_singleton]; omega,fun U2 hU2=>?_⟩
   rw [natV_snoc]
   have s8:=s7.new (o := .lst (natV (r.s ++ [out[k2]]))) hU2
   have g8:(upd H6 U2 (.lst (natV (r.s ++ [out[k2]])))) U2=some (.lst (natV (r.s ++ [out[k2]]))):=upd_same
   generalize upd H6 U2 (.lst (natV (r.s ++ [out[k2]])))=H7 at s8 g8 ⊢
   have hE7:=hE3.same (s4.trans s8)
   have eV7:=s8 _ _ (s4 _ _ eV2)
   have hus:∀ z ∈ r.s ++ [out[k2]],z ∈ ixM Prod.fst ps r.p:=fun z hz=>by
    rcases List.mem_append.mp hz with hz | hz
    ·exact (hE3.g r hrm).s z hz
    ·rw [List.mem_singleton.mp hz]; exact houtm _ (List.getElem_mem hkl3)
   have hul:(r.s ++ [out[k2]]).length <= 10 + i + 1:=by rw [List.length_append]; simp only [List.length_singleton]; omega
   obtain ⟨kv',ekv,hE8,hrefs⟩:=hE7.put (tt:=x.2.1) hrm g8 hus (by omega)
   refine ⟨_,rfl,_,rfl,D,kv,keyOf r,x.2.1,rfl,ent_keys hE7.d hE7.r,rfl,by rw [keyV]; exact eV7,by rw [PySem.sizeLine_eq]; have:=hE.few; omega,?_⟩
   rw [ekv]
   exact ⟨kv',_,((o3.same s4).same s8).upd,hE8,set_len (fun r hr=>Nat.le_succ_of_le (hlen3 r hr)) hul,by rw [List.length_map]; exact hrl3,hrefs.trans hkv,by rw [upd_ne nDr]; exact s8 _ _ (s4 _ _ gD3),by rw [upd_ne nK]; exact s8 _ _ (s4 _ _ gK3),by rw [upd_ne nO]; exact s8 _ _ gO,by rw [upd_ne nDt]; exact eV7,by rw [setR_keys]; exact List.mem_map.mpr ⟨r,hrm,rfl⟩,rfl⟩
  clear hlen3 hrl3 hkv hE3 gD3 gK3 hat hr' eV1 U0 eV3 eV4 hrm hx hkl hkv' hkr o3 gl3 hL3
  rintro σ H5 ⟨kv,rw',o5,hE5,hlen5,hrl5,hkv5,gD5,gK5,gO5,eV5,hkey5,rfl⟩
  obtain ⟨ra,hra,eka⟩:=row_key hkey5
  have epa:ra.p=r.p:=congrArg (fun y=>y.1) eka
  have ekk:keyOf ra=keyOf r:=congrArg okey eka
  refine ⟨fun σ H5=>∃ (kv:List Ent) (rw':List Rw),OffD D H H5/\EntD P w H5 D kv rw' n ps/\(∀ r ∈ rw',r.s.length <= 10 + i + 1)/\rw'.length=rs.length/\kv.map (fun x=>V.ref x.2.1)=kvs.map (fun x=>V.ref x.2.1)/\H5 Dr=some (.lst (ds.map V.int))/\H5 Ks=some (.lst (kvs.map fun x=>V.ref x.2.1))/\H5 Ou=some (.lst (natV out))/\H5 x.2.1=some (.tup [.int r.p, .int r.g,cV r.c])/\keyN r ∈ rw'.map keyN/\σ=[some (.ref l),some (.ref D),some (.int c),some (.ref Ks),some (.ref Dr),some (.int d),some (.ref x.2.1),some (.ref Ou),some (.int way)],?_,?_⟩
  ·refine ⟨_,rfl,rfl,_,rfl,?_⟩
   refine ite2 (fun _=>?_) fun _=>⟨kv,rw',o5,hE5,hlen5,hrl5,hkv5,gD5,gK5,gO5,eV5,hkey5,rfl⟩
   obtain ⟨U1,hU1,gU1⟩:=ent_at hE5.r hE5.nd hra
   have hDK:=ent_keys hE5.d hE5.r
   have hl1:=hlen5 ra hra
   refine ⟨_,rfl,_,rfl,D,kv,keyOf ra,x.2.1,_,rfl,⟨.inl hDK.1,hDK.2⟩,rfl,by rw [ekk,keyV]; exact eV5,hU1,1,rfl,U1,_,rfl,SqL.of gU1,fun R hR=>?_⟩
   rw [show cutV (natV ra.s) (some 1) none=natV (ra.s.drop 1) from cut1 ra.s]
   have s8:=(Same.refl H5).new (o := .lst (natV (ra.s.drop 1))) hR
   have g8:(upd H5 R (.lst (natV (ra.s.drop 1)))) R=some (.lst (natV (ra.s.drop 1))):=upd_same
   generalize upd H5 R (.lst (natV (ra.s.drop 1)))=H7 at s8 g8 ⊢
   have hE7:=hE5.same s8
   have eV7:=s8 _ _ eV5
   obtain ⟨kv',ekv,hE8,hrefs⟩:=hE7.put (tt:=x.2.1) hra g8 (fun z hz=>(hE5.g ra hra).s z (List.mem_of_mem_drop hz)) (by rw [List.length_drop]; omega)
   refine ⟨_,rfl,_,rfl,D,kv,keyOf ra,x.2.1,rfl,ent_keys hE7.d hE7.r,rfl,by rw [ekk,keyV]; exact eV7,by rw [PySem.sizeLine_eq]; have:=hE5.few; have:kv.length=rw'.length:=Paired.length hE5.r; omega,?_⟩
   rw [ekv]
   exact ⟨kv',_,(o5.same s8).upd,hE8,set_len hlen5 (by rw [List.length_drop]; omega),by rw [List.length_map]; exact hrl5,hrefs.trans hkv5,by rw [upd_ne nDr]; exact s8 _ _ gD5,by rw [upd_ne nK]; exact s8 _ _ gK5,by rw [upd_ne nO]; exact s8 _ _ gO5,by rw [upd_ne nDt]; exact eV7,by rw [setR_keys]; exact hkey5,rfl⟩
  clear hlen5 hrl5 hkv5 hE5 gD5 gK5 gO5 eV5 hkey5 o5 hra eka epa ekk
  rintro σ H5 ⟨kv,rw',o5,hE5,hlen5,hrl5,hkv5,gD5,gK5,gO5,eV5,hkey5,rfl⟩
  obtain ⟨ra,hra,eka⟩:=row_key hkey5
  have ekk:keyOf ra=keyOf r:=congrArg okey eka
  refine ⟨fun σ H5=>∃ (kv:List Ent) (rw':List Rw),OffD D H H5/\EntD P w H5 D kv rw' n ps/\(∀ r ∈ rw',r.s.length <= 10 + i + 1)/\rw'.length=rs.length/\kv.map (fun x=>V.ref x.2.1)=kvs.map (fun x=>V.ref x.2.1)/\H5 Dr=some (.lst (ds.map V.int))/\H5 Ks=some (.lst (kvs.map fun x=>V.ref x.2.1))/\H5 Ou=some (.lst (natV out))/\H5 x.2.1=some (.tup [.int r.p, .int r.g,cV r.c])/\keyN r ∈ rw'.map keyN/\σ=[some (.ref l),some (.ref D),some (.int c),some (.ref Ks),some (.ref Dr),some (.int d),some (.ref x.2.1),some (.ref Ou),some (.int way)],?_,?_⟩
  ·refine ⟨_,rfl,rfl,_,rfl,?_⟩
   refine ite2 (fun _=>?_) fun _=>⟨kv,rw',o5,hE5,hlen5,hrl5,hkv5,gD5,gK5,gO5,eV5,hkey5,rfl⟩
   refine ⟨Nat.zero_le _,fun R hR=>?_⟩
   have s8:=(Same.refl H5).new (o := .lst []) hR
   have g8:(upd H5 R (.lst [])) R=some (.lst (natV [])):=upd_same
   generalize upd H5 R (.lst [])=H7 at s8 g8 ⊢
   have hE7:=hE5.same s8
   have eV7:=s8 _ _ eV5
   obtain ⟨kv',ekv,hE8,hrefs⟩:=hE7.put (tt:=x.2.1) hra g8 (fun z hz=>by cases hz) (Nat.zero_le _)
   refine ⟨_,rfl,_,rfl,D,kv,keyOf ra,x.2.1,rfl,ent_keys hE7.d hE7.r,rfl,by rw [ekk,keyV]; exact eV7,by rw [PySem.sizeLine_eq]; have:=hE5.few; have:kv.length=rw'.length:=Paired.length hE5.r; omega,?_⟩
   rw [ekv]
   exact ⟨kv',_,(o5.same s8).upd,hE8,set_len hlen5 (Nat.zero_le _),by rw [List.length_map]; exact hrl5,hrefs.trans hkv5,by rw [upd_ne nDr]; exact s8 _ _ gD5,by rw [upd_ne nK]; exact s8 _ _ gK5,by rw [upd_ne nO]; exact s8 _ _ gO5,by rw [upd_ne nDt]; exact eV7,by rw [setR_keys]; exact hkey5,rfl⟩
  clear hlen5 hrl5 hkv5 hE5 gD5 gK5 gO5 eV5 hkey5 o5 hra eka ekk
  rintro σ H5 ⟨kv,rw',o5,hE5,hlen5,hrl5,hkv5,gD5,gK5,gO5,eV5,hkey5,rfl⟩
  obtain ⟨ra,hra,eka⟩:=row_key hkey5
  have epa:ra.p=r.p:=congrArg (fun y=>y.1) eka
  have ekk:keyOf ra=keyOf r:=congrArg okey eka
  refine ⟨_,rfl,rfl,_,rfl,?_⟩
  refine ite2 (fun _=>?_) fun _=>⟨_,_,_,_,kv,rw',o5,hE5,hlen5,hrl5,hkv5,gD5,gK5,rfl⟩
  obtain ⟨kv',ekv,hE8,hrefs⟩:=hE5.put (tt:=x.2.1) hra gO5 (fun z hz=>by rw [epa]; exact houtm z hz) (by omega)
  refine ⟨_,rfl,_,rfl,_,rfl,D,kv,keyOf ra,x.2.1,rfl,ent_keys hE5.d hE5.r,rfl,by rw [ekk,keyV]; exact eV5,by rw [PySem.sizeLine_eq]; have:=hE5.few; have:kv.length=rw'.length:=Paired.length hE5.r; omega,?_⟩
  rw [ekv]
  exact ⟨_,_,_,_,kv',_,o5.upd,hE8,set_len hlen5 (by omega),by rw [List.length_map]; exact hrl5,hrefs.trans hkv5,by rw [upd_ne nDr]; exact gD5,by rw [upd_ne nK]; exact gK5,rfl⟩
end
end K33
namespace L2
open PySem
theorem Same.thaw {H H2:Hp} {a:Addr} {o:Obj} {u:HO} (ha:H a=some u) (s:Same (upd H a (.frz o u)) H2):Same H (upd H2 a u):=fun b x e=>by
 by_cases hb:b=a
 ·subst hb
  rw [upd_same,← e,ha]
 ·rw [upd_ne hb]
  exact s _ _ (by rw [upd_ne hb]; exact e)
theorem filter_lt {α:Type} {p q:α->Bool} (h:∀ x,q x=true->p x=true) {x0:α} (hp:p x0=true) (hq:q x0=false):∀ {xs:List α},x0 ∈ xs->(xs.filter q).length < (xs.filter p).length
 | x :: xs,hx=>by
  have le:(xs.filter q).length <= (xs.filter p).length:=by
   clear hx
   induction xs with
   | nil=>exact Nat.le_refl _
   | cons y ys ih =>
    cases hy:q y with
    | true=>rw [List.filter_cons_of_pos hy,List.filter_cons_of_pos (h y hy),List.length_cons,List.length_cons]; omega
    | false =>
     rw [List.filter_cons_of_neg (by rw [hy]; decide)]
     cases hy2:p y with
     | true=>rw [List.filter_cons_of_pos hy2,List.length_cons]; omega
     | false=>rw [List.filter_cons_of_neg (by rw [hy2]; decide)]; exact ih
  rcases List.mem_cons.mp hx with e | hx
  ·subst e
   rw [List.filter_cons_of_pos hp,List.filter_cons_of_neg (by rw [hq]; decide),List.length_cons]
   omega
  ·have ih:=filter_lt h hp hq hx
   cases hy:q x with
   | true=>rw [List.filter_cons_of_pos hy,List.filter_cons_of_pos (h x hy),List.length_cons,List.length_cons]; omega
   | false =>
    rw [List.filter_cons_of_neg (by rw [hy]; decide)]
    cases hy2:p x with
    | true=>rw [List.filter_cons_of_pos hy2,List.length_cons]; omega
    | false=>rw [List.filter_cons_of_neg (by rw [hy2]; decide)]; exact ih
end L2
namespace K33
open PySem L2 LkM
structure MI (wy:Oks->Nat) (ps:List (Int × Int)) (n:Nat) (S:List Nat) (qs:List (Nat × Nat)):Prop where
 len:S.length=ps.length
 bit:∀ l g,bitN S l g=true->g < n/\MetA wy ps n g l
 que:∀ q ∈ qs,q.1 < ps.length/\q.2 < n/\MetA wy ps n q.2 q.1
 st:∀ p g z:Nat,p < n->g < n->z ∈ wl wy [some (p:Int),some (g:Int),none]->bitN S z g=true∨(z,g) ∈ qs
 on:∀ l g z:Nat,bitN S l g=true->z ∈ onN wy ps g l->bitN S z g=true∨(z,g) ∈ qs
theorem MI.end {wy:Oks->Nat} {ps:List (Int × Int)} {n:Nat} {S:List Nat} (h:MI wy ps n S []) (hwl:∀ k,∀ z ∈ wl wy k,z < ps.length):S=metN wy ps n n:=by
 have no:∀ {b:Bool} {q:Nat × Nat},b=true∨q ∈ ([]:List (Nat × Nat))->b=true:=fun z=>z.elim id fun y=>by cases y
 have hl:=met_len wy ps n n
 have e:∀ l,l < ps.length->S.getD l 0=(metN wy ps n n).getD l 0:=fun l hlt=>by
  refine Nat.eq_of_testBit_eq fun g=>?_
  rw [Bool.eq_iff_iff]
  constructor
  ·intro hb
   obtain ⟨h1,h2⟩:=h.bit l g hb
   exact met_bit_le h1 hlt h2
  ·intro hb
   have hgn:=bit_lt (met_lt wy ps n n (Nat.le_refl _)) hb
   exact met_all (S:=fun z=>bitN S z g=true) (fun p hp z hz=>no (h.st p g z hp hgn hz)) (fun l hl z hz=>no (h.on l g z hl hz)) (met_bit_of hb)
 refine List.ext_getElem (by rw [h.len,hl]) fun i h1 h2=>?_
 have:=e i (by rw [← h.len]; exact h1)
 rw [List.getD_eq_getElem?_getD,List.getD_eq_getElem?_getD,List.getElem?_eq_getElem h1,List.getElem?_eq_getElem h2] at this
 exact this
theorem MI.skip {wy:Oks->Nat} {ps:List (Int × Int)} {n l g:Nat} {S:List Nat} {qs:List (Nat × Nat)} (h:MI wy ps n S (qs ++ [(l,g)])) (hb:bitN S l g=true):MI wy ps n S qs:=by
 have f:∀ {z g':Nat},bitN S z g' = true∨(z,g') ∈ qs ++ [(l,g)]->bitN S z g' = true∨(z,g') ∈ qs:=fun {z g'} hz=>by
  rcases hz with hz | hz
  ·exact .inl hz
  ·rcases List.mem_append.mp hz with hz | hz
   ·exact .inr hz
   ·have:=List.mem_singleton.mp hz
    cases this
    exact .inl hb
 exact ⟨h.len,h.bit,fun q hq=>h.que q (List.mem_append_left _ hq),fun p g z hp hg hz=>f (h.st p g z hp hg hz),fun l g z hl hz=>f (h.on l g z hl hz)⟩
theorem set_bit {S:List Nat} {l g z g':Nat} (hl:l < S.length):bitN (S.set l (S.getD l 0 ||| 2 ^ g)) z g' = (bitN S z g' || (decide (l=z) && decide (g=g'))):=by
 unfold bitN
 rw [List.getD_eq_getElem?_getD,List.getElem?_set]
 by_cases e:l=z
 ·subst e
  rw [if_pos rfl,if_pos hl,Option.getD_some,Nat.testBit_or,Nat.testBit_two_pow,decide_eq_true rfl,Bool.true_and]
 ·rw [if_neg e,decide_eq_false e,Bool.false_and,Bool.or_false,List.getD_eq_getElem?_getD]
theorem MI.set {wy:Oks->Nat} {ps:List (Int × Int)} {n l g:Nat} {S:List Nat} {qs:List (Nat × Nat)} (h:MI wy ps n S (qs ++ [(l,g)])) (hwl:∀ k,∀ z ∈ wl wy k,z < ps.length) {more:List Nat} (hm:∀ z,z ∈ more↔z ∈ onN wy ps g l):MI wy ps n (S.set l (S.getD l 0 ||| 2 ^ g)) (qs ++ more.map fun z=>(z,g)):=by
 obtain ⟨q1,q2,q3⟩:=h.que (l,g) (List.mem_append_right _ List.mem_cons_self)
 have q1:l < ps.length:=q1
 have hS:l < S.length:=by rw [h.len]; exact q1
 have f:∀ {z g':Nat},bitN S z g' = true∨(z,g') ∈ qs ++ [(l,g)]->bitN (S.set l (S.getD l 0 ||| 2 ^ g)) z g' = true∨(z,g') ∈ qs ++ more.map fun z=>(z,g):=fun {z g'} hz=>by
  rw [set_bit hS]
  rcases hz with hz | hz
  ·rw [hz]; exact .inl rfl
  ·rcases List.mem_append.mp hz with hz | hz
   ·exact .inr (List.mem_append_left _ hz)
   ·have:=List.mem_singleton.mp hz
    cases this
    rw [decide_eq_true rfl,decide_eq_true rfl]
    exact .inl (by simp)
 refine ⟨by rw [List.length_set]; exact h.len,fun z g' hb=>?_,fun q hq=>?_,fun p g' z hp hg hz=>f (h.st p g' z hp hg hz),fun z g' y hz hy=>?_⟩
 ·rw [set_bit hS,Bool.or_eq_true,Bool.and_eq_true,decide_eq_true_eq,decide_eq_true_eq] at hb
  rcases hb with hb | ⟨rfl,rfl⟩
  ·exact h.bit z g' hb
  ·exact ⟨q2,q3⟩
 ·rcases List.mem_append.mp hq with hq | hq
  ·exact h.que q (List.mem_append_left _ hq)
  ·obtain ⟨z,hz,rfl⟩:=List.mem_map.mp hq
   have hz':=(hm z).mp hz
   exact ⟨on_lt hwl g l z hz',q2,step_met hwl q3 hz'⟩
 ·rw [set_bit hS,Bool.or_eq_true,Bool.and_eq_true,decide_eq_true_eq,decide_eq_true_eq] at hz
  rcases hz with hz | ⟨rfl,rfl⟩
  ·exact f (h.on z g' y hz hy)
  ·exact .inr (List.mem_append_right _ (List.mem_map.mpr ⟨y,(hm y).mpr hy,rfl⟩))
def allP (m n:Nat):List (Nat × Nat):=(List.range m).flatMap fun l=>(List.range n).map fun g=>(l,g)
theorem mem_allP {m n l g:Nat} (hl:l < m) (hg:g < n):(l,g) ∈ allP m n:=List.mem_flatMap.mpr ⟨l,List.mem_range.mpr hl,List.mem_map.mpr ⟨g,List.mem_range.mpr hg,rfl⟩⟩
theorem allP_len (m n:Nat):(allP m n).length=m * n:=by
 unfold allP
 rw [List.length_flatMap]
 have:(List.map (fun l=>(List.map (fun g=>(l,g)) (List.range n)).length) (List.range m))=List.replicate m n:=by
  rw [List.eq_replicate_iff]
  refine ⟨by rw [List.length_map,List.length_range],fun b hb=>?_⟩
  obtain ⟨l,_,rfl⟩:=List.mem_map.mp hb
  rw [List.length_map,List.length_range]
 rw [this,List.sum_replicate_nat]
def unset (m n:Nat) (S:List Nat):Nat:=((allP m n).filter fun q=>!bitN S q.1 q.2).length
theorem unset_le (m n:Nat) (S:List Nat):unset m n S <= m * n:=by
 unfold unset
 rw [← allP_len]
 exact List.length_filter_le _ _
theorem unset_set {m n l g:Nat} {S:List Nat} (hl:l < m) (hg:g < n) (hS:l < S.length) (hb:bitN S l g=false):unset m n (S.set l (S.getD l 0 ||| 2 ^ g)) < unset m n S:=by
 unfold unset
 refine filter_lt (fun q hq=>?_) (x0:=(l,g)) (by rw [hb]; rfl) (by rw [set_bit hS,decide_eq_true rfl,decide_eq_true rfl]; simp) (mem_allP hl hg)
 cases h:bitN S q.1 q.2 with
 | false=>rfl
 | true=>rw [set_bit hS,h] at hq; cases hq
def fN (rs:List Rw):List (Nat × Nat):=rs.flatMap fun r=>if r.c=none then r.s.map fun z=>(z,r.g.toNat) else []
theorem fN_snoc (rs:List Rw) (r:Rw):fN (rs ++ [r])=fN rs ++ if r.c=none then r.s.map fun z=>(z,r.g.toNat) else []:=by
 unfold fN
 rw [List.flatMap_append,List.flatMap_cons,List.flatMap_nil,List.append_nil]
theorem mi_begin {n:Nat} {ps:List (Int × Int)} {rs:List Rw} (hg:∀ r ∈ rs,RowG n ps r) (nd:(rs.map keyN).Nodup):MI (wayOf rs) ps n (List.replicate ps.length 0) (fN rs):=by
 have hwl:∀ k,∀ z ∈ wl (wayOf rs) k,z < ps.length:=fun k=>(wl_told hg k).1
 have hz:∀ l g,bitN (List.replicate ps.length 0) l g=true->False:=fun l g h=>by
  unfold bitN at h
  rw [List.getD_eq_getElem?_getD,List.getElem?_replicate] at h
  split at h <;> rw [show (Option.getD _ 0:Nat)=0 from rfl,Nat.zero_testBit] at h <;> cases h
 refine ⟨List.length_replicate,fun l g h=>(hz l g h).elim,fun q hq=>?_,fun p g z hp hgn hm => .inr ?_,fun l g z h=>(hz l g h).elim⟩
 ·obtain ⟨r,hr,hq⟩:=List.mem_flatMap.mp hq
  by_cases hc:r.c=none
  ·rw [if_pos hc] at hq
   obtain ⟨z,hzs,rfl⟩:=List.mem_map.mp hq
   obtain ⟨p,g,e1,e2,hp,hg',_⟩:=(hg r hr).pg
   have hm:=(wl_of nd hr).mpr hzs
   have ek:keyOf r=[some (p:Int),some (g:Int),none]:=by
    unfold keyOf
    rw [e1,e2,hc]; rfl
   rw [ek] at hm
   dsimp only
   rw [e2,Int.toNat_natCast]
   exact ⟨hwl _ z hm,hg',first_met hwl hp hm⟩
  ·rw [if_neg hc] at hq; cases hq
 ·obtain ⟨r,hr,ek,hs⟩:=wl_in hm
  have ek':keyN r=((p:Int),(g:Int),none):=okey_inj ek
  have e2:r.g=(g:Int):=congrArg (fun y=>y.2.1) ek'
  have e3:r.c=none:=congrArg (fun y=>y.2.2) ek'
  refine List.mem_flatMap.mpr ⟨r,hr,?_⟩
  rw [if_pos e3]
  exact List.mem_map.mpr ⟨z,hs,by rw [e2,Int.toNat_natCast]⟩
theorem comp_pairs {K:PySem.W.Frag} {a:Addr} {us:List Nat} {g:TG} {te:TE} {σ0:St} {H:Hp} {Q:VK} (gg:Int) (hn:us.length < sizeLine) (ha:SqL K H a (natV us))
  (hs:∀ (k:Nat) (H1:Hp) (N:V->Hp->Prop),Same H H1->(∀ t,H1 t=none->N (.ref t) (upd H1 t (.tup [.int (k:Int), .int gg])))->g (.int (k:Int)) σ0 H1 fun σ2 H2=>te σ2 H2 N)
  (hq:∀ D vs H1,Same H H1->H1 D=none->Lns H1 vs (us.map fun u:Nat=>((u:Int),gg))->Q (.ref D) (upd H1 D (.lst vs))):CompR (Itl K a) g tYes te σ0 Q H:=by
 have hnl:(natV us).length=us.length:=by unfold natV; rw [List.length_map]
 refine comp_gen us.length hn (fun i acc H'=>Same H H'/\Lns H' acc ((us.take i).map fun u:Nat=>((u:Int),gg))) ⟨Same.refl _, .nil⟩ (fun i acc H' h=>by have:=Paired.length h.2; rw [this,List.length_map]; exact List.length_take_le _ _) (fun i acc H' hi h=>?_) (fun acc H' h=>?_)
 ·obtain ⟨s,hL⟩:=h
  have hx:(natV us)[i]? = some (V.int ((us[i]:Nat):Int)):=by unfold natV; rw [List.getElem?_map,List.getElem?_eq_getElem hi]; rfl
  refine ⟨⟨natV us,_,s.seq ha,hx⟩,fun v H2 y=>?_⟩
  obtain ⟨e,y⟩:=y
  subst e
  have hv:=y _ (s.seq ha)
  rw [hx] at hv
  have hv:=Option.some.inj hv
  subst hv
  refine hs us[i] H2 (fun y H4=>Same H H4/\Lns H4 (acc ++ [y]) ((us.take (i + 1)).map fun u:Nat=>((u:Int),gg))) s fun t ht=>⟨s.new ht,?_⟩
  rw [List.take_succ,List.getElem?_eq_getElem hi,Option.toList_some,List.map_append]
  exact Lns.snoc (p:=(((us[i]:Nat):Int),gg)) ⟨t,rfl,upd_same⟩ (Lns.same ((Same.refl H2).new ht) hL)
 ·obtain ⟨s,hL⟩:=h
  rw [List.take_length] at hL
  exact ⟨⟨natV us,s.seq ha,by rw [hnl]; exact Nat.le_refl _⟩,fun D hD=>hq D acc H' s hD hL⟩
end K33
namespace K33
open PySem L2 LkM
def catC (s:Stmt):Scope:=match s with
 | .If _ (.Assign _ (.BinOp _ _ (.ListComp _ _ sc _) _) _ :: _) _ _=>sc
 | _=>{ kind := .function,names:=[],isGenerator:=false,isCoroutine:=false }
def catC2 (s:Stmt):Scope:=match s with
 | .If _ (_ :: .If _ (_ :: .Assign _ (.BinOp _ _ (.ListComp _ _ sc _) _) _ :: _) _ _ :: _) _ _=>sc
 | _=>{ kind := .function,names:=[],isGenerator:=false,isCoroutine:=false }
theorem pair_eq (us:List Nat) (g:Nat):(us.map fun z=>(z,g)).map pI=us.map fun u:Nat=>((u:Int),(g:Int)):=by
 rw [List.map_map]; rfl
theorem Lns.app {H:Hp} {as bs:List V} {p q:List (Int × Int)} (h1:Lns H as p) (h2:Lns H bs q):Lns H (as ++ bs) (p ++ q):=by
 induction h1 with
 | nil=>exact h2
 | cons h _ ih=>exact .cons h ih
theorem Lns.pop {H:Hp} {vs:List V} {qs:List (Int × Int)} (h:Lns H vs qs):Lns H vs.dropLast qs.dropLast:=by
 induction h with
 | nil=>exact .nil
 | @cons v q vs qs h t ih =>
  cases t with
  | nil=>exact .nil
  | cons h' t'=>exact .cons h ih
theorem entAt {H:Hp} {kv:List Ent} {rs:List Rw} (h:Paired (EntV H) kv rs):∀ {k:Nat} {x:Ent},kv[k]? = some x->∃ r,rs[k]? = some r/\EntV H x r:=by
 induction h with
 | nil=>intro k x hx; cases hx
 | cons h1 _ ih =>
  intro k x hx
  cases k with
  | zero=>cases hx; exact ⟨_,rfl,h1⟩
  | succ k=>exact ih hx
def spLm (P:Program) (w:World):Sp:=fun vs H Q _=>∃ (l D:Addr) (lvs:List V) (ps:List (Int × Int)) (kvs:List Ent) (rs:List Rw) (n:Nat),vs=[.ref l, .ref D]/\H l=some (.lst lvs)/\Lns H lvs ps/\ps.length <= 10/\n <= 5/\(∀ q ∈ ps,okP n q=true)/\EntD P w H D kvs rs n ps /\
 ∀ (Sa:Addr) (H':Hp),Same H H'->H Sa=none->H' Sa=some (.lst (nV (metN (wayOf rs) ps n n)))->Q (.ref Sa) H'
abbrev NLm:List Str:=["_law_lanes_here", "_law_entries_here", "_law_sets", "_law_ahead", "_law_key", "_law_lane", "_law_goal"]
section
variable {P:Program} {w:World} {K:PySem.W.Frag} {mg:Str->Option Value} {base:Heap}
theorem scLm:FnScope NLm ["_law_lanes_here", "_law_entries_here"] (defScope sLMet):=⟨rfl,rfl,rfl,by decide +kernel,rfl,by decide +kernel,by decide +kernel⟩
theorem bkM1:Blk NLm (defScope sLMet) (catC ((forB ((defBody sLMet).getD 2 (.Pass ⟨0,0,0,0⟩))).getD 0 (.Pass ⟨0,0,0,0⟩))) ["_law_key"] [4]:=⟨rfl,by decide +kernel,by decide +kernel,by decide +kernel,rfl,by decide +kernel⟩
theorem bkM2:Blk NLm (defScope sLMet) (catC2 ((whB ((defBody sLMet).getD 3 (.Pass ⟨0,0,0,0⟩))).getD 1 (.Pass ⟨0,0,0,0⟩))) ["_law_goal"] [6]:=⟨rfl,by decide +kernel,by decide +kernel,by decide +kernel,rfl,by decide +kernel⟩
theorem ndM1:(["_law_lane", "_law_key"]:List Str).Nodup:=by decide +kernel
theorem ndM2:(["_law_way", "_law_goal"]:List Str).Nodup:=by decide +kernel
theorem ok_lmet {f:Addr} {fd:FuncData} (F:Fun K "_law_met" "_law_met" sLMet f fd) (T:Txt mg):FnOk P w K mg base CX0 1 f fd ["_law_lanes_here", "_law_entries_here"] (spLm P w):=by
 refine F.ok scLm (fun vs H Q E h=>?_) (fun cdv A outer s H vs Q E hr h=>?_)
 ·obtain ⟨l,D,lvs,ps,kvs,rs,n,rfl,_⟩:=h
  rfl
 ·obtain ⟨l,D,lvs,ps,kvs,rs,n,rfl,gl,hLn,hpl,hn5,hok,hE,q⟩:=h
  have hu:=hr.units
  have hu1:=Nat.lt_of_le_of_lt (Nat.add_le_add_left (show 1 <= 64 by decide) _) hr.units
  refine ⟨_,pss_cons (ps_set (i:=2) scLm.nd rfl (Or.inl rfl) (pe_op op_rep (pe_lst (pa_cons pe_int pa_nil)) (pe_callB call_len_seq rfl T.len PySem.boot_len (pa_cons (pv 0) pa_nil))))
   (pss_cons (ps_set (i:=3) scLm.nd rfl (Or.inl rfl) (pe_lst pa_nil))
   (pss_cons (ps_thaw (ps_for PassesOwn.never rfl (show PI _ _ _ (iOKeys P w (tVar 1)) from pi_okeys (pv 1)) (pg_name (i:=4) scLm.nd rfl (Or.inr rfl))
    (pss_one (ps_if (pt_cmpR op_isN (pe_ix ix_tup (pv 4) pe_int (fun _ _=>rfl)) pe_non (nomark _))
     (pss_one (ps_set (i:=3) scLm.nd rfl (Or.inl rfl) (pe_op op_cat (pv 3) (pe_comp (own:=["_law_lane"]) (capN:=["_law_key"]) (cap:=[4]) bkM1 rfl (pi_list (show PE _ _ (tOIx P w _ _) from pe_oix hu1 (pv 1) (pv 4) (fun _ _=>rfl)))
      (fun C s' H' fp=>⟨pg_name (i:=0) ndM1 rfl (Or.inl rfl),pts_nil,pe_tup (pa_cons (pv 0) (pa_cons (pe_ix (show IxR _ (rIxT K) from ix_tup) (pv 1) pe_int (fun _ _=>rfl)) pa_nil))⟩))))) pss_nil))))
   (pss_cons (ps_while PassesOwn.never (pt_cmpR (op_neD hu) (pv 3) (pe_lst pa_nil) (nomark _))
    (pss_cons (ps_asg (pe_bm0 PySem.F.plainAttrs_list PySem.F.slot_list_pop PySem.F.type_list_pop mt_pop (pv 3)) (pg_tup rfl (pgs_cons (pg_name (i:=5) scLm.nd rfl (Or.inl rfl)) (pgs_cons (pg_name (i:=6) scLm.nd rfl (Or.inr rfl)) pgs_nil))))
    (pss_one (ps_if (pt_cmpR op_eq (pe_op op_and (pe_op op_shr (pe_ix ix_list (pv 2) (pv 5) (fun _ _=>rfl)) (pv 6)) pe_int) pe_int (nomark _))
     (pss_cons (ps_asg (pe_op op_or (pe_ix ix_list (pv 2) (pv 5) (fun _ _=>rfl)) (pe_op op_shl pe_int (pv 6))) (pg_sub (pv 2) (pv 5) set_list))
     (pss_one (ps_if (pt_cmpR op_ne (pe_ix ix_tup (pe_ix ix_list (pv 0) (pv 5) (fun _ _=>rfl)) pe_int (fun _ _=>rfl)) (pv 6) (nomark _))
      (pss_cons (ps_set (i:=4) scLm.nd rfl (Or.inr rfl) (pe_tup (pa_cons (pe_ix ix_tup (pe_ix ix_list (pv 0) (pv 5) (fun _ _=>rfl)) pe_int (fun _ _=>rfl)) (pa_cons (pv 6) (pa_cons (pv 5) pa_nil)))))
      (pss_one (ps_set (i:=3) scLm.nd rfl (Or.inl rfl) (pe_op op_cat (pv 3) (pe_comp (own:=["_law_way"]) (capN:=["_law_goal"]) (cap:=[6]) bkM2 rfl (pi_list (show PE _ _ (tOIx P w _ _) from pe_oix hu1 (pv 1) (pv 4) (fun _ _=>rfl)))
       (fun C s' H' fp=>⟨pg_name (i:=0) ndM2 rfl (Or.inl rfl),pts_nil,pe_tup (pa_cons (pv 0) (pa_cons (pv 1) pa_nil))⟩)))))) pss_nil))) pss_nil))))
   (pss_one (ps_ret (pv 2)))))),?_⟩
  have hll:lvs.length=ps.length:=Paired.length hLn
  have hwl:∀ k,∀ z ∈ wl (wayOf rs) k,z < ps.length:=fun k=>(wl_told hE.g k).1
  have hkl:kvs.length=rs.length:=Paired.length hE.r
  refine ⟨by show 1 <= sizeLine; decide,fun z0 hz0=>?_⟩
  have s0:=(Same.refl H).new (o := .lst [.int 0]) hz0
  have g0:(upd H z0 (.lst [.int 0])) z0=some (.lst [.int 0]):=upd_same
  generalize upd H z0 (.lst [.int 0])=H0 at s0 g0 ⊢
  refine ⟨_,rfl,l,_,rfl, .inl (SqL.of (s0 _ _ gl)),z0,_,_,rfl,rfl,g0,by omega,by omega,by rw [hll,Int.toNat_natCast,PySem.sizeLine_eq]; simp only [List.length_singleton]; omega,fun Sa hSa=>?_⟩
  rw [hll,Int.toNat_natCast]
  have hSa0:H Sa=none:=s0.free hSa
  have eR:(List.replicate ps.length [V.int 0]).flatten=nV (List.replicate ps.length 0):=by
   rw [List.flatten_replicate_singleton]
   unfold nV
   rw [List.map_replicate]; rfl
  rw [eR]
  have s1:=s0.new (o := .lst (nV (List.replicate ps.length 0))) hSa
  have g1:(upd H0 Sa (.lst (nV (List.replicate ps.length 0)))) Sa=some (.lst (nV (List.replicate ps.length 0))):=upd_same
  show gName 2 (V.ref Sa) _ (upd H0 Sa (.lst (nV (List.replicate ps.length 0)))) _
  generalize upd H0 Sa (.lst (nV (List.replicate ps.length 0)))=H1 at s1 g1 ⊢
  refine ⟨Nat.zero_le _,fun La hLa=>?_⟩
  have hLa0:H La=none:=s1.free hLa
  have nSL:Sa ≠ La:=ne_of_none g1 hLa
  have s2:=s1.new (o := .lst []) hLa
  have g2:(upd H1 La (.lst [])) Sa=some (.lst (nV (List.replicate ps.length 0))):=by rw [upd_ne nSL]; exact g1
  have gL2:(upd H1 La (.lst [])) La=some (.lst []):=upd_same
  generalize upd H1 La (.lst [])=H2 at s2 g2 gL2 ⊢
  have hE2:=hE.same s2
  refine ⟨_,rfl,D,kvs,rfl,hE2.d,fun o=>?_⟩
  have nf:∀ o' u',H D ≠ some (.frz o' u'):=fun o' u' z=>by rw [hE.d] at z; cases z
  have keepF:∀ b x,b ≠ D->H2 b=some x->(upd H2 D (.frz o (DicO P w D kvs))) b=some x:=fun b x nb e=>by rw [upd_ne nb]; exact e
  have gF:(upd H2 D (.frz o (DicO P w D kvs))) D=some (.frz o (DicO P w D kvs)):=upd_same
  have tw:∀ {H3:Hp},Same (upd H2 D (.frz o (DicO P w D kvs))) H3->Same H2 (upd H3 D (DicO P w D kvs)):=fun {H3} s3=>Same.thaw hE2.d s3
  have frF:∀ b,(upd H2 D (.frz o (DicO P w D kvs))) b=none->H2 b=none:=fun b e=>by
   by_cases hb:b=D
   ·rw [hb,upd_same] at e; cases e
   ·rw [upd_ne hb] at e; exact e
  have entF:Paired (EntV (upd H2 D (.frz o (DicO P w D kvs)))) kvs rs:=by
   have:∀ {kv:List Ent} {rs:List Rw},Paired (EntV H2) kv rs->Paired (EntV (upd H2 D (.frz o (DicO P w D kvs)))) kv rs:=by
    intro kv rs h
    induction h with
    | nil=>exact .nil
    | cons h1 _ ih =>
     obtain ⟨a,b,U,c,d⟩:=h1
     exact .cons ⟨a,keepF _ _ (ne_of b hE2.d (by intro z; cases z)) b,U,c,keepF _ _ (ne_of d hE2.d (by intro z; cases z)) d⟩ ih
   exact this hE2.r
  have nSD:Sa ≠ D:=ne_of g2 hE2.d (by intro z; cases z)
  have nLD:La ≠ D:=ne_of gL2 hE2.d (by intro z; cases z)
  have gSF:=keepF _ _ nSD g2
  have gLF:=keepF _ _ nLD gL2
  generalize upd H2 D (.frz o (DicO P w D kvs))=HF at gF tw frF entF gSF gLF ⊢
  refine for_okeys (P:=P) (w:=w) (a:=D) (o:=o) (kvs:=kvs) (fun i σ H3=>∃ (a4:Option V) (Lo:Addr) (vs:List V),Same HF H3/\H3 Lo=some (.lst vs)/\Lns H3 vs ((fN (rs.take i)).map pI)/\(fN (rs.take i)).length <= 40 * i/\H Lo=none/\Lo ≠ Sa/\σ=[some (.ref l),some (.ref D),some (.ref Sa),some (.ref Lo),a4,none,none])
   ⟨none,La,[],Same.refl _,gLF, .nil,Nat.zero_le _,hLa0,Ne.symm nSL,rfl⟩ (fun i σ H3 _ ⟨_,_,_,s3,_⟩=>s3 _ _ gF) ?_ ?_
  ·rintro i x σ H3 hx ⟨a4,Lo,vs,s3,gLo,hLv,hlen,hLo0,nLo,rfl⟩
   have hi:i < kvs.length:=(List.getElem?_eq_some_iff.mp hx).1
   have hi75:=hE.few
   obtain ⟨r,hr',eV1,eV2,U,eV3,eV4⟩:=entAt entF hx
   have eV2':=s3 _ _ eV2
   have hrm:r ∈ rs:=List.mem_of_getElem? hr'
   have hG:=hE.g r hrm
   obtain ⟨p,g,e1,e2,hp,hg,hpg,hcc⟩:=hG.pg
   have gk:H3 x.2.1=some (.tup [.int r.p, .int r.g,cV r.c]):=by rw [eV2',keyV]
   have htk:rs.take (i + 1)=rs.take i ++ [r]:=by rw [List.take_succ,hr']; rfl
   rw [htk,fN_snoc]
   refine ⟨_,rfl,x.2.1,_,2,_,rfl,rfl,SqT.of gk,atI_nat (j:=2) rfl,rfl,_,rfl,?_⟩
   cases hc:r.c with
   | some k =>
    refine iteF ?_
    rw [if_neg (by intro z; cases z),List.append_nil]
    exact ⟨_,Lo,vs,s3,gLo,hLv,by omega,hLo0,nLo,rfl⟩
   | none =>
    have keysF:DicR P w H3 D kvs:=by
     refine ⟨.inr ⟨o,s3 _ _ gF⟩,fun y hy=>?_⟩
     obtain ⟨j,hj,ej⟩:=List.getElem_of_mem hy
     obtain ⟨r',_,a,b,_⟩:=entAt entF (List.getElem?_eq_getElem hj)
     rw [ej] at a b
     rw [a]; exact s3 _ _ b
    obtain ⟨U',hU',gU'⟩:=ent_at entF hE.nd hrm
    have gU3:=s3 _ _ gU'
    have hsl:=hG.few
    refine iteT ⟨_,rfl,_,rfl,_,rfl,D,kvs,keyOf r,x.2.1,_,rfl,keysF,rfl,by rw [keyV]; exact gk,hU',U',rfl,⟨_,SqL.of gU3⟩,?_⟩
    rw [if_pos rfl]
    refine comp_pairs (K:=K) (a:=U') (us:=r.s) r.g (by rw [PySem.sizeLine_eq]; omega) (SqL.of gU3) (fun k H4 N s4 hN=>?_) (fun C vs2 H4 s4 hC hL4=>?_)
    ·exact ⟨_,rfl,_,rfl,x.2.1,_,1,_,rfl,rfl,SqT.of (s4 _ _ gk),atI_nat (j:=1) rfl,by show 2 <= sizeLine; decide,fun t ht=>hN t ht⟩
    have s5:=s4.new (o := .lst vs2) hC
    have gC:(upd H4 C (.lst vs2)) C=some (.lst vs2):=upd_same
    have hL5:=Lns.same ((Same.refl H4).new (o := .lst vs2) hC) hL4
    generalize upd H4 C (.lst vs2)=H5 at s5 gC hL5 ⊢
    have hv1:vs.length=(fN (rs.take i)).length:=by rw [Paired.length hLv,List.length_map]
    have hv2:vs2.length=r.s.length:=by rw [Paired.length hL5,List.length_map]
    refine ⟨Lo,C,_,_,rfl,rfl,s5 _ _ gLo,gC,by rw [PySem.sizeLine_eq]; omega,fun L2 hL2=>?_⟩
    have s6:=(Same.refl H5).new (o := .lst (vs ++ vs2)) hL2
    have s36:=s5.trans s6
    have hHF:HF L2=none:=(s3.trans s5).free hL2
    refine ⟨_,L2,vs ++ vs2,s3.trans s36,upd_same,?_,?_,s2.free (frF _ hHF),?_,rfl⟩
    ·rw [e2,Int.toNat_natCast,List.map_append,pair_eq]
     rw [e2] at hL5
     exact Lns.app (Lns.same s36 hLv) (Lns.same s6 hL5)
    ·rw [List.length_append,List.length_map]; omega
    ·exact fun z=>by rw [z,gSF] at hHF; cases hHF
  rintro σ H3 ⟨a4,Lo,vs,s3,gLo,hLv,hlen,hLo0,nLo,rfl⟩
  rw [hkl,List.take_length] at hLv hlen
  refine ⟨D,o,DicO P w D kvs,s3 _ _ gF,nf,?_⟩
  have nLoD:Lo ≠ D:=fun z=>by rw [z,hE.d] at hLo0; cases hLo0
  have s4:=s2.trans (tw s3)
  have gLo4:(upd H3 D (DicO P w D kvs)) Lo=some (.lst vs):=by rw [upd_ne nLoD]; exact gLo
  have gS4:(upd H3 D (DicO P w D kvs)) Sa=some (.lst (nV (List.replicate ps.length 0))):=by rw [upd_ne nSD]; exact s3 _ _ gSF
  have hLv4:Lns (upd H3 D (DicO P w D kvs)) vs ((fN rs).map pI):=by
   have:∀ {vs:List V} {qs:List (Int × Int)},Lns H3 vs qs->Lns (upd H3 D (DicO P w D kvs)) vs qs:=by
    intro vs qs h
    induction h with
    | nil=>exact .nil
    | cons h1 _ ih =>
     obtain ⟨u,rfl,gu⟩:=h1
     exact .cons ⟨u,rfl,by rw [upd_ne (ne_of gu (s3 _ _ gF) (by intro z; cases z))]; exact gu⟩ ih
   exact this hLv
  generalize upd H3 D (DicO P w D kvs)=H4 at s4 gLo4 gS4 hLv4 ⊢
  have mi0:=mi_begin hE.g hE.nd
  have hu0:=unset_le ps.length n (List.replicate ps.length 0)
  have hmn:ps.length * n <= 10 * 5:=Nat.mul_le_mul hpl hn5
  have hfew:=hE.few
  refine ⟨fun m σ H5=>∃ (a4 a5 a6:Option V) (Lo:Addr) (vs:List V) (S:List Nat) (qs:List (Nat × Nat)),m=unset ps.length n S * 41 + qs.length/\m <= 6000/\Same H H5/\H5 Lo=some (.lst vs)/\Lns H5 vs (qs.map pI)/\H5 Sa=some (.lst (nV S))/\MI (wayOf rs) ps n S qs/\H Lo=none/\Lo ≠ Sa/\σ=[some (.ref l),some (.ref D),some (.ref Sa),some (.ref Lo),a4,a5,a6],⟨_,_,none,none,Lo,vs,_,fN rs,rfl,by omega,s4,gLo4,hLv4,gS4,mi0,hLo0,nLo,rfl⟩,?_⟩
  clear hLv hlen hLo0 nLo gLo nLoD gLo4 gS4 hLv4 mi0
  rintro m σ H5 ⟨a4,a5,a6,Lo,vs,S,qs,hm,hm6,s5,gLo,hLv,gS,hMI,hLo0,nLo,rfl⟩
  refine ⟨_,rfl,Nat.zero_le _,fun e0 he0=>?_⟩
  have s6:=s5.new (o := .lst []) he0
  have t6:=(Same.refl H5).new (o := .lst []) he0
  have ge6:(upd H5 e0 (.lst [])) e0=some (.lst []):=upd_same
  generalize upd H5 e0 (.lst [])=H6 at s6 t6 ge6 ⊢
  have gLo6:=t6 _ _ gLo
  have gS6:=t6 _ _ gS
  have hLv6:=Lns.same t6 hLv
  have hvl:vs.length=qs.length:=by rw [Paired.length hLv,List.length_map]
  have shp:∀ ps:List (Int × Int),SeqAt.shaped (.list (ps.map pairD))=true:=fun ps=>(shp_list (m:=1) fun z hz=>by
   obtain ⟨q,_,rfl⟩:=List.mem_map.mp hz
   exact shp_tuple (m:=0) fun y hy=>by
    rcases List.mem_cons.mp hy with rfl | hy
    ·exact shp_int _
    ·rw [List.mem_singleton.mp hy]; exact shp_int _).shaped (by decide)
  refine ⟨_, .list [], .lst (SqL.of gLo6) (dens_lns hLv6), .lst (SqL.of ge6) .nil,shp _,shp [],_,rfl,?_⟩
  rcases List.eq_nil_or_concat qs with hq0 | ⟨qs',⟨x1,g1'⟩,hqs⟩
  ·subst hq0
   refine iteF ?_
   have eS:=hMI.end hwl
   rw [eS] at gS6
   exact ⟨_,rfl,q Sa H6 s6 hSa0 gS6⟩
  rw [List.concat_eq_append] at hqs
  subst hqs
  have hne:(!PyData.eqv (.list (((qs' ++ [(x1,g1')]).map pI).map pairD)) (.list []))=true:=by
   cases qs' with
   | nil=>rfl
   | cons _ _=>rfl
  rw [hne]
  refine iteT ?_
  obtain ⟨hx1,hg1,_⟩:=hMI.que (x1,g1') (List.mem_append_right _ List.mem_cons_self)
  have hx1:x1 < ps.length:=hx1
  have hg1:g1' < n:=hg1
  have hSl:=hMI.len
  refine ⟨fun σ H9=>∃ (a4 a5 a6:Option V) (Lo:Addr) (vs:List V) (S':List Nat) (qs2:List (Nat × Nat)),unset ps.length n S' * 41 + qs2.length < m/\Same H H9/\H9 Lo=some (.lst vs)/\Lns H9 vs (qs2.map pI)/\H9 Sa=some (.lst (nV S'))/\MI (wayOf rs) ps n S' qs2/\H Lo=none/\Lo ≠ Sa/\σ=[some (.ref l),some (.ref D),some (.ref Sa),some (.ref Lo),a4,a5,a6],?_,?_⟩
  ·rintro σ' H9 ⟨b4,b5,b6,Lo',vs',S',qs2,hlt,r1,r2,r3,r4,r5,r6,r7,r8⟩
   exact ⟨_,hlt,b4,b5,b6,Lo',vs',S',qs2,rfl,by omega,r1,r2,r3,r4,r5,r6,r7,r8⟩
  have hlast:vs[vs.length - 1]? = some (vs.getD (vs.length - 1) .non):=by
   rw [List.getD_eq_getElem?_getD]
   have:vs.length - 1 < vs.length:=by rw [hvl,List.length_append]; simp only [List.length_singleton]; omega
   rw [List.getElem?_eq_getElem this]; rfl
  obtain ⟨pr,hpr,u,hu',gu⟩:=Lns.get hLv6 hlast
  have hpr':pr=((x1:Int),(g1':Int)):=by
   rw [List.map_append,List.getElem?_append_right (by rw [hvl,List.length_append,List.length_map]; simp only [List.length_singleton]; omega)] at hpr
   have:vs.length - 1 - (qs'.map pI).length=0:=by rw [hvl,List.length_append,List.length_map]; simp only [List.length_singleton]; omega
   rw [this] at hpr
   exact (Option.some.inj hpr).symm
  subst hpr'
  refine ⟨_,rfl, .inl ⟨rfl,_,SqL.of gLo6⟩,Lo,vs,_,rfl,rfl,gLo6,hlast,?_⟩
  rw [hu']
  have s7:Same H (upd H6 Lo (.lst vs.dropLast)):=fun b o e=>by rw [upd_ne (ne_of_none e hLo0)]; exact s6 _ _ e
  have nuLo:u ≠ Lo:=ne_of gu gLo6 (by intro z; cases z)
  have gu7:(upd H6 Lo (.lst vs.dropLast)) u=some (.tup [.int (x1:Int), .int (g1':Int)]):=by rw [upd_ne nuLo]; exact gu
  have gLo7:(upd H6 Lo (.lst vs.dropLast)) Lo=some (.lst vs.dropLast):=upd_same
  have gS7:(upd H6 Lo (.lst vs.dropLast)) Sa=some (.lst (nV S)):=by rw [upd_ne (Ne.symm nLo)]; exact gS6
  have hLv7:Lns (upd H6 Lo (.lst vs.dropLast)) vs.dropLast (qs'.map pI):=by
   have:=Lns.pop hLv6
   rw [List.map_append,show (List.map pI [(x1,g1')])=[pI (x1,g1')] from rfl,List.dropLast_concat] at this
   exact lns_off gLo6 this
  generalize upd H6 Lo (.lst vs.dropLast)=H7 at s7 gu7 gLo7 gS7 hLv7 ⊢
  refine ⟨u,_,rfl,SqT.of gu7,rfl,_,_,rfl,_,_,rfl,rfl,?_⟩
  refine ⟨_,rfl,_,rfl,Sa,_,_,_,rfl,rfl,SqL.of gS7,atI_nat (nV_getD (p:=x1) (by omega)),_,rfl,_,_,rfl,rfl,(show (0:Int) <= (g1':Int) by omega),_,_,rfl,rfl,rfl,_,rfl,?_⟩
  dsimp only
  rw [bit0]
  have hlm:(qs' ++ [(x1,g1')]).length=qs'.length + 1:=by rw [List.length_append]; rfl
  rw [hlm] at hm
  cases hb:(S.getD x1 0).testBit g1' with
  | true =>
   exact iteF ⟨_,_,_,Lo,_,S,qs',by omega,s7,gLo7,hLv7,gS7,hMI.skip hb,hLo0,nLo,rfl⟩
  | false =>
   have hb':bitN S x1 g1' = false:=hb
   have hun:=unset_set (m:=ps.length) (n:=n) hx1 hg1 (by omega) hb'
   refine iteT ⟨_,rfl,_,rfl,Sa,_,_,_,rfl,rfl,SqL.of gS7,atI_nat (nV_getD (p:=x1) (by omega)),_,rfl,_,_,rfl,rfl,⟨by omega,by omega,by decide⟩,_,_,rfl,rfl,?_⟩
   dsimp only
   rw [Int.one_mul,Int.toNat_natCast,show (2:Int) ^ g1' = ((2 ^ g1':Nat):Int) by rw [Int.natCast_pow]; rfl,Yd.bitOr_nat]
   refine ⟨_,rfl,_,rfl,Sa,_,(x1:Int),x1,rfl,rfl,gS7,ixN_nat (by rw [nV_len]; omega),?_⟩
   rw [nV_set]
   have s8:Same H (upd H7 Sa (.lst (nV (S.set x1 (S.getD x1 0 ||| 2 ^ g1'))))):=fun b o e=>by rw [upd_ne (ne_of_none e hSa0)]; exact s7 _ _ e
   have gLo8:(upd H7 Sa (.lst (nV (S.set x1 (S.getD x1 0 ||| 2 ^ g1'))))) Lo=some (.lst vs.dropLast):=by rw [upd_ne nLo]; exact gLo7
   have gS8:(upd H7 Sa (.lst (nV (S.set x1 (S.getD x1 0 ||| 2 ^ g1'))))) Sa=some (.lst (nV (S.set x1 (S.getD x1 0 ||| 2 ^ g1')))):=upd_same
   have hLv8:Lns (upd H7 Sa (.lst (nV (S.set x1 (S.getD x1 0 ||| 2 ^ g1'))))) vs.dropLast (qs'.map pI):=lns_off gS7 hLv7
   generalize upd H7 Sa (.lst (nV (S.set x1 (S.getD x1 0 ||| 2 ^ g1'))))=H8 at s8 gLo8 gS8 hLv8 ⊢
   obtain ⟨v,hv,ul,rfl,gul⟩:=Lns.get2 hLn (List.getElem?_eq_getElem hx1)
   have egx:ps.getD x1 (0,0)=ps[x1]:=by rw [List.getD_eq_getElem?_getD,List.getElem?_eq_getElem hx1]; rfl
   have hokk:=hok _ (List.getElem_mem hx1)
   unfold okP at hokk
   simp only [Bool.and_eq_true,decide_eq_true_eq,Bool.not_eq_true',decide_eq_false_iff_not] at hokk
   obtain ⟨p0,hp0⟩:∃ p0:Nat,(ps[x1]).2=(p0:Int):=⟨(ps[x1]).2.toNat,by omega⟩
   rw [hp0] at gul
   refine ⟨_,rfl,_,rfl,l,_,(x1:Int),_,rfl,rfl,SqL.of (s8 _ _ gl),atI_nat hv,ul,_,1,_,rfl,rfl,SqT.of (s8 _ _ gul),atI_nat (j:=1) rfl,_,rfl,rfl,_,rfl,?_⟩
   rw [int_eq]
   by_cases he:(p0:Int)=(g1':Int)
   ·rw [decide_eq_true he]
    refine iteF ⟨_,_,_,Lo,_,_,qs',by omega,s8,gLo8,hLv8,gS8,?_,hLo0,nLo,rfl⟩
    have:=hMI.set hwl (more:=[]) (fun z=>⟨(fun h=>by cases h),fun h=>absurd (by rw [egx,hp0]; exact he) (on_end h).1⟩)
    rw [List.map_nil,List.append_nil] at this
    exact this
   rw [decide_eq_false he]
   have hpg:p0 ≠ g1':=fun e=>he (by rw [e])
   obtain ⟨r,hrm,ek⟩:=row_key (hE.all p0 g1' (some x1) (by omega) hg1 hpg (List.mem_cons_of_mem _ (List.mem_map.mpr ⟨x1,List.mem_filter.mpr ⟨List.mem_range.mpr hx1,decide_eq_true (by rw [egx]; exact hp0)⟩,rfl⟩)))
   have ekk:keyOf r=[some (p0:Int),some (g1':Int),some (x1:Int)]:=congrArg okey ek
   refine iteT ⟨_,rfl,_,rfl,l,_,(x1:Int),_,rfl,rfl,SqL.of (s8 _ _ gl),atI_nat hv,ul,_,1,_,rfl,rfl,SqT.of (s8 _ _ gul),atI_nat (j:=1) rfl,_,rfl,_,rfl,by show 3 <= sizeLine; decide,fun tt htt=>?_⟩
   have t9:=(Same.refl H8).new (o := .tup [.int (p0:Int), .int (g1':Int), .int (x1:Int)]) htt
   have gtt:(upd H8 tt (.tup [.int (p0:Int), .int (g1':Int), .int (x1:Int)])) tt=some (.tup [.int (p0:Int), .int (g1':Int), .int (x1:Int)]):=upd_same
   generalize upd H8 tt (.tup [.int (p0:Int), .int (g1':Int), .int (x1:Int)])=H9 at t9 gtt ⊢
   have s9:=s8.trans t9
   have hE9:=hE.same s9
   have hDK:=ent_keys hE9.d hE9.r
   obtain ⟨U',hU',gU9⟩:=ent_at hE9.r hE9.nd hrm
   have hsl:=(hE.g r hrm).few
   refine ⟨_,rfl,_,rfl,_,rfl,D,kvs,keyOf r,tt,_,rfl,⟨.inl hDK.1,hDK.2⟩,rfl,by rw [ekk]; exact gtt,hU',U',rfl,⟨_,SqL.of gU9⟩,?_⟩
   refine comp_pairs (K:=K) (a:=U') (us:=r.s) (g1':Int) (by rw [PySem.sizeLine_eq]; omega) (SqL.of gU9) (fun k Hb N sb hN=>?_) (fun C vs2 Hb sb hC hLb=>?_)
   ·exact ⟨_,rfl,_,rfl,by show 2 <= sizeLine; decide,fun t ht=>hN t ht⟩
   have sc:=sb.new (o := .lst vs2) hC
   have gC:(upd Hb C (.lst vs2)) C=some (.lst vs2):=upd_same
   have hLc:=Lns.same ((Same.refl Hb).new (o := .lst vs2) hC) hLb
   generalize upd Hb C (.lst vs2)=Hc at sc gC hLc ⊢
   have hv1:vs.dropLast.length=qs'.length:=by rw [Paired.length hLv8,List.length_map]
   have hv2:vs2.length=r.s.length:=by rw [Paired.length hLc,List.length_map]
   have t8c:=t9.trans sc
   refine ⟨Lo,C,_,_,rfl,rfl,t8c _ _ gLo8,gC,by rw [PySem.sizeLine_eq]; omega,fun L2 hL2=>?_⟩
   have sd:=(Same.refl Hc).new (o := .lst (vs.dropLast ++ vs2)) hL2
   have t8d:=t8c.trans sd
   have hon:∀ z,z ∈ r.s↔z ∈ onN (wayOf rs) ps g1' x1:=fun z=>by
    rw [← wl_of hE.nd hrm,ekk]
    unfold onN
    rw [egx,hp0,if_neg he]
   refine ⟨_,_,_,L2,vs.dropLast ++ vs2,_,qs' ++ r.s.map fun z=>(z,g1'),by rw [List.length_append,List.length_map]; omega,s8.trans t8d,upd_same,?_,t8d _ _ gS8,hMI.set hwl hon,(s8.trans t8c).free hL2,?_,rfl⟩
   ·rw [List.map_append,pair_eq]
    exact Lns.app (Lns.same t8d hLv8) (Lns.same sd hLc)
   ·exact fun z=>by rw [z] at hL2; rw [t8c _ _ gS8] at hL2; cases hL2
end
end K33
namespace K33
open PySem L2 LkM
theorem comp_rows {P:Program} {w:World} {a:Addr} {o:Obj} {kvs:List Ent} {rs:List Rw} {g:TG} {te:TE} {σ0:St} {H:Hp} {Q:VK} (hn:kvs.length < sizeLine) (ha:H a=some (.frz o (DicO P w a kvs))) (hE:Paired (EntV H) kvs rs)
  (hs:∀ (x:Ent) (r:Rw) (U:Addr) (H1:Hp) (N:V->Hp->Prop),r ∈ rs->Same H H1->H1 x.2.1=some (.tup [.int r.p, .int r.g,cV r.c])->(∀ t U,H1 t=none->H1 U=some (.lst (natV r.s))->N (.ref t) (upd H1 t (.tup [.int r.p, .int r.g,cV r.c, .ref U])))->g (.ref x.2.1) σ0 H1 fun σ2 H2=>te σ2 H2 N)
  (hq:∀ D vs H1,Same H H1->H1 D=none->Rws H1 vs rs->Q (.ref D) (upd H1 D (.lst vs))):CompR (Ito P w a o kvs) g tYes te σ0 Q H:=by
 have hl:kvs.length=rs.length:=Paired.length hE
 refine comp_gen kvs.length hn (fun i acc H'=>Same H H'/\Rws H' acc (rs.take i)) ⟨Same.refl _, .nil⟩ (fun i acc H' h=>by have:=Paired.length h.2; rw [this]; exact List.length_take_le _ _) (fun i acc H' hi h=>?_) (fun acc H' h=>?_)
 ·obtain ⟨s,hL⟩:=h
  refine ⟨⟨s _ _ ha,hi⟩,fun v H2 y=>?_⟩
  obtain ⟨e,x,hx,rfl⟩:=y
  subst e
  obtain ⟨r,hr,e1,e2,U,e3,e4⟩:=entAt hE hx
  have htk:rs.take (i + 1)=rs.take i ++ [r]:=by rw [List.take_succ,hr]; rfl
  refine hs x r U H2 (fun y H4=>Same H H4/\Rws H4 (acc ++ [y]) (rs.take (i + 1))) (List.mem_of_getElem? hr) s (by rw [s _ _ e2,keyV]) fun t U' ht gU'=>⟨s.new ht,?_⟩
  rw [htk]
  have s2:=(Same.refl H2).new (o := .tup [.int r.p, .int r.g,cV r.c, .ref U']) ht
  have hL':=Rws.same s2 hL
  have:∀ {vs:List V} {qs:List Rw},Rws (upd H2 t (.tup [.int r.p, .int r.g,cV r.c, .ref U'])) vs qs->Rws (upd H2 t (.tup [.int r.p, .int r.g,cV r.c, .ref U'])) (vs ++ [.ref t]) (qs ++ [r]):=by
   intro vs qs h
   induction h with
   | nil=>exact .cons ⟨t,U',rfl,upd_same,s2 _ _ gU'⟩ .nil
   | cons h1 _ ih=>exact .cons h1 ih
  exact this hL'
 ·obtain ⟨s,hL⟩:=h
  rw [hl,List.take_length] at hL
  exact ⟨⟨s _ _ ha,rfl⟩,fun D hD=>hq D acc H' s hD hL⟩
def setAsg (s:Stmt):Scope:=match s with
 | .Assign _ (.ListComp _ _ sc _) _=>sc
 | _=>{ kind := .function,names:=[],isGenerator:=false,isCoroutine:=false }
def cmpC (s:Stmt):Scope:=match s with
 | .If (.Compare _ _ [.Compare (.Call _ [_, .Tuple (.ListComp _ _ sc _ :: _) _ _] _ _) _ _ _] _) _ _ _=>sc
 | _=>{ kind := .function,names:=[],isGenerator:=false,isCoroutine:=false }
def spLaw (K:PySem.W.Frag):Sp:=fun vs H Q _=>∃ (a:Addr) (ns:List Int),vs=[.ref a]/\SqL K H a (ns.map V.int)/\ns.length <= 63/\∀ H',Q (.bl true) H'
abbrev NLw:List Str:=["_law_script", "_law_places", "_law_lanes_here", "_law_cell", "_law_numbers", "_law_draw", "_law_alive_here", "_law_entries_here", "_law_changed_here", "_law_rows", "_law_table", "_law_sets", "_law_found", "_law_free", "_law_far", "_law_drawn"]
structure Fns (P:Program) (w:World) (K:PySem.W.Frag) (mg:Str->Option Value) (base:Heap) (c:Cs) (ts:Ts) (fi ft fc fx fd fl fa fe fh fz fm flo fk ff fw2:Addr) (di dt dc dx dd dl da de dh dz dm dlo dk df dw2:FuncData):Prop where
 mi:mg "Land" = some (.ref c.land)
 Mi:Mk K c.land fi
 bi:Binds K di ["self", "places", "lanes"] []
 Gi:FnOk P w K mg base (CXe P w) 4 fi di ["self", "places", "lanes"] (spInit K c)
 mt:mg "Told" = some (.ref ts.told)
 Mt:Mk K ts.told ft
 bt:Binds K dt ["self", "land", "rows"] []
 Gt:FnOk P w K mg base (CXe P w) 5 ft dt ["self", "land", "rows"] (spTold P w K c ts)
 mc:mg "_law_cell_at" = some (.ref fc)
 kc:PySem.W.keepIn K (.ref fc)=true
 bc:Binds K dc ["_law_script", "_law_k"] []
 Gc:FnOk P w K mg base CX0 1 fc dc ["_law_script", "_law_k"] (spCell K)
 mx:mg "_law_mixed" = some (.ref fx)
 kx:PySem.W.keepIn K (.ref fx)=true
 bx:Binds K dx ["_law_cell", "_law_k"] []
 Gx:FnOk P w K mg base CX0 1 fx dx ["_law_cell", "_law_k"] spMix
 md:mg "_law_draws" = some (.ref fd)
 kd:PySem.W.keepIn K (.ref fd)=true
 bd:Binds K dd PDr []
 Gd:FnOk P w K mg base CX0 2 fd dd PDr spDr
 ml:mg "_law_lanes" = some (.ref fl)
 kl:PySem.W.keepIn K (.ref fl)=true
 bl:Binds K dl ["_law_script", "_law_places"] []
 Gl:FnOk P w K mg base CX0 3 fl dl ["_law_script", "_law_places"] (spLanes K)
 ma:mg "_law_alive" = some (.ref fa)
 ka:PySem.W.keepIn K (.ref fa)=true
 ba:Binds K da PAl []
 Ga:FnOk P w K mg base CX0 1 fa da PAl (spAl K)
 me:mg "_law_entries" = some (.ref fe)
 ke:PySem.W.keepIn K (.ref fe)=true
 be:Binds K de PEn []
 Ge:FnOk P w K mg base CX0 3 fe de PEn (spEn P w K)
 mh:mg "_law_changed" = some (.ref fh)
 kh:PySem.W.keepIn K (.ref fh)=true
 bh:Binds K dh PCh []
 Gh:FnOk P w K mg base CX0 3 fh dh PCh (spCh P w)
 mz:mg "_law_met" = some (.ref fz)
 kz:PySem.W.keepIn K (.ref fz)=true
 bz:Binds K dz ["_law_lanes_here", "_law_entries_here"] []
 Gz:FnOk P w K mg base CX0 1 fz dz ["_law_lanes_here", "_law_entries_here"] (spLm P w)
 mm:mg "met" = some (.ref fm)
 km:PySem.W.keepIn K (.ref fm)=true
 bm:Binds K dm ["table"] []
 Gm:FnOk P w K mg base CX0 6 fm dm ["table"] (spMet c ts.told (ToldAt P w ts))
 mlo:mg "lost" = some (.ref flo)
 klo:PySem.W.keepIn K (.ref flo)=true
 blo:Binds K dlo ["table"] []
 Glo:FnOk P w K mg base CX0 7 flo dlo ["table"] (spLost c ts.told (ToldAt P w ts))
 mlk:mg "look" = some (.ref fk)
 kk:PySem.W.keepIn K (.ref fk)=true
 bk:Binds K dk ["table"] []
 Gk:FnOk P w K mg base CX0 8 fk dk ["table"] (spLook c ts.told (ToldAt P w ts))
 mf:mg "fault" = some (.ref ff)
 kf:PySem.W.keepIn K (.ref ff)=true
 bf:Binds K df ["table", "paper"] []
 Gf:FnOk P w K mg base CX0 7 ff df ["table", "paper"] (spFault K c ts.told (ToldAt P w ts))
 W:Way K ts.told fw2 dw2 (ToldAt P w ts)
section
variable {P:Program} {w:World} {K:PySem.W.Frag} {mg:Str->Option Value} {base:Heap}
theorem scLw:FnScope NLw ["_law_script"] (defScope sLaw):=⟨rfl,rfl,rfl,by decide +kernel,rfl,by decide +kernel,by decide +kernel⟩
theorem bkL1:Blk NLw (defScope sLaw) (setAsg ((defBody sLaw).getD 9 (.Pass ⟨0,0,0,0⟩))) ["_law_entries_here"] [7]:=⟨rfl,by decide +kernel,by decide +kernel,by decide +kernel,rfl,by decide +kernel⟩
theorem bkL2:Blk NLw (defScope sLaw) (cmpC ((defBody sLaw).getD 16 (.Pass ⟨0,0,0,0⟩))) ["_law_far"] [14]:=⟨rfl,by decide +kernel,by decide +kernel,by decide +kernel,rfl,by decide +kernel⟩
theorem bkL3:Blk NLw (defScope sLaw) (setAsg ((defBody sLaw).getD 18 (.Pass ⟨0,0,0,0⟩))) ["_law_far"] [14]:=⟨rfl,by decide +kernel,by decide +kernel,by decide +kernel,rfl,by decide +kernel⟩
theorem ndL1:(["_law_key", "_law_entries_here"]:List Str).Nodup:=by decide +kernel
theorem ndL2:(["_law_number", "_law_far"]:List Str).Nodup:=by decide +kernel
theorem ndL3:(["_law_k", "_law_far"]:List Str).Nodup:=by decide +kernel
end
end K33
namespace K33
open PySem L2 LkM
theorem Rws.same' {H H':Hp} (s:Same H H') {vs:List V} {rs:List Rw} (h:Rws H vs rs):Rws H' vs rs:=Rws.imp (fun v r x=>RwV.same s x) h
theorem comp_addL {K:PySem.W.Frag} {a:Addr} {ns:List Int} {g:TG} {te:TE} {σ0:St} {H:Hp} {Q:VK} (d:Int) (hn:ns.length < sizeLine) (ha:SqL K H a (ns.map V.int))
  (hs:∀ (k:Int) (N:V->Hp->Prop),N (.int (k + d)) H->g (.int k) σ0 H fun σ2 H2=>te σ2 H2 N)
  (hq:∀ D,H D=none->Q (.ref D) (upd H D (.lst ((ns.map (· + d)).map V.int)))):CompR (Itl K a) g tYes te σ0 Q H:=by
 refine comp_lst (xs:=ns.map V.int) (fun _=>true) (fun v=>match v with | .int k => .int (k + d) | _ => .non) (by rw [List.length_map]; exact hn) ha (fun x acc N hx h=>?_) fun D hD=>?_
 ·obtain ⟨k,hk,rfl⟩:=List.mem_map.mp hx
  exact hs k (fun y H4=>N (acc ++ [y]) H4) h
 ·have e:((ns.map V.int).filter (fun _=>true)).map (fun v=>match v with | .int k=>V.int (k + d) | _ => .non)=(ns.map (· + d)).map V.int:=by
   rw [List.filter_eq_self.mpr (fun _ _=>rfl),List.map_map,List.map_map]; rfl
  rw [e]
  exact hq D hD
theorem comp_ints {m:Nat} {g:TG} {te:TE} {σ0:St} {H:Hp} {Q:VK} (hm:m <= 1000)
  (hs:∀ (i:Nat) (N:V->Hp->Prop),i < m->(∀ z:Int,N (.int z) H)->g (.int (0 + i)) σ0 H fun σ2 H2=>te σ2 H2 N)
  (hq:∀ D (nums:List Int),H D=none->nums.length=m->Q (.ref D) (upd H D (.lst (nums.map V.int)))):CompR (Itr 0 m) g tYes te σ0 Q H:=by
 refine comp_gen m (by rw [PySem.sizeLine_eq]; omega) (fun i acc H'=>H' = H/\∃ nums:List Int,acc=nums.map V.int/\nums.length=i) ⟨rfl,[],rfl,rfl⟩ (fun i acc H' h=>by obtain ⟨_,nums,rfl,rfl⟩:=h; rw [List.length_map]; exact Nat.le_refl _) (fun i acc H' hi h=>?_) (fun acc H' h=>?_)
 ·obtain ⟨rfl,nums,rfl,rfl⟩:=h
  refine ⟨hi,fun v H2 y=>?_⟩
  obtain ⟨e1,e2⟩:=y
  subst e1 e2
  exact hs nums.length (fun y H4=>H4=H2/\∃ n2:List Int,nums.map V.int ++ [y]=n2.map V.int/\n2.length=nums.length + 1) hi fun z=>⟨rfl,nums ++ [z],by rw [List.map_append]; rfl,by rw [List.length_append]; rfl⟩
 ·obtain ⟨rfl,nums,rfl,hl⟩:=h
  exact ⟨Nat.le_refl m,fun D hD=>hq D nums hD hl⟩
theorem eS (N:List Nat):nV N=(iz N).map V.int:=natV_iz N
section
variable {P:Program} {w:World} {K:PySem.W.Frag} {mg:Str->Option Value} {base:Heap}
theorem ok_law {c:Cs} {ts:Ts} {f fi ft fc fx fd fl fa fe fh fz fm flo fk ff fw2:Addr} {df' di dt dc dx dd dl da de dh dz dm dlo dk df dw2:FuncData} (F:Fun K "law" "law" sLaw f df') (T:Txt mg) (D:Fns P w K mg base c ts fi ft fc fx fd fl fa fe fh fz fm flo fk ff fw2 di dt dc dx dd dl da de dh dz dm dlo dk df dw2) :
  FnOk P w K mg base CX0 9 f df' ["_law_script"] (spLaw K):=by
 refine F.ok scLw (fun vs H Q E h=>?_) (fun cdv A outer s H vs Q E hr h=>?_)
 ·obtain ⟨a,ns,rfl,_⟩:=h
  rfl
 ·obtain ⟨a,ns,rfl,hS,hlen,q⟩:=h
  have hu:=hr.units
  have hu1:=Nat.lt_of_le_of_lt (Nat.add_le_add_left (show 1 <= 64 by decide) _) hr.units
  have hr1:Room 1 _:=hr.mono (by decide)
  have hr2:Room 2 _:=hr.mono (by decide)
  have hr3:Room 3 _:=hr.mono (by decide)
  have hr5:Room 5 _:=hr.mono (by decide)
  have hr6:Room 6 _:=hr.mono (by decide)
  have hr7:Room 7 _:=hr.mono (by decide)
  refine ⟨_,pss_cons (ps_set (i:=1) scLw.nd rfl (Or.inl rfl) (pe_op op_add pe_int (pe_op op_mod (pe_call D.Gc hr1 rfl D.mc D.kc D.bc .nil pass0 (pa_cons (pv 0) (pa_cons pe_int pa_nil))) pe_int)))
   (pss_cons (ps_set (i:=2) scLw.nd rfl (Or.inl rfl) (pe_call D.Gl hr3 rfl D.ml D.kl D.bl .nil pass0 (pa_cons (pv 0) (pa_cons (pv 1) pa_nil))))
   (pss_cons (ps_set (i:=3) scLw.nd rfl (Or.inl rfl) (pe_call D.Gc hr1 rfl D.mc D.kc D.bc .nil pass0 (pa_cons (pv 0) (pa_cons pe_int pa_nil))))
   (pss_cons (ps_set (i:=4) scLw.nd rfl (Or.inl rfl) (pe_lst pa_nil))
   (pss_cons (ps_for PassesOwn.never rfl (pi_list (pe_call D.Gd hr2 rfl D.md D.kd D.bd .nil pass0 (pa_cons (pe_op op_fdiv (pv 3) pe_int) (pa_cons (pe_callB call_len_seq rfl T.len PySem.boot_len (pa_cons (pv 2) pa_nil)) (pa_cons (pe_op op_pow pe_int pe_int) pa_nil))))) (pg_name (i:=5) scLw.nd rfl (Or.inl rfl))
    (pss_one (ps_expr (pe_bm PySem.F.plainAttrs_list PySem.F.slot_list_append PySem.F.type_list_append mt_append (pv 4) (pa_cons (pe_op op_mod (pv 5) (pe_ix ix_list (pe_lst (pa_cons (pe_op op_pow pe_int pe_int) (pa_cons pe_int pa_nil))) (pe_op op_mod (pv 3) pe_int) (fun _ _=>rfl))) pa_nil)))))
   (pss_cons (ps_set (i:=6) scLw.nd rfl (Or.inl rfl) (pe_call D.Ga hr1 rfl D.ma D.ka D.ba .nil pass0 (pa_cons (pv 2) (pa_cons (pv 4) (pa_cons (pv 1) pa_nil)))))
   (pss_cons (ps_set (i:=7) scLw.nd rfl (Or.inr rfl) (pe_call D.Ge hr3 rfl D.me D.ke D.be .nil pass0 (pa_cons (pv 2) (pa_cons (pv 4) (pa_cons (pv 6) (pa_cons (pv 1) (pa_cons (pe_call D.Gc hr1 rfl D.mc D.kc D.bc .nil pass0 (pa_cons (pv 0) (pa_cons pe_int pa_nil))) pa_nil)))))))
   (pss_cons (ps_set (i:=8) scLw.nd rfl (Or.inl rfl) (pe_post (pe_and (pe_cmpR op_eq (pe_op op_mod (pe_op op_fdiv (pe_call D.Gc hr1 rfl D.mc D.kc D.bc .nil pass0 (pa_cons (pv 0) (pa_cons pe_int pa_nil))) pe_int) pe_int) pe_int (nomark _)) (pe_one (pe_cmpR (op_neD hu) (pv 2) (pe_lst pa_nil) (nomark _))))))
   (pss_cons (ps_post (ps_if (pt_val (pv 8)) (pss_one (ps_expr (pe_call D.Gh hr3 rfl D.mh D.kh D.bh .nil pass0 (pa_cons (pv 2) (pa_cons (pv 7) (pa_cons (pe_call D.Gc hr1 rfl D.mc D.kc D.bc .nil pass0 (pa_cons (pv 0) (pa_cons pe_int pa_nil))) pa_nil)))))) pss_nil))
   (pss_cons (ps_thaw (ps_setComp (i:=9) (own:=["_law_key"]) (capN:=["_law_entries_here"]) (cap:=[7]) bkL1 rfl scLw.nd rfl rfl (show PI _ _ _ (iOKeys P w (tVar 7)) from pi_okeys (pv 7))
    (fun C s' H' fp=>⟨pg_name (i:=0) ndL1 rfl (Or.inl rfl),pts_nil,pe_tup (pa_cons (pe_ix (show IxR _ (rIxT K) from ix_tup) (pv 0) pe_int (fun _ _=>rfl)) (pa_cons (pe_ix (show IxR _ (rIxT K) from ix_tup) (pv 0) pe_int (fun _ _=>rfl)) (pa_cons (pe_ix (show IxR _ (rIxT K) from ix_tup) (pv 0) pe_int (fun _ _=>rfl)) (pa_cons (show PE _ _ (tOIx P w _ _) from pe_oix hu1 (pv 1) (pv 0) (fun _ _=>rfl)) pa_nil))))⟩)))
   (pss_cons (ps_set (i:=10) scLw.nd rfl (Or.inl rfl) (pe_make D.Mt D.Gt hr6 rfl D.mt D.bt .nil passE0 (pa_cons (pe_make D.Mi D.Gi hr5 rfl D.mi D.bi .nil passE0 (pa_cons (pv 1) (pa_cons (pe_callTy call_list_of rfl T.list PySem.Pv.boot_list (pa_cons (pv 2) pa_nil)) pa_nil))) (pa_cons (pv 9) pa_nil))))
   (pss_cons (ps_set (i:=11) scLw.nd rfl (Or.inl rfl) (pe_call D.Gz hr1 rfl D.mz D.kz D.bz .nil pass0 (pa_cons (pv 2) (pa_cons (pv 7) pa_nil))))
   (pss_cons (ps_if (pt_cmpR (op_neI hu) (pe_callTy call_list_of rfl T.list PySem.Pv.boot_list (pa_cons (pe_call D.Gm hr6 rfl D.mm D.km D.bm .nil pass0 (pa_cons (pv 10) pa_nil)) pa_nil)) (pv 11) (nomark _)) (pss_one (ps_ret pe_bl)) pss_nil)
   (pss_cons (ps_set (i:=12) scLw.nd rfl (Or.inl rfl) (pe_call D.Gk hr rfl D.mlk D.kk D.bk .nil pass0 (pa_cons (pv 10) pa_nil)))
   (pss_cons (ps_set (i:=13) scLw.nd rfl (Or.inl rfl) (pe_cmpR op_isN (pe_call D.Gf hr7 rfl D.mf D.kf D.bf .nil pass0 (pa_cons (pv 10) (pa_cons (pe_tup (pa_cons (pv 4) (pa_cons (pv 11) pa_nil))) pa_nil))) pe_non (nomark _)))
   (pss_cons (ps_set (i:=14) scLw.nd rfl (Or.inr rfl) (pe_op op_add pe_int (pe_op op_mod (pe_call D.Gc hr1 rfl D.mc D.kc D.bc .nil pass0 (pa_cons (pv 0) (pa_cons pe_int pa_nil))) (pe_op op_pow pe_int pe_int))))
   (pss_cons (ps_if (pt_cmpR op_ne (pv 13) (pe_cmpR op_isN (pe_call D.Gf hr7 rfl D.mf D.kf D.bf .nil pass0 (pa_cons (pv 10) (pa_cons (pe_tup (pa_cons (pe_comp (own:=["_law_number"]) (capN:=["_law_far"]) (cap:=[14]) bkL2 rfl (pi_list (pv 4)) (fun C s' H' fp=>⟨pg_name (i:=0) ndL2 rfl (Or.inl rfl),pts_nil,pe_op op_add (pv 0) (pv 1)⟩)) (pa_cons (pe_callTy call_tuple_of rfl T.tuple PySem.Pv.boot_tuple (pa_cons (pv 11) pa_nil)) pa_nil))) pa_nil))) pe_non (nomark _)) (nomark _)) (pss_one (ps_ret pe_bl)) pss_nil)
   (pss_cons (ps_if (pt_val (pv 13)) (pss_one (ps_ret (pe_and (pe_cmpR op_eq (pe_ix ix_tup (pv 12) pe_int (fun _ _=>rfl)) pe_str (nomark _)) (pe_one (pe_cmpR op_isN (pe_call D.Glo hr7 rfl D.mlo D.klo D.blo .nil pass0 (pa_cons (pv 10) pa_nil)) pe_non (nomark _)))))) pss_nil)
   (pss_cons (ps_setComp (i:=15) (own:=["_law_k"]) (capN:=["_law_far"]) (cap:=[14]) bkL3 rfl scLw.nd rfl rfl (pi_range1 rfl T.range (pa_cons (pe_callB call_len_seq rfl T.len PySem.boot_len (pa_cons (pv 2) pa_nil)) pa_nil))
    (fun C s' H' fp=>⟨pg_name (i:=0) ndL3 rfl (Or.inl rfl),pts_nil,pe_op op_mod (pe_call D.Gx hr1 rfl D.mx D.kx D.bx .nil pass0 (pa_cons (pv 1) (pa_cons (pv 0) pa_nil))) (pe_op op_add pe_int (pv 1))⟩))
   (pss_cons (ps_post (ps_if (PW.pt (pw_and (pt_cmpR op_ne (pe_ix ix_tup (pv 12) pe_int (fun _ _=>rfl)) pe_str (nomark _)) (pw_and1 (pt_cmpR op_isN (pe_call D.Gf hr7 rfl D.mf D.kf D.bf .nil pass0 (pa_cons (pv 10) (pa_cons (pe_tup (pa_cons (pv 15) (pa_cons (pv 11) pa_nil))) pa_nil))) pe_non (nomark _))))) (pss_one (ps_ret pe_bl)) pss_nil))
   (pss_one (ps_ret (pe_and (pv 8) (pe_one (pe_cmpR op_notN (pe_call D.Gf hr7 rfl D.mf D.kf D.bf .nil pass0 (pa_cons (pv 10) (pa_cons (pe_tup (pa_cons (pv 4) (pa_cons (pv 6) pa_nil))) pa_nil))) pe_non (nomark _))))))))))))))))))))))))),?_⟩
  refine ⟨_,rfl,a,ns,0,rfl,hS,fun d0=>⟨_,_,rfl,rfl,(by show (0:Int) < 4; decide),_,_,rfl,rfl,?_⟩⟩
  obtain ⟨n,hn,hn2,hn5⟩:∃ n:Nat,(2:Int) + d0 % 4=(n:Int)/\2 <= n/\n <= 5:=⟨(2 + d0 % 4).toNat,by omega,by omega,by omega⟩
  dsimp only
  rw [hn]
  refine ⟨_,rfl,_,rfl,a,ns,n,rfl,hS,hlen,hn2,hn5,fun l lvs ps H1 s1 nl gl hLn hpl hok=>?_⟩
  have hll:lvs.length=ps.length:=Paired.length hLn
  refine ⟨_,rfl,a,ns,1,rfl,s1.seq hS,fun d1=>?_⟩
  refine ⟨Nat.zero_le _,fun Nu hNu=>?_⟩
  have s2:=(Same.refl H1).new (o := .lst []) hNu
  have gN2:(upd H1 Nu (.lst [])) Nu=some (.lst (([]:List Int).map V.int)):=upd_same
  generalize upd H1 Nu (.lst [])=H2 at s2 gN2 ⊢
  refine ⟨_,rfl,_,_,rfl,rfl,⟨by decide,by decide⟩,_,rfl,l,_,rfl, .inl (SqL.of (s2 _ _ gl)),_,_,rfl,rfl,⟨by decide,by decide,by decide⟩,d1 / 2,10 ^ (40:Int).toNat,ps.length,by rw [hll]; rfl,by omega,by decide +kernel,by decide +kernel,fun Dr ds H3 s3 hDr gDr hdl=>⟨Dr,rfl,⟨_,SqL.of gDr⟩,?_⟩⟩
  obtain ⟨b,hb0,hb⟩:∃ b:Int,0 < b/\atI [V.int (10 ^ (40:Int).toNat),V.int 5] (d1 % 2)=some (.int b):=by
   rcases (show d1 % 2=0∨d1 % 2=1 by omega) with e | e <;> rw [e]
   ·exact ⟨_,by decide +kernel,rfl⟩
   ·exact ⟨5,by decide,rfl⟩
  refine for_list (K:=K) (a:=Dr) (xs:=ds.map V.int) (fun i σ H4=>∃ (a5:Option V) (nums:List Int),Same H1 H4/\H4 Nu=some (.lst (nums.map V.int))/\nums.length=i/\H4 Dr=some (.lst (ds.map V.int))/\σ=[some (.ref a),some (.int n),some (.ref l),some (.int d1),some (.ref Nu),a5,none,none,none,none,none,none,none,none,none,none])
   ⟨none,[],s2.trans s3,s3 _ _ gN2,rfl,gDr,rfl⟩ (fun i σ H4 _ ⟨_,_,_,_,_,g,_⟩=>SqL.of g) ?_ ?_
  ·rintro i v σ H4 hv ⟨a5,nums,s4,gN4,hnl,gD4,rfl⟩
   have hi:i < ds.length:=by have:=(List.getElem?_eq_some_iff.mp hv).1; rw [List.length_map] at this; exact this
   obtain ⟨d,hd⟩:∃ d:Int,v=V.int d:=by
    rw [List.getElem?_map,List.getElem?_eq_getElem hi] at hv
    exact ⟨ds[i],(Option.some.inj hv).symm⟩
   subst hd
   refine ⟨_,rfl, .inl ⟨rfl,_,SqL.of gN4⟩,_,rfl,_,_,rfl,rfl,⟨by decide,by decide,by decide⟩,by show 2 <= sizeLine; decide,fun e0 he0=>?_⟩
   have s5:=s4.new (o := .lst [V.int (10 ^ (40:Int).toNat),V.int 5]) he0
   have ge5:(upd H4 e0 (.lst [V.int (10 ^ (40:Int).toNat),V.int 5])) e0=some (.lst [V.int (10 ^ (40:Int).toNat),V.int 5]):=upd_same
   have gN5:(upd H4 e0 (.lst [V.int (10 ^ (40:Int).toNat),V.int 5])) Nu=some (.lst (nums.map V.int)):=by rw [upd_ne (ne_of_none gN4 he0)]; exact gN4
   have gD5:(upd H4 e0 (.lst [V.int (10 ^ (40:Int).toNat),V.int 5])) Dr=some (.lst (ds.map V.int)):=by rw [upd_ne (ne_of_none gD4 he0)]; exact gD4
   have nND:Dr ≠ Nu:=Ne.symm (ne_of_none gN2 hDr)
   refine ⟨_,rfl,_,_,rfl,rfl,(by show (0:Int) < 2; decide),?_⟩
   show rIxL _ (V.ref e0) _ (upd H4 e0 (.lst [V.int (10 ^ (40:Int).toNat),V.int 5])) _
   generalize upd H4 e0 (.lst [V.int (10 ^ (40:Int).toNat),V.int 5])=H5 at s5 ge5 gN5 gD5 ⊢
   refine ⟨e0,_,_,_,rfl,rfl,SqL.of ge5,hb,_,_,rfl,rfl,hb0,Nu,_,_,rfl,rfl,gN5,by rw [List.length_map,PySem.sizeLine_eq]; omega,?_⟩
   exact ⟨_,nums ++ [d % b],(fun x o e=>by rw [upd_ne (ne_of_none e hNu)]; exact s5 _ _ e),by rw [upd_same,ints_snoc],by rw [List.length_append,hnl]; rfl,by rw [upd_ne nND]; exact gD5,rfl⟩
  rintro σ H4 ⟨a5,nums,s4,gN4,hnl,_,rfl⟩
  rw [List.length_map,hdl] at hnl
  have gl4:=s4 _ _ gl
  have hL4:=Lns.same s4 hLn
  have hS4:=(s1.trans s4).seq hS
  refine ⟨_,rfl,_,rfl,_,rfl,l,Nu,lvs,ps,nums,n,rfl,gl4,hL4,hpl,hok,hn5,SqL.of gN4,hnl,fun Al A H5 s5 hAl gAl hA=>?_⟩
  refine ⟨_,rfl,_,rfl,_,rfl,_,rfl,_,rfl,a,ns,2,rfl,s5.seq hS4,fun d2=>?_⟩
  refine ⟨l,Nu,Al,lvs,ps,nums,A,n,d2,rfl,s5 _ _ gl4,Lns.same s5 hL4,hpl,hok,hn2,hn5,SqL.of (s5 _ _ gN4),hnl,SqL.of gAl,hA.len,fun D0 kvs0 rs0 H6 hT0 hRA hAllK hfew=>?_⟩
  have s6:=hT0.s
  have hD0:H D0=none:=(s1.trans (s4.trans s5)).free hT0.nD
  have hE0:EntD P w H6 D0 kvs0 rs0 n ps:=⟨hT0.d,hT0.r,hT0.g,hT0.nd,hAllK,hfew⟩
  have hS6:=s6.seq (s5.seq hS4)
  have gl6:=s6 _ _ (s5 _ _ gl4)
  have hL6:=Lns.same (s5.trans s6) hL4
  have gN6:=s6 _ _ (s5 _ _ gN4)
  have gA6:=s6 _ _ gAl
  have hSH:Same H H6:=s1.trans (s4.trans (s5.trans s6))
  clear s6
  have shpP:∀ ps:List (Int × Int),SeqAt.shaped (.list (ps.map pairD))=true:=fun ps=>(shp_list (m:=1) fun z hz=>by
   obtain ⟨q,_,rfl⟩:=List.mem_map.mp hz
   exact shp_tuple (m:=0) fun y hy=>by
    rcases List.mem_cons.mp hy with rfl | hy
    ·exact shp_int _
    ·rw [List.mem_singleton.mp hy]; exact shp_int _).shaped (by decide)
  refine ⟨fun v H7=>∃ ch:Bool,v = .bl ch/\Same H6 H7,?_,?_⟩
  ·refine ⟨_,rfl,a,ns,0,rfl,hS6,fun d3=>⟨_,_,rfl,rfl,⟨by decide,by decide⟩,_,_,rfl,rfl,(by show (0:Int) < 2; decide),rfl,_,rfl,?_⟩⟩
   refine ite2 (fun _=>?_) fun _=>⟨false,rfl,Same.refl _⟩
   refine ⟨_,rfl,Nat.zero_le _,fun e0 he0=>?_⟩
   have t6:=(Same.refl H6).new (o := .lst []) he0
   exact ⟨_, .list [], .lst (SqL.of (t6 _ _ gl6)) (dens_lns (Lns.same t6 hL6)), .lst (SqL.of upd_same) .nil,shpP _,shpP [],_,rfl,t6⟩
  rintro v H7 ⟨ch,rfl,s7⟩
  have hE7:=hE0.same s7
  refine ⟨fun σ H8=>∃ (kvs:List Ent) (rs:List Rw),OffD D0 H7 H8/\EntD P w H8 D0 kvs rs n ps/\(ch=false->∀ r ∈ rs,RowA ps nums A r)/\σ=[some (.ref a),some (.int n),some (.ref l),some (.int d1),some (.ref Nu),a5,some (.ref Al),some (.ref D0),some (.bl ch),none,none,none,none,none,none,none],?_,?_⟩
  ·refine ⟨_,rfl,_,rfl,?_⟩
   cases ch with
   | false=>exact iteF ⟨kvs0,rs0,(fun _ _ _ e=>e),hE7,(fun _ r hr=>(hRA r hr).1),rfl⟩
   | true =>
    refine iteT ⟨_,rfl,_,rfl,_,rfl,a,ns,13,rfl,s7.seq hS6,fun d13=>?_⟩
    exact ⟨l,D0,lvs,ps,kvs0,rs0,n,d13,rfl,s7 _ _ gl6,Lns.same s7 hL6,hpl,hn2,hE7,(fun r hr=>(hRA r hr).2),fun kvs' rs' H8 off hE8=>⟨kvs',rs',off,hE8,(fun z=>by cases z),rfl⟩⟩
  rintro σ H8 ⟨kvs,rs,off,hE8,hch,rfl⟩
  have hd7:=hE7.d
  have kept:∀ {b:Addr} {o:HO},b ≠ D0->H6 b=some o->H8 b=some o:=fun nb e=>off _ _ nb (s7 _ _ e)
  have nlD:l ≠ D0:=ne_of (s7 _ _ gl6) hd7 (by intro z; cases z)
  have gl8:=kept nlD gl6
  have gN8:=kept (ne_of (s7 _ _ gN6) hd7 (by intro z; cases z)) gN6
  have gA8:=kept (ne_of (s7 _ _ gA6) hd7 (by intro z; cases z)) gA6
  have hL8:=off.lns hd7 (by intro xs z; cases z) (Lns.same s7 hL6)
  have hS8:Same H H8:=fun b o e=>kept (ne_of_none e hD0) (hSH _ _ e)
  have hkl:kvs.length=rs.length:=Paired.length hE8.r
  have hfew8:=hE8.few
  refine ⟨_,rfl,D0,kvs,rfl,hE8.d,fun o=>?_⟩
  have nf:∀ o' u',H D0 ≠ some (.frz o' u'):=fun o' u' z=>by rw [hD0] at z; cases z
  have gF:(upd H8 D0 (.frz o (DicO P w D0 kvs))) D0=some (.frz o (DicO P w D0 kvs)):=upd_same
  have tw:∀ {H3:Hp},Same (upd H8 D0 (.frz o (DicO P w D0 kvs))) H3->Same H8 (upd H3 D0 (DicO P w D0 kvs)):=fun {H3} s3=>Same.thaw hE8.d s3
  have entF:Paired (EntV (upd H8 D0 (.frz o (DicO P w D0 kvs)))) kvs rs:=by
   have:∀ {kv:List Ent} {rs:List Rw},Paired (EntV H8) kv rs->Paired (EntV (upd H8 D0 (.frz o (DicO P w D0 kvs)))) kv rs:=by
    intro kv rs h
    induction h with
    | nil=>exact .nil
    | cons h1 _ ih =>
     obtain ⟨a,b,U,c,d⟩:=h1
     exact .cons ⟨a,by rw [upd_ne (ne_of b hE8.d (by intro z; cases z))]; exact b,U,c,by rw [upd_ne (ne_of d hE8.d (by intro z; cases z))]; exact d⟩ ih
   exact this hE8.r
  generalize upd H8 D0 (.frz o (DicO P w D0 kvs))=HF at gF tw entF ⊢
  refine comp_rows (rs:=rs) (by rw [PySem.sizeLine_eq]; omega) gF entF (fun x r U H9 N hrm s9 gk hN=>?_) (fun Rl rvs H9 s9 hRl hRw=>?_)
  ·obtain ⟨U',hU',gU'⟩:=ent_at entF hE8.nd hrm
   have keysF:DicR P w H9 D0 kvs:=by
    refine ⟨.inr ⟨o,s9 _ _ gF⟩,fun y hy=>?_⟩
    obtain ⟨j,hj,ej⟩:=List.getElem_of_mem hy
    obtain ⟨r',_,a,b,_⟩:=entAt entF (List.getElem?_eq_getElem hj)
    rw [ej] at a b
    rw [a]; exact s9 _ _ b
   refine ⟨_,rfl,x.2.1,_,0,_,rfl,rfl,SqT.of gk,atI_nat (j:=0) rfl,_,rfl,x.2.1,_,1,_,rfl,rfl,SqT.of gk,atI_nat (j:=1) rfl,_,rfl,x.2.1,_,2,_,rfl,rfl,SqT.of gk,atI_nat (j:=2) rfl,_,rfl,_,rfl,D0,kvs,keyOf r,x.2.1,_,rfl,keysF,rfl,by rw [keyV]; exact gk,hU',by show 4 <= sizeLine; decide,fun t ht=>hN t U' ht (s9 _ _ gU')⟩
  have s10:=s9.new (o := .lst rvs) hRl
  have gRl:(upd H9 Rl (.lst rvs)) Rl=some (.lst rvs):=upd_same
  have hRw10:=Rws.same' ((Same.refl H9).new (o := .lst rvs) hRl) hRw
  have nRD:Rl ≠ D0:=Ne.symm (ne_of_none (s9 _ _ gF) hRl)
  show gName 9 (V.ref Rl) _ (upd H9 Rl (.lst rvs)) _
  generalize upd H9 Rl (.lst rvs)=H10 at s10 gRl hRw10 ⊢
  refine ⟨D0,o,DicO P w D0 kvs,s10 _ _ gF,nf,?_⟩
  have s11:=tw s10
  have gRl11:(upd H10 D0 (DicO P w D0 kvs)) Rl=some (.lst rvs):=by rw [upd_ne nRD]; exact gRl
  have hRw11:Rws (upd H10 D0 (DicO P w D0 kvs)) rvs rs:=by
   have gF10:=s10 _ _ gF
   refine Rws.imp (fun v r h=>?_) hRw10
   obtain ⟨t,l',e,h1,h2⟩:=h
   exact ⟨t,l',e,by rw [upd_ne (ne_of h1 gF10 (by intro z; cases z))]; exact h1,by rw [upd_ne (ne_of h2 gF10 (by intro z; cases z))]; exact h2⟩
  generalize upd H10 D0 (DicO P w D0 kvs)=H11 at s11 gRl11 hRw11 ⊢
  have hrr:rvs.length=rs.length:=Paired.length hRw11
  refine ⟨_,rfl,_,rfl,l,_,rfl, .inl (SqL.of (s11 _ _ gl8)),fun l2 hl2=>?_⟩
  have s34:=(Same.refl H11).new (o := .lst lvs) hl2
  have gl3:(upd H11 l2 (.lst lvs)) l2=some (.lst lvs):=upd_same
  generalize upd H11 l2 (.lst lvs)=H12 at s34 gl3 ⊢
  refine fun x dx nx ndx nex=>?_
  have s45:Same H12 (upd (upd H12 dx (.own x)) x (.ins c.land dx [])):=Same.new (Same.new (Same.refl H12) ndx) (by rw [upd_ne (Ne.symm nex)]; exact nx)
  have gd:=good_land ⟨hn2,by omega⟩ (by omega) hok
  refine ⟨x,dx,(n:Int),l2,lvs,ps,rfl,upd_same,SqL.of (s45 _ _ gl3),Lns.same (s11.trans (s34.trans s45)) hL8,by omega,(fun h=>by rw [gd] at h; cases h),(fun k h=>by rw [gd] at h; cases h),(fun k h=>by rw [gd] at h; cases h),fun _ H13 lt tvs off5 hL=>⟨rfl,?_⟩⟩
  have s13:Same H11 H13:=fun b o z=>off5 b o (ne_of_none (s34 _ _ z) nx) (s45 _ _ (s34 _ _ z))
  refine ⟨_,rfl,fun y dy ny ndy ney=>?_⟩
  have s56:Same H13 (upd (upd H13 dy (.own y)) y (.ins ts.told dy [])):=Same.new (Same.new (Same.refl H13) ndy) (by rw [upd_ne (Ne.symm ney)]; exact ny)
  have hgood:=rows_fit hE8.g hE8.nd
  refine ⟨y,dy,x,dx,lt,Rl,(n:Int),tvs,rvs,ps,rs,rfl,upd_same,⟨s56 _ _ hL.1,s56 _ _ hL.2.1,Lns.same s56 hL.2.2⟩,SqL.of (s56 _ _ (s13 _ _ gRl11)),Rws.same' (s13.trans s56) hRw11,by omega,by omega,(fun r hr=>⟨fun k hk=>by have:=ixM_le ((hE8.g r hr).s k hk); omega,by have:=(hE8.g r hr).few; omega⟩),(fun i hi=>by rw [hgood] at hi; cases hi),fun _ H14 dd' kvs' off6 hy hdic hval=>⟨rfl,?_⟩⟩
  have s14:Same H13 H14:=fun b o z=>off6 b o (ne_of_none z ny) (s56 _ _ z)
  have hT:TabIn c ts.told (ToldAt P w ts) H14 y x dx lt n tvs ps (wayOf rs):=⟨⟨dy,dd',_,kvs',hy,hdic,told_way hE8.g (by omega) hval⟩,⟨dy,_,hy,rfl⟩,⟨s14 _ _ hL.1,s14 _ _ hL.2.1,Lns.same s14 hL.2.2⟩,by omega,by omega,fun k=>(wl_told hE8.g k).1,fun k=>Nat.le_trans (wl_told hE8.g k).2 (by omega)⟩
  have s8e:Same H8 H14:=s11.trans (s13.trans s14)
  have hSe:Same H H14:=hS8.trans s8e
  have gl14:=s8e _ _ gl8
  have hL14:=Lns.same s8e hL8
  have gN14:=s8e _ _ gN8
  have gA14:=s8e _ _ gA8
  have frch:ch=false->Fr (wayOf rs) ps n nums (metN (wayOf rs) ps n n):=fun e=>fr_rows hok hnl hE8.g hE8.nd hE8.all (hch e) hA
  refine ⟨_,rfl,_,rfl,l,D0,lvs,ps,kvs,rs,n,rfl,gl14,hL14,hpl,hn5,hok,hE8.same s8e,fun Sa H15 s15 hSa gSa=>?_⟩
  have hT15:=hT.same D.W s15
  have gl15:=s15 _ _ gl14
  have gN15:=s15 _ _ gN14
  have gA15:=s15 _ _ gA14
  have hSe15:=hSe.trans s15
  clear hT hE8 hRw11 hRw10 hRw entF hT0 hE0 hE7 hch hRA hAllK
  generalize wayOf rs=wy at hT15 gSa frch ⊢
  have hwl:=hT15.ok
  have hMl:=met_len wy ps n n
  have fr:∀ {nu:List Int} {S:List Nat},faultF wy ps n nu (iz S)=none↔Fr wy ps n nu S:=fr_iff hT15.n12
  refine ⟨_,rfl,y,x,dx,lt,n,tvs,ps,wy,rfl,hT15,fun Me H16 s16 hMe gMe=>⟨Me,_,rfl, .inr (SqT.of gMe),fun Ls hLs=>?_⟩⟩
  have s17:=s16.new (o := .lst (nV (metN wy ps n n))) hLs
  have gL17:(upd H16 Ls (.lst (nV (metN wy ps n n)))) Ls=some (.lst (nV (metN wy ps n n))):=upd_same
  generalize upd H16 Ls (.lst (nV (metN wy ps n n)))=H17 at s17 gL17 ⊢
  have gS17:=s17 _ _ gSa
  refine ⟨_,rfl,Ls,Sa,iz (metN wy ps n n),iz (metN wy ps n n),rfl,rfl,SqL.of (by rw [gL17,eS]),SqL.of (by rw [gS17,eS]),_,rfl,?_⟩
  rw [decide_eq_true rfl]
  refine iteF ?_
  have hT17:=hT15.same D.W s17
  refine ⟨_,rfl,y,x,dx,lt,n,tvs,ps,wy,rfl,hT17,fun vf H18 s18 hLk=>?_⟩
  have hT18:=hT17.same D.W s18
  have gS18:=s18 _ _ gS17
  have gN18:=s18 _ _ (s17 _ _ gN15)
  have gA18:=s18 _ _ (s17 _ _ gA15)
  have gl18:=s18 _ _ (s17 _ _ gl15)
  have hS18:=(hSe15.trans (s17.trans s18)).seq hS
  obtain ⟨tf,w1,p1,rfl,gtf,hpap⟩:∃ (tf:Addr) (w1:Str) (p1:V),vf = .ref tf/\H18 tf=some (.tup [.str w1,p1])/\(V.str w1=V.str "paper"↔∃ N,lookN wy ps n = .paper N):=by
   have no:∀ {z:Str},(V.str z=V.str "paper")->z = "paper":=fun h=>by injection h
   cases hr:lookN wy ps n with
   | lost q0 =>
    rw [hr] at hLk
    obtain ⟨t,p,e1,g1,_⟩:=hLk
    exact ⟨t, "lost", .ref p,e1,g1,⟨fun z=>absurd (no z) (by decide +kernel),fun ⟨N,e⟩=>by cases e⟩⟩
   | ring r =>
    rw [hr] at hLk
    obtain ⟨t,p,us,e1,g1,_⟩:=hLk
    exact ⟨t, "ring", .ref p,e1,g1,⟨fun z=>absurd (no z) (by decide +kernel),fun ⟨N,e⟩=>by cases e⟩⟩
   | paper N =>
    rw [hr] at hLk
    obtain ⟨t,p,a',b',e1,g1,_⟩:=hLk
    exact ⟨t, "paper", .ref p,e1,g1,⟨fun _=>⟨N,rfl⟩,fun _=>rfl⟩⟩
  clear hLk
  have lenS:∀ S:List Nat,(iz S).length=S.length:=fun S=>by unfold iz; rw [List.length_map]
  refine ⟨_,rfl,_,rfl,_,rfl,by show 2 <= sizeLine; decide,fun pa hpa=>?_⟩
  have s19:=(Same.refl H18).new (o := .tup [.ref Nu, .ref Sa]) hpa
  have gp19:(upd H18 pa (.tup [.ref Nu, .ref Sa])) pa=some (.tup [.ref Nu, .ref Sa]):=upd_same
  generalize upd H18 pa (.tup [.ref Nu, .ref Sa])=H19 at s19 gp19 ⊢
  refine ⟨y,x,dx,lt,pa,Nu,Sa,n,tvs,ps,wy,nums,iz (metN wy ps n n),rfl,hT18.same D.W s19,gp19, .inl (SqL.of (s19 _ _ gN18)), .inl (SqL.of (by rw [s19 _ _ gS18,eS])),by rw [lenS,hMl]; omega,fun v1 H20 s20 hv1=>⟨rfl,?_⟩⟩
  rw [hv1.non]
  have s1820:=s19.trans s20
  have hT20:=hT18.same D.W s1820
  have gS20:=s1820 _ _ gS18
  have gN20:=s1820 _ _ gN18
  have gA20:=s1820 _ _ gA18
  have gl20:=s1820 _ _ gl18
  have gtf20:=s1820 _ _ gtf
  generalize hfree:decide (faultF wy ps n nums (iz (metN wy ps n n))=none)=free
  refine ⟨_,rfl,a,ns,2,rfl,s1820.seq hS18,fun d4=>⟨_,_,rfl,rfl,⟨by decide,by decide,by decide⟩,_,_,rfl,rfl,(by show (0:Int) < 10 ^ (59:Int).toNat; decide +kernel),_,_,rfl,rfl,?_⟩⟩
  obtain ⟨far,hfar,hfar1⟩:∃ far:Int,(1:Int) + d4 % 10 ^ (59:Int).toNat=far/\1 <= far:=by
   have:=Int.emod_nonneg d4 (show (10:Int) ^ (59:Int).toNat ≠ 0 by decide +kernel)
   exact ⟨_,rfl,by omega⟩
  show gName 14 (V.int ((1:Int) + d4 % 10 ^ (59:Int).toNat)) _ _ _
  rw [hfar]
  clear hfar
  refine ⟨_,rfl,_,rfl,_,rfl,Nu,rfl,⟨_,SqL.of gN20⟩,?_⟩
  refine comp_addL far (by rw [PySem.sizeLine_eq]; omega) (SqL.of gN20) (fun k N hN=>?_) (fun Nu2 hNu2=>?_)
  ·exact ⟨_,rfl,_,rfl,_,_,rfl,rfl,hN⟩
  have s21:=(Same.refl H20).new (o := .lst ((nums.map (· + far)).map V.int)) hNu2
  have gNu2:(upd H20 Nu2 (.lst ((nums.map (· + far)).map V.int))) Nu2=some (.lst ((nums.map (· + far)).map V.int)):=upd_same
  refine ⟨_,rfl,Sa,_,rfl, .inl ⟨SqL.of (s21 _ _ gS20),fun Tu hTu=>?_⟩⟩
  generalize upd H20 Nu2 (.lst ((nums.map (· + far)).map V.int))=H21 at s21 gNu2 hTu ⊢
  have s22:=s21.new (o := .tup (nV (metN wy ps n n))) hTu
  have gTu:(upd H21 Tu (.tup (nV (metN wy ps n n)))) Tu=some (.tup (nV (metN wy ps n n))):=upd_same
  have gNu22:(upd H21 Tu (.tup (nV (metN wy ps n n)))) Nu2=some (.lst ((nums.map (· + far)).map V.int)):=by rw [upd_ne (ne_of_none gNu2 hTu)]; exact gNu2
  generalize upd H21 Tu (.tup (nV (metN wy ps n n)))=H22 at s22 gTu gNu22 ⊢
  refine ⟨by show 2 <= sizeLine; decide,fun pb hpb=>?_⟩
  have s23:=s22.new (o := .tup [.ref Nu2, .ref Tu]) hpb
  have t23:=(Same.refl H22).new (o := .tup [.ref Nu2, .ref Tu]) hpb
  have gpb:(upd H22 pb (.tup [.ref Nu2, .ref Tu])) pb=some (.tup [.ref Nu2, .ref Tu]):=upd_same
  generalize upd H22 pb (.tup [.ref Nu2, .ref Tu])=H23 at s23 t23 gpb ⊢
  refine ⟨y,x,dx,lt,pb,Nu2,Tu,n,tvs,ps,wy,nums.map (· + far),iz (metN wy ps n n),rfl,hT20.same D.W s23,gpb, .inl (SqL.of (t23 _ _ gNu22)), .inr (by rw [← eS]; exact SqT.of (t23 _ _ gTu)),by rw [lenS,hMl]; omega,fun v2 H24 s24 hv2=>⟨rfl,?_⟩⟩
  rw [hv2.non]
  have efar:decide (faultF wy ps n (nums.map (· + far)) (iz (metN wy ps n n))=none)=free:=by
   rw [← hfree,decide_eq_decide,fr,fr]
   exact fr_add hwl far
  rw [efar]
  refine ⟨rfl,_,rfl,?_⟩
  rw [decide_eq_true rfl]
  refine iteF ?_
  have s2024:=s23.trans s24
  have hT24:=hT20.same D.W s2024
  have gS24:=s2024 _ _ gS20
  have gN24:=s2024 _ _ gN20
  have gA24:=s2024 _ _ gA20
  have gl24:=s2024 _ _ gl20
  have gtf24:=s2024 _ _ gtf20
  refine ⟨_,rfl,_,rfl,?_⟩
  cases free with
  | true =>
   have hFr:=fr.mp (of_decide_eq_true hfree)
   obtain ⟨hlo,hN⟩:=hFr.look
   refine iteT ⟨_,rfl,tf,_,0,_,rfl,rfl,SqT.of gtf24,atI_nat (j:=0) rfl,rfl,_,rfl,?_⟩
   rw [decide_eq_true (hpap.mpr hN)]
   refine iteT ⟨_,rfl,y,x,dx,lt,n,tvs,ps,wy,rfl,hT24,fun v3 H25 s25 hv3=>?_⟩
   rw [hlo] at hv3
   have hv3:v3 = .non:=hv3
   subst hv3
   exact ⟨rfl,q _⟩
  | false =>
   refine iteF ?_
   have hNo:¬ Fr wy ps n nums (metN wy ps n n):=fun z=>of_decide_eq_false hfree (fr.mpr z)
   have hch1:ch=true:=by
    cases hc:ch with
    | true=>rfl
    | false=>exact absurd (frch hc) hNo
   refine ⟨_,rfl,l,_,rfl, .inl (SqL.of gl24),(lvs.length:Int),rfl,by omega,by omega,?_⟩
   rw [Int.toNat_natCast,hll]
   refine comp_ints (by omega) (fun i N hi hN=>?_) (fun Dn dn hDn hdnl=>?_)
   ·exact ⟨_,rfl,_,rfl,_,_,rfl,fun z _ _=>⟨_,rfl,_,_,rfl,rfl,_,_,rfl,rfl,(by show (0:Int) < 1 + far; omega),hN _⟩⟩
   have s26:=(Same.refl H24).new (o := .lst (dn.map V.int)) hDn
   have gDn:(upd H24 Dn (.lst (dn.map V.int))) Dn=some (.lst (dn.map V.int)):=upd_same
   show gName 15 (V.ref Dn) _ (upd H24 Dn (.lst (dn.map V.int))) _
   generalize upd H24 Dn (.lst (dn.map V.int))=H26 at s26 gDn ⊢
   have hT26:=hT24.same D.W s26
   refine ⟨fun σ H27=>Same H26 H27/\σ=[some (.ref a),some (.int n),some (.ref l),some (.int d1),some (.ref Nu),a5,some (.ref Al),some (.ref D0),some (.bl ch),some (.ref Rl),some (.ref y),some (.ref Sa),some (.ref tf),some (.bl false),some (.int far),some (.ref Dn)],?_,?_⟩
   ·refine ⟨_,rfl,tf,_,0,_,rfl,rfl,SqT.of (s26 _ _ gtf24),atI_nat (j:=0) rfl,rfl,_,rfl,?_⟩
    by_cases hp:V.str w1=V.str "paper"
    ·rw [decide_eq_true hp]
     exact iteF (iteF ⟨Same.refl _,rfl⟩)
    ·rw [decide_eq_false hp]
     refine iteT ⟨_,rfl,_,rfl,_,rfl,by show 2 <= sizeLine; decide,fun pc hpc=>?_⟩
     have s27:=(Same.refl H26).new (o := .tup [.ref Dn, .ref Sa]) hpc
     have gpc:(upd H26 pc (.tup [.ref Dn, .ref Sa])) pc=some (.tup [.ref Dn, .ref Sa]):=upd_same
     generalize upd H26 pc (.tup [.ref Dn, .ref Sa])=H27 at s27 gpc ⊢
     refine ⟨y,x,dx,lt,pc,Dn,Sa,n,tvs,ps,wy,dn,iz (metN wy ps n n),rfl,hT26.same D.W s27,gpc, .inl (SqL.of (s27 _ _ gDn)), .inl (SqL.of (by rw [s27 _ _ (s26 _ _ gS24),eS])),by rw [lenS,hMl]; omega,fun v4 H28 s28 hv4=>⟨rfl,_,rfl,?_⟩⟩
     rw [hv4.non,decide_eq_false (fun z=>hp (hpap.mpr (fr.mp z).look.2))]
     exact iteF ⟨s27.trans s28,rfl⟩
   rintro σ H27 ⟨s27,rfl⟩
   have s2427:=s26.trans s27
   refine ⟨_,rfl,ch,rfl,?_⟩
   rw [hch1]
   refine iteT ⟨_,rfl,_,rfl,_,rfl,by show 2 <= sizeLine; decide,fun pd hpd=>?_⟩
   have s28:=s2427.new (o := .tup [.ref Nu, .ref Al]) hpd
   have gpd:(upd H27 pd (.tup [.ref Nu, .ref Al])) pd=some (.tup [.ref Nu, .ref Al]):=upd_same
   generalize upd H27 pd (.tup [.ref Nu, .ref Al])=H28 at s28 gpd ⊢
   refine ⟨y,x,dx,lt,pd,Nu,Al,n,tvs,ps,wy,nums,iz A,rfl,hT24.same D.W s28,gpd, .inl (SqL.of (s28 _ _ gN24)), .inl (SqL.of (by rw [s28 _ _ gA24,eS])),by rw [lenS,hA.len]; omega,fun v5 H29 s29 hv5=>⟨rfl,?_⟩⟩
   rw [hv5.non,decide_eq_false (fun z=>hNo ((fr.mp z).less hwl))]
   exact q _
end
end K33
namespace K33
open PySem L2
theorem len_of1 {α:Type} {P:List α->Prop} (h:∀ a0,P [a0]):∀ us:List α,us.length=1->P us
 | [a0],_=>h a0
theorem len_of2 {α:Type} {P:List α->Prop} (h:∀ a0 a1,P [a0,a1]):∀ us:List α,us.length=2->P us
 | [a0,a1],_=>h a0 a1
theorem len_of3 {α:Type} {P:List α->Prop} (h:∀ a0 a1 a2,P [a0,a1,a2]):∀ us:List α,us.length=3->P us
 | [a0,a1,a2],_=>h a0 a1 a2
theorem len_of4 {α:Type} {P:List α->Prop} (h:∀ a0 a1 a2 a3,P [a0,a1,a2,a3]):∀ us:List α,us.length=4->P us
 | [a0,a1,a2,a3],_=>h a0 a1 a2 a3
theorem len_of5 {α:Type} {P:List α->Prop} (h:∀ a0 a1 a2 a3 a4,P [a0,a1,a2,a3,a4]):∀ us:List α,us.length=5->P us
 | [a0,a1,a2,a3,a4],_=>h a0 a1 a2 a3 a4
theorem all_mk {l:PySem.W.OpenLaw} {w:World} {K:PySem.W.Frag} {h:Heap} {mg:Str->Option Value} {fa cL cN cT cR cE cB cD f1 f2 f3 f4 f5 f6 f7 f8 f9 f10 f11 f12 f13 f14 f15 f16 f17 f18 f19 f20 f21 f22 f23 f24 f25 f26 f27 f28 f29 f30 f31 f32 f33 f34 f35 f36 f37 f38 f39 f40 f41 f42 f43 f44 f45 f46 f47:Addr} {t1 t2:Tok} (X:K.In h) (G:h.Ns mainGlobals mg) (hfa:mg "law" = some (.ref fa))
  {od1 an1 od2 an2 od3 an3 od4 an4 od5 an5 od6 an6 od7 an7 od8 an8 od9 an9 od10 an10 od11 an11 od12 an12 od13 an13 od14 an14 od15 an15 od16 an16 od17 an17 od18 an18 od19 an19 od20 an20 od21 an21 od22 an22 od23 an23 od24 an24 od25 an25 od26 an26 od27 an27 od28 an28 od29 an29 od30 an30 od31 an31 od32 an32 od33 an33 od34 an34 od35 an35 od36 an36 od37 an37 od38 an38 od39 an39 od40 an40 od41 an41 od42 an42 od43 an43 od44 an44 od45 an45 od46 an46 od47 an47:Option Addr} {sl1 sl2 sl3 sl4 sl5 sl6 sl7 sl8 sl9 sl10 sl11 sl12 sl13 sl14 sl15 sl16 sl17 sl18 sl19 sl20 sl21 sl22 sl23 sl24 sl25 sl26 sl27 sl28 sl29 sl30 sl31 sl32 sl33 sl34 sl35 sl36 sl37 sl38 sl39 sl40 sl41 sl42 sl43 sl44 sl45 sl46 sl47:Array (Option Value)} {oc1 kV1 dc1 pm1 cd1 ct1 oc2 kV2 dc2 pm2 cd2 ct2 oc3 kV3 dc3 pm3 cd3 ct3 oc4 kV4 dc4 pm4 cd4 ct4 oc5 kV5 dc5 pm5 cd5 ct5 oc6 kV6 dc6 pm6 cd6 ct6 oc7 kV7 dc7 pm7 cd7 ct7 oc8 kV8 dc8 pm8 cd8 ct8 oc9 kV9 dc9 pm9 cd9 ct9 oc10 kV10 dc10 pm10 cd10 ct10 oc11 kV11 dc11 pm11 cd11 ct11 oc12 kV12 dc12 pm12 cd12 ct12 oc13 kV13 dc13 pm13 cd13 ct13 oc14 kV14 dc14 pm14 cd14 ct14 oc15 kV15 dc15 pm15 cd15 ct15 oc16 kV16 dc16 pm16 cd16 ct16 oc17 kV17 dc17 pm17 cd17 ct17 oc18 kV18 dc18 pm18 cd18 ct18 oc19 kV19 dc19 pm19 cd19 ct19 oc20 kV20 dc20 pm20 cd20 ct20 oc21 kV21 dc21 pm21 cd21 ct21 oc22 kV22 dc22 pm22 cd22 ct22 oc23 kV23 dc23 pm23 cd23 ct23 oc24 kV24 dc24 pm24 cd24 ct24 oc25 kV25 dc25 pm25 cd25 ct25 oc26 kV26 dc26 pm26 cd26 ct26 oc27 kV27 dc27 pm27 cd27 ct27 oc28 kV28 dc28 pm28 cd28 ct28 oc29 kV29 dc29 pm29 cd29 ct29 oc30 kV30 dc30 pm30 cd30 ct30 oc31 kV31 dc31 pm31 cd31 ct31 oc32 kV32 dc32 pm32 cd32 ct32 oc33 kV33 dc33 pm33 cd33 ct33 oc34 kV34 dc34 pm34 cd34 ct34 oc35 kV35 dc35 pm35 cd35 ct35 oc36 kV36 dc36 pm36 cd36 ct36 oc37 kV37 dc37 pm37 cd37 ct37 oc38 kV38 dc38 pm38 cd38 ct38 oc39 kV39 dc39 pm39 cd39 ct39 oc40 kV40 dc40 pm40 cd40 ct40 oc41 kV41 dc41 pm41 cd41 ct41 oc42 kV42 dc42 pm42 cd42 ct42 oc43 kV43 dc43 pm43 cd43 ct43 oc44 kV44 dc44 pm44 cd44 ct44 oc45 kV45 dc45 pm45 cd45 ct45 oc46 kV46 dc46 pm46 cd46 ct46 oc47 kV47 dc47 pm47 cd47 ct47:Value}
  (gcL:PySem.W.nsIn K mainGlobals "Land" = some (some (.ref cL)))
  (gcN:PySem.W.nsIn K mainGlobals "NoPlaces" = some (some (.ref cN)))
  (gcT:PySem.W.nsIn K mainGlobals "TooMany" = some (some (.ref cT)))
  (gcR:PySem.W.nsIn K mainGlobals "NoRoad" = some (some (.ref cR)))
  (gcE:PySem.W.nsIn K mainGlobals "NoEntry" = some (some (.ref cE)))
  (gcB:PySem.W.nsIn K mainGlobals "Table" = some (some (.ref cB)))
  (gcD:PySem.W.nsIn K mainGlobals "Told" = some (some (.ref cD)))
  (a1:PySem.W.nsIn K mainGlobals "has" = some (some (.ref f1)))
  (l1:K.lookup f1=some ⟨oc1,od1, .func (PySem.W.fnOf "has" "has" (defArgs sHas) (defBody sHas) (defScope sHas) .none kV1 dc1 pm1 an1 cd1 ct1),sl1⟩)
  (c1:PySem.W.codeIn K cd1 "has" = true)
  (k1:PySem.W.keepIn K (.ref f1)=true)
  (a2:PySem.W.nsIn K mainGlobals "members" = some (some (.ref f2)))
  (l2:K.lookup f2=some ⟨oc2,od2, .func (PySem.W.fnOf "members" "members" (defArgs sMem) (defBody sMem) (defScope sMem) .none kV2 dc2 pm2 an2 cd2 ct2),sl2⟩)
  (c2:PySem.W.codeIn K cd2 "members" = true)
  (k2:PySem.W.keepIn K (.ref f2)=true)
  (a3:PySem.W.nsIn K mainGlobals "set_of" = some (some (.ref f3)))
  (l3:K.lookup f3=some ⟨oc3,od3, .func (PySem.W.fnOf "set_of" "set_of" (defArgs sSet) (defBody sSet) (defScope sSet) .none kV3 dc3 pm3 an3 cd3 ct3),sl3⟩)
  (c3:PySem.W.codeIn K cd3 "set_of" = true)
  (k3:PySem.W.keepIn K (.ref f3)=true)
  (a4:PySem.W.nsIn K mainGlobals "is_whole" = some (some (.ref f4)))
  (l4:K.lookup f4=some ⟨oc4,od4, .func (PySem.W.fnOf "is_whole" "is_whole" (defArgs sWhole) (defBody sWhole) (defScope sWhole) .none kV4 dc4 pm4 an4 cd4 ct4),sl4⟩)
  (c4:PySem.W.codeIn K cd4 "is_whole" = true)
  (k4:PySem.W.keepIn K (.ref f4)=true)
  (a5:PySem.W.nsIn K mainGlobals "is_within" = some (some (.ref f5)))
  (l5:K.lookup f5=some ⟨oc5,od5, .func (PySem.W.fnOf "is_within" "is_within" (defArgs sWithin) (defBody sWithin) (defScope sWithin) .none kV5 dc5 pm5 an5 cd5 ct5),sl5⟩)
  (c5:PySem.W.codeIn K cd5 "is_within" = true)
  (k5:PySem.W.keepIn K (.ref f5)=true)
  (a6:PySem.W.nsIn K mainGlobals "is_one_of" = some (some (.ref f6)))
  (l6:K.lookup f6=some ⟨oc6,od6, .func (PySem.W.fnOf "is_one_of" "is_one_of" (defArgs sOne) (defBody sOne) (defScope sOne) .none kV6 dc6 pm6 an6 cd6 ct6),sl6⟩)
  (c6:PySem.W.codeIn K cd6 "is_one_of" = true)
  (k6:PySem.W.keepIn K (.ref f6)=true)
  (a7:PySem.W.nsIn K mainGlobals "are_two_places" = some (some (.ref f7)))
  (l7:K.lookup f7=some ⟨oc7,od7, .func (PySem.W.fnOf "are_two_places" "are_two_places" (defArgs sTwo) (defBody sTwo) (defScope sTwo) .none kV7 dc7 pm7 an7 cd7 ct7),sl7⟩)
  (c7:PySem.W.codeIn K cd7 "are_two_places" = true)
  (k7:PySem.W.keepIn K (.ref f7)=true)
  (a8:PySem.W.nsIn K mainGlobals "row_fits" = some (some (.ref f8)))
  (l8:K.lookup f8=some ⟨oc8,od8, .func (PySem.W.fnOf "row_fits" "row_fits" (defArgs sFits) (defBody sFits) (defScope sFits) .none kV8 dc8 pm8 an8 cd8 ct8),sl8⟩)
  (c8:PySem.W.codeIn K cd8 "row_fits" = true)
  (k8:PySem.W.keepIn K (.ref f8)=true)
  (a9:PySem.W.nsIn K mainGlobals "onward" = some (some (.ref f9)))
  (l9:K.lookup f9=some ⟨oc9,od9, .func (PySem.W.fnOf "onward" "onward" (defArgs sOn) (defBody sOn) (defScope sOn) .none kV9 dc9 pm9 an9 cd9 ct9),sl9⟩)
  (c9:PySem.W.codeIn K cd9 "onward" = true)
  (k9:PySem.W.keepIn K (.ref f9)=true)
  (a10:PySem.W.nsIn K mainGlobals "starts" = some (some (.ref f10)))
  (l10:K.lookup f10=some ⟨oc10,od10, .func (PySem.W.fnOf "starts" "starts" (defArgs sStarts) (defBody sStarts) (defScope sStarts) .none kV10 dc10 pm10 an10 cd10 ct10),sl10⟩)
  (c10:PySem.W.codeIn K cd10 "starts" = true)
  (k10:PySem.W.keepIn K (.ref f10)=true)
  (a11:PySem.W.nsIn K mainGlobals "first_lanes" = some (some (.ref f11)))
  (l11:K.lookup f11=some ⟨oc11,od11, .func (PySem.W.fnOf "first_lanes" "first_lanes" (defArgs sFirst) (defBody sFirst) (defScope sFirst) .none kV11 dc11 pm11 an11 cd11 ct11),sl11⟩)
  (c11:PySem.W.codeIn K cd11 "first_lanes" = true)
  (k11:PySem.W.keepIn K (.ref f11)=true)
  (a12:PySem.W.nsIn K mainGlobals "lanes_ahead" = some (some (.ref f12)))
  (l12:K.lookup f12=some ⟨oc12,od12, .func (PySem.W.fnOf "lanes_ahead" "lanes_ahead" (defArgs sAhead) (defBody sAhead) (defScope sAhead) .none kV12 dc12 pm12 an12 cd12 ct12),sl12⟩)
  (c12:PySem.W.codeIn K cd12 "lanes_ahead" = true)
  (k12:PySem.W.keepIn K (.ref f12)=true)
  (a13:PySem.W.nsIn K mainGlobals "met" = some (some (.ref f13)))
  (l13:K.lookup f13=some ⟨oc13,od13, .func (PySem.W.fnOf "met" "met" (defArgs sMet) (defBody sMet) (defScope sMet) .none kV13 dc13 pm13 an13 cd13 ct13),sl13⟩)
  (c13:PySem.W.codeIn K cd13 "met" = true)
  (k13:PySem.W.keepIn K (.ref f13)=true)
  (a14:PySem.W.nsIn K mainGlobals "is_lost" = some (some (.ref f14)))
  (l14:K.lookup f14=some ⟨oc14,od14, .func (PySem.W.fnOf "is_lost" "is_lost" (defArgs sIsLost) (defBody sIsLost) (defScope sIsLost) .none kV14 dc14 pm14 an14 cd14 ct14),sl14⟩)
  (c14:PySem.W.codeIn K cd14 "is_lost" = true)
  (k14:PySem.W.keepIn K (.ref f14)=true)
  (a15:PySem.W.nsIn K mainGlobals "lost" = some (some (.ref f15)))
  (l15:K.lookup f15=some ⟨oc15,od15, .func (PySem.W.fnOf "lost" "lost" (defArgs sLost) (defBody sLost) (defScope sLost) .none kV15 dc15 pm15 an15 cd15 ct15),sl15⟩)
  (c15:PySem.W.codeIn K cd15 "lost" = true)
  (k15:PySem.W.keepIn K (.ref f15)=true)
  (a16:PySem.W.nsIn K mainGlobals "leads_of" = some (some (.ref f16)))
  (l16:K.lookup f16=some ⟨oc16,od16, .func (PySem.W.fnOf "leads_of" "leads_of" (defArgs sLeads) (defBody sLeads) (defScope sLeads) .none kV16 dc16 pm16 an16 cd16 ct16),sl16⟩)
  (c16:PySem.W.codeIn K cd16 "leads_of" = true)
  (k16:PySem.W.keepIn K (.ref f16)=true)
  (a17:PySem.W.nsIn K mainGlobals "lanes_next" = some (some (.ref f17)))
  (l17:K.lookup f17=some ⟨oc17,od17, .func (PySem.W.fnOf "lanes_next" "lanes_next" (defArgs sNext) (defBody sNext) (defScope sNext) .none kV17 dc17 pm17 an17 cd17 ct17),sl17⟩)
  (c17:PySem.W.codeIn K cd17 "lanes_next" = true)
  (k17:PySem.W.keepIn K (.ref f17)=true)
  (a18:PySem.W.nsIn K mainGlobals "number_lanes" = some (some (.ref f18)))
  (l18:K.lookup f18=some ⟨oc18,od18, .func (PySem.W.fnOf "number_lanes" "number_lanes" (defArgs sNumb) (defBody sNumb) (defScope sNumb) .none kV18 dc18 pm18 an18 cd18 ct18),sl18⟩)
  (c18:PySem.W.codeIn K cd18 "number_lanes" = true)
  (k18:PySem.W.keepIn K (.ref f18)=true)
  (a19:PySem.W.nsIn K mainGlobals "walk_back" = some (some (.ref f19)))
  (l19:K.lookup f19=some ⟨oc19,od19, .func (PySem.W.fnOf "walk_back" "walk_back" (defArgs sBack) (defBody sBack) (defScope sBack) .none kV19 dc19 pm19 an19 cd19 ct19),sl19⟩)
  (c19:PySem.W.codeIn K cd19 "walk_back" = true)
  (k19:PySem.W.keepIn K (.ref f19)=true)
  (a20:PySem.W.nsIn K mainGlobals "find_ring" = some (some (.ref f20)))
  (l20:K.lookup f20=some ⟨oc20,od20, .func (PySem.W.fnOf "find_ring" "find_ring" (defArgs sRing) (defBody sRing) (defScope sRing) .none kV20 dc20 pm20 an20 cd20 ct20),sl20⟩)
  (c20:PySem.W.codeIn K cd20 "find_ring" = true)
  (k20:PySem.W.keepIn K (.ref f20)=true)
  (a21:PySem.W.nsIn K mainGlobals "look" = some (some (.ref f21)))
  (l21:K.lookup f21=some ⟨oc21,od21, .func (PySem.W.fnOf "look" "look" (defArgs sLook) (defBody sLook) (defScope sLook) .none kV21 dc21 pm21 an21 cd21 ct21),sl21⟩)
  (c21:PySem.W.codeIn K cd21 "look" = true)
  (k21:PySem.W.keepIn K (.ref f21)=true)
  (a22:PySem.W.nsIn K mainGlobals "has_size" = some (some (.ref f22)))
  (l22:K.lookup f22=some ⟨oc22,od22, .func (PySem.W.fnOf "has_size" "has_size" (defArgs sSize) (defBody sSize) (defScope sSize) .none kV22 dc22 pm22 an22 cd22 ct22),sl22⟩)
  (c22:PySem.W.codeIn K cd22 "has_size" = true)
  (k22:PySem.W.keepIn K (.ref f22)=true)
  (a23:PySem.W.nsIn K mainGlobals "start_fault" = some (some (.ref f23)))
  (l23:K.lookup f23=some ⟨oc23,od23, .func (PySem.W.fnOf "start_fault" "start_fault" (defArgs sStF) (defBody sStF) (defScope sStF) .none kV23 dc23 pm23 an23 cd23 ct23),sl23⟩)
  (c23:PySem.W.codeIn K cd23 "start_fault" = true)
  (k23:PySem.W.keepIn K (.ref f23)=true)
  (a24:PySem.W.nsIn K mainGlobals "way_fault" = some (some (.ref f24)))
  (l24:K.lookup f24=some ⟨oc24,od24, .func (PySem.W.fnOf "way_fault" "way_fault" (defArgs sWayF) (defBody sWayF) (defScope sWayF) .none kV24 dc24 pm24 an24 cd24 ct24),sl24⟩)
  (c24:PySem.W.codeIn K cd24 "way_fault" = true)
  (k24:PySem.W.keepIn K (.ref f24)=true)
  (a25:PySem.W.nsIn K mainGlobals "pair_fault" = some (some (.ref f25)))
  (l25:K.lookup f25=some ⟨oc25,od25, .func (PySem.W.fnOf "pair_fault" "pair_fault" (defArgs sPairF) (defBody sPairF) (defScope sPairF) .none kV25 dc25 pm25 an25 cd25 ct25),sl25⟩)
  (c25:PySem.W.codeIn K cd25 "pair_fault" = true)
  (k25:PySem.W.keepIn K (.ref f25)=true)
  (a26:PySem.W.nsIn K mainGlobals "lane_fault" = some (some (.ref f26)))
  (l26:K.lookup f26=some ⟨oc26,od26, .func (PySem.W.fnOf "lane_fault" "lane_fault" (defArgs sLaneF) (defBody sLaneF) (defScope sLaneF) .none kV26 dc26 pm26 an26 cd26 ct26),sl26⟩)
  (c26:PySem.W.codeIn K cd26 "lane_fault" = true)
  (k26:PySem.W.keepIn K (.ref f26)=true)
  (a27:PySem.W.nsIn K mainGlobals "fault" = some (some (.ref f27)))
  (l27:K.lookup f27=some ⟨oc27,od27, .func (PySem.W.fnOf "fault" "fault" (defArgs sFault) (defBody sFault) (defScope sFault) .none kV27 dc27 pm27 an27 cd27 ct27),sl27⟩)
  (c27:PySem.W.codeIn K cd27 "fault" = true)
  (k27:PySem.W.keepIn K (.ref f27)=true)
  (a28:PySem.W.nsIn K mainGlobals "_law_cell_at" = some (some (.ref f28)))
  (l28:K.lookup f28=some ⟨oc28,od28, .func (PySem.W.fnOf "_law_cell_at" "_law_cell_at" (defArgs sCell) (defBody sCell) (defScope sCell) .none kV28 dc28 pm28 an28 cd28 ct28),sl28⟩)
  (c28:PySem.W.codeIn K cd28 "_law_cell_at" = true)
  (k28:PySem.W.keepIn K (.ref f28)=true)
  (a29:PySem.W.nsIn K mainGlobals "_law_mixed" = some (some (.ref f29)))
  (l29:K.lookup f29=some ⟨oc29,od29, .func (PySem.W.fnOf "_law_mixed" "_law_mixed" (defArgs sMixed) (defBody sMixed) (defScope sMixed) .none kV29 dc29 pm29 an29 cd29 ct29),sl29⟩)
  (c29:PySem.W.codeIn K cd29 "_law_mixed" = true)
  (k29:PySem.W.keepIn K (.ref f29)=true)
  (a30:PySem.W.nsIn K mainGlobals "_law_draws" = some (some (.ref f30)))
  (l30:K.lookup f30=some ⟨oc30,od30, .func (PySem.W.fnOf "_law_draws" "_law_draws" (defArgs sDraws) (defBody sDraws) (defScope sDraws) .none kV30 dc30 pm30 an30 cd30 ct30),sl30⟩)
  (c30:PySem.W.codeIn K cd30 "_law_draws" = true)
  (k30:PySem.W.keepIn K (.ref f30)=true)
  (a31:PySem.W.nsIn K mainGlobals "_law_lanes" = some (some (.ref f31)))
  (l31:K.lookup f31=some ⟨oc31,od31, .func (PySem.W.fnOf "_law_lanes" "_law_lanes" (defArgs sLanes) (defBody sLanes) (defScope sLanes) .none kV31 dc31 pm31 an31 cd31 ct31),sl31⟩)
  (c31:PySem.W.codeIn K cd31 "_law_lanes" = true)
  (k31:PySem.W.keepIn K (.ref f31)=true)
  (a32:PySem.W.nsIn K mainGlobals "_law_alive" = some (some (.ref f32)))
  (l32:K.lookup f32=some ⟨oc32,od32, .func (PySem.W.fnOf "_law_alive" "_law_alive" (defArgs sLAlive) (defBody sLAlive) (defScope sLAlive) .none kV32 dc32 pm32 an32 cd32 ct32),sl32⟩)
  (c32:PySem.W.codeIn K cd32 "_law_alive" = true)
  (k32:PySem.W.keepIn K (.ref f32)=true)
  (a33:PySem.W.nsIn K mainGlobals "_law_ways" = some (some (.ref f33)))
  (l33:K.lookup f33=some ⟨oc33,od33, .func (PySem.W.fnOf "_law_ways" "_law_ways" (defArgs sWays) (defBody sWays) (defScope sWays) .none kV33 dc33 pm33 an33 cd33 ct33),sl33⟩)
  (c33:PySem.W.codeIn K cd33 "_law_ways" = true)
  (k33:PySem.W.keepIn K (.ref f33)=true)
  (a34:PySem.W.nsIn K mainGlobals "_law_entries" = some (some (.ref f34)))
  (l34:K.lookup f34=some ⟨oc34,od34, .func (PySem.W.fnOf "_law_entries" "_law_entries" (defArgs sEntr) (defBody sEntr) (defScope sEntr) .none kV34 dc34 pm34 an34 cd34 ct34),sl34⟩)
  (c34:PySem.W.codeIn K cd34 "_law_entries" = true)
  (k34:PySem.W.keepIn K (.ref f34)=true)
  (a35:PySem.W.nsIn K mainGlobals "_law_changed" = some (some (.ref f35)))
  (l35:K.lookup f35=some ⟨oc35,od35, .func (PySem.W.fnOf "_law_changed" "_law_changed" (defArgs sChgd) (defBody sChgd) (defScope sChgd) .none kV35 dc35 pm35 an35 cd35 ct35),sl35⟩)
  (c35:PySem.W.codeIn K cd35 "_law_changed" = true)
  (k35:PySem.W.keepIn K (.ref f35)=true)
  (a36:PySem.W.nsIn K mainGlobals "_law_met" = some (some (.ref f36)))
  (l36:K.lookup f36=some ⟨oc36,od36, .func (PySem.W.fnOf "_law_met" "_law_met" (defArgs sLMet) (defBody sLMet) (defScope sLMet) .none kV36 dc36 pm36 an36 cd36 ct36),sl36⟩)
  (c36:PySem.W.codeIn K cd36 "_law_met" = true)
  (k36:PySem.W.keepIn K (.ref f36)=true)
  (a37:PySem.W.nsIn K mainGlobals "law" = some (some (.ref f37)))
  (l37:K.lookup f37=some ⟨oc37,od37, .func (PySem.W.fnOf "law" "law" (defArgs sLaw) (defBody sLaw) (defScope sLaw) .none kV37 dc37 pm37 an37 cd37 ct37),sl37⟩)
  (c37:PySem.W.codeIn K cd37 "law" = true)
  (k37:PySem.W.keepIn K (.ref f37)=true)
  (a38:PySem.W.findIn K (.ref cL) "__init__" = some (some (.ref f38)))
  (l38:K.lookup f38=some ⟨oc38,od38, .func (PySem.W.fnOf "__init__" "Land.__init__" (defArgs sInit) (defBody sInit) (defScope sInit) .none kV38 dc38 pm38 an38 cd38 ct38),sl38⟩)
  (c38:PySem.W.codeIn K cd38 "Land.__init__" = true)
  (k38:PySem.W.keepIn K (.ref f38)=true)
  (i38:PySem.W.isFn K (.ref f38)=true)
  (a39:PySem.W.findIn K (.ref cL) "end_of" = some (some (.ref f39)))
  (l39:K.lookup f39=some ⟨oc39,od39, .func (PySem.W.fnOf "end_of" "Land.end_of" (defArgs sEnd) (defBody sEnd) (defScope sEnd) .none kV39 dc39 pm39 an39 cd39 ct39),sl39⟩)
  (c39:PySem.W.codeIn K cd39 "Land.end_of" = true)
  (k39:PySem.W.keepIn K (.ref f39)=true)
  (i39:PySem.W.isFn K (.ref f39)=true)
  (a40:PySem.W.findIn K (.ref cL) "out_of" = some (some (.ref f40)))
  (l40:K.lookup f40=some ⟨oc40,od40, .func (PySem.W.fnOf "out_of" "Land.out_of" (defArgs sOut) (defBody sOut) (defScope sOut) .none kV40 dc40 pm40 an40 cd40 ct40),sl40⟩)
  (c40:PySem.W.codeIn K cd40 "Land.out_of" = true)
  (k40:PySem.W.keepIn K (.ref f40)=true)
  (i40:PySem.W.isFn K (.ref f40)=true)
  (a41:PySem.W.findIn K (.ref cL) "into" = some (some (.ref f41)))
  (l41:K.lookup f41=some ⟨oc41,od41, .func (PySem.W.fnOf "into" "Land.into" (defArgs sInto) (defBody sInto) (defScope sInto) .none kV41 dc41 pm41 an41 cd41 ct41),sl41⟩)
  (c41:PySem.W.codeIn K cd41 "Land.into" = true)
  (k41:PySem.W.keepIn K (.ref f41)=true)
  (i41:PySem.W.isFn K (.ref f41)=true)
  (a42:PySem.W.findIn K (.ref cT) "__init__" = some (some (.ref f42)))
  (l42:K.lookup f42=some ⟨oc42,od42, .func (PySem.W.fnOf "__init__" "TooMany.__init__" (defArgs sTM) (defBody sTM) (defScope sTM) .none kV42 dc42 pm42 an42 cd42 ct42),sl42⟩)
  (c42:PySem.W.codeIn K cd42 "TooMany.__init__" = true)
  (k42:PySem.W.keepIn K (.ref f42)=true)
  (i42:PySem.W.isFn K (.ref f42)=true)
  (a43:PySem.W.findIn K (.ref cR) "__init__" = some (some (.ref f43)))
  (l43:K.lookup f43=some ⟨oc43,od43, .func (PySem.W.fnOf "__init__" "NoRoad.__init__" (defArgs sNR) (defBody sNR) (defScope sNR) .none kV43 dc43 pm43 an43 cd43 ct43),sl43⟩)
  (c43:PySem.W.codeIn K cd43 "NoRoad.__init__" = true)
  (k43:PySem.W.keepIn K (.ref f43)=true)
  (i43:PySem.W.isFn K (.ref f43)=true)
  (a44:PySem.W.findIn K (.ref cE) "__init__" = some (some (.ref f44)))
  (l44:K.lookup f44=some ⟨oc44,od44, .func (PySem.W.fnOf "__init__" "NoEntry.__init__" (defArgs sNE) (defBody sNE) (defScope sNE) .none kV44 dc44 pm44 an44 cd44 ct44),sl44⟩)
  (c44:PySem.W.codeIn K cd44 "NoEntry.__init__" = true)
  (k44:PySem.W.keepIn K (.ref f44)=true)
  (i44:PySem.W.isFn K (.ref f44)=true)
  (a45:PySem.W.findIn K (.ref cB) "__init__" = some (some (.ref f45)))
  (l45:K.lookup f45=some ⟨oc45,od45, .func (PySem.W.fnOf "__init__" "Table.__init__" (defArgs sTab) (defBody sTab) (defScope sTab) .none kV45 dc45 pm45 an45 cd45 ct45),sl45⟩)
  (c45:PySem.W.codeIn K cd45 "Table.__init__" = true)
  (k45:PySem.W.keepIn K (.ref f45)=true)
  (i45:PySem.W.isFn K (.ref f45)=true)
  (a46:PySem.W.findIn K (.ref cD) "__init__" = some (some (.ref f46)))
  (l46:K.lookup f46=some ⟨oc46,od46, .func (PySem.W.fnOf "__init__" "Told.__init__" (defArgs sTold) (defBody sTold) (defScope sTold) .none kV46 dc46 pm46 an46 cd46 ct46),sl46⟩)
  (c46:PySem.W.codeIn K cd46 "Told.__init__" = true)
  (k46:PySem.W.keepIn K (.ref f46)=true)
  (i46:PySem.W.isFn K (.ref f46)=true)
  (a47:PySem.W.findIn K (.ref cD) "ways" = some (some (.ref f47)))
  (l47:K.lookup f47=some ⟨oc47,od47, .func (PySem.W.fnOf "ways" "Told.ways" (defArgs sToldW) (defBody sToldW) (defScope sToldW) .none kV47 dc47 pm47 an47 cd47 ct47),sl47⟩)
  (c47:PySem.W.codeIn K cd47 "Told.ways" = true)
  (k47:PySem.W.keepIn K (.ref f47)=true)
  (i47:PySem.W.isFn K (.ref f47)=true)
  (mp:PySem.W.nsIn K mainGlobals "MOST_PLACES" = some (some (.int 12 t1)))
  (ml:PySem.W.nsIn K mainGlobals "MOST_LANES" = some (some (.int 40 t2)))
  (p1cL:PySem.W.plainGet K cL Str.empty=true)
  (p2cL:PySem.W.hasDictIn K cL=true)
  (p3cL:PySem.W.plainOver K cL=true)
  (p4cL:PySem.W.findIn K (.ref cL) "__setattr__" = some (some (.builtin "object.__setattr__")))
  (p5cL:PySem.W.makesIn K cL=true)
  (p6cL:PySem.W.keepIn K (.ref cL)=true)
  (ncLplaces:PySem.W.findIn K (.ref cL) "places" = some none)
  (ncLlanes:PySem.W.findIn K (.ref cL) "lanes" = some none)
  (p1cB:PySem.W.plainGet K cB Str.empty=true)
  (p2cB:PySem.W.hasDictIn K cB=true)
  (p3cB:PySem.W.plainOver K cB=true)
  (p4cB:PySem.W.findIn K (.ref cB) "__setattr__" = some (some (.builtin "object.__setattr__")))
  (p5cB:PySem.W.makesIn K cB=true)
  (p6cB:PySem.W.keepIn K (.ref cB)=true)
  (ncBland:PySem.W.findIn K (.ref cB) "land" = some none)
  (p1cD:PySem.W.plainGet K cD Str.empty=true)
  (p2cD:PySem.W.hasDictIn K cD=true)
  (p3cD:PySem.W.plainOver K cD=true)
  (p4cD:PySem.W.findIn K (.ref cD) "__setattr__" = some (some (.builtin "object.__setattr__")))
  (p5cD:PySem.W.makesIn K cD=true)
  (p6cD:PySem.W.keepIn K (.ref cD)=true)
  (ncDland:PySem.W.findIn K (.ref cD) "land" = some none)
  (ncDentries:PySem.W.findIn K (.ref cD) "entries" = some none)
  (x1cN:excInI K cN none=true)
  (x2cN:PySem.W.keepIn K (.ref cN)=true)
  (x1cT:excInI K cT (some (.ref f42))=true)
  (x2cT:PySem.W.keepIn K (.ref cT)=true)
  (x3cT:exOver K cT=true)
  (x4cT:PySem.W.hasDictIn K cT=true)
  (x5cT:PySem.W.findIn K (.ref cT) "__setattr__" = some (some (.builtin "object.__setattr__")))
  (x6cT:PySem.W.findIn K (.ref cT) "__getattribute__" = some (some (.builtin "BaseException.__getattribute__")))
  (x7cT:PySem.W.findIn K (.ref cT) "__getattr__" = some none)
  (ncTmany:PySem.W.findIn K (.ref cT) "many" = some none)
  (x1cR:excInI K cR (some (.ref f43))=true)
  (x2cR:PySem.W.keepIn K (.ref cR)=true)
  (x3cR:exOver K cR=true)
  (x4cR:PySem.W.hasDictIn K cR=true)
  (x5cR:PySem.W.findIn K (.ref cR) "__setattr__" = some (some (.builtin "object.__setattr__")))
  (x6cR:PySem.W.findIn K (.ref cR) "__getattribute__" = some (some (.builtin "BaseException.__getattribute__")))
  (x7cR:PySem.W.findIn K (.ref cR) "__getattr__" = some none)
  (ncRlane:PySem.W.findIn K (.ref cR) "lane" = some none)
  (x1cE:excInI K cE (some (.ref f44))=true)
  (x2cE:PySem.W.keepIn K (.ref cE)=true)
  (x3cE:exOver K cE=true)
  (x4cE:PySem.W.hasDictIn K cE=true)
  (x5cE:PySem.W.findIn K (.ref cE) "__setattr__" = some (some (.builtin "object.__setattr__")))
  (x6cE:PySem.W.findIn K (.ref cE) "__getattribute__" = some (some (.builtin "BaseException.__getattribute__")))
  (x7cE:PySem.W.findIn K (.ref cE) "__getattr__" = some none)
  (ncErow:PySem.W.findIn K (.ref cE) "row" = some none)
  (w1cB:PySem.W.readsIn K cB (.type "type")=true)
  (w2cB:PySem.W.findCls K (.ref cB) (.type "type") "__init__" = some (.val (.ref f45)))
  (w3cB:PySem.W.specialIn K (.ref cB) "__getattribute__" = some (some (.builtin "type.__getattribute__")))
  (z0:PySem.W.nsIn K mainGlobals "isinstance" = some none)
  (z1:PySem.W.nsIn K mainGlobals "int" = some none)
  (z2:PySem.W.nsIn K mainGlobals "bool" = some none)
  (z3:PySem.W.nsIn K mainGlobals "len" = some none)
  (z4:PySem.W.nsIn K mainGlobals "enumerate" = some none)
  (z5:PySem.W.nsIn K mainGlobals "tuple" = some none)
  (z6:PySem.W.nsIn K mainGlobals "range" = some none)
  (z7:PySem.W.nsIn K mainGlobals "list" = some none)
  (z8:PySem.W.nsIn K mainGlobals "all" = some none)
  (z9:PySem.W.nsIn K mainGlobals "min" = some none)
  (z10:PySem.W.nsIn K mainGlobals "reversed" = some none)
  (z11:PySem.W.nsIn K mainGlobals "zip" = some none)
  : ∃ fd:FuncData,(∀ (s:Shared) (v:Value),BindsTo s fd ⟨[v],[]⟩ [("_law_script",v)])/\∀ base:Heap,K.In base->base.Ns mainGlobals mg->FnOk l.prog w K mg base CX0 9 fa fd ["_law_script"] (spLaw K):=by
 have e:=hfa.symm.trans (PySem.W.mg_of X G a37)
 cases e
 have T:Txt mg:=⟨PySem.W.mg_none_of X G z0,PySem.W.mg_none_of X G z1,PySem.W.mg_none_of X G z2,PySem.W.mg_none_of X G z3,PySem.W.mg_none_of X G z4,PySem.W.mg_none_of X G z5,PySem.W.mg_none_of X G z6,PySem.W.mg_none_of X G z7,PySem.W.mg_none_of X G z8,PySem.W.mg_none_of X G z9,PySem.W.mg_none_of X G z10,PySem.W.mg_none_of X G z11⟩
 have F1:=fun_mk (st:=sHas) l1 c1 k1
 have F2:=fun_mk (st:=sMem) l2 c2 k2
 have F3:=fun_mk (st:=sSet) l3 c3 k3
 have F4:=fun_mk (st:=sWhole) l4 c4 k4
 have F5:=fun_mk (st:=sWithin) l5 c5 k5
 have F6:=fun_mk (st:=sOne) l6 c6 k6
 have F7:=fun_mk (st:=sTwo) l7 c7 k7
 have F8:=fun_mk (st:=sFits) l8 c8 k8
 have F9:=fun_mk (st:=sOn) l9 c9 k9
 have F10:=fun_mk (st:=sStarts) l10 c10 k10
 have F11:=fun_mk (st:=sFirst) l11 c11 k11
 have F12:=fun_mk (st:=sAhead) l12 c12 k12
 have F13:=fun_mk (st:=sMet) l13 c13 k13
 have F14:=fun_mk (st:=sIsLost) l14 c14 k14
 have F15:=fun_mk (st:=sLost) l15 c15 k15
 have F16:=fun_mk (st:=sLeads) l16 c16 k16
 have F17:=fun_mk (st:=sNext) l17 c17 k17
 have F18:=fun_mk (st:=sNumb) l18 c18 k18
 have F19:=fun_mk (st:=sBack) l19 c19 k19
 have F20:=fun_mk (st:=sRing) l20 c20 k20
 have F21:=fun_mk (st:=sLook) l21 c21 k21
 have F22:=fun_mk (st:=sSize) l22 c22 k22
 have F23:=fun_mk (st:=sStF) l23 c23 k23
 have F24:=fun_mk (st:=sWayF) l24 c24 k24
 have F25:=fun_mk (st:=sPairF) l25 c25 k25
 have F26:=fun_mk (st:=sLaneF) l26 c26 k26
 have F27:=fun_mk (st:=sFault) l27 c27 k27
 have F28:=fun_mk (st:=sCell) l28 c28 k28
 have F29:=fun_mk (st:=sMixed) l29 c29 k29
 have F30:=fun_mk (st:=sDraws) l30 c30 k30
 have F31:=fun_mk (st:=sLanes) l31 c31 k31
 have F32:=fun_mk (st:=sLAlive) l32 c32 k32
 have F33:=fun_mk (st:=sWays) l33 c33 k33
 have F34:=fun_mk (st:=sEntr) l34 c34 k34
 have F35:=fun_mk (st:=sChgd) l35 c35 k35
 have F36:=fun_mk (st:=sLMet) l36 c36 k36
 have F37:=fun_mk (st:=sLaw) l37 c37 k37
 have F38:=fun_mk (st:=sInit) l38 c38 k38
 have F39:=fun_mk (st:=sEnd) l39 c39 k39
 have F40:=fun_mk (st:=sOut) l40 c40 k40
 have F41:=fun_mk (st:=sInto) l41 c41 k41
 have F42:=fun_mk (st:=sTM) l42 c42 k42
 have F43:=fun_mk (st:=sNR) l43 c43 k43
 have F44:=fun_mk (st:=sNE) l44 c44 k44
 have F45:=fun_mk (st:=sTab) l45 c45 k45
 have F46:=fun_mk (st:=sTold) l46 c46 k46
 have F47:=fun_mk (st:=sToldW) l47 c47 k47
 have b1:=F1.binds (ps:=["some", "number"]) fun _ _ _ _ _ _=>len_of2 (fun _ _=>rfl)
 have b2:=F2.binds (ps:=["some"]) fun _ _ _ _ _ _=>len_of1 (fun _=>rfl)
 have b3:=F3.binds (ps:=["numbers"]) fun _ _ _ _ _ _=>len_of1 (fun _=>rfl)
 have b4:=F4.binds (ps:=["value"]) fun _ _ _ _ _ _=>len_of1 (fun _=>rfl)
 have b5:=F5.binds (ps:=["value", "least", "most"]) fun _ _ _ _ _ _=>len_of3 (fun _ _ _=>rfl)
 have b6:=F6.binds (ps:=["value", "numbers"]) fun _ _ _ _ _ _=>len_of2 (fun _ _=>rfl)
 have b7:=F7.binds (ps:=["places", "one", "other"]) fun _ _ _ _ _ _=>len_of3 (fun _ _ _=>rfl)
 have b8:=F8.binds (ps:=["land", "row"]) fun _ _ _ _ _ _=>len_of2 (fun _ _=>rfl)
 have b9:=F9.binds (ps:=["table", "lane", "goal"]) fun _ _ _ _ _ _=>len_of3 (fun _ _ _=>rfl)
 have b10:=F10.binds (ps:=["table"]) fun _ _ _ _ _ _=>len_of1 (fun _=>rfl)
 have b11:=F11.binds (ps:=["table", "goal"]) fun _ _ _ _ _ _=>len_of2 (fun _ _=>rfl)
 have b12:=F12.binds (ps:=["table", "goal"]) fun _ _ _ _ _ _=>len_of2 (fun _ _=>rfl)
 have b13:=F13.binds (ps:=["table"]) fun _ _ _ _ _ _=>len_of1 (fun _=>rfl)
 have b14:=F14.binds (ps:=["table", "lane", "goal"]) fun _ _ _ _ _ _=>len_of3 (fun _ _ _=>rfl)
 have b15:=F15.binds (ps:=["table"]) fun _ _ _ _ _ _=>len_of1 (fun _=>rfl)
 have b16:=F16.binds (ps:=["table", "sets"]) fun _ _ _ _ _ _=>len_of2 (fun _ _=>rfl)
 have b17:=F17.binds (ps:=["leads", "numbers"]) fun _ _ _ _ _ _=>len_of2 (fun _ _=>rfl)
 have b18:=F18.binds (ps:=["leads"]) fun _ _ _ _ _ _=>len_of1 (fun _=>rfl)
 have b19:=F19.binds (ps:=["leads", "numbers"]) fun _ _ _ _ _ _=>len_of2 (fun _ _=>rfl)
 have b20:=F20.binds (ps:=["leads", "numbers"]) fun _ _ _ _ _ _=>len_of2 (fun _ _=>rfl)
 have b21:=F21.binds (ps:=["table"]) fun _ _ _ _ _ _=>len_of1 (fun _=>rfl)
 have b22:=F22.binds (ps:=["land", "numbers", "sets"]) fun _ _ _ _ _ _=>len_of3 (fun _ _ _=>rfl)
 have b23:=F23.binds (ps:=["table", "sets"]) fun _ _ _ _ _ _=>len_of2 (fun _ _=>rfl)
 have b24:=F24.binds (ps:=["numbers", "sets", "lane", "goal", "way"]) fun _ _ _ _ _ _=>len_of5 (fun _ _ _ _ _=>rfl)
 have b25:=F25.binds (ps:=["table", "numbers", "sets", "lane", "goal"]) fun _ _ _ _ _ _=>len_of5 (fun _ _ _ _ _=>rfl)
 have b26:=F26.binds (ps:=["table", "numbers", "sets", "lane"]) fun _ _ _ _ _ _=>len_of4 (fun _ _ _ _=>rfl)
 have b27:=F27.binds (ps:=["table", "paper"]) fun _ _ _ _ _ _=>len_of2 (fun _ _=>rfl)
 have b28:=F28.binds (ps:=["_law_script", "_law_k"]) fun _ _ _ _ _ _=>len_of2 (fun _ _=>rfl)
 have b29:=F29.binds (ps:=["_law_cell", "_law_k"]) fun _ _ _ _ _ _=>len_of2 (fun _ _=>rfl)
 have b30:=F30.binds (ps:=["_law_cell", "_law_amount", "_law_base"]) fun _ _ _ _ _ _=>len_of3 (fun _ _ _=>rfl)
 have b31:=F31.binds (ps:=["_law_script", "_law_places"]) fun _ _ _ _ _ _=>len_of2 (fun _ _=>rfl)
 have b32:=F32.binds (ps:=["_law_lanes_here", "_law_numbers", "_law_places"]) fun _ _ _ _ _ _=>len_of3 (fun _ _ _=>rfl)
 have b33:=F33.binds (ps:=["_law_lanes_here", "_law_numbers", "_law_alive_here", "_law_key", "_law_draw"]) fun _ _ _ _ _ _=>len_of5 (fun _ _ _ _ _=>rfl)
 have b34:=F34.binds (ps:=["_law_lanes_here", "_law_numbers", "_law_alive_here", "_law_places", "_law_cell"]) fun _ _ _ _ _ _=>len_of5 (fun _ _ _ _ _=>rfl)
 have b35:=F35.binds (ps:=["_law_lanes_here", "_law_entries_here", "_law_cell"]) fun _ _ _ _ _ _=>len_of3 (fun _ _ _=>rfl)
 have b36:=F36.binds (ps:=["_law_lanes_here", "_law_entries_here"]) fun _ _ _ _ _ _=>len_of2 (fun _ _=>rfl)
 have b38:=F38.binds (ps:=["self", "places", "lanes"]) fun _ _ _ _ _ _=>len_of3 (fun _ _ _=>rfl)
 have b39:=F39.binds (ps:=["self", "lane"]) fun _ _ _ _ _ _=>len_of2 (fun _ _=>rfl)
 have b40:=F40.binds (ps:=["self", "place"]) fun _ _ _ _ _ _=>len_of2 (fun _ _=>rfl)
 have b41:=F41.binds (ps:=["self", "place"]) fun _ _ _ _ _ _=>len_of2 (fun _ _=>rfl)
 have b42:=F42.binds (ps:=["self", "many"]) fun _ _ _ _ _ _=>len_of2 (fun _ _=>rfl)
 have b43:=F43.binds (ps:=["self", "lane"]) fun _ _ _ _ _ _=>len_of2 (fun _ _=>rfl)
 have b44:=F44.binds (ps:=["self", "row"]) fun _ _ _ _ _ _=>len_of2 (fun _ _=>rfl)
 have b45:=F45.binds (ps:=["self", "land"]) fun _ _ _ _ _ _=>len_of2 (fun _ _=>rfl)
 have b46:=F46.binds (ps:=["self", "land", "rows"]) fun _ _ _ _ _ _=>len_of3 (fun _ _ _=>rfl)
 have b47:=F47.binds (ps:=["self", "place", "goal", "came"]) fun _ _ _ _ _ _=>len_of4 (fun _ _ _ _=>rfl)
 have L:Lnd K ⟨cN,cT,cR,cL⟩:=⟨⟨p1cL,p2cL,p3cL,p4cL⟩,ncLplaces,ncLlanes⟩
 have xT:XCls K cT:=⟨x3cT,x4cT,x5cT,x6cT,x7cT⟩
 have xR:XCls K cR:=⟨x3cR,x4cR,x5cR,x6cR,x7cR⟩
 have xE:XCls K cE:=⟨x3cE,x4cE,x5cE,x6cE,x7cE⟩
 have E:Exc K mg ⟨cN,cT,cR,cL⟩ f42 f43 _ _:=⟨(PySem.W.mg_of X G gcN),x1cN,x2cN,(PySem.W.mg_of X G gcT),x1cT,x2cT,xT,ncTmany,i42,F42,b42,(PySem.W.mg_of X G gcR),x1cR,x2cR,xR,ncRlane,i43,F43,b43⟩
 have B:Tbl K mg ⟨cB,cD,cE⟩ f45 f44 _ _:=⟨⟨p1cB,p2cB,p3cB,p4cB⟩,ncBland,⟨p1cD,p2cD,p3cD,p4cD⟩,ncDland,ncDentries,(PySem.W.mg_of X G gcB),⟨w1cB,w2cB,w3cB,k45⟩,b45,(PySem.W.mg_of X G gcE),x1cE,x2cE,xE,ncErow,i44,F44,b44⟩
 have M:Mths K ⟨cN,cT,cR,cL⟩ f40 f41 _ _:=⟨⟨a40,i40,k40⟩,⟨a41,i41,k41⟩,b40,b41⟩
 have Mi:Mk K cL f38:=⟨p5cL,a38,i38,p6cL⟩
 have Mt:Mk K cD f46:=⟨p5cD,a46,i46,p6cD⟩
 refine ⟨PySem.W.fnOf "law" "law" (defArgs sLaw) (defBody sLaw) (defScope sLaw) .none kV37 dc37 pm37 an37 cd37 ct37,fun s v => .of_eq rfl,fun base _ _=>?_⟩
 have W1:Way K cD f47 _ (ToldAt l.prog w ⟨cB,cD,cE⟩):=⟨B.cd,⟨a47,i47,k47⟩,b47,fun H x wy ⟨dx,de,lv,kvs,h1,_⟩=>⟨dx,_,h1,rfl⟩,fun H H' x wy ⟨dx,de,lv,kvs,h1,h2,h3⟩ s=>⟨dx,de,lv,kvs,s _ _ h1,h2.same s,h3⟩⟩
 have Gw:FnOk l.prog w K mg base CX0 2 f5 _ ["value", "least", "most"] spWithin:=ok_within F5 T (PySem.W.mg_of X G a4) F4 b4
 have G2:FnOk l.prog w K mg base CX0 3 f7 _ ["places", "one", "other"] spTwo:=ok_two F7 (PySem.W.mg_of X G a5) k5 b5 Gw
 have Gi:FnOk l.prog w K mg base (CXe l.prog w) 4 f38 _ ["self", "places", "lanes"] (spInit K ⟨cN,cT,cR,cL⟩):=ok_init F38 T L E (PySem.W.mg_of X G a5) k5 b5 Gw (PySem.W.mg_of X G a7) k7 b7 G2 (PySem.W.mg_of X G mp) (PySem.W.mg_of X G ml)
 have Go:FnOk l.prog w K mg base CX0 2 f6 _ ["value", "numbers"] (spOne K):=ok_one F6 T (PySem.W.mg_of X G a4) F4 b4
 have Gf:FnOk l.prog w K mg base CX0 4 f8 _ ["land", "row"] (spFits ⟨cN,cT,cR,cL⟩):=ok_fits F8 T L M (PySem.W.mg_of X G a7) k7 b7 G2 (PySem.W.mg_of X G a6) k6 b6 Go (ok_out F40 T L) (ok_into F41 T L)
 have Gm:FnOk l.prog w K mg base CX0 2 f2 _ ["some"] spMem:=ok_mem F2 T (PySem.W.mg_of X G a1) F1 b1
 have G1:FnOk l.prog w K mg base CX0 1 f45 _ ["self", "land"] (spTab K):=ok_tab F45
 have Gt:FnOk l.prog w K mg base (CXe l.prog w) 5 f46 _ ["self", "land", "rows"] (spTold l.prog w K ⟨cN,cT,cR,cL⟩ ⟨cB,cD,cE⟩):=ok_told F46 T B G1 (PySem.W.mg_of X G a8) k8 b8 Gf (PySem.W.mg_of X G a3) k3 b3 (ok_set F3)
 have ME:EndM K ⟨cN,cT,cR,cL⟩ f39 _:=⟨⟨a39,i39,k39⟩,b39⟩
 have Ge:FnOk l.prog w K mg base CX0 1 f39 _ ["self", "lane"] (spAt ⟨cN,cT,cR,cL⟩ Prod.snd):=ok_end F39 L
 have Gw1:FnOk l.prog w K mg base CX0 3 f47 _ ["self", "place", "goal", "came"] (spWays (ToldAt l.prog w ⟨cB,cD,cE⟩)):=told_ways (ok_toldW F47 B (PySem.W.mg_of X G a2) k2 b2 Gm)
 have Gon:FnOk l.prog w K mg base CX0 4 f9 _ ["table", "lane", "goal"] (spOn ⟨cN,cT,cR,cL⟩ cD (ToldAt l.prog w ⟨cB,cD,cE⟩)):=ok_on F9 L W1 ncDland Gw1 ME Ge
 have Gst:FnOk l.prog w K mg base CX0 4 f10 _ ["table"] (spStarts ⟨cN,cT,cR,cL⟩ cD (ToldAt l.prog w ⟨cB,cD,cE⟩)):=ok_starts F10 T L W1 ncDland Gw1
 have XH:HasM l.prog w K mg base f1 _:=⟨PySem.W.mg_of X G a1,k1,b1,ok_has F1⟩
 have Gfi:FnOk l.prog w K mg base CX0 4 f11 _ ["table", "goal"] (spFirst ⟨cN,cT,cR,cL⟩ cD (ToldAt l.prog w ⟨cB,cD,cE⟩)):=ok_first F11 T L W1 ncDland Gw1
 have Gah:FnOk l.prog w K mg base CX0 5 f12 _ ["table", "goal"] (spAhead ⟨cN,cT,cR,cL⟩ cD (ToldAt l.prog w ⟨cB,cD,cE⟩)):=ok_ahead F12 T W1 (PySem.W.mg_of X G a11) k11 b11 Gfi (PySem.W.mg_of X G a9) k9 b9 Gon
 have Gme:FnOk l.prog w K mg base CX0 6 f13 _ ["table"] (spMet ⟨cN,cT,cR,cL⟩ cD (ToldAt l.prog w ⟨cB,cD,cE⟩)):=ok_met F13 T L W1 ncDland (PySem.W.mg_of X G a12) k12 b12 Gah
 have Gil:FnOk l.prog w K mg base CX0 5 f14 _ ["table", "lane", "goal"] (spIsLost ⟨cN,cT,cR,cL⟩ cD (ToldAt l.prog w ⟨cB,cD,cE⟩)):=ok_isLost F14 L W1 ncDland ME Ge (PySem.W.mg_of X G a9) k9 b9 Gon
 have Glo:FnOk l.prog w K mg base CX0 7 f15 _ ["table"] (spLost ⟨cN,cT,cR,cL⟩ cD (ToldAt l.prog w ⟨cB,cD,cE⟩)):=ok_lost F15 T W1 (PySem.W.mg_of X G a13) k13 b13 Gme (PySem.W.mg_of X G a2) k2 b2 Gm (PySem.W.mg_of X G a14) k14 b14 Gil
 have Gle:FnOk l.prog w K mg base CX0 5 f16 _ ["table", "sets"] (spLeads ⟨cN,cT,cR,cL⟩ cD (ToldAt l.prog w ⟨cB,cD,cE⟩)):=ok_leads F16 T W1 (PySem.W.mg_of X G a2) k2 b2 Gm (PySem.W.mg_of X G a9) k9 b9 Gon
 have Gnx:FnOk l.prog w K mg base CX0 1 f17 _ ["leads", "numbers"] spNext:=ok_next F17 T
 have Gnb:FnOk l.prog w K mg base CX0 2 f18 _ ["leads"] spNumb:=ok_numb F18 (PySem.W.mg_of X G a17) k17 b17 Gnx
 have Gbk:FnOk l.prog w K mg base CX0 1 f19 _ ["leads", "numbers"] spBack:=ok_back F19 T
 have Grg:FnOk l.prog w K mg base CX0 2 f20 _ ["leads", "numbers"] spRing:=ok_ring F20 T (PySem.W.mg_of X G a19) k19 b19 Gbk
 have Glk:FnOk l.prog w K mg base CX0 8 f21 _ ["table"] (spLook ⟨cN,cT,cR,cL⟩ cD (ToldAt l.prog w ⟨cB,cD,cE⟩)):=ok_look F21 T W1 (PySem.W.mg_of X G a15) k15 b15 Glo (PySem.W.mg_of X G a13) k13 b13 Gme (PySem.W.mg_of X G a16) k16 b16 Gle (PySem.W.mg_of X G a18) k18 b18 Gnb (PySem.W.mg_of X G a20) k20 b20 Grg
 have Gsz:FnOk l.prog w K mg base CX0 3 f22 _ ["land", "numbers", "sets"] (spSize K ⟨cN,cT,cR,cL⟩):=ok_size F22 T L (PySem.W.mg_of X G a5) k5 b5 Gw
 have Gwf:FnOk l.prog w K mg base CX0 2 f24 _ ["numbers", "sets", "lane", "goal", "way"] (spWayF K):=ok_wayF F24 XH
 have Gsf:FnOk l.prog w K mg base CX0 5 f23 _ ["table", "sets"] (spStF K ⟨cN,cT,cR,cL⟩ cD (ToldAt l.prog w ⟨cB,cD,cE⟩)):=ok_stF F23 W1 Gw1 XH (PySem.W.mg_of X G a10) k10 b10 Gst
 have Gpf:FnOk l.prog w K mg base CX0 5 f25 _ ["table", "numbers", "sets", "lane", "goal"] (spPairF K ⟨cN,cT,cR,cL⟩ cD (ToldAt l.prog w ⟨cB,cD,cE⟩)):=ok_pairF F25 W1 (PySem.W.mg_of X G a9) k9 b9 Gon (PySem.W.mg_of X G a24) k24 b24 Gwf
 have Glf:FnOk l.prog w K mg base CX0 6 f26 _ ["table", "numbers", "sets", "lane"] (spLaneF K ⟨cN,cT,cR,cL⟩ cD (ToldAt l.prog w ⟨cB,cD,cE⟩)):=ok_laneF F26 L W1 ncDland ME Ge (PySem.W.mg_of X G a2) k2 b2 Gm (PySem.W.mg_of X G a25) k25 b25 Gpf
 have Gfa:FnOk l.prog w K mg base CX0 7 f27 _ ["table", "paper"] (spFault K ⟨cN,cT,cR,cL⟩ cD (ToldAt l.prog w ⟨cB,cD,cE⟩)):=ok_fault F27 T W1 ncDland (PySem.W.mg_of X G a22) k22 b22 Gsz (PySem.W.mg_of X G a23) k23 b23 Gsf (PySem.W.mg_of X G a26) k26 b26 Glf
 have Gce:FnOk l.prog w K mg base CX0 1 f28 _ ["_law_script", "_law_k"] (spCell K):=ok_cell F28 T
 have Gmx:FnOk l.prog w K mg base CX0 1 f29 _ ["_law_cell", "_law_k"] spMix:=ok_mix F29
 have Gdr:FnOk l.prog w K mg base CX0 2 f30 _ ["_law_cell", "_law_amount", "_law_base"] spDr:=ok_draws F30 T (PySem.W.mg_of X G a29) k29 b29 Gmx
 have Gln:FnOk l.prog w K mg base CX0 3 f31 _ ["_law_script", "_law_places"] (spLanes K):=ok_lanes F31 T (PySem.W.mg_of X G a30) k30 b30 Gdr
 have Gal:FnOk l.prog w K mg base CX0 1 f32 _ ["_law_lanes_here", "_law_numbers", "_law_places"] (spAl K):=ok_alive F32 T
 have Gwy:FnOk l.prog w K mg base CX0 1 f33 _ ["_law_lanes_here", "_law_numbers", "_law_alive_here", "_law_key", "_law_draw"] (spWy K):=ok_ways F33 T
 have Gen:FnOk l.prog w K mg base CX0 3 f34 _ ["_law_lanes_here", "_law_numbers", "_law_alive_here", "_law_places", "_law_cell"] (spEn l.prog w K):=ok_entries F34 T (PySem.W.mg_of X G a30) k30 b30 Gdr (PySem.W.mg_of X G a33) k33 b33 Gwy
 have Gch:FnOk l.prog w K mg base CX0 3 f35 _ ["_law_lanes_here", "_law_entries_here", "_law_cell"] (spCh l.prog w):=ok_changed F35 T (PySem.W.mg_of X G a30) k30 b30 Gdr
 have Glm:FnOk l.prog w K mg base CX0 1 f36 _ ["_law_lanes_here", "_law_entries_here"] (spLm l.prog w):=ok_lmet F36 T
 exact ok_law (c:=⟨cN,cT,cR,cL⟩) (ts:=⟨cB,cD,cE⟩) F37 T ⟨(PySem.W.mg_of X G gcL),Mi,b38,Gi,(PySem.W.mg_of X G gcD),Mt,b46,Gt,PySem.W.mg_of X G a28,k28,b28,Gce,PySem.W.mg_of X G a29,k29,b29,Gmx,PySem.W.mg_of X G a30,k30,b30,Gdr,PySem.W.mg_of X G a31,k31,b31,Gln,PySem.W.mg_of X G a32,k32,b32,Gal,PySem.W.mg_of X G a34,k34,b34,Gen,PySem.W.mg_of X G a35,k35,b35,Gch,PySem.W.mg_of X G a36,k36,b36,Glm,PySem.W.mg_of X G a13,k13,b13,Gme,PySem.W.mg_of X G a15,k15,b15,Glo,PySem.W.mg_of X G a21,k21,b21,Glk,PySem.W.mg_of X G a27,k27,b27,Gfa,W1⟩
theorem walk {l:PySem.W.OpenLaw} {q:Program} {loose:List Str} {XP:(Str->Option Value)->Heap->Prop} {YP:World->Heap->Prop} {d:DefRec} {K:Params->PySem.W.Frag} (hn:l.most=some 63) (hdf:d.params.defaults=[])
  (hY:∀ (w:World) (h:Heap),YP w h->(K w.params).In h)
  (F:∀ (w:World) (mg:Str->Option Value) (fa:Addr) (h:Heap),(K w.params).In h->h.Ns mainGlobals mg->mg d.name=some (.ref fa) ->
   ∃ fd:FuncData,(∀ (s:Shared) (u:Value),BindsTo s fd ⟨[u],[]⟩ [("_law_script",u)])/\∀ base:Heap,(K w.params).In base->base.Ns mainGlobals mg->FnOk l.prog w (K w.params) mg base CX0 9 fa fd ["_law_script"] (spLaw (K w.params))) :
  PySem.W.WalkO q loose XP YP l.row.toRowW d [] (fun f vs=>PySem.call f vs) :=
 L2.walk_of (n:=63) (k:=9) (x := "_law_script") (CX:=fun _=>CX0) (sp:=fun w=>spLaw (K w.params)) hn (by decide) hdf ⟨rfl,by decide,by decide⟩ hY F (fun _ _ a ns hl _ hS=>⟨a,ns,rfl,hS,hl,fun _=>rfl⟩) fun _ _ _ _ _ z=>z
end K33
theorem PySem.W.Fast.tw18043616560112553713:True:=trivial
theorem PySem.W.Fast.tw15102061208251181977:True:=trivial
theorem PySem.W.Fast.tw3605620025229875901:True:=trivial
theorem PySem.W.Fast.tw14094455312062718309:True:=trivial
theorem PySem.W.Fast.tw15712743388021290031:True:=trivial
theorem PySem.W.Fast.tw9504556325763737876:True:=trivial
theorem PySem.W.Fast.tw1480268316669261159:True:=trivial
theorem PySem.W.Fast.tw9492256599750937402:True:=trivial
theorem PySem.W.Fast.tw8878917965862632142:True:=trivial
theorem PySem.W.Fast.tw17015494578563099387:True:=trivial
theorem PySem.W.Fast.tw14856567892242905018:True:=trivial
theorem PySem.W.Fast.tw3425831318054401108:True:=trivial
theorem PySem.W.Fast.tw11518698275513630550:True:=trivial
theorem PySem.W.Fast.tw26552712904050397:True:=trivial
theorem PySem.W.Fast.tw308611199191506734:True:=trivial
theorem PySem.W.Fast.tw3799576210445697106:True:=trivial
theorem PySem.W.Fast.tw5870970630048321903:True:=trivial
theorem PySem.W.Fast.tw18053820403723936555:True:=trivial
theorem PySem.W.Fast.tw8532270296384897398:True:=trivial
theorem PySem.W.Fast.tw1530468532731660044:True:=trivial
theorem PySem.W.Fast.tw2813558507691050011:True:=trivial
theorem PySem.W.Fast.tw4926038094782735062:True:=trivial
theorem PySem.W.Fast.tw17676860871914692861:True:=trivial
theorem PySem.W.Fast.tw11250382548287782211:True:=trivial
theorem PySem.W.Fast.tw3494045863617850616:True:=trivial
theorem PySem.W.Fast.tw12506411365593818990:True:=trivial
theorem PySem.W.Fast.tw13606222192661776401:True:=trivial
theorem PySem.W.Fast.tw11721727274957259916:True:=trivial
theorem PySem.W.Fast.tw6254908368102342007:True:=trivial
theorem PySem.W.Fast.tw16735699326763434120:True:=trivial
open PySem PySem.W PyProof.Rows
set_option maxRecDepth 100000 in
set_option maxHeartbeats 0 in
theorem PySem.Challenge.cw_wormyard_k33_whole_never_both_holds : PySem.Challenge.rw_wormyard_k33_whole_never_both.Holds := by
 w_on; o_law; k_head; (case hw=>w_witness2)
 k_fill
 refine K33.walk (l:=PySem.Challenge.rw_wormyard_k33_whole_never_both) rfl rfl (fun w h Y=>PySem.W.kIn_of Y) ?F
 case F =>
  intro w mg fa h KX G hmg
  refine' K33.all_mk KX G hmg ?gcL ?gcN ?gcT ?gcR ?gcE ?gcB ?gcD ?a1 ?l1 ?c1 ?k1 ?a2 ?l2 ?c2 ?k2 ?a3 ?l3 ?c3 ?k3 ?a4 ?l4 ?c4 ?k4 ?a5 ?l5 ?c5 ?k5 ?a6 ?l6 ?c6 ?k6 ?a7 ?l7 ?c7 ?k7 ?a8 ?l8 ?c8 ?k8 ?a9 ?l9 ?c9 ?k9 ?a10 ?l10 ?c10 ?k10 ?a11 ?l11 ?c11 ?k11 ?a12 ?l12 ?c12 ?k12 ?a13 ?l13 ?c13 ?k13 ?a14 ?l14 ?c14 ?k14 ?a15 ?l15 ?c15 ?k15 ?a16 ?l16 ?c16 ?k16 ?a17 ?l17 ?c17 ?k17 ?a18 ?l18 ?c18 ?k18 ?a19 ?l19 ?c19 ?k19 ?a20 ?l20 ?c20 ?k20 ?a21 ?l21 ?c21 ?k21 ?a22 ?l22 ?c22 ?k22 ?a23 ?l23 ?c23 ?k23 ?a24 ?l24 ?c24 ?k24 ?a25 ?l25 ?c25 ?k25 ?a26 ?l26 ?c26 ?k26 ?a27 ?l27 ?c27 ?k27 ?a28 ?l28 ?c28 ?k28 ?a29 ?l29 ?c29 ?k29 ?a30 ?l30 ?c30 ?k30 ?a31 ?l31 ?c31 ?k31 ?a32 ?l32 ?c32 ?k32 ?a33 ?l33 ?c33 ?k33 ?a34 ?l34 ?c34 ?k34 ?a35 ?l35 ?c35 ?k35 ?a36 ?l36 ?c36 ?k36 ?a37 ?l37 ?c37 ?k37 ?a38 ?l38 ?c38 ?k38 ?i38 ?a39 ?l39 ?c39 ?k39 ?i39 ?a40 ?l40 ?c40 ?k40 ?i40 ?a41 ?l41 ?c41 ?k41 ?i41 ?a42 ?l42 ?c42 ?k42 ?i42 ?a43 ?l43 ?c43 ?k43 ?i43 ?a44 ?l44 ?c44 ?k44 ?i44 ?a45 ?l45 ?c45 ?k45 ?i45 ?a46 ?l46 ?c46 ?k46 ?i46 ?a47 ?l47 ?c47 ?k47 ?i47 ?mp ?ml ?p1cL ?p2cL ?p3cL ?p4cL ?p5cL ?p6cL ?ncLplaces ?ncLlanes ?p1cB ?p2cB ?p3cB ?p4cB ?p5cB ?p6cB ?ncBland ?p1cD ?p2cD ?p3cD ?p4cD ?p5cD ?p6cD ?ncDland ?ncDentries ?x1cN ?x2cN ?x1cT ?x2cT ?x3cT ?x4cT ?x5cT ?x6cT ?x7cT ?ncTmany ?x1cR ?x2cR ?x3cR ?x4cR ?x5cR ?x6cR ?x7cR ?ncRlane ?x1cE ?x2cE ?x3cE ?x4cE ?x5cE ?x6cE ?x7cE ?ncErow ?w1cB ?w2cB ?w3cB ?z0 ?z1 ?z2 ?z3 ?z4 ?z5 ?z6 ?z7 ?z8 ?z9 ?z10 ?z11
  (case gcL=>k_is)
  (case gcN=>k_is)
  (case gcT=>k_is)
  (case gcR=>k_is)
  (case gcE=>k_is)
  (case gcB=>k_is)
  (case gcD=>k_is)
  (case a1=>k_is)
  (case l1=>k_is)
  (case c1=>k_is)
  (case k1=>k_is)
  (case a2=>k_is)
  (case l2=>k_is)
  (case c2=>k_is)
  (case k2=>k_is)
  (case a3=>k_is)
  (case l3=>k_is)
  (case c3=>k_is)
  (case k3=>k_is)
  (case a4=>k_is)
  (case l4=>k_is)
  (case c4=>k_is)
  (case k4=>k_is)
  (case a5=>k_is)
  (case l5=>k_is)
  (case c5=>k_is)
  (case k5=>k_is)
  (case a6=>k_is)
  (case l6=>k_is)
  (case c6=>k_is)
  (case k6=>k_is)
  (case a7=>k_is)
  (case l7=>k_is)
  (case c7=>k_is)
  (case k7=>k_is)
  (case a8=>k_is)
  (case l8=>k_is)
  (case c8=>k_is)
  (case k8=>k_is)
  (case a9=>k_is)
  (case l9=>k_is)
  (case c9=>k_is)
  (case k9=>k_is)
  (case a10=>k_is)
  (case l10=>k_is)
  (case c10=>k_is)
  (case k10=>k_is)
  (case a11=>k_is)
  (case l11=>k_is)
  (case c11=>k_is)
  (case k11=>k_is)
  (case a12=>k_is)
  (case l12=>k_is)
  (case c12=>k_is)
  (case k12=>k_is)
  (case a13=>k_is)
  (case l13=>k_is)
  (case c13=>k_is)
  (case k13=>k_is)
  (case a14=>k_is)
  (case l14=>k_is)
  (case c14=>k_is)
  (case k14=>k_is)
  (case a15=>k_is)
  (case l15=>k_is)
  (case c15=>k_is)
  (case k15=>k_is)
  (case a16=>k_is)
  (case l16=>k_is)
  (case c16=>k_is)
  (case k16=>k_is)
  (case a17=>k_is)
  (case l17=>k_is)
  (case c17=>k_is)
  (case k17=>k_is)
  (case a18=>k_is)
  (case l18=>k_is)
  (case c18=>k_is)
  (case k18=>k_is)
  (case a19=>k_is)
  (case l19=>k_is)
  (case c19=>k_is)
  (case k19=>k_is)
  (case a20=>k_is)
  (case l20=>k_is)
  (case c20=>k_is)
  (case k20=>k_is)
  (case a21=>k_is)
  (case l21=>k_is)
  (case c21=>k_is)
  (case k21=>k_is)
  (case a22=>k_is)
  (case l22=>k_is)
  (case c22=>k_is)
  (case k22=>k_is)
  (case a23=>k_is)
  (case l23=>k_is)
  (case c23=>k_is)
  (case k23=>k_is)
  (case a24=>k_is)
  (case l24=>k_is)
  (case c24=>k_is)
  (case k24=>k_is)
  (case a25=>k_is)
  (case l25=>k_is)
  (case c25=>k_is)
  (case k25=>k_is)
  (case a26=>k_is)
  (case l26=>k_is)
  (case c26=>k_is)
  (case k26=>k_is)
  (case a27=>k_is)
  (case l27=>k_is)
  (case c27=>k_is)
  (case k27=>k_is)
  (case a28=>k_is)
  (case l28=>k_is)
  (case c28=>k_is)
  (case k28=>k_is)
  (case a29=>k_is)
  (case l29=>k_is)
  (case c29=>k_is)
  (case k29=>k_is)
  (case a30=>k_is)
  (case l30=>k_is)
  (case c30=>k_is)
  (case k30=>k_is)
  (case a31=>k_is)
  (case l31=>k_is)
  (case c31=>k_is)
  (case k31=>k_is)
  (case a32=>k_is)
  (case l32=>k_is)
  (case c32=>k_is)
  (case k32=>k_is)
  (case a33=>k_is)
  (case l33=>k_is)
  (case c33=>k_is)
  (case k33=>k_is)
  (case a34=>k_is)
  (case l34=>k_is)
  (case c34=>k_is)
  (case k34=>k_is)
  (case a35=>k_is)
  (case l35=>k_is)
  (case c35=>k_is)
  (case k35=>k_is)
  (case a36=>k_is)
  (case l36=>k_is)
  (case c36=>k_is)
  (case k36=>k_is)
  (case a37=>k_is)
  (case l37=>k_is)
  (case c37=>k_is)
  (case k37=>k_is)
  (case a38=>k_is)
  (case l38=>k_is)
  (case c38=>k_is)
  (case k38=>k_is)
  (case i38=>k_is)
  (case a39=>k_is)
  (case l39=>k_is)
  (case c39=>k_is)
  (case k39=>k_is)
  (case i39=>k_is)
  (case a40=>k_is)
  (case l40=>k_is)
  (case c40=>k_is)
  (case k40=>k_is)
  (case i40=>k_is)
  (case a41=>k_is)
  (case l41=>k_is)
  (case c41=>k_is)
  (case k41=>k_is)
  (case i41=>k_is)
  (case a42=>k_is)
  (case l42=>k_is)
  (case c42=>k_is)
  (case k42=>k_is)
  (case i42=>k_is)
  (case a43=>k_is)
  (case l43=>k_is)
  (case c43=>k_is)
  (case k43=>k_is)
  (case i43=>k_is)
  (case a44=>k_is)
  (case l44=>k_is)
  (case c44=>k_is)
  (case k44=>k_is)
  (case i44=>k_is)
  (case a45=>k_is)
  (case l45=>k_is)
  (case c45=>k_is)
  (case k45=>k_is)
  (case i45=>k_is)
  (case a46=>k_is)
  (case l46=>k_is)
  (case c46=>k_is)
  (case k46=>k_is)
  (case i46=>k_is)
  (case a47=>k_is)
  (case l47=>k_is)
  (case c47=>k_is)
  (case k47=>k_is)
  (case i47=>k_is)
  (case mp=>k_is)
  (case ml=>k_is)
  (case p1cL=>k_is)
  (case p2cL=>k_is)
  (case p3cL=>k_is)
  (case p4cL=>k_is)
  (case p5cL=>k_is)
  (case p6cL=>k_is)
  (case ncLplaces=>k_is)
  (case ncLlanes=>k_is)
  (case p1cB=>k_is)
  (case p2cB=>k_is)
  (case p3cB=>k_is)
  (case p4cB=>k_is)
  (case p5cB=>k_is)
  (case p6cB=>k_is)
  (case ncBland=>k_is)
  (case p1cD=>k_is)
  (case p2cD=>k_is)
  (case p3cD=>k_is)
  (case p4cD=>k_is)
  (case p5cD=>k_is)
  (case p6cD=>k_is)
  (case ncDland=>k_is)
  (case ncDentries=>k_is)
  (case x1cN=>kernel_rfl)
  (case x2cN=>k_is)
  (case x1cT=>kernel_rfl)
  (case x2cT=>k_is)
  (case x3cT=>kernel_rfl)
  (case x4cT=>k_is)
  (case x5cT=>k_is)
  (case x6cT=>k_is)
  (case x7cT=>k_is)
  (case ncTmany=>k_is)
  (case x1cR=>kernel_rfl)
  (case x2cR=>k_is)
  (case x3cR=>kernel_rfl)
  (case x4cR=>k_is)
  (case x5cR=>k_is)
  (case x6cR=>k_is)
  (case x7cR=>k_is)
  (case ncRlane=>k_is)
  (case x1cE=>kernel_rfl)
  (case x2cE=>k_is)
  (case x3cE=>kernel_rfl)
  (case x4cE=>k_is)
  (case x5cE=>k_is)
  (case x6cE=>k_is)
  (case x7cE=>k_is)
  (case ncErow=>k_is)
  (case w1cB=>first | k_is | kernel_rfl)
  (case w2cB=>first | k_is | kernel_rfl)
  (case w3cB=>first | k_is | kernel_rfl)
  (case z0=>k_is)
  (case z1=>k_is)
  (case z2=>k_is)
  (case z3=>k_is)
  (case z4=>k_is)
  (case z5=>k_is)
  (case z6=>k_is)
  (case z7=>k_is)
  (case z8=>k_is)
  (case z9=>k_is)
  (case z10=>k_is)
  (case z11=>k_is)
